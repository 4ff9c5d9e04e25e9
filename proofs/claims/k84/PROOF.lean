import PyProof.Rows.All
import Wide.All
import OpenK.AllK
import Wide.FinOn
import Lean
import PyProof.EqAt
import PyProof.EqKinds
import PyProof.TupleCall
import PySem.Challenge.RW_mustmeet_k84_whole_wound_nets
set_option maxHeartbeats 4000000
set_option Elab.async false
set_option linter.all false
set_option maxRecDepth 100000
set_option hygiene false
open PySem.W renaming Frag→c7
abbrev c0:=List Nat
local macro_rules|`(term|($x :))=>`(($x).length)
local macro_rules|`(term|())=>`(by lia)
local macro_rules|`(term|$a|||$b)=>`(List.getD $a $b [])
local macro_rules|`(term|∅)=>`(by decide)
local macro_rules|`(term|⋯)=>`(by decide +kernel)
local macro_rules|`(tactic|walk_at"a")=>`(tactic|intro X hP hw hK hc i pins s σ H E I hf st hg)
local macro_rules|`(tactic|walk_at"b")=>`(tactic|intro pins s σ H x y v u Q I rx ry h)
local macro_rules|`(tactic|walk_at"c")=>`(tactic|have s0:∀(w:c0) (i:Int),sq w i 0=rd w i:=λw i=>by unfold sq;rw[show i+0=i by lia])
local macro_rules|`(tactic|walk_at"d")=>`(tactic|refine ⟨λi m σ H=>m=(xs:) - i/\i<=(xs:)/\Pv i σ H,⟨(xs:),by simp,Qax _,h0⟩,?_⟩)
local macro_rules|`(tactic|walk_at"e")=>`(tactic|intro pins s σ H xs us Q I r h)
local macro_rules|`(tactic|walk_at"f")=>`(tactic|obtain ⟨f0,f1,f2,f3,f4,f5⟩:=hf it (by simp))
local macro_rules|`(tactic|walk_at"g")=>`(tactic|obtain ⟨t,rfl⟩:=rx)
local macro_rules|`(tactic|walk_at"h")=>`(tactic|intro pins s σ H Q I h)
local macro_rules|`(tactic|walk_at"i")=>`(tactic|have b0:∀(w:c0) (i:Int),bq w i 0=az (rd w i):=λw i=>by unfold bq;rw[show i - 0=i by lia])
local macro_rules|`(tactic|walk_at"j")=>`(tactic|refine cw (λz=>?_) (λz=>?_))
local macro_rules|`(tactic|walk_at"k")=>`(tactic|refine wpAny_bind (wpAny_callSpecial?_slot (name:=Str.ofString "__next__") hi.typeIs F.slot_tuple_iterator_next (wpAny_call_entry F.slot_tuple_iterator_next hi.typeIs F.entry_tuple_iterator_next ?_ (F.args_tuple_iterator_next_1 _))))
local macro_rules|`(tactic|walk_at"l")=>`(tactic|refine Call_ (iA I hg hm boot_enumerate (Qcc (cA (ha pos pins s σ H _ I h) λus s1 ⟨vs,H1,I1,r1,q1⟩=>?_) hs rfl)))
local macro_rules|`(tactic|walk_at"m")=>`(tactic|have bo:=cU (P:=P) (w:=w) (base:=base) T)
local macro_rules|`(tactic|walk_at"n")=>`(tactic|have Tb:∀y∈scope.names,y.2= .free->∃c,X.env.cells.lookup y.1=some c:=λy hy e=>I.ok.has y.1 (Ml y hy e))
local macro_rules|`(tactic|walk_at"o")=>`(tactic|have W:=WalksT.enumerateD D e DQ (by simp;exact ⟨DQ,Ne.symm Wb⟩) (by simp))
local macro_rules|`(tactic|walk_at"p")=>`(tactic|intro pins s σ H x xs v us Q I rx rv h)
local macro_rules|`(tactic|walk_at"q")=>`(tactic|exact aE (λ_=>wpS_pure ⟨rfl,qH,FZ,b5,l5⟩) (λ_=>wpS_bind (Cy L C qH b5 () λst6 WN WO b6 l6 _=>aE (λz=>by cases z) (λz=>wpS_pure ⟨rfl,WO,WN,b6,l6.trans l5⟩))))
local macro_rules|`(tactic|walk_at"r")=>`(tactic|refine wpS_bind (wpS_lift (wpAny_rule ⟨rfl,?_⟩)))
local macro_rules|`(tactic|walk_at"s")=>`(tactic|exact λp2 n2=>q p2 _ (aq.free (aq.upd n1) n2) ⟨_,_,ag⟩ ((aq.upd n1).trans (aq.upd n2)))
local macro_rules|`(tactic|walk_at"t")=>`(tactic|refine wpS_bind (wpS_get ?_))
local macro_rules|`(tactic|walk_at"u")=>`(tactic|intro pins s σ H D I h)
local macro_rules|`(tactic|walk_at"v")=>`(tactic|obtain ⟨z,aJ,n,r,hl,e⟩:=I.x8 hH)
local macro_rules|`(tactic|walk_at"x")=>`(tactic|have nI:∀{x:Str} {c:Addr},(jX X.env scope.names []).lookup x=some c->X.env.cells.lookup x=some c:=λ{x c} e=>pE scope.names [] (λy d q=>by simp at q) e)
local macro_rules|`(tactic|walk_at"y")=>`(tactic|have e1:=h.O6 (a:=(az (f (-1)),a)) (b:=(az (g (-1)),a')) (c:=(f 0,b)) (by simp) (by simp) (by simp) (by show az _=az _;rw[z1]) (bj ya (hf.cn 0) (Ne.symm r1)))
local macro_rules|`(tactic|walk_at"z")=>`(tactic|intro pins s σ H x vs v us Q I rx rv h)
local macro_rules|`(tactic|walk_at"A")=>`(tactic|rw[show eX f v ((k,x)::r)=(if k=f then (k,v)::r else (k,x)::eX f v r) from rfl])
local macro_rules|`(tactic|walk_at"B")=>`(tactic|refine ⟨T,_,rfl,bY.of ag,rfl,_,_,rfl,_,_,rfl,rfl,?_⟩)
local macro_rules|`(tactic|walk_at"C")=>`(tactic|refine W.go elts k pos i T { s with heap:=h',toks:=tk } _ _ Aj λh2 Ak ve=>?_)
local macro_rules|`(tactic|walk_at"D")=>`(tactic|rw[show (0:Int)=bX (w:) (v:) (λ_ _=>0) by unfold bX;rw[show (λ_:Int=>sm (v:) λ_=>0)=λ_=>0 from funext λ_=>gp _,gp]])
local macro_rules|`(tactic|walk_at"E")=>`(tactic|refine ⟨D,_,rfl,.inl ⟨bC.of ag,λt nt=>?_⟩⟩)
local macro_rules|`(tactic|walk_at"F")=>`(tactic|have hle:lt (arr.toList[base+j]) (arr.toList[base+i])=false:=Cv L hs MK (by rw[Qa7 (),Qbm];exact Qy DZ) (by rw[Qa7 hj,Qbm];exact Qy Rc))
local macro_rules|`(tactic|walk_at"G")=>`(tactic|intro value slice pins s σ H x y v u Q I rx ry h hs)
local macro_rules|`(tactic|walk_at"H")=>`(tactic|exact I1.sG (Qad _) (I1.cq.fresh (Qad _)))
local macro_rules|`(tactic|walk_at"I")=>`(tactic|have e2:=h.same (a:=(az (f (-1)),a)) (b:=(g 0,b')) (c:=(f 0,b)) (by simp) (by simp) (by simp) z0.symm (bj ya (hf.cn 0) (Ne.symm r1)))
local macro_rules|`(tactic|walk_at"J")=>`(tactic|have gs:=lB (P:=P) (w:=w) (base:=base) T)
local macro_rules|`(tactic|walk_at"K")=>`(tactic|intro pins s σ H R I h)
local macro_rules|`(tactic|walk_at"L")=>`(tactic|refine Qfv kind_sorted plain_sorted entry_sorted (args_sorted1 _) ?_)
local macro_rules|`(tactic|walk_at"M")=>`(tactic|refine wpAny_bind (wpAny_pure ?_))
local macro_rules|`(tactic|walk_at"N")=>`(tactic|refine aE (λg=>?_) (λg=>?_))
local macro_rules|`(tactic|walk_at"O")=>`(tactic|obtain ⟨a,b,rfl,rfl,q⟩:=h)
local macro_rules|`(tactic|walk_at"P")=>`(tactic|show jX env r (if (k==NameKind.free)=true then (match env.cells.lookup n with | some a=>(n,a)::acc | none=>acc) else acc)=_)
local macro_rules|`(tactic|walk_at"Q")=>`(tactic|refine W.done s _ _ ?_ λh' tk hk=>⟨rfl,I.rK (t':=tk) hk hf⟩)
local macro_rules|`(tactic|walk_at"R")=>`(tactic|have I1:Inv X pins σ H { s with heap:=h',toks:=tk }:=I.turned (λb o hb e=>kk b o (by simpa using hb) e) f0 f1 f3 f4 f5)
local macro_rules|`(tactic|walk_at"S")=>`(tactic|refine cA (hl pins s σ H _ I h) λv s1 ⟨x,H1,I1,r1,q1⟩=>?_)
local macro_rules|`(tactic|walk_at"T")=>`(tactic|obtain ⟨t,rfl⟩:=r1)
local macro_rules|`(tactic|walk_at"U")=>`(tactic|have I1:Inv X pins σ H { s with heap:=h' }:=I.turned (t':=s.toks) (λb o hb e=>(sb.2 b hb).trans e) f0 f1 f3 f4 f5)
local macro_rules|`(tactic|walk_at"V")=>`(tactic|refine ⟨_,rfl,y,rfl,qJ hy.lt,(),λl' H1 hp hw s1=>?_⟩)
local macro_rules|`(tactic|walk_at"W")=>`(tactic|refine wpAny_bind (wpAny_rule ?_);refine wpAny_bind (m:=field (.ref z) 4) (wpAny_field hz rfl (x:= .ref TO) rfl ?_))
local macro_rules|`(tactic|walk_at"X")=>`(tactic|exact ⟨o,e,λv z=>by rw[d]at z;cases z⟩)
local macro_rules|`(tactic|walk_at"Y")=>`(tactic|obtain ⟨t',rfl⟩:=ry)
local macro_rules|`(tactic|walk_at"Z")=>`(tactic|refine ⟨_,_,rfl,rfl,?_⟩)
local macro_rules|`(56)=>`(⟨rfl,rfl,rfl,⋯,rfl,⋯,⋯⟩)|`(91)=>`(λ_ _ _ _ H vs Q E hr h=>?_)|`(92)=>`(ws|||c)|`(93)=>`(model X.prog X.w)|`(94)=>`(model prog w)|`(95)=>`(k==NameKind.free&&env.scope.kind== .function&&env.kindOf n==some .cell)|`(96)=>`((pre:))|`(123)=>`(⟨rfl,rfl,by first | exact .inl rfl | exact .inr rfl⟩)|`(124)=>`(pv 0)|`(125)=>`(Or.inl rfl)|`(126)=>`(Addr×Obj)|`(127)=>`(bR y os)|`(129)=>`(λ_ _=>rfl)|`(130)=>`(ac y (az (rd w (i - 1))) (rd w i) (az (rd v (j - 1))) (rd v j)=true)|`(131)=>`(ws|||d)|`(132)=>`(by simpa using z)|`(133)=>`(s.heap.objs.size+1)|`(134)=>`(b9 X scope C Nc s H fp)|`(135)=>`((∀σ' H',N σ' H'->∃m',m'<m/\W (i+1) m' σ' H'))|`(136)=>`(bz I q (by simp))|`(137)=>`(.ListComp elt [⟨tg,iter,ifs,0⟩] scope pos)|`(138)=>`(pv 1)|`(139)=>`(by simpa using e)
open List renaming getElem?_eq_getElem→Qy,getElem?_eq_some_iff→Qz,length_append→X4,length_map→Qaa,mem_singleton→Qab,append_assoc→Qac,mem_of_getElem?→Qae,length_pos_iff→Qaf,map_append→Qag,mem_cons_of_mem→Qah,length_take→Qai,idxOf_lt_length_of_mem→Qaj,mem_cons_self→Qak,getD_eq_getElem?_getD→Qam,mem_append→Qan,size_toArray→Qao,mem_cons→Qaq,take_of_length_le→Qar,map_cons→Qas,getElem?_map→Qat,not_mem_nil→Qav,take_append_drop→Qaw,length_drop→Qaz,length_reverse→Qa0,getElem?_append_right→Qa2,mem_append_right→Qa3,mem_map→Qa4,getElem?_take_of_lt→Qa7,length_cons→Qa9,pairwise_append→Qbb,getElem?_append_left→Qbg,append_nil→Qbh,take_length→Qbi,map_map→Qbj,filter_cons_of_neg→Qbk,map_congr_left→Qbl,getElem?_drop→Qbm,mem_flatMap→Qbo,flatMap_cons→Qbp,mem_filter→Qbr,sum_cons→Qbs,drop_of_length_le→Qbu,nodup_cons→Qbv,getElem_mem→Qb0,filter_cons_of_pos→Qb1,getElem_idxOf→Qb3,mem_of_mem_take→Qb4,lookup_cons→Qb5,drop_eq_getElem_cons→Qb8,mem_reverse→Qb9,mem_of_mem_drop→Qca,flatMap_append→Qce,pairwise_singleton→Qcg,length_eq_zero_iff→Qch,take_append_of_le_length→Qci,mem_append_left→Qcj,pairwise_iff_getElem→Qck,filter_append→Qcl,pairwise_map→Qco,mem_range→Qcp,range_succ→Qcq,perm_append_comm→Qcw,getElem?_eq_none→Qcx,drop_zero→Qcy,getElem_map→Qc3,flatten_cons→Qc7,getElem?_of_mem→Qdb,eq_nil_of_length_eq_zero→Qdc,nodup_append→Qdd,getElem_of_mem→Qde,pairwise_cons→Qdi,foldl_cons→Qdl,find?_cons→Qdm,length_range→Qdp,ext_getElem?→Qdq,reverse_append→Qdr,nil_append→Qdx,forIn_cons→Qdy,getElem?_reverse→Qd0,lt_irrefl→Qd1,dropLast_concat→Qd2,map_reverse→Qd6,flatten_append→Qd9,sum_append→Qea,eraseIdx_cons_succ→Qec,take_succ_eq_append_getElem→Qef,flatMap_singleton→Qeg,drop_eq_nil_of_le→Qeh,length_filter_le→Qel,cons_append→Qen,any_cons→Qeq,reverse_reverse→Qer,drop_append_of_le_length→Qes,getElem?_range→Qey,map_nil→Qe0,perm_append_singleton→Qe3,getElem?_take→Qe4,rel_of_pairwise_cons→Qe7,reverse_perm→Qe8,map_id→Qe9,flatten_nil→Qfk,filter_cons→Qfl,head?_eq_getElem?→Qft,length_nil→Qfz,cons_lt_cons_iff→Qf1,not_lt→Qf3,nodup_nil→Qf4,length_dropLast→Qf5,drop_left→Qf6,filterMap_cons→Qf7,map_take→Qga,take_sublist→Qgf,take_add_one→Qgg,reverse_cons→Qgh,filter_congr→Qgi,any_eq_false→Qgj,zipIdx_cons→Qgq,nodup_range→Qgr,flatMap_nil→Qgs,drop_append→Qgt,all_eq_true→Qgu,of_mem_zip→Qgz,filter_map→Qg0
open PySem.Heap renaming get?_push_of_some→Ta,get?_push_size→Qau,lt_size→Qay,get?_update_other→Qby,size_push→Qcu,get?_update_self→Qc1
open Nat renaming le_refl→Qad,zero_le→Qax,ne_of_lt→Qa6,lt_of_lt_of_le→Qbd,le_trans→Qbn,add_sub_cancel_left→Qbq,lt_of_le_of_lt→Qbt,lt_irrefl→Qbw,le_of_lt→Qbz,min_eq_left→Qb6,min_eq_right→Qcr,lt_succ_self→Qcs,lt_succ_of_lt→Qcv,zero_add→Qc6,mul_comm→Qdf,succ_le_succ→Qdg,lt_or_gt_of_ne→Qdh,le_antisymm→Qdk,sub_zero→Qdn,le_succ→Qdo,mod_eq_of_lt→Qds,sub_self→Qdt,add_zero→Qdu,max_eq_left→Qdw,ne_of_gt→Qd3,max_eq_right→Qd4,lt_trans→Qd5,mod_lt→Qeb,eq_zero_of_not_pos→Qed,dvd_of_mod_eq_zero→Qee,succ_ne_zero→Qem,add_assoc→Qep,div_add_mod→Qev,lt_asymm→Qez,succ_ne_self→Qfj,not_lt_zero→Qfx,mod_add_div→Qfy,div_lt_iff_lt_mul→Qf0,le_of_dvd→Qf9,succ_mul→Qge
open Option.some renaming inj→Qal
open Int renaming toNat_natCast→Qap,emod_eq_of_lt→Qbf,natCast_add→Qcf,emod_lt_of_pos→Qcz,emod_nonneg→Qc8,add_emod_right→Qdj,zero_add→Qdv,emod_eq_emod_iff_emod_sub_eq_zero→Qd7,add_zero→Qei,mul_add→Qet,emod_emod_of_dvd→Qeu,sub_zero→Qe1,add_mul_emod_self_left→Qe6,one_mul→Qfa,neg_mul→Qfb,add_mul→Qfc,mul_assoc→Qfh,add_assoc→Qfi,natCast_ediv→Qfm,dvd_of_emod_eq_zero→Qfn,emod_add_mul_ediv→Qf2,natCast_nonneg→Qgd,sub_emod→Qgl,mul_comm→Qgm,emod_add_emod→Qgn,dvd_refl→Qgo,natCast_emod→Qgv,mul_neg→Qgx
open Array renaming toList_append→Qa1,length_toList→Qa8,getElem?_toList→Qbc,perm_iff_toList_perm→Qbx,toList_push→Qcb,toList_reverse→Qc4,toList_inj→Qeo
open PySem.F renaming plainAttrs_str→Qa5,plainAttrs_list→Qbe,type_list_append→Qcm,slot_list_append→Qcn,plain_max_loop→Qc5,type_str_join→Qc9,slot_str_join→Qda,type_list_pop→Qej,slot_list_pop→Qek,type_str_islower→Qfe,slot_str_islower→Qff,type_str_lower→Qfo,type_str_index→Qfp,slot_str_lower→Qfq,slot_str_index→Qfr,entry_max_loop→Qfs
open Bool renaming false_ne_true→Qba,and_eq_true→Qct,false_eq_true→Qc0,eq_iff_iff→Qew,decide_and→Qex,eq_false_iff→Qfd,not_true→Qgb,false_or→Qgc
open PySem.W renaming mg_none_of→Qb2,callWith_K→Qe2,mg_of→Qf8,kat_cons→Qgp,kat_yes→Qgy
open PySem renaming boot_len→Qb7,mem_of_lookup→Qd8
open PyProof.Rows renaming callWith_type1→Qcc,cnt_nil→Qc2,cnt_cons→Qdz
open List.Perm renaming append_left→Qcd,refl→Qe5,append_right→Qfu
open List.Pairwise renaming imp_of_mem→Qfg,imp→Qgk
open PySem.Calls renaming call_function_entry→Qfv
open Option renaming map_some→Qfw
open PySem.Heap.SameBut renaming update→Qgw
open Array.Perm renaming refl→Qg1
namespace L2
open PySem PySem.Spec PyProof.Rows
abbrev Key:=Sum Int Str
noncomputable def we:Key->Value->Bool
 | .inl k,v=>Value.isInt k v
 | .inr x,v=>Value.isStrOf x v
noncomputable def YT(w:World):Key->Int
 | .inl k=>hashInt k
 | .inr x=>hashStr w x
theorem cC:∀{k:Key} {v:Value},we k v=true->(∃i t,k=Sum.inl i/\v=Value.int i t)\/(∃x t,k=Sum.inr x/\v=Value.str x t)
 | .inl i,v,h=>by
  obtain ⟨t,e⟩:=Value.isInt_shape (k:=i) (v:=v) h
  exact .inl ⟨i,t,rfl,e⟩
 | .inr x,v,h=>by
  obtain ⟨t,e⟩:=Value.isStrOf_shape (x:=x) (v:=v) h
  exact .inr ⟨x,t,rfl,e⟩
theorem Fc(i:Int)(t:Tok):we (.inl i) (.int i t)=true:=by simp[we,Value.isInt]
theorem Fd(x:Str)(t:Tok):we (.inr x) (.str x t)=true:=by simp[we,Value.isStrOf]
theorem PL(a b:Int):decide ((Sum.inl a:Key)=Sum.inl b)=(a==b):=by
 by_cases e:a=b
 ·subst e;simp
 ·have h: ¬(Sum.inl a:Key)=Sum.inl b:=λq=>e (Sum.inl.inj q)
  rw[decide_eq_false h]
  exact (beq_eq_false_iff_ne.mpr e).symm
theorem PM(a b:Str):decide ((Sum.inr a:Key)=Sum.inr b)=decide (a=b):=by
 by_cases e:a=b
 ·subst e;simp
 ·have h: ¬(Sum.inr a:Key)=Sum.inr b:=λq=>e (Sum.inr.inj q)
  rw[decide_eq_false h,decide_eq_false e]
theorem PN(a:Int)(b:Str):decide ((Sum.inl a:Key)=Sum.inr b)=false:=decide_eq_false (λq=>nomatch q)
theorem PQ(a:Str)(b:Int):decide ((Sum.inr a:Key)=Sum.inl b)=false:=decide_eq_false (λq=>nomatch q)
noncomputable def cV(prog:Program)(w:World):PySem.KeyKind prog w Key where
 is:=we
 hash:=YT w
 inj:=λv a b ha hb=>by
  rcases cC ha with ⟨i,t,rfl,rfl⟩ | ⟨x,t,rfl,rfl⟩
  ·rcases cC hb with ⟨j,u,rfl,e⟩ | ⟨y,u,rfl,e⟩
   ·injection e with e1 _;rw[e1]
   ·exact nomatch e
  ·rcases cC hb with ⟨j,u,rfl,e⟩ | ⟨y,u,rfl,e⟩
   ·exact nomatch e
   ·injection e with e1 _;rw[e1]
 byValue:=λk v h=>by
  rcases cC h with ⟨i,t,rfl,rfl⟩ | ⟨x,t,rfl,rfl⟩<;>rfl
 pyHash:=λhv h=>by
  rcases cC hv with ⟨i,t,rfl,rfl⟩ | ⟨x,t,rfl,rfl⟩
  ·exact wpAny_pyHash_int h
  ·exact wpAny_pyHash_str h
 eqBool:=λhu hv h=>by
  rcases cC hu with ⟨i,t,rfl,rfl⟩ | ⟨x,t,rfl,rfl⟩
  ·rcases cC hv with ⟨j,u,rfl,rfl⟩ | ⟨y,u,rfl,rfl⟩
   ·rw[PL]at h;exact wpAny_eqBool_int h
   ·rw[PN]at h;exact SeqAt.EqAt.int_str i t y u _ _ _ _ h
  ·rcases cC hv with ⟨j,u,rfl,rfl⟩ | ⟨y,u,rfl,rfl⟩
   ·rw[PQ]at h;exact SeqAt.EqAt.str_int x t j u _ _ _ _ h
   ·rw[PM]at h;exact wpAny_eqBool_str h
 «strs» :=λk x t v h=>by
  rcases cC h with ⟨i,u,rfl,e⟩ | ⟨y,u,rfl,e⟩
  ·exact nomatch e
  ·injection e with e1 _
   subst e1
   cases v<;>rfl
theorem zM(prog:Program)(w:World)(i:Int)(t:Tok):(cV prog w).is (.inl i) (.int i t)=true:=Fc i t
theorem zN(prog:Program)(w:World)(x:Str)(t:Tok):(cV prog w).is (.inr x) (.str x t)=true:=Fd x t
inductive V where
 | g7 | bl (b:Bool) | int (i:Int) | str (x:Str) | Dw (b:Array UInt8) | XS (b:UInt64) | ref (a:Addr) | ty (n:String)
 deriving DecidableEq
def RelV:V->Value->Prop
 | .g7,u=>u=Value.none
 | .bl b,u=>u=Value.bool b
 | .int i,u=>∃t,u=Value.int i t
 | .str x,u=>∃t,u=Value.str x t
 | .Dw b,u=>∃t,u=Value.bytes b t
 | .XS b,u=>∃t,u=Value.float b t
 | .ref a,u=>u=Value.ref a
 | .ty n,u=>u=Value.type n
abbrev Vals:List V->List Value->Prop:=Paired RelV
variable{xs:List V}{us:List Value}
theorem Vals.length(r:Vals xs us):(xs:)=(us:):=Paired.length r
theorem Vals.get:∀{xs:List V} {us:List Value} {i:Nat} {x:V},Vals xs us->xs[i]? =some x->∃u,us[i]? =some u/\RelV x u
 | _,_,_,_,.nil,e=>by simp at e
 | _,_,0,_,.cons r _,e=>by simp at e;subst e;exact ⟨_,rfl,r⟩
 | _,_,i+1,x,.cons _ t,e=>by
  obtain ⟨u,h1,h2⟩:=Vals.get (i:=i) (x:=x) t 139
  exact ⟨u,by simpa using h1,h2⟩
variable{u:Value}
theorem Vals.set{x:V}(r:RelV x u):∀{xs:List V} {us:List Value} (i:Nat),Vals xs us->Vals (xs.set i x) (us.set i u)
 | _,_,_,.nil=> .nil
 | _,_,0,.cons _ t=> .cons r t
 | _,_,i+1,.cons q t=> .cons q (Vals.set r i t)
theorem Vals.append:∀{xs ys:List V} {us ws:List Value},Vals xs us->Vals ys ws->Vals (xs++ys) (us++ws)
 | _,_,_,_,.nil,s=>s
 | _,_,_,_,.cons r t,s=> .cons r (Vals.append t s)
theorem Vals.take:∀{xs:List V} {us:List Value} (n:Nat),Vals xs us->Vals (xs.take n) (us.take n)
 | _,_,0,_=> .nil
 | _,_,_+1,.nil=> .nil
 | _,_,n+1,.cons r t=> .cons r (Vals.take n t)
theorem Vals.drop:∀{xs:List V} {us:List Value} (n:Nat),Vals xs us->Vals (xs.drop n) (us.drop n)
 | _,_,0,r=>r
 | _,_,_+1,.nil=> .nil
 | _,_,n+1,.cons _ t=>Vals.drop n t
def o_:Option V->Option Value->Prop
 | some v,some u=>RelV v u
 | none,none=>True
 | _,_=>False
def KV{κ:Type}:List (κ×V)->List (κ×Value)->Prop:=Paired λ(p:κ×V) (q:κ×Value)=>p.1=q.1/\RelV p.2 q.2
noncomputable def kV:Key->V
 | .inl i=> .int i
 | .inr x=> .str x
inductive HO where
  | lst (xs:List V)
  | tup (xs:List V)
  | dK (aN:List (Key×V)) | dT (aN:List (List Key×V))
  | set (S:Int->Bool) (n:Nat)
  | ins (C dx:Addr) (fs:List (Str×V))
  | own (x:Addr)
  | xd (fs:List (Str×V))
  | met (f x:Addr)
  | YU (lo hi:Int)
  | Lr (o:Obj) (u:HO)
  | PR (ps:Array Value)
  | ext (φ:Heap->Prop)
abbrev Hp:=Addr->Option HO
noncomputable def upd(H:Hp)(a:Addr)(o:HO):Hp:=λb=>if b=a then some o else H b
variable{H:Hp}{a:Addr}{o:HO}
theorem ag:upd H a o a=some o:=by unfold upd;rw[if_pos rfl]
variable{b:Addr}
theorem aA(h:b≠a):upd H a o b=H b:=by unfold upd;rw[if_neg h]
theorem Vb{u:HO}(h:H a=some o)(h':H b=some u)(d:o≠u):a≠b:=by
 intro e;subst e;rw[h]at h';exact d (Qal h')
theorem au(h:H a=some o)(h':H b=none):a≠b:=by
 intro e;subst e;rw[h]at h';cases h'
section
variable(P:Program)(w:World)
def du(H:Hp)(h:Heap)(a:Addr):HO->Prop
 | .lst xs=>(xs:)<=sizeLine/\∃(aJ:List Value) (n:Nat),Vals xs aJ/\h.get? a=some { cls:= .type "list",data:= .seq aJ.toArray n }
 | .tup xs=>(xs:)<=sizeLine/\∃aJ:List Value,Vals xs aJ/\IsTup h a aJ.toArray
 | .dK aN=>(aN:)<=sizeLine/\(a==sysModules)=false/\∃vs,KV aN vs/\h.DictOf (cV P w) a vs
 | .dT aN=>(aN:)<=sizeLine/\(a==sysModules)=false/\∃xs:List (List Key×Addr×Value),
   Paired (λ(p:List Key×V) (q:List Key×Addr×Value)=>p.1=q.1/\H q.2.1=some (.tup (p.1.map kV))/\RelV p.2 q.2.2) aN xs/\
   ∃o es ep,h.get? a=some o/\o.ExactDict/\o.data= .dict es ep/\es.toList=xs.map (entryOfKey (tupleKind (cV P w)))/\(xs.map (·.1)).Nodup
 | .set S n=>h.SetOf (intKind P w) a S n
 | .ins C dx fs=>H dx=some (.own a)/\(fs:)<=1000/\dx≠a/\h.get? a=some (PySem.W.instObj C dx)/\
   ∃mA,h.Ns1 dx mA/\(∀f,o_ (fs.lookup f) (mA f))/\PySem.Within mA (fs.map (·.1))
 | .own _=>∃o,h.get? a=some o
 | .xd fs=>∃mA,h.Ns1 a mA/\∀f,o_ (fs.lookup f) (mA f)
 | .YU lo hi=>∃t u v,h.get? a=some { cls:= .type "range",data:= .fields #[.int lo t,.int hi u,.int 1 v] }
 | .Lr o u=>h.get? a=some o/\du H h a u
 | .PR ps=>h.get? a=some { cls:= .none,data:= .fields ps }
 | .met f x=>h.get? a=some (PySem.W.methodObj (.ref f) (.ref x))
 | .ext φ=>φ h/\(∃o,h.get? a=some o)/\∀h1 h2:Heap,φ h1->(∀o,h1.get? a=some o->h2.get? a=some o)->φ h2
def mY(H:Hp)(h:Heap):Prop:=∀a o,H a=some o->du P w H h a o
end
section
variable{P:Program}{w:World}{H H':Hp}{h h':Heap}{a:Addr}{o:HO}
theorem du.lt(x:du P w H h a o):a<h.objs.size:=by
 cases o with
 | lst xs=>obtain ⟨_,_,_,_,e⟩:=x;exact Qay e
 | tup xs=>obtain ⟨_,_,_,p⟩:=x;exact p.lt
 | dK aN=>obtain ⟨_,_,_,_,o,_,_,e,_⟩:=x;exact Qay e
 | dT aN=>obtain ⟨_,_,_,_,o,_,_,e,_⟩:=x;exact Qay e
 | set S n=>obtain ⟨o,_,_,_,e,_⟩:=x;exact Qay e
 | ins C dx fs=>obtain ⟨_,_,_,e,_⟩:=x;exact Qay e
 | own y=>obtain ⟨_,e⟩:=x;exact Qay e
 | xd fs=>obtain ⟨_,⟨_,_,_,e,_⟩,_⟩:=x;exact Qay e
 | YU lo hi=>obtain ⟨_,_,_,e⟩:=x;exact Qay e
 | Lr ob u=>obtain ⟨e,_⟩:=x;exact Qay e
 | PR ps=>exact Qay (show h.get? a=some _ from x)
 | met f y=>exact Qay (show h.get? a=some _ from x)
 | ext φ=>obtain ⟨_,⟨_,e⟩,_⟩:=x;exact Qay e
theorem Paired.PU{α β:Type}{F G:α->β->Prop}:∀{l₁:List α} {l₂:List β},Paired F l₁ l₂->(∀a b,F a b->G a b)->Paired G l₁ l₂
 | _,_,.nil,_=> .nil
 | _,_,.cons r t,f=> .cons (f _ _ r) (Paired.PU t f)
theorem du.zO(x:du P w H h a o)(k:∀b u,(b=a\/H b=some (.own a))->h.get? b=some u->h'.get? b=some u)
  (ho:∀b,H b=some (.own a)->H' b=some (.own a)) (ht:∀b xs,H b=some (.tup xs)->H' b=some (.tup xs)):du P w H' h' a o:=by
 induction o with
 | lst xs=>obtain ⟨z,aJ,n,r,e⟩:=x;exact ⟨z,aJ,n,r,k _ _ (.inl rfl) e⟩
 | tup xs=>obtain ⟨z,aJ,r,ob,e,c⟩:=x;exact ⟨z,aJ,r,ob,k _ _ (.inl rfl) e,c⟩
 | dK aN=>obtain ⟨z,y,vs,r,ob,es,ep,e,c⟩:=x;exact ⟨z,y,vs,r,ob,es,ep,k _ _ (.inl rfl) e,c⟩
 | dT aN=>
  obtain ⟨z,y,xs,r,ob,es,ep,e,c⟩:=x
  exact ⟨z,y,xs,Paired.PU r λp q z=>⟨z.1,ht _ _ z.2.1,z.2.2⟩,ob,es,ep,k _ _ (.inl rfl) e,c⟩
 | set S n=>obtain ⟨ob,es,ep,t,e,c⟩:=x;exact ⟨ob,es,ep,t,k _ _ (.inl rfl) e,c⟩
 | ins C dx fs=>
  obtain ⟨d,z,ne,e,mA,⟨od,es,ep,e2,c⟩,r⟩:=x
  exact ⟨ho _ d,z,ne,k _ _ (.inl rfl) e,mA,⟨od,es,ep,k _ _ (.inr d) e2,c⟩,r⟩
 | own y=>obtain ⟨ob,e⟩:=x;exact ⟨ob,k _ _ (.inl rfl) e⟩
 | xd fs=>obtain ⟨mA,⟨od,es,ep,e,c⟩,r⟩:=x;exact ⟨mA,⟨od,es,ep,k _ _ (.inl rfl) e,c⟩,r⟩
 | YU lo hi=>obtain ⟨t,u,v,e⟩:=x;exact ⟨t,u,v,k _ _ (.inl rfl) e⟩
 | Lr ob u ih=>obtain ⟨e,q⟩:=x;exact ⟨k _ _ (.inl rfl) e,ih q⟩
 | PR ps=>
  have e:h.get? a=some { cls:= .none,data:= .fields ps }:=x
  show h'.get? a=some { cls:= .none,data:= .fields ps }
  exact k a _ (.inl rfl) e
 | met f y=>
  have e:h.get? a=some (PySem.W.methodObj (.ref f) (.ref y)):=x
  show h'.get? a=some (PySem.W.methodObj (.ref f) (.ref y))
  exact k a _ (.inl rfl) e
 | ext φ=>obtain ⟨p,⟨o,e⟩,st⟩:=x;exact ⟨st _ _ p λo q=>k _ _ (.inl rfl) q,⟨o,k _ _ (.inl rfl) e⟩,st⟩
theorem mY.lt(x:mY P w H h)(e:H a=some o):a<h.objs.size:=(x a o e).lt
theorem mY.fresh(x:mY P w H h)(e:h.objs.size<=a):H a=none:=by
 cases q:H a with
 | none=>rfl
 | some u=>exact absurd (Qbd (x.lt q) e) (Qbw _)
theorem mY.kept(x:mY P w H h)(k:∀b u,h.get? b=some u->h'.get? b=some u):mY P w H h':=λa o e=>
 (x a o e).zO (λb u _ q=>k b u q) (λ_ q=>q) λ_ _ q=>q
theorem mY.laid(x:mY P w H h)(k:∀b u,h.get? b=some u->h'.get? b=some u)(hp:h.objs.size<=a)(new:du P w (upd H a o) h' a o):mY P w (upd H a o) h':=λb u e=>by
 have hn:=x.fresh hp
 by_cases hb:b=a
 ·subst hb;rw[ag]at e;cases e;exact new
 ·rw[aA hb]at e
  exact (x b u e).zO (λc v _ q=>k c v q) (λc q=>by rw[aA (au q hn)];exact q) λc xs q=>by rw[aA (au q hn)];exact q
end
def Rd(H:Hp)(a:Addr)(u:HO):Prop:=H a=some u\/∃o,H a=some (.Lr o u)
variable{h:Heap}
theorem Rd.ok{P:Program}{w:World}{u:HO}(r:Rd H a u)(x:mY P w H h):du P w H h a u:=by
 rcases r with r | ⟨o,r⟩
 ·exact x a u r
 ·obtain ⟨_,q⟩:=x a _ r
  exact q
def Vc:Option HO->Prop
 | some (.lst _)=>True
 | some (.dK _)=>True
 | some (.dT _)=>True
 | some (.set _ _)=>True
 | some (.ins _ _ _)=>True
 | some (.ext _)=>True
 | _=>False
section
variable{P:Program}{w:World}{H:Hp}{h h':Heap}{x e:Addr}{o':HO}
theorem mY.write(ok:mY P w H h)(mu:Vc (H x))(he:e=x\/H e=some (.own x))(k:∀b u,b≠e->h.get? b=some u->h'.get? b=some u)(Oy:∃u,h'.get? e=some u)
  (new:du P w (upd H x o') h' x o'):mY P w (upd H x o') h':=λb u q=>by
 have Vd:∀c y,H c=some (.own y)->c≠x:=λc y r z=>by subst z;rw[r]at mu;exact mu
 have YV:∀c xs,H c=some (.tup xs)->c≠x:=λc xs r z=>by subst z;rw[r]at mu;exact mu
 by_cases hb:b=x
 ·subst hb;rw[ag]at q;cases q;exact new
 ·rw[aA hb]at q
  by_cases Ls:b=e
  ·have q':H b=some (.own x):=by
    rcases he with z | z
    ·exact absurd (Ls.trans z) hb
    ·rw[Ls];exact z
   rw[q]at q';cases q'
   obtain ⟨v,hv⟩:=Oy
   exact ⟨v,by rw[Ls];exact hv⟩
  ·refine (ok b u q).zO (λc v hc r=>k c v ?_ r) (λc r=>by rw[aA (Vd c b r)];exact r) λc xs r=>by rw[aA (YV c xs r)];exact r
   rcases hc with rfl | hc
   ·exact Ls
   ·rintro rfl
    rcases he with z | z
    ·exact Vd c b hc z
    ·rw[hc]at z;cases z;exact hb rfl
end
structure Un(fs ex:List Addr)(H H':Hp)(h h':Heap):Prop where
 keep:∀b o,h.get? b=some o->H b=none->b∉fs->b∉ex->h'.get? b=some o
 slot:∀b o,h.get? b=some o->H b=none->b∈fs->b∉ex->∃sl,h'.get? b=some { o with slots:=sl }
 free:∀b o,h.get? b=some o->H b=none->b∉ex->H' b=none
 there:∀b o,h.get? b=some o->b∉ex->∃o',h'.get? b=some o'
 vh:∀b xs,H b=some (.tup xs)->H' b=some (.tup xs)
 so:∀b o u,H b=some (.Lr o u)->H' b=some (.Lr o u)
 xU:∀b ps,H b=some (.PR ps)->∃more,H' b=some (.PR (ps++more))
section
variable{fs fs' ex ex':List Addr}{H H1 H2:Hp}{h h1 h2 h':Heap}{a x e:Addr}{o:HO}
theorem Un.any(u:Un fs ex H H1 h h1){ob:Obj}(q:h.get? b=some ob)(n:H b=none)(hx:b∉ex):∃sl,h1.get? b=some { ob with slots:=sl }:=by
 by_cases hb:b∈fs
 ·exact u.slot b ob q n hb hx
 ·exact ⟨ob.slots,u.keep b ob q n hb hx⟩
theorem Un.kept(k:∀b u,h.get? b=some u->h'.get? b=some u):Un fs ex H H h h':=
 ⟨λb ob q _ _ _=>k b ob q,λb ob q _ _ _=>⟨ob.slots,k b ob q⟩,λ_ _ _ n _=>n,λb ob q _=>⟨ob,k b ob q⟩,λ_ _ q=>q,λ_ _ _ q=>q,λ_ ps q=>⟨#[],by rw[q];simp⟩⟩
theorem Un.refl:Un fs ex H H h h:=Un.kept λ_ _ q=>q
theorem Un.laid(k:∀b u,h.get? b=some u->h'.get? b=some u)(hp:h.objs.size<=a)(hn:H a=none):Un fs ex H (upd H a o) h h' where
 keep:=λb u q _ _ _=>k b u q
 slot:=λb u q _ _ _=>⟨u.slots,k b u q⟩
 free:=λb u q n _=>by rw[aA (Qa6 (Qbd (Qay q) hp))];exact n
 there:=λb u q _=>⟨u,k b u q⟩
 vh:=λb xs q=>by rw[aA (au q hn)];exact q
 so:=λb u xs q=>by rw[aA (au q hn)];exact q
 xU:=λb ps q=>⟨#[],by rw[aA (au q hn),q];simp⟩
theorem Un.write(mu:Vc (H x))(he:e=x\/H e=some (.own x))(k:∀b u,b≠e->h.get? b=some u->h'.get? b=some u)(Oy:∃u,h'.get? e=some u):Un fs ex H (upd H x o) h h':=by
 have hx:∀b,H b=none->b≠x:=λb n z=>by subst z;rw[n]at mu;exact mu
 have hb:∀b,H b=none->b≠e:=λb n z=>by
  subst z
  rcases he with r | r
  ·exact hx b n r
  ·rw[n]at r;cases r
 have hm:∀b u,H b=some u-> ¬Vc (some u)->b≠x:=λb u q nm z=>by subst z;rw[q]at mu;exact nm mu
 refine ⟨λb u q n _ _=>k b u (hb b n) q,λb u q n _ _=>⟨u.slots,k b u (hb b n) q⟩,λb u q n _=>by rw[aA (hx b n)];exact n,λb u q _=>?_,
  λb xs q=>by rw[aA (hm b _ q λz=>z)];exact q,λb u xs q=>by rw[aA (hm b _ q λz=>z)];exact q,λb ps q=>⟨#[],by rw[aA (hm b _ q λz=>z),q];simp⟩⟩
 by_cases Ls:b=e
 ·subst Ls;exact Oy
 ·exact ⟨u,k b u Ls q⟩
end
noncomputable def XT(h:Heap)(H:Hp):List Addr:=(List.range h.objs.size).filter λa=>(H a).isSome
noncomputable def xV(h:Heap)(H:Hp):Heap:=PySem.W.hideAll h (XT h H)
theorem Fe(h:Heap)(H:Hp):(xV h H).objs.size=h.objs.size:=PySem.W.hideAll_size _ _
theorem Hm{o:Obj}(e:h.get? b=some o)(n:H b=none):(xV h H).get? b=some o:=
 PySem.W.hideAll_get _ e λhm=>by
  have q:(H b).isSome=true:=(Qbr.mp hm).2
  rw[n]at q;simp at q
theorem LX{o:Obj}(e:(xV h H).get? b=some o):h.get? b=some o/\H b=none:=by
 have e':h.get? b=some o:=PySem.W.of_hideAll (XT h H) e
 refine ⟨e',?_⟩
 cases q:H b with
 | none=>rfl
 | some x=>
  have hm:b∈XT h H:=Qbr.mpr ⟨Qcp.mpr (Qay e'),by simp[q]⟩
  have z:(xV h H).get? b=none:=PySem.W.hideAll_none (XT h H) hm
  rw[z]at e;cases e
structure Mod(K:c7)(mg:Str->Option Value)(base:Heap):Prop where
 S8:K.In base
 glob:base.Ns mainGlobals mg
 blt:∃mb,base.Ns builtinsNs mb/\∀x:Str,x≠"__name__"->mb x=bootBuiltins x
 nolimit:base.NoLimit
structure Cx where
 prog:Program
 w:World
 K:c7
 mg:Str->Option Value
 base:Heap
 A:Around
 N:List Str
 s₀:Shared
 H₀:Hp
 env:Env
 outer:List Env
 stack:List Env
 ex:List Addr
 fn:Str->Bool
 calm:Bool
 pn:List 126
 xe:Value->Shared->Prop
noncomputable def Dy(l:List Env):List Addr:=l.filterMap (·.frame)
noncomputable abbrev Cx.fs(X:Cx):List Addr:=Dy X.outer
def Ve(sc:Scope)(x:Str):Prop:=sc.names.lookup x=some .local\/sc.names.lookup x=some .cell\/sc.names.lookup x=some .free
def Loc(sc:Scope)(x:Str):Prop:=sc.names.lookup x=some .local\/sc.names.lookup x=some .cell
def Look(env:Env)(h:Heap)(m:Str->Option Value)(x:Str)(u:Value):Prop:=
 (env.kindOf x=some .local/\m x=some u)\/((env.kindOf x=some .cell\/env.kindOf x=some .free)/\∃c,env.cells.lookup x=some c/\h.IsCell c (some u))
structure Cx.Ok(X:Cx):Prop where
 mod:Mod X.K X.mg X.base
 kind:X.env.scope.kind= .function
 glob:X.env.globals=mainGlobals
 blt:X.env.builtins=builtinsNs
 above:X.s₀.heap.objs.size<=X.env.locals
 inj:∀x y c,X.env.cells.lookup x=some c->X.env.cells.lookup y=some c->x=y
 has:∀x,(X.env.kindOf x=some .cell\/X.env.kindOf x=some .free)->∃c,X.env.cells.lookup x=some c
 Vf:∀x c,X.fn x=true->X.env.cells.lookup x=some c->X.s₀.heap.objs.size<=c
 hd:X.calm=true->X.A.handled=none
 frames:X.A.frames=some X.stack
 XU:X.stack=X.outer\/(X.stack=X.env::X.outer/\X.env.frame=some X.env.locals)
 exf:∀b∈X.ex,b≠X.env.locals/\∀x c,X.env.cells.lookup x=some c->c≠b
 bs:∀b o,X.base.get? b=some o->X.s₀.heap.get? b=some o/\X.H₀ b=none
 LY:X.base.objs.size<=X.s₀.heap.objs.size
 Hn:∀b o,X.base.get? b=some o->b∉X.ex
 LZ:∀b∈X.ex,b∉X.fs
 qT:X.s₀.heap.FunFrames X.base X.outer
 PV:∀b∈X.fs,X.H₀ b=none
structure Inv(X:Cx)(pins:List 126)(σ:List (Option V))(H:Hp)(s:Shared):Prop where
 ok:X.Ok
 os:s.os=X.s₀.os
 bare:AllBare s.gens
 base:Un X.fs X.ex X.H₀ H X.s₀.heap s.heap
 loc:∃m,s.heap.Ns X.env.locals m/\∀(i:Nat) (x:Str) (v:V),X.N[i]? =some x->σ[i]? =some (some v)->Ve X.env.scope x->∃u,RelV v u/\Look X.env s.heap m x u
 cell:∀x c,X.env.cells.lookup x=some c->∃v,s.heap.IsCell c v
 free:H X.env.locals=none
 jZ:∀x c,X.env.cells.lookup x=some c->H c=none
 pin:∀p∈X.pn++pins,s.heap.get? p.1=some p.2/\H p.1=none/\p.1≠X.env.locals/\p.1∉X.fs/\∀v,p.2.data≠ .cell v
 cq:mY X.prog X.w H s.heap
 len:σ.length=X.N.length
variable{x:Str}{g':Array GenState}{t' i j:Nat}{d':Drawn}{ch:List Addr}{it:Addr}{N:List Str}{M:Model}{A:Around}{E:Value->Shared->Prop}{v:V}{s':Shared}
section
variable{X:Cx}{pins:List 126}{σ:List (Option V)}{H H':Hp}{s:Shared}{h':Heap}
theorem Cx.Ok.YW(ok:X.Ok){o:Obj}(e:X.base.get? b=some o):b∉X.fs:=λhb=>by
 have:=(ok.qT.mem hb).1
 rw[e]at this;cases this
theorem Inv.bs(I:Inv X pins σ H s):∀b o,X.base.get? b=some o->s.heap.get? b=some o/\H b=none:=λb o e=>
 ⟨I.base.keep b o (I.ok.bs b o e).1 (I.ok.bs b o e).2 (I.ok.YW e) (I.ok.Hn b o e),I.base.free b o (I.ok.bs b o e).1 (I.ok.bs b o e).2 (I.ok.Hn b o e)⟩
theorem Inv.bk(I:Inv X pins σ H s):∀b o,X.base.get? b=some o->s.heap.get? b=some o:=λb o e=>(I.bs b o e).1
theorem Inv.mod(I:Inv X pins σ H s):Mod X.K X.mg X.base:=I.ok.mod
theorem Inv.Ff(I:Inv X pins σ H s):X.K.In s.heap:=I.ok.mod.S8.keeps I.bk
theorem Inv.lt(I:Inv X pins σ H s):X.env.locals<s.heap.objs.size:=let ⟨_,hn,_⟩:=I.loc;hn.lt
theorem Inv.sz(I:Inv X pins σ H s):X.s₀.heap.objs.size<=s.heap.objs.size:=Qbn I.ok.above (Qbz I.lt)
theorem Inv.PX(I:Inv X pins σ H s)(h:s.heap.objs.size<=a):a∉X.fs:=λhb=>by
 obtain ⟨_,o,ho,_⟩:=I.ok.qT.mem hb
 exact absurd (Qbd (Qay ho) (Qbn I.sz h)) (Qbw _)
theorem Inv.PY(I:Inv X pins σ H s):∀x c,X.env.cells.lookup x=some c->c≠X.env.locals:=λx c e z=>by
 obtain ⟨v,o,ho,hd⟩:=I.cell x c e
 obtain ⟨m,⟨o',es,ep,Ho,YX,_⟩,_⟩:=I.loc
 rw[z,Ho]at ho;cases ho;rw[YX]at hd;cases hd
theorem Inv.qT(I:Inv X pins σ H s):s.heap.FunFrames X.base X.outer:=by
 have all:∀(l:List Env),(∀b∈Dy l,b∈X.fs)->X.s₀.heap.FunFrames X.base l->s.heap.FunFrames X.base l:=by
  intro l
  induction l with
  | nil=>intro _ _;trivial
  | cons env r ih=>
   intro hs hl
   obtain ⟨hk,⟨L,o,hf,hn,ho,hd⟩,hr⟩:=hl
   have hL:L∈X.fs:=hs L (by unfold Dy;rw[Qf7,hf];exact Qak)
   obtain ⟨sl,e⟩:=I.base.slot L o ho (I.ok.PV L hL) hL λz=>I.ok.LZ L z hL
   exact ⟨hk,⟨L,_,hf,hn,e,hd⟩,ih (λb hb=>hs b (by unfold Dy;rw[Qf7,hf];exact Qah _ hb)) hr⟩
 exact all X.outer (λ_ hb=>hb) I.ok.qT
theorem Inv.stack(I:Inv X pins σ H s):s.heap.FunFrames X.base X.stack:=by
 rcases I.ok.XU with e | ⟨e,hf⟩
 ·rw[e];exact I.qT
 ·rw[e]
  obtain ⟨m,hn,_⟩:=I.loc
  refine .cons (by rw[I.ok.kind];decide) hf hn ?_ I.qT
  exact Heap.get?_none_of_le (Qbn I.ok.LY I.ok.above)
theorem Inv.sC(I:Inv X pins σ H s):∀b∈Dy X.stack,b∈X.env.locals::X.fs:=λb hb=>by
 rcases I.ok.XU with e | ⟨e,hf⟩
 ·rw[e]at hb;exact Qah _ hb
 ·rw[e]at hb
  unfold Dy at hb
  rw[Qf7,hf]at hb
  exact hb
theorem Inv.Dz(I:Inv X pins σ H s):∀b∈Dy X.stack,H b=none:=λb hb=>by
 rcases Qaq.mp (I.sC b hb) with e | hb
 ·rw[e];exact I.free
 ·obtain ⟨_,o,ho,_⟩:=I.ok.qT.mem hb
  exact I.base.free b o ho (I.ok.PV b hb) λz=>I.ok.LZ b z hb
theorem Inv.step(I:Inv X pins σ H s)
  (Lu:∀b∈ch,(b∈X.ex\/X.s₀.heap.objs.size<=b)/\b≠X.env.locals/\(∀x c,X.env.cells.lookup x=some c->c≠b)/\∀p∈X.pn++pins,p.1≠b)
  (keep:∀b o,b≠X.env.locals->b∉X.fs->b∉ch->s.heap.get? b=some o->H b=none->h'.get? b=some o)
  (slot:∀b o,b≠X.env.locals->b∈X.fs->b∉ch->s.heap.get? b=some o->H b=none->∃sl,h'.get? b=some { o with slots:=sl }) (free:∀b o,b∉ch->s.heap.get? b=some o->H b=none->H' b=none)
  (there:∀b o,b∉ch->s.heap.get? b=some o->∃o',h'.get? b=some o')
  (vh:∀b xs,H b=some (.tup xs)->H' b=some (.tup xs)) (so:∀b o u,H b=some (.Lr o u)->H' b=some (.Lr o u)) (xU:∀b ps,H b=some (.PR ps)->∃more,H' b=some (.PR (ps++more)))
  (ns:∀m,s.heap.Ns X.env.locals m->h'.Ns X.env.locals m) (cq:mY X.prog X.w H' h') (hg:AllBare g'):
  Inv X pins σ H' { s with heap:=h',gens:=g',drawn:=d',toks:=t' }:=by
 have neL:∀b o,X.s₀.heap.get? b=some o->b≠X.env.locals:=λb o e=>Qa6 (Qbd (Qay e) I.ok.above)
 have PZ:∀b o,X.s₀.heap.get? b=some o->b∉X.ex->b∉ch:=λb o e hx hb=>by
  rcases (Lu b hb).1 with z | z
  ·exact hx z
  ·exact absurd (Qbd (Qay e) z) (Qbw _)
 have cellK:∀x c,X.env.cells.lookup x=some c->∀v,s.heap.IsCell c v->h'.IsCell c v:=λx c e v ⟨o,ho,hd⟩=>by
  have Vg:c∉ch:=λz=>(Lu c z).2.2.1 x c e rfl
  by_cases hc:c∈X.fs
  ·obtain ⟨sl,q⟩:=slot c o (I.PY x c e) hc Vg ho (I.jZ x c e)
   exact ⟨_,q,hd⟩
  ·exact ⟨o,keep c o (I.PY x c e) hc Vg ho (I.jZ x c e),hd⟩
 refine ⟨I.ok,I.os,hg,⟨λb o e n hb hx=>?_,λb o e n hb hx=>?_,λb o e n hx=>?_,λb o e hx=>?_,λb xs e=>vh b xs (I.base.vh b xs e),λb o xs e=>so b o xs (I.base.so b o xs e),λb ps e=>?_⟩,?_,λx c e=>?_,?_,λx c e=>?_,λp hp=>?_,cq,I.len⟩
 ·exact keep b o (neL b o e) hb (PZ b o e hx) (I.base.keep b o e n hb hx) (I.base.free b o e n hx)
 ·obtain ⟨sl,e1⟩:=I.base.slot b o e n hb hx
  obtain ⟨sl',e2⟩:=slot b _ (neL b o e) hb (PZ b o e hx) e1 (I.base.free b o e n hx)
  exact ⟨sl',e2⟩
 ·obtain ⟨o',e1⟩:=I.base.there b o e hx
  exact free b o' (PZ b o e hx) e1 (I.base.free b o e n hx)
 ·obtain ⟨o',e1⟩:=I.base.there b o e hx
  exact there b o' (PZ b o e hx) e1
 ·obtain ⟨m1,e1⟩:=I.base.xU b ps e
  obtain ⟨m2,e2⟩:=xU b _ e1
  exact ⟨m1++m2,by rw[e2,Array.append_assoc]⟩
 ·obtain ⟨m,hn,hl⟩:=I.loc
  refine ⟨m,ns m hn,λi x v e1 e2 e3=>?_⟩
  obtain ⟨u,r,l⟩:=hl i x v e1 e2 e3
  refine ⟨u,r,?_⟩
  rcases l with l | ⟨k,c,e,z⟩
  ·exact .inl l
  ·exact .inr ⟨k,c,e,cellK x c e _ z⟩
 ·obtain ⟨v,z⟩:=I.cell x c e
  exact ⟨v,cellK x c e v z⟩
 ·obtain ⟨m,⟨o,_,_,ho,_⟩,_⟩:=I.loc
  exact free _ o (λz=>(Lu _ z).2.1 rfl) ho I.free
 ·obtain ⟨v,o,ho,hd⟩:=I.cell x c e
  exact free c o (λz=>(Lu c z).2.2.1 x c e rfl) ho (I.jZ x c e)
 ·obtain ⟨e,n,ne,nf,d⟩:=I.pin p hp
  have Vg:p.1∉ch:=λz=>(Lu p.1 z).2.2.2 p hp rfl
  exact ⟨keep p.1 p.2 ne nf Vg e n,free p.1 p.2 Vg e n,ne,nf,d⟩
theorem Inv.un(I:Inv X pins σ H s)(u:Un X.fs [] H H' s.heap h')(cq:mY X.prog X.w H' h'):Inv X pins σ H' { s with heap:=h',toks:=t' }:=by
 obtain ⟨m,⟨o,es,ep,ho,r⟩,_⟩:=id I.loc
 obtain ⟨sl,hL⟩:=u.any ho I.free (by simp)
 exact I.step (g':=s.gens) (d':=s.drawn) (ch:=[]) (λ_ z=>nomatch z) (λb o _ hb _ e n=>u.keep b o e n hb (by simp)) (λb o _ hb _ e n=>u.slot b o e n hb (by simp)) (λb o _ e n=>u.free b o e n (by simp)) (λb o _ e=>u.there b o e (by simp)) u.vh u.so u.xU (λm' hm=>by
  obtain ⟨o',YY,L0,Ho,r'⟩:=hm
  rw[ho]at Ho;cases Ho
  exact ⟨_,YY,L0,hL,r'⟩) cq I.bare
theorem Inv.call(I:Inv X pins σ H s)(u:Un (Dy X.stack) ch H H' s.heap h')(cq:mY X.prog X.w H' h')(hg:AllBare g')
  (Lu:∀b∈ch,(b∈X.ex\/X.s₀.heap.objs.size<=b)/\b≠X.env.locals/\(∀x c,X.env.cells.lookup x=some c->c≠b)/\∀p∈X.pn++pins,p.1≠b):
  Inv X pins σ H' { s with heap:=h',gens:=g',drawn:=d',toks:=t' }:=by
 obtain ⟨m,⟨o,es,ep,ho,r⟩,_⟩:=id I.loc
 obtain ⟨sl,hL⟩:=u.any ho I.free λz=>(Lu _ z).2.1 rfl
 exact I.step (ch:=ch) Lu (λb o hL hb hc e n=>u.keep b o e n (λz=>(Qaq.mp (I.sC b z)).elim hL hb) hc) (λb o _ _ hc e n=>u.any e n hc) (λb o hc e n=>u.free b o e n hc) (λb o hc e=>u.there b o e hc) u.vh u.so u.xU (λm' hm=>by
  obtain ⟨o',YY,L0,Ho,r'⟩:=hm
  rw[ho]at Ho;cases Ho
  exact ⟨_,YY,L0,hL,r'⟩) cq hg
theorem Inv.turned(I:Inv X pins σ H s)(k:∀b o,b≠it->s.heap.get? b=some o->h'.get? b=some o)(hn:H it=none)(hL:it≠X.env.locals)
  (h1:it∈X.ex\/X.s₀.heap.objs.size<=it) (h2:∀x c,X.env.cells.lookup x=some c->c≠it) (h3:∀p∈X.pn++pins,p.1≠it):Inv X pins σ H { s with heap:=h',toks:=t' }:=by
 have Oz:∀b u,H b=some u->b≠it:=λb u e z=>by rw[z,hn]at e;cases e
 refine I.step (g':=s.gens) (d':=s.drawn) (ch:=[it]) (λb hb=>?_) (λb o _ _ hc e _=>k b o (λz=>hc (by simp[z])) e) (λb o _ _ hc e _=>⟨o.slots,k b o (λz=>hc (by simp[z])) e⟩) (λ_ _ _ _ n=>n)
  (λb o hc e=>⟨o,k b o (λz=>hc (by simp[z])) e⟩) (λ_ _ e=>e) (λ_ _ _ e=>e) (λb ps e=>⟨#[],by rw[e];simp⟩) (λm hm=>?_) (λb u e=>?_) I.bare
 ·have e:b=it:=by simpa using hb
  subst e
  exact ⟨h1,hL,h2,h3⟩
 ·obtain ⟨o,es,ep,ho,r⟩:=hm
  exact ⟨o,es,ep,k _ o (Ne.symm hL) ho,r⟩
 ·refine (I.cq b u e).zO (λc v hc q=>k c v ?_ q) (λ_ q=>q) λ_ _ q=>q
  rcases hc with z | z
  ·rw[z];exact Oz b u e
  ·exact Oz c _ z
theorem Inv.tok(I:Inv X pins σ H s)(t:Nat):Inv X pins σ H { s with toks:=t }:=I.un (h':=s.heap) (t':=t) Un.refl I.cq
theorem Inv.kept(I:Inv X pins σ H s)(k:∀b u,s.heap.get? b=some u->h'.get? b=some u):Inv X pins σ H { s with heap:=h',toks:=t' }:=I.un (Un.kept k) (I.cq.kept k)
theorem Inv.laid(I:Inv X pins σ H s)(k:∀b u,s.heap.get? b=some u->h'.get? b=some u)(hp:s.heap.objs.size<=a)(new:du X.prog X.w (upd H a o) h' a o):
  Inv X pins σ (upd H a o) { s with heap:=h',toks:=t' }:=I.un (Un.laid k hp (I.cq.fresh hp)) (I.cq.laid k hp new)
theorem Inv.write{x e:Addr}(I:Inv X pins σ H s)(mu:Vc (H x))(he:e=x\/H e=some (.own x))(k:∀b u,b≠e->s.heap.get? b=some u->h'.get? b=some u)(Oy:∃u,h'.get? e=some u)
  (new:du X.prog X.w (upd H x o) h' x o):Inv X pins σ (upd H x o) { s with heap:=h',toks:=t' }:=I.un (Un.write mu he k Oy) (I.cq.write mu he k Oy new)
theorem Inv.weak{σ':List (Option V)}(I:Inv X pins σ H s)(hl:σ'.length=σ.length)(w:∀(i:Nat) v,σ'[i]? =some (some v)->σ[i]? =some (some v)):Inv X pins σ' H s:=
 ⟨I.ok,I.os,I.bare,I.base,let ⟨m,hn,lF⟩:=I.loc;⟨m,hn,λi x v e1 e2 e3=>lF i x v e1 (w i v e2) e3⟩,I.cell,I.free,I.jZ,I.pin,I.cq,hl.trans I.len⟩
theorem Inv.nC{DA:List 126}(I:Inv X pins σ H s)(h:∀p∈DA,s.heap.get? p.1=some p.2/\H p.1=none/\p.1≠X.env.locals/\p.1∉X.fs/\∀v,p.2.data≠ .cell v):Inv X DA σ H s:=
 ⟨I.ok,I.os,I.bare,I.base,I.loc,I.cell,I.free,I.jZ,λp hp=>(Qan.mp hp).elim (λz=>I.pin p (Qcj _ z)) (h p),I.cq,I.len⟩
theorem zP(hN:N.Nodup)(a:N[i]? =some x)(b:N[j]? =some x):i=j:=by
 obtain ⟨h1,e1⟩:=Qz.mp a
 obtain ⟨h2,e2⟩:=Qz.mp b
 exact (List.getElem_inj hN).mp (e1.trans e2.symm)
theorem Fg{Q:Unit->Shared->Prop}(I:Inv X pins σ H s)(hN:X.N.Nodup)(hi:X.N[i]? =some x)(hx:Loc X.env.scope x)(r:RelV v u)
  (h:∀s',Inv X pins (σ.set i (some v)) H s'->(∃a,Heap.SameBut a s.heap s'.heap/\(a=X.env.locals\/X.env.cells.lookup x=some a))->Q Unit.unit s') (hf:X.fn x=true\/X.env.scope.names.lookup x=some .local:=by first | exact .inl rfl | exact .inr rfl | assumption):wpAny M A (storeName X.env x u) Q E s:=by
 obtain ⟨m,hn,hl⟩:=id I.loc
 have YZ:(X.env.scope.kind== .class||(X.env.scope.kind== .module&&X.env.locals != X.env.globals))=false:=by rw[I.ok.kind];rfl
 have hiσ:i<σ.length:=by rw[I.len];exact (Qz.mp hi).1
 have PY:=I.PY
 have tracked:∀{a:Addr} {h':Heap},(∃o,s.heap.get? a=some o/\H a=none)->Heap.SameBut a s.heap h'->mY X.prog X.w H h':=λ{a h'} ha hs b ob e=>by
  obtain ⟨_,_,OA⟩:=ha
  refine (I.cq b ob e).zO (λc w' hc q=>(hs.2 c ?_).trans q) (λ_ q=>q) λ_ _ q=>q
  rintro rfl
  rcases hc with rfl | hc
  ·rw[OA]at e;cases e
  ·rw[OA]at hc;cases hc
 rcases hx with hk | hk
 ·refine wpAny_storeName_local hk hn (λh' P4 hs=>?_) YZ
  obtain ⟨oL,_,_,Fh,_⟩:=id hn
  refine h _ ⟨I.ok,I.os,I.bare,⟨λb o e n hb hx=>?_,λb o e n hb hx=>?_,I.base.free,λb o e hx=>?_,I.base.vh,I.base.so,I.base.xU⟩,⟨_,P4,λj y v' e1 e2 e3=>?_⟩,λy c e=>?_,I.free,I.jZ,λp hp=>?_,tracked ⟨oL,Fh,I.free⟩ hs,by simpa using I.len⟩ ⟨_,hs,.inl rfl⟩
  ·exact (hs.2 b (Qa6 (Qbd (Qay e) I.ok.above))).trans (I.base.keep b o e n hb hx)
  ·obtain ⟨sl,e1⟩:=I.base.slot b o e n hb hx
   exact ⟨sl,(hs.2 b (Qa6 (Qbd (Qay e) I.ok.above))).trans e1⟩
  ·obtain ⟨o',e1⟩:=I.base.there b o e hx
   exact ⟨o',(hs.2 b (Qa6 (Qbd (Qay e) I.ok.above))).trans e1⟩
  ·by_cases hj:j=i
   ·subst hj
    rw[hi]at e1;cases e1
    rw[List.getElem?_set_self hiσ]at e2
    cases e2
    exact ⟨u,r,.inl ⟨hk,by simp⟩⟩
   ·rw[List.getElem?_set_ne (Ne.symm hj)]at e2
    obtain ⟨u',r',q⟩:=hl j y v' e1 e2 e3
    refine ⟨u',r',?_⟩
    rcases q with ⟨k,e⟩ | ⟨k,c,e,z⟩
    ·refine .inl ⟨k,?_⟩
     have:y≠x:=λe=>hj (zP hN e1 (e▸hi))
     simp[this,e]
    ·exact .inr ⟨k,c,e,z.sameBut hs (PY y c e)⟩
  ·obtain ⟨w',z⟩:=I.cell y c e
   exact ⟨w',z.sameBut hs (PY y c e)⟩
  ·obtain ⟨e,n,ne,nf,d⟩:=I.pin p hp
   exact ⟨(hs.2 p.1 ne).trans e,n,ne,nf,d⟩
 ·have Y0:X.fn x=true:=by
   rcases hf with z | z
   ·exact z
   ·rw[z]at hk;cases hk
  obtain ⟨c,hc⟩:=I.ok.has x (.inl hk)
  obtain ⟨w',z⟩:=I.cell x c hc
  refine wpAny_storeName_cell I.ok.kind hk hc z (λh' sE hs=>?_)
  obtain ⟨oc,hoc,Y1⟩:=id z
  refine h { s with heap:=h' } ⟨I.ok,I.os,I.bare,⟨λb o e n hb hx=>?_,λb o e n hb hx=>?_,I.base.free,λb o e hx=>?_,I.base.vh,I.base.so,I.base.xU⟩,⟨m,hn.sameBut hs (Ne.symm (PY x c hc)),λj y v' e1 e2 e3=>?_⟩,λy c' e=>?_,I.free,I.jZ,λp hp=>?_,tracked ⟨oc,hoc,I.jZ x c hc⟩ hs,by simpa using I.len⟩ ⟨c,hs,.inr hc⟩
  ·exact (hs.2 b (Qa6 (Qbd (Qay e) (I.ok.Vf x c Y0 hc)))).trans (I.base.keep b o e n hb hx)
  ·obtain ⟨sl,e1⟩:=I.base.slot b o e n hb hx
   exact ⟨sl,(hs.2 b (Qa6 (Qbd (Qay e) (I.ok.Vf x c Y0 hc)))).trans e1⟩
  ·obtain ⟨o',e1⟩:=I.base.there b o e hx
   exact ⟨o',(hs.2 b (Qa6 (Qbd (Qay e) (I.ok.Vf x c Y0 hc)))).trans e1⟩
  ·by_cases hj:j=i
   ·subst hj
    rw[hi]at e1;cases e1
    rw[List.getElem?_set_self hiσ]at e2
    cases e2
    exact ⟨u,r,.inr ⟨.inl hk,c,hc,sE⟩⟩
   ·rw[List.getElem?_set_ne (Ne.symm hj)]at e2
    obtain ⟨u',r',q⟩:=hl j y v' e1 e2 e3
    refine ⟨u',r',?_⟩
    rcases q with q | ⟨k,c',e,z'⟩
    ·exact .inl q
    ·refine .inr ⟨k,c',e,z'.sameBut hs ?_⟩
     rintro rfl
     exact hj (zP hN e1 (I.ok.inj _ _ _ e hc▸hi))
  ·by_cases OB:c'=c
   ·subst OB;exact ⟨_,sE⟩
   ·obtain ⟨w2,z2⟩:=I.cell y c' e
    exact ⟨w2,z2.sameBut hs OB⟩
  ·obtain ⟨e,n,ne,nf,d⟩:=I.pin p hp
   refine ⟨(hs.2 p.1 ?_).trans e,n,ne,nf,d⟩
   intro q
   rw[q,hoc]at e
   have q':oc=p.2:=Qal e
   exact d w' (by rw[<-q'];exact Y1)
theorem nE{Q:Unit->Shared->Prop}(I:Inv X pins σ H s)(hN:X.N.Nodup)(hi:X.N[i]? =some x)(hx:Loc X.env.scope x)(r:RelV v u)
  (h:∀s',Inv X pins (σ.set i (some v)) H s'->Q Unit.unit s') (hf:X.fn x=true\/X.env.scope.names.lookup x=some .local:=by first | exact .inl rfl | exact .inr rfl | assumption):wpAny M A (storeName X.env x u) Q E s:=
 Fg I hN hi hx r (λs' I' _=>h s' I') hf
theorem Inv.Vh(I:Inv X pins σ H s)(ho:s'.os=s.os)(u:Un (Dy X.stack) ch H H' s.heap s'.heap)(cq:mY X.prog X.w H' s'.heap)(hg:AllBare s'.gens)
  (Lu:∀b∈ch,(b∈X.ex\/X.s₀.heap.objs.size<=b)/\b≠X.env.locals/\(∀x c,X.env.cells.lookup x=some c->c≠b)/\∀p∈X.pn++pins,p.1≠b):Inv X pins σ H' s':=by
 obtain ⟨h',g',d',t',o'⟩:=s'
 have e:o'=s.os:=ho
 subst e
 exact I.call (g':=g') (t':=t') (d':=d') u cq hg Lu
end
abbrev XK:=Value->Option Addr->Hp->Prop
abbrev St:=List (Option V)
abbrev VK:=V->Hp->Prop
abbrev TE:=St->Hp->VK->Prop
abbrev TT:=St->Hp->(Bool->Hp->Prop)->Prop
abbrev TA:=St->Hp->(List V->Hp->Prop)->Prop
structure Ends where
 nx:St->Hp->Prop
 rt:VK
 bk:St->Hp->Prop:=λ_ _=>False
 ct:St->Hp->Prop:=λ_ _=>False
abbrev TS:=Ends->St->Hp->Prop
def EP(X:Cx)(pins:List 126)(σ:St)(Q:VK)(u:Value)(s':Shared):Prop:=∃v H',Inv X pins σ H' s'/\RelV v u/\Q v H'
def TP(X:Cx)(pins:List 126)(σ:St)(Q:Bool->Hp->Prop)(b:Bool)(s':Shared):Prop:=∃H',Inv X pins σ H' s'/\Q b H'
def AP(X:Cx)(pins:List 126)(σ:St)(Q:List V->Hp->Prop)(us:List Value)(s':Shared):Prop:=∃vs H',Inv X pins σ H' s'/\Vals vs us/\Q vs H'
def SP(X:Cx)(pins:List 126)(D:Ends)(f:Flow)(s':Shared):Prop:=
 match f with
 | .next=>∃σ' H',Inv X pins σ' H' s'/\D.nx σ' H'
 | .brk=>∃σ' H',Inv X pins σ' H' s'/\D.bk σ' H'
 | .cont=>∃σ' H',Inv X pins σ' H' s'/\D.ct σ' H'
 | .ret u=>∃v σ' H',Inv X pins σ' H' s'/\RelV v u/\D.rt v H'
def PE(X:Cx)(e:Expr)(t:TE):Prop:=
 ∀(pins:List 126) (s:Shared) (σ:St) (H:Hp) (Q:VK),Inv X pins σ H s->t σ H Q->wpAny 93 X.A (eval e X.env) (EP X pins σ Q) X.xe s
def PT(X:Cx)(e:Expr)(t:TT):Prop:=
 ∀(pins:List 126) (s:Shared) (σ:St) (H:Hp) (Q:Bool->Hp->Prop),Inv X pins σ H s->t σ H Q->wpAny 93 X.A (isTrue e X.env (eval e X.env)) (TP X pins σ Q) X.xe s
def PW(X:Cx)(e:Expr)(t:TT):Prop:=
 ∀(whole:Sem Value) (pins:List 126) (s:Shared) (σ:St) (H:Hp) (Q:Bool->Hp->Prop),Inv X pins σ H s->t σ H Q->wpAny 93 X.A (isTrue e X.env whole) (TP X pins σ Q) X.xe s
variable{X:Cx}{e:Expr}
theorem PW.pt{t:TT}(h:PW X e t):PT X e t:=h _
def PA(X:Cx)(es:List Expr)(t:TA):Prop:=
 ∀(pos:Pos) (pins:List 126) (s:Shared) (σ:St) (H:Hp) (Q:List V->Hp->Prop),Inv X pins σ H s->t σ H Q->wpAny 93 X.A (spliced (backTo pos (starEach es X.env))) (AP X pins σ Q) X.xe s
def PS(X:Cx)(st:Stmt)(t:TS):Prop:=
 ∀(pins:List 126) (s:Shared) (σ:St) (H:Hp) (D:Ends),Inv X pins σ H s->t D σ H->wpAny 93 X.A (exec st X.env) (SP X pins D) X.xe s
def zQ(X:Cx)(st:List Stmt)(t:TS):Prop:=
 ∀(pins:List 126) (s:Shared) (σ:St) (H:Hp) (D:Ends),Inv X pins σ H s->t D σ H->wpAny 93 X.A (execs st X.env) (SP X pins D) X.xe s
variable{s:Shared}
theorem cA{α:Type}{t:Sem α}{Q Q':α->Shared->Prop}(h:wpAny M A t Q E s)(hQ:∀a s,Q a s->Q' a s):wpAny M A t Q' E s:=wpAny_mono h hQ λ_ _ x=>x
variable{Q:Value->Shared->Prop}{pins:List 126}{σ:St}{c:Expr}
section
variable{X:Cx}
inductive Hq(i:Nat)(σ:St)(H:Hp)(Q:VK):Prop
 | mk (v:V) (_:σ[i]? =some (some v)) (_:Q v H):Hq i σ H Q
def P5(i:Nat):TE:=Hq i
def tC(v:V):TE:=λ_ H Q=>Q v H
theorem P6{pos:Pos}(hN:X.N[i]? =some x)(hv:Ve X.env.scope x)(hd:(x==("__debug__":Str))=false:=by decide)(jV:(x==("__classdict__":Str))=false:=by decide):PE X (.Name x pos) (P5 i):=by
 walk_at"h"
 obtain ⟨v,e,h⟩:=h
 obtain ⟨m,hn,hl⟩:=I.loc
 obtain ⟨u,r,l⟩:=hl i x v hN e hv
 have fin:EP X pins σ Q u s:=⟨v,H,I,r,h⟩
 rcases l with ⟨hk,hm⟩ | ⟨hk,c,hc,iO⟩
 ·exact wpAny_Name (wpAny_loadName_local I.ok.kind hk hn hm fin) hd
 ·rcases hk with hk | hk
  ·exact wpAny_Name (wpAny_loadName_cell I.ok.kind hk hc iO fin) hd
  ·exact wpAny_Name (wpAny_loadName_free I.ok.kind hk hc iO fin jV) hd
theorem ak{i j pos}:PE X (.Constant (.int i) j pos) (tC (.int i)):=λ_ _ _ H _ I h=>wpAny_Constant_int ⟨.int i,H,I.tok _,⟨_,rfl⟩,h⟩
theorem Hr{b j pos}:PE X (.Constant (.bool b) j pos) (tC (.bl b)):=λ_ _ _ H _ I h=>Constant_bool ⟨.bl b,H,I,rfl,h⟩
theorem P7{x j pos}:PE X (.Constant (.str x) j pos) (tC (.str x)):=λ_ _ _ H _ I h=>Calls.Constant_str ⟨.str x,H,I.tok _,⟨_,rfl⟩,h⟩
def Gl(X:Cx)(x:Str):Prop:=X.env.kindOf x=some .globalImplicit
theorem xW{pos:Pos}(I:Inv X pins σ H s)(hg:Gl X x)(hm:X.mg x=some u)(h:Q u s)
  (hd:(x==("__debug__":Str))=false:=by decide):wpAny 93 X.A (eval (.Name x pos) X.env) Q E s:=
 Calls.Name_function_global I.ok.kind hg (Calls.loadGlobal_global (by rw[I.ok.glob];exact I.mod.glob.keeps I.bk) hm h) hd
theorem iA{pos:Pos}(I:Inv X pins σ H s)(hg:Gl X x)(hm:X.mg x=none)(hv:bootBuiltins x=some u)(h:Q u s)
  (hn:x≠"__name__":=by decide) (hd:(x==("__debug__":Str))=false:=by decide):wpAny 93 X.A (eval (.Name x pos) X.env) Q E s:=by
 obtain ⟨mb,h1,h2⟩:=I.mod.blt
 exact Calls.Name_function_global I.ok.kind hg (Calls.loadGlobal_builtin (by rw[I.ok.glob];exact I.mod.glob.keeps I.bk) hm (by rw[I.ok.blt];exact h1.keeps I.bk) ((h2 x hn).trans hv) h) hd
theorem DB{pos:Pos}(hg:Gl X x)(hm:X.mg x=some u)(r:RelV v u)(hd:(x==("__debug__":Str))=false:=by decide):PE X (.Name x pos) (tC v):=
 λ_ _ _ H _ I h=>xW I hg hm ⟨v,H,I,r,h⟩ hd
inductive I2(x y:V)(H:Hp)(k:Int->Int->Hp->Prop):Prop
 | mk (i j:Int) (_:x= .int i) (_:y= .int j) (_:k i j H):I2 x y H k
inductive IB(x:V)(H:Hp)(Q:Bool->Hp->Prop):Prop
 | mk (c:Bool) (_:x= .bl c) (_:Q c H):IB x H Q
variable{a b:Expr}{ta tb:TE}{pos:Pos}
def tB(t:TE):TT:=λσ H Q=>t σ H λx H1=>IB x H1 Q
theorem fV{t:TE}(h:PE X e t)(he:∀whole,isTrue e X.env whole=(do let v <-whole;standAt e.pos;holding [v] (truthy v)):=by intro _;rfl):PT X e (tB t):=by
 intro pins s σ H Q I hw
 refine isTrue_plain (cA (h pins s σ H _ I hw) λv s1 ⟨x,H1,I1,r1,q1⟩=>?_) (he _)
 obtain ⟨d,rfl,q⟩:=q1
 cases r1
 exact wpAny_truthy_bool ⟨H1,I1,q⟩
variable{tA XW:TT}{rest:List Expr}
def Y2(t u:TT):TT:=λσ H Q=>t σ H λc H1=>if c=true then u σ H1 Q else Q false H1
def tOr(t u:TT):TT:=λσ H Q=>t σ H λc H1=>if c=true then Q true H1 else u σ H1 Q
def Y3(t:TT):TT:=λσ H Q=>t σ H λc H1=>Q (!c) H1
theorem rE(ha:PT X a tA):PW X (.BoolOp .And [a] pos) tA:=by
 intro wh pins s σ H Q I h
 refine isTrue_and (cA (ha pins s σ H Q I h) λc s1 e=>?_)
 cases c with
 | true=>exact isTrue_and_nil e
 | false=>exact e
theorem P8(ha:PT X a tA):PW X (.BoolOp .Or [a] pos) tA:=by
 intro wh pins s σ H Q I h
 refine isTrue_or (cA (ha pins s σ H Q I h) λc s1 e=>?_)
 cases c with
 | false=>exact isTrue_or_nil e
 | true=>exact e
theorem xX(ha:PT X a tA)(hb:PW X (.BoolOp .And (b::rest) pos) XW):PW X (.BoolOp .And (a::b::rest) pos) (Y2 tA XW):=by
 intro wh pins s σ H Q I h
 refine isTrue_and (cA (ha pins s σ H _ I h) λc s1 ⟨H1,I1,q1⟩=>?_)
 cases c with
 | true=>exact hb wh pins s1 σ H1 Q I1 q1
 | false=>exact ⟨H1,I1,q1⟩
theorem Vi(ha:PT X a tA)(hb:PW X (.BoolOp .Or (b::rest) pos) XW):PW X (.BoolOp .Or (a::b::rest) pos) (tOr tA XW):=by
 intro wh pins s σ H Q I h
 refine isTrue_or (cA (ha pins s σ H _ I h) λc s1 ⟨H1,I1,q1⟩=>?_)
 cases c with
 | true=>exact ⟨H1,I1,q1⟩
 | false=>exact hb wh pins s1 σ H1 Q I1 q1
theorem Hs(ha:PT X a tA):PT X (.UnaryOp .Not a pos) (Y3 tA):=by
 walk_at"h"
 exact isTrue_not (ha pins s σ H (λc H1=>Q (!c) H1) I h)
def Vj(ta tb:TE):TE:=λσ H Q=>ta σ H λx H1=>∃c,x= .bl c/\if c=true then tb σ H1 Q else Q (.bl false) H1
def Y4(ta tb:TE):TE:=λσ H Q=>ta σ H λx H1=>∃c,x= .bl c/\if c=true then Q (.bl true) H1 else tb σ H1 Q
theorem BM{op}{t:TE}(h:PE X a t):PE X (.BoolOp op [a] pos) t:=λpins s σ H Q I hw=>BoolOp_one (h pins s σ H Q I hw)
theorem Ht(ha:PE X a ta)(hb:PE X (.BoolOp .And (b::rest) pos) tb):PE X (.BoolOp .And (a::b::rest) pos) (Vj ta tb):=by
 walk_at"h"
 refine BoolOp_and (cA (ha pins s σ H _ I h) λv s1 ⟨x,H1,I1,r1,q1⟩=>?_)
 obtain ⟨c,rfl,q1⟩:=q1
 cases r1
 refine wpAny_truthy_bool ?_
 cases c with
 | true=>exact hb pins s1 σ H1 Q I1 q1
 | false=>exact ⟨.bl false,H1,I1,rfl,q1⟩
theorem Vk(ha:PE X a ta)(hb:PE X (.BoolOp .Or (b::rest) pos) tb):PE X (.BoolOp .Or (a::b::rest) pos) (Y4 ta tb):=by
 walk_at"h"
 refine BoolOp_or (cA (ha pins s σ H _ I h) λv s1 ⟨x,H1,I1,r1,q1⟩=>?_)
 obtain ⟨c,rfl,q1⟩:=q1
 cases r1
 refine wpAny_truthy_bool ?_
 cases c with
 | false=>exact hb pins s1 σ H1 Q I1 q1
 | true=>exact ⟨.bl true,H1,I1,rfl,q1⟩
def tIf(t:TT)(ta tb:TE):TE:=λσ H Q=>t σ H λc H1=>if c=true then ta σ H1 Q else tb σ H1 Q
theorem Hu(hc:PT X c tA)(ha:PE X a ta)(hb:PE X b tb):PE X (.IfExp c a b pos) (tIf tA ta tb):=by
 walk_at"h"
 refine wpAny_IfExp (cA (hc pins s σ H _ I h) λd s1 ⟨H1,I1,q1⟩=>?_)
 cases d with
 | true=>exact ha pins s1 σ H1 Q I1 q1
 | false=>exact hb pins s1 σ H1 Q I1 q1
end
def bC(K:c7)(H:Hp)(a:Addr)(xs:List V):Prop:=
 Rd H a (.lst xs)\/
  ∃(o:Obj) (aJ:Array Value) (n:Nat),K.lookup a=some o/\o.cls= .type "list"/\o.dict=none/\o.data= .seq aJ n/\aJ.size<=sizeLine/\Vals xs aJ.toList
def bY(K:c7)(H:Hp)(a:Addr)(xs:List V):Prop:=
 Rd H a (.tup xs)\/
  ∃(o:Obj) (aJ:Array Value) (n:Nat),K.lookup a=some o/\o.cls= .type "tuple"/\o.data= .seq aJ n/\aJ.size<=sizeLine/\Vals xs aJ.toList
noncomputable def Y5:Value->Option V
 | .none=>some .g7
 | .bool b=>some (.bl b)
 | .int i _=>some (.int i)
 | .str x _=>some (.str x)
 | .bytes b _=>some (.Dw b)
 | .float b _=>some (.XS b)
 | .ref a=>some (.ref a)
 | .type n=>some (.ty n)
 | _=>none
theorem RelV.abs{x:V}(r:RelV x u):Y5 u=some x:=by
 cases x with
 | g7=>cases r;rfl
 | bl _=>cases r;rfl
 | int _=>obtain ⟨t,rfl⟩:=r;rfl
 | str _=>obtain ⟨t,rfl⟩:=r;rfl
 | Dw _=>obtain ⟨t,rfl⟩:=r;rfl
 | XS _=>obtain ⟨t,rfl⟩:=r;rfl
 | ref _=>cases r;rfl
 | ty _=>cases r;rfl
variable{y:V}
theorem RelV.inj{x:V}(r:RelV x u)(q:RelV y u):x=y:=Qal (r.abs.symm.trans q.abs)
theorem Vals.inj:∀{xs ys:List V} {us:List Value},Vals xs us->Vals ys us->xs=ys
 | _,_,_,.nil,.nil=>rfl
 | _,_,_,.cons r t,.cons r' t'=>by rw[r.inj r',Vals.inj t t']
variable{K:c7}
section
variable{X:Cx}{pins:List 126}{σ:St}{H:Hp}{s:Shared}{a:Addr}{xs ys:List V}
theorem bC.of(h:H a=some (.lst xs)):bC K H a xs:= .inl (.inl h)
theorem bY.of(h:H a=some (.tup xs)):bY K H a xs:= .inl (.inl h)
theorem Inv.list(I:Inv X pins σ H s)(h:bC X.K H a xs):∃aJ:List Value,Vals xs aJ/\PlainL s.heap a aJ.toArray/\(xs:)<=sizeLine:=by
 rcases h with h | ⟨o,aJ,n,hk,hc,hd,hs,hz,r⟩
 ·obtain ⟨z,aJ,n,r,e⟩:=h.ok I.cq
  exact ⟨aJ,r,⟨_,n,e,rfl,rfl,rfl⟩,z⟩
 ·refine ⟨aJ.toList,r,⟨o,n,I.Ff a o hk,hc,hd,by simpa using hs⟩,?_⟩
  have e:=(r:)
  simp only[Qa8]at e
  lia
theorem Inv.tuple(I:Inv X pins σ H s)(h:bY X.K H a xs):∃aJ:List Value,Vals xs aJ/\IsTup s.heap a aJ.toArray/\(xs:)<=sizeLine:=by
 rcases h with h | ⟨o,aJ,n,hk,hc,hs,hz,r⟩
 ·obtain ⟨z,aJ,r,p⟩:=h.ok I.cq
  exact ⟨aJ,r,p,z⟩
 ·refine ⟨aJ.toList,r,⟨o,I.Ff a o hk,hc,n,by simpa using hs⟩,?_⟩
  have e:=(r:)
  simp only[Qa8]at e
  lia
theorem Inv.zR(I:Inv X pins σ H s)(h:bC X.K H a xs)(h':bC X.K H a ys):xs=ys:=by
 obtain ⟨aJ,r,⟨o,n,e,_,_,d⟩,_⟩:=I.list h
 obtain ⟨its',r',⟨o',n',e',_,_,d'⟩,_⟩:=I.list h'
 rw[e]at e';cases e'
 rw[d]at d'
 injection d' with d1 _
 have:aJ=its':=by simpa using congrArg Array.toList d1
 subst this
 exact r.inj r'
theorem Inv.ph(I:Inv X pins σ H s)(h:bY X.K H a xs)(h':bY X.K H a ys):xs=ys:=by
 obtain ⟨aJ,r,⟨o,e,_,n,d⟩,_⟩:=I.tuple h
 obtain ⟨its',r',⟨o',e',_,n',d'⟩,_⟩:=I.tuple h'
 rw[e]at e';cases e'
 rw[d]at d'
 injection d' with d1 _
 have:aJ=its':=by simpa using congrArg Array.toList d1
 subst this
 exact r.inj r'
end
noncomputable abbrev Cx.vm(X:Cx)(E:Value->Shared->Prop):Cx:={ X with xe:=E }
noncomputable abbrev Cx.XX(X:Cx):Cx:=X.vm λ_ _=>False
theorem Cx.Ok.vm(ok:X.Ok)(E:Value->Shared->Prop):(X.vm E).Ok:=
 ⟨ok.mod,ok.kind,ok.glob,ok.blt,ok.above,ok.inj,ok.has,ok.Vf,ok.hd,ok.frames,ok.XU,ok.exf,ok.bs,ok.LY,ok.Hn,ok.LZ,ok.qT,ok.PV⟩
theorem Cx.Ok.j4(ok:(X.vm E).Ok):X.Ok:=
 ⟨ok.mod,ok.kind,ok.glob,ok.blt,ok.above,ok.inj,ok.has,ok.Vf,ok.hd,ok.frames,ok.XU,ok.exf,ok.bs,ok.LY,ok.Hn,ok.LZ,ok.qT,ok.PV⟩
variable{D:Ends}
section
variable{X:Cx}{pins:List 126}{σ:St}{H:Hp}{s:Shared}{E:Value->Shared->Prop}
theorem Inv.vm(I:Inv X pins σ H s)(E:Value->Shared->Prop):Inv (X.vm E) pins σ H s:=⟨I.ok.vm E,I.os,I.bare,I.base,I.loc,I.cell,I.free,I.jZ,I.pin,I.cq,I.len⟩
theorem Inv.j4(I:Inv (X.vm E) pins σ H s):Inv X pins σ H s:=⟨I.ok.j4,I.os,I.bare,I.base,I.loc,I.cell,I.free,I.jZ,I.pin,I.cq,I.len⟩
theorem SP.j4{f:Flow}(h:SP (X.vm E) pins D f s'):SP X pins D f s':=by
 cases f with
 | next=>obtain ⟨σ',H',I,q⟩:=h;exact ⟨σ',H',I.j4,q⟩
 | brk=>obtain ⟨σ',H',I,q⟩:=h;exact ⟨σ',H',I.j4,q⟩
 | cont=>obtain ⟨σ',H',I,q⟩:=h;exact ⟨σ',H',I.j4,q⟩
 | ret u=>obtain ⟨v,σ',H',I,r,q⟩:=h;exact ⟨v,σ',H',I.j4,r,q⟩
theorem zQ.XX{st:List Stmt}{t:TS}(h:zQ X.XX st t):zQ X st t:=λpins s σ H D I hw=>
 wpAny_mono (h pins s σ H D (I.vm _) hw) (λ_ _ q=>q.j4) λ_ _ z=>False.elim z
end
section
variable{X:Cx}{st:Stmt}{rest:List Stmt}{t u:TS}{e:Expr}{te:TE}{pos:Pos}
def Vl:TS:=λD σ H=>D.nx σ H
def L1(t u:TS):TS:=λD σ H=>t { D with nx:=u D } σ H
theorem bK:zQ X [] Vl:=λ_ _ σ H _ I h=>wpAny_execs_nil ⟨σ,H,I,h⟩
theorem ab(h1:PS X st t)(h2:zQ X rest u):zQ X (st::rest) (L1 t u):=by
 walk_at"u"
 refine wpAny_execs_cons (cA (h1 pins s σ H { D with nx:=u D } I h) λf s1 q=>?_)
 cases f with
 | next=>
  obtain ⟨σ',H',I',q⟩:=q
  exact h2 pins s1 σ' H' D I' q
 | ret v=>exact q
 | brk=>exact q
 | cont=>exact q
theorem aj(h1:PS X st t):zQ X [st] t:=by
 walk_at"u"
 refine wpAny_execs_cons (cA (h1 pins s σ H D I h) λf s1 q=>?_)
 cases f with
 | next=>exact wpAny_execs_nil q
 | ret v=>exact q
 | brk=>exact q
 | cont=>exact q
theorem Inv.quiet(I:Inv X pins σ H s):interactive X.env=false:=by simp[interactive,I.ok.kind]
def Vm(te:TE):TS:=λD σ H=>te σ H λ_ H1=>D.nx σ H1
theorem cW(he:PE X e te)(hs:swapsWith e none pos.line X.env=pure false:=by rfl):PS X (.Expr e pos) (Vm te):=by
 walk_at"u"
 exact wpAny_Expr_any (cA (he pins s σ H _ I h) λv s1 ⟨x,H1,I1,r1,q1⟩=>⟨σ,H1,I1,q1⟩) I.quiet hs
def Y6(te:TE):TS:=λD σ H=>te σ H D.rt
theorem aG(he:PE X e te):PS X (.Return (some e) pos) (Y6 te):=by
 walk_at"u"
 exact wpAny_Return_some (cA (he pins s σ H _ I h) λv s1 ⟨x,H1,I1,r1,q1⟩=>⟨x,σ,H1,I1,r1,q1⟩)
def Y7(c:TT)(t u:TS):TS:=λD σ H=>c σ H λb H1=>if b=true then t D σ H1 else u D σ H1
theorem cM{a b:List Stmt}{tc:TT}(hc:PT X c tc)(ha:zQ X a t)(hb:zQ X b u):PS X (.If c a b pos) (Y7 tc t u):=by
 walk_at"u"
 refine wpAny_If (cA (hc pins s σ H _ I h) λd s1 ⟨H1,I1,q1⟩=>?_)
 cases d with
 | true=>exact ha pins s1 σ H1 D I1 q1
 | false=>exact hb pins s1 σ H1 D I1 q1
def P9:TS:=λ_ _ _=>False
theorem Hv:PS X st P9:=λ_ _ _ _ _ _ h=>h.elim
end
abbrev TG:=V->St->Hp->(St->Hp->Prop)->Prop
abbrev OC:=List V->St->Hp->(St->Hp->Prop)->Prop
def PG(X:Cx)(target:Expr)(t:TG):Prop:=
 ∀(pins:List 126) (s:Shared) (σ:St) (H:Hp) (v:V) (u:Value) (Q:St->Hp->Prop),Inv X pins σ H s->RelV v u->t v σ H Q->
  wpAny 93 X.A (assign target X.env u) (λ_ s'=>∃σ' H',Inv X pins σ' H' s'/\Q σ' H') X.xe s
def Vn(X:Cx)(ts:List Expr)(t:OC):Prop:=
 ∀(pins:List 126) (s:Shared) (σ:St) (H:Hp) (vs:List V) (us:List Value) (Q:St->Hp->Prop),Inv X pins σ H s->Vals vs us->t vs σ H Q->
  wpAny 93 X.A (assignInOrder ((assignEach ts X.env).map (·.2)) us) (λ_ s'=>∃σ' H',Inv X pins σ' H' s'/\Q σ' H') X.xe s
abbrev P_:=V->V->V->Hp->(Hp->Prop)->Prop
def Vo(X:Cx)(t:P_):Prop:=
 ∀(pins:List 126) (s:Shared) (σ:St) (H:Hp) (o i v:V) (ov iv u:Value) (Q:Hp->Prop),Inv X pins σ H s->RelV o ov->RelV i iv->RelV v u->t o i v H Q->
  wpAny 93 X.A (setItem ov iv u) (λ_ s'=>∃H',Inv X pins σ H' s'/\Q H') X.xe s
abbrev XY:=V->V->Hp->VK->Prop
def Vp(X:Cx)(op:Operator)(t:XY):Prop:=
 ∀(pins:List 126) (s:Shared) (σ:St) (H:Hp) (x y:V) (v u:Value) (Q:VK),Inv X pins σ H s->RelV x v->RelV y u->t x y H Q->
  wpAny 93 X.A (inplaceOp op v u) (EP X pins σ Q) X.xe s
variable{es:List Expr}{n:Nat}{tg:Expr}{te:TE}
section
variable{X:Cx}{pos:Pos}
def wg(i:Nat):TG:=λv σ H Q=>Q (σ.set i (some v)) H
theorem aK(hN:X.N.Nodup)(hi:X.N[i]? =some x)(hx:Loc X.env.scope x)(hf:X.fn x=true\/X.env.scope.names.lookup x=some .local:=by first | exact .inl rfl | exact .inr rfl | assumption):PG X (.Name x pos) (wg i):=by
 intro pins s σ H v u Q I r h
 exact wpAny_assign_Name (nE I hN hi hx r (λs' I'=>⟨_,H,I',h⟩) hf)
def Y8:OC:=λvs σ H Q=>vs=[]/\Q σ H
def Vq(t:TG)(u:OC):OC:=λvs σ H Q=>∃v r,vs=v::r/\t v σ H λσ' H'=>u r σ' H' Q
theorem g_:Vn X [] Y8:=by
 intro pins s σ H vs us Q I r h
 obtain ⟨e,h⟩:=h
 subst e
 cases r
 exact assignInOrder_nil ⟨σ,H,I,h⟩
theorem b_{t:TG}{u:OC}(h1:PG X e t)(h2:Vn X es u)
  (hs:(assignEach (e::es) X.env).map (·.2)=assign e X.env::(assignEach es X.env).map (·.2):=by rfl):Vn X (e::es) (Vq t u):=by
 intro pins s σ H vs us Q I r h
 obtain ⟨v,vr,e1,h⟩:=h
 subst e1
 cases r with
 | cons r rr=>
  rw[hs]
  refine assignInOrder_cons (cA (h1 pins s σ H _ _ _ I r h) λ_ s1 ⟨σ1,H1,I1,q1⟩=>?_)
  exact h2 pins s1 σ1 H1 _ _ Q I1 rr q1
def Vr(K:c7)(n:Nat)(t:OC):TG:=λv σ H Q=>∃a xs,v= .ref a/\bY K H a xs/\(xs:)=n/\t xs σ H Q
theorem Qa{k:Nat}{t:OC}(hc:X.calm=true)(h:Vn X es t)
  (hn:(assignEach es X.env:)=n:=by rfl) (qD:(assignEach es X.env).findIdx? (·.1)=none:=by rfl):PG X (.Tuple es k pos) (Vr X.K n t):=by
 intro pins s σ H v u Q I r hw
 obtain ⟨a,xs,e1,hq,hl,hw⟩:=hw
 subst e1
 cases r
 obtain ⟨aJ,rv,ht,hz⟩:=I.tuple hq
 refine assign_Tuple_tuple (I.ok.hd hc) ht (by simp[hn, <-hl,(rv:)]) qD λh' hx=>?_
 have I1:Inv X pins σ H { s with heap:=h' }:=I.kept (t':=s.toks) λb o e=>hx b o (Qa6 (Qay e)) e
 exact h pins _ σ H xs _ Q I1 (by simpa using rv) hw
def Y9(to ti:TE)(t:P_):TG:=λv σ H Q=>to σ H λo H1=>ti σ H1 λi H2=>t o i v H2 λH3=>Q σ H3
theorem Hw{o i:Expr}{to ti:TE}{t:P_}(ho:PE X o to)(hi:PE X i ti)(hs:Vo X t)
  (ha:∀v,assign (.Subscript o i pos) X.env v=(do
   let ov <-holding [v] (eval o X.env)
   let iv <-holding [v,ov] (eval i X.env)
   standAt pos
   holding [v,ov,iv] (setItem ov iv v)
   release [v,ov,iv] []):=by intro _;rfl):PG X (.Subscript o i pos) (Y9 to ti t):=by
 intro pins s σ H v u Q I r h
 rw[ha]
 refine wpAny_bind (wpAny_holding (cA (ho pins s σ H _ I h) λov s1 ⟨x,H1,I1,r1,q1⟩=>?_))
 refine wpAny_bind (wpAny_holding (cA (hi pins s1 σ H1 _ I1 q1) λiv s2 ⟨y,H2,I2,r2,q2⟩=>?_))
 refine wpAny_bind (wpAny_standAt (wpAny_bind (wpAny_holding (cA (hs pins s2 σ H2 x y v ov iv u _ I2 r1 r2 r q2) λ_ s3 ⟨H3,I3,q3⟩=>?_))))
 exact wpAny_release ⟨σ,H3,I3,q3⟩
def Hx(te:TE)(g:TG):TS:=λD σ H=>te σ H λx H1=>g x σ H1 D.nx
theorem Hy{g:TG}(he:PE X e te)(hg:PG X tg g)(hs:swapsWithSole [tg] e pos.line X.env=pure false:=by rfl)(hw:swappedStores [tg] e X.env=pure none:=by rfl)
  (h1:(assignEach [tg] X.env).map (·.2)=[assign tg X.env]:=by rfl):PS X (.Assign [tg] e pos) (Hx te g):=by
 walk_at"u"
 refine wpAny_Assign_stores (cA (he pins s σ H _ I h) λv s1 ⟨x,H1,I1,r1,q1⟩=>?_) hs hw
 rw[h1]
 exact cA (hg pins s1 σ H1 x v _ I1 r1 q1) λ_ s2 q=>q
theorem BN{pos':Pos}(hN:X.N.Nodup)(hi:X.N[i]? =some x)(hx:Loc X.env.scope x)(he:PE X e te)(hs:swapsWith e (some (.Name x pos')) pos.line X.env=pure false:=by rfl)(hf:X.fn x=true\/X.env.scope.names.lookup x=some .local:=by first | exact .inl rfl | exact .inr rfl | assumption):
  PS X (.Assign [.Name x pos'] e pos) (Hx te (wg i)):=by
 walk_at"u"
 refine wpAny_Assign_Name (cA (he pins s σ H _ I h) λv s1 ⟨y,H1,I1,r1,q1⟩=>?_) hs
 exact nE I1 hN hi hx r1 (λs2 I2=>⟨_,H1,I2,q1⟩) hf
def Y_(i:Nat)(te:TE)(ti:XY):TS:=λD σ H=>∃x,σ[i]? =some (some x)/\te σ H λy H1=>ti x y H1 λz H2=>D.nx (σ.set i (some z)) H2
theorem j5{op:Operator}{ti:XY}{pos':Pos}(hN:X.N.Nodup)(hi:X.N[i]? =some x)(hx:Loc X.env.scope x)(he:PE X e te)(ho:Vp X op ti)(hf:X.fn x=true\/X.env.scope.names.lookup x=some .local:=by first | exact .inl rfl | exact .inr rfl | assumption):
  PS X (.AugAssign (.Name x pos') op e pos) (Y_ i te ti):=by
 walk_at"u"
 obtain ⟨v,e1,h⟩:=h
 obtain ⟨m,hn,hl⟩:=I.loc
 have vis:Ve X.env.scope x:=by rcases hx with k | k;exact .inl k;exact .inr (.inl k)
 obtain ⟨u,r,l⟩:=hl i x v hi e1 vis
 refine wpAny_AugAssign_Name ?_
 have go:wpAny 93 X.A (eval e X.env) (λw s₂=>wpAny 93 X.A (inplaceOp op u w) (λr s₃=>wpAny 93 X.A (storeName X.env x r) (λ_=>SP X pins D .next) X.xe s₃) X.xe s₂) X.xe s:=by
  refine cA (he pins s σ H _ I h) λw s1 ⟨y,H1,I1,r1,q1⟩=>?_
  refine cA (ho pins s1 σ H1 v y u w _ I1 r r1 q1) λz s2 ⟨zv,H2,I2,r2,q2⟩=>?_
  exact nE I2 hN hi hx r2 (λs3 I3=>⟨_,H2,I3,q2⟩) hf
 rcases l with ⟨hk,hm⟩ | ⟨hk,c,hc,iO⟩
 ·exact wpAny_loadName_local I.ok.kind hk hn hm go
 ·rcases hk with hk | hk
  ·exact wpAny_loadName_cell I.ok.kind hk hc iO go
  ·rcases hx with k | k
   ·have:X.env.scope.names.lookup x=some .free:=hk
    rw[k]at this;cases this
   ·have:X.env.scope.names.lookup x=some .free:=hk
    rw[k]at this;cases this
def ipI(f:Int->Int->Int):XY:=λx y H Q=>∃i j,x= .int i/\y= .int j/\Q (.int (f i j)) H
theorem sF:Vp X .Add (ipI λi j=>i+j):=by
 intro pins s σ H x y v u Q I r1 r2 h
 obtain ⟨i,j,e1,e2,q⟩:=h
 subst e1;subst e2
 walk_at"T"
 obtain ⟨t',rfl⟩:=r2
 exact iadd_int ⟨.int _,H,I.tok _,⟨_,rfl⟩,q⟩
theorem Qb:Vp X .Sub (ipI λi j=>i - j):=by
 intro pins s σ H x y v u Q I r1 r2 h
 obtain ⟨i,j,e1,e2,q⟩:=h
 subst e1;subst e2
 walk_at"T"
 obtain ⟨t',rfl⟩:=r2
 exact isub_int ⟨.int _,H,I.tok _,⟨_,rfl⟩,q⟩
end
structure It where
 go:Nat->Hp->Prop
 G3:Nat->Hp->V->Hp->Prop
 stop:Nat->Hp->Prop
def qU(X:Cx)(pins:List 126)(H:Hp)(b:Addr):Prop:=
 H b=none/\b≠X.env.locals/\b∉X.fs/\(b∈X.ex\/X.s₀.heap.objs.size<=b)/\(∀x c,X.env.cells.lookup x=some c->c≠b)/\∀p∈X.pn++pins,p.1≠b
theorem Inv.sG{H':Hp}(I:Inv X pins σ H s)(hb:s.heap.objs.size<=b)(hn:H' b=none):qU X pins H' b:=by
 refine ⟨hn,Qd3 (Qbd I.lt hb),I.PX hb,.inr (Qbn I.sz hb),λx c e z=>?_,λp hp z=>?_⟩
 ·obtain ⟨v,q⟩:=I.cell x c e
  exact absurd (Qbd q.lt (by rw[z];exact hb)) (Qbw _)
 ·exact absurd (Qbd (Qay (I.pin p hp).1) (by rw[z];exact hb)) (Qbw _)
structure Turn(P:Program)(w:World)(K:c7)(tg:Expr)(J:It)(fp:List Addr)(it:Addr)(tn:Nat->Heap->Prop):Prop where
 mem:it∈fp
 obj:∀i h,tn i h->∀b∈fp,∃o,h.get? b=some o/\∀v,o.data≠ .cell v
 keep:∀i h h',tn i h->(∀b∈fp,∀o,h.get? b=some o->h'.get? b=some o)->tn i h'
 item:∀(X:Cx),X.prog=P->X.w=w->X.K=K->X.calm=true->∀(i:Nat) (pins:List 126) (s:Shared) (σ:St) (H:Hp) (E:Value->Shared->Prop),Inv X pins σ H s->(∀b∈fp,qU X pins H b)->tn i s.heap->J.go i H->
  wpAny (model P w) X.A (pyNext (.ref it)) (λr s1=>∃u,r=some u/\
   wpAny (model P w) X.A (letOwnedTupleGo tg (.ref it) u) (λ_ s2=>∃x H',Inv X pins σ H' s2/\RelV x u/\J.G3 i H x H'/\tn (i+1) s2.heap/\∀b∈fp,H' b=none) E s1) E s
 done:∀(X:Cx),X.prog=P->X.w=w->X.K=K->X.calm=true->∀(i:Nat) (pins:List 126) (s:Shared) (σ:St) (H:Hp) (E:Value->Shared->Prop),Inv X pins σ H s->(∀b∈fp,qU X pins H b)->tn i s.heap->J.stop i H->
  wpAny (model P w) X.A (pyNext (.ref it)) (λr s1=>r=none/\Inv X pins σ H s1) E s
 self:∀(A:Around) (i:Nat) (s:Shared) (Q:Value->Shared->Prop) (E:Value->Shared->Prop),tn i s.heap->Q (.ref it) s->wpAny (model P w) A (pyIter (.ref it)) Q E s
abbrev TI:=St->Hp->(It->Hp->Prop)->Prop
def PIE(X:Cx)(pins:List 126)(σ:St)(tg:Expr)(R:It->Hp->Prop)(Za:Value)(s2:Shared):Prop:=
 ∃(it:Addr) (fp:List Addr) (tn:Nat->Heap->Prop) (J:It) (H':Hp),Za= .ref it/\Inv X pins σ H' s2/\Turn X.prog X.w X.K tg J fp it tn/\tn 0 s2.heap/\(∀b∈fp,qU X pins H' b)/\R J H'
def PI(X:Cx)(tg iter:Expr)(wi:TI):Prop:=
 ∀(pins:List 126) (s:Shared) (σ:St) (H:Hp) (R:It->Hp->Prop),Inv X pins σ H s->wi σ H R->
  wpAny 93 X.A (eval iter X.env) (λv s1=>wpAny 93 X.A (pyIter v) (PIE X pins σ tg R) X.xe s1) X.xe s
theorem zS{o:Obj}{n:String}{vs:Array Value}{Q:Unit->Shared->Prop}(ho:s.heap.get? it=some o)(hc:o.cls= .type n)(hd:o.data= .fields vs)
  (hn:["enumerate","zip","dict_itemiterator","dict_reverseitemiterator","odict_iterator","itertools.zip_longest","itertools.pairwise"].contains n=false) (hQ:Q Unit.unit s):wpAny M A (letOwnedTupleGo tg (.ref it) u) Q E s:=by
 unfold letOwnedTupleGo
 cases tg<;>first
  | exact wpAny_pure hQ
  |(cases u<;>first
    | exact wpAny_pure hQ
    |(refine wpAny_bind (wpAny_load ho ?_)
      rw[hc,hd]
      show wpAny M A (if (["enumerate","zip","dict_itemiterator","dict_reverseitemiterator","odict_iterator","itertools.zip_longest","itertools.pairwise"].contains n&&vs[0]? ==some (rawInt _))=true then _ else _) Q E s
      rw[if_neg (by intro h;rw[hn,Bool.false_and]at h;cases h)]
      exact wpAny_pure hQ))
noncomputable def S9(K:c7)(a:Addr):It:=
 ⟨λi H=>∃xs x,bC K H a xs/\xs[i]? =some x,λi H x H'=>H'=H/\∀xs,bC K H a xs->xs[i]? =some x,λi H=>∃xs,bC K H a xs/\(xs:)<=i⟩
noncomputable def Zb(K:c7)(a:Addr):It:=
 ⟨λi H=>∃xs x,bY K H a xs/\xs[i]? =some x,λi H x H'=>H'=H/\∀xs,bY K H a xs->xs[i]? =some x,λi H=>∃xs,bY K H a xs/\(xs:)<=i⟩
noncomputable def OD(lo:Int)(n:Nat):It:=⟨λi _=>i<n,λi H x H'=>H'=H/\x= .int (lo+i),λi _=>n<=i⟩
theorem Fi{P:Program}{w:World}(a it:Addr):Turn P w K tg (S9 K a) [it] it (λi h=>h.IsListIter it a i) where
 mem:=by simp
 obj:=λi h st b hb=>by
  have e:b=it:=by simpa using hb
  subst e
  obtain ⟨o,e,c,d⟩:=st
  walk_at"X"
 keep:=λi h h' st k=>st.at λo e=>k it (by simp) o e
 item:=by
  walk_at"a"
  subst hP hw hK
  obtain ⟨xs,x,hq,hx⟩:=hg
  obtain ⟨aJ,rv,p,hz⟩:=I.list hq
  obtain ⟨u,hu,ru⟩:=rv.get hx
  walk_at"f"
  refine wpAny_pyNext_list_item st p.isList (x:=u) (by simpa using hu) λh' aT sb=>?_
  walk_at"U"
  obtain ⟨o,e,c,d⟩:=id aT
  exact ⟨u,rfl,zS (s:={ s with heap:=h' }) e c d ∅ ⟨x,H,I1,ru,⟨rfl,λys hy=>by rw[I.zR hy hq];exact hx⟩,aT,λb hb=>(hf b hb).1⟩⟩
 done:=by
  walk_at"a"
  subst hP hw hK
  obtain ⟨xs,hq,hx⟩:=hg
  obtain ⟨aJ,rv,p,hz⟩:=I.list hq
  walk_at"f"
  have hl:=(rv:)
  exact wpAny_pyNext_list_end (I.ok.hd hc) st p.isList (by simp;lia) λh' eb=>⟨rfl,I.turned (t':=s.toks) (λb o hb e=>eb b o hb e) f0 f1 f3 f4 f5⟩
 self:=λ_ _ _ _ _ st h=>wpAny_pyIter_listiter st h
theorem BO{P:Program}{w:World}(a it:Addr):Turn P w K tg (Zb K a) [it] it (λi h=>h.IsTupleIter it a i) where
 mem:=by simp
 obj:=λi h st b hb=>by
  have e:b=it:=by simpa using hb
  subst e
  obtain ⟨o,e,c,d⟩:=st
  walk_at"X"
 keep:=λi h h' st k=>st.at λo e=>k it (by simp) o e
 item:=by
  walk_at"a"
  subst hP hw hK
  obtain ⟨xs,x,hq,hx⟩:=hg
  obtain ⟨aJ,rv,p,hz⟩:=I.tuple hq
  obtain ⟨u,hu,ru⟩:=rv.get hx
  walk_at"f"
  refine wpAny_pyNext_tuple_item st (show s.heap.IsTuple a aJ.toArray from p) (x:=u) (by simpa using hu) λh' aT sb=>?_
  walk_at"U"
  obtain ⟨o,e,c,d⟩:=id aT
  exact ⟨u,rfl,zS (s:={ s with heap:=h' }) e c d ∅ ⟨x,H,I1,ru,⟨rfl,λys hy=>by rw[I.ph hy hq];exact hx⟩,aT,λb hb=>(hf b hb).1⟩⟩
 done:=by
  walk_at"a"
  subst hP hw hK
  obtain ⟨xs,hq,hx⟩:=hg
  obtain ⟨aJ,rv,p,hz⟩:=I.tuple hq
  walk_at"f"
  have hl:=(rv:)
  exact wpAny_pyNext_tuple_end (I.ok.hd hc) st (show s.heap.IsTuple a aJ.toArray from p) (by simp;lia) λh' eb=>⟨rfl,I.turned (t':=s.toks) (λb o hb e=>eb b o hb e) f0 f1 f3 f4 f5⟩
 self:=λ_ _ _ _ _ st h=>wpAny_pyIter_tupleiter st h
theorem BP{P:Program}{w:World}(it:Addr)(lo:Int)(n:Nat):Turn P w K tg (OD lo n) [it] it (λi h=>IsRangeIter h it (lo+(i:Nat)*1) ((n:Int) - (i:Nat)) 1) where
 mem:=by simp
 obj:=λi h st b hb=>by
  have e:b=it:=by simpa using hb
  subst e
  exact ⟨_,st,λv z=>by
   have z':Data.fields _=Data.cell v:=z
   cases z'⟩
 keep:=λi h h' st k=>k it (by simp) _ st
 item:=by
  walk_at"a"
  subst hP hw hK
  walk_at"f"
  have W:=Walks.range (prog:=X.prog) (w:=X.w) (I.ok.hd hc) it lo 1 n
  refine W.item i s _ _ hg st λv h' tk hv aT kk=>?_
  obtain ⟨t,rfl⟩:=hv
  walk_at"R"
  refine ⟨_,rfl,zS (s:={ s with heap:=h',toks:=tk }) (n:="range_iterator") aT rfl rfl ∅ ⟨.int (lo+i),H,I1,⟨t,?_⟩,⟨rfl,rfl⟩,aT,λb hb=>(hf b hb).1⟩⟩
  rw[Int.mul_one]
 done:=by
  walk_at"a"
  subst hP hw hK
  walk_at"f"
  exact wpAny_pyNext_range_end (I.ok.hd hc) st (by have:n<=i:=hg;lia) λh' eb=>⟨rfl,I.turned (t':=s.toks) (λb o hb e=>eb b o hb e) f0 f1 f3 f4 f5⟩
 self:=λ_ _ _ _ _ st h=>wpAny_pyIter_rangeiter st h
variable{l:Expr}{p pos:Pos}{fp:List Addr}{body:List Stmt}{tb:TS}
section
variable{X:Cx}{tg:Expr}
def OE(K:c7)(tl:TE):TI:=λσ H R=>tl σ H λx H1=>∃a,x= .ref a/\(∃xs,bC K H1 a xs)/\R (S9 K a) H1
def Vs(K:c7)(tl:TE):TI:=λσ H R=>tl σ H λx H1=>∃a,x= .ref a/\(∃xs,bY K H1 a xs)/\R (Zb K a) H1
theorem L3{tl:TE}(hl:PE X l tl):PI X tg l (OE X.K tl):=by
 walk_at"K"
 walk_at"S"
 obtain ⟨a,e,⟨xs,hq⟩,q⟩:=q1
 subst e
 cases r1
 obtain ⟨aJ,rv,p,hz⟩:=I1.list hq
 refine wpAny_pyIter_list p.isList ?_
 refine ⟨s1.heap.objs.size,[s1.heap.objs.size],_,_,H1,rfl,I1.kept (t':=s1.toks) λb o e=>Ta _ e,Fi a _,⟨_,Qau _ rfl,rfl,rfl⟩,λb hb=>?_,q⟩
 have e:b=s1.heap.objs.size:=by simpa using hb
 subst e
 walk_at"H"
theorem Qc{tl:TE}(hl:PE X l tl):PI X tg l (Vs X.K tl):=by
 walk_at"K"
 walk_at"S"
 obtain ⟨a,e,⟨xs,hq⟩,q⟩:=q1
 subst e
 cases r1
 obtain ⟨aJ,rv,p,hz⟩:=I1.tuple hq
 refine wpAny_pyIter_tuple (show s1.heap.IsTuple a aJ.toArray from p) ?_
 refine ⟨s1.heap.objs.size,[s1.heap.objs.size],_,_,H1,rfl,I1.kept (t':=s1.toks) λb o e=>Ta _ e,BO a _,⟨_,Qau _ rfl,rfl,rfl⟩,λb hb=>?_,q⟩
 have e:b=s1.heap.objs.size:=by simpa using hb
 subst e
 walk_at"H"
theorem zT{R:It->Hp->Prop}{lo hi:Int}{t u v:Tok}{tk:Nat}(I:Inv X pins σ H s)(h1: -(2 ^ 62)<=lo)(h2:lo<2 ^ 62)(h3: -(2 ^ 62)<=hi)(h4:hi<2 ^ 62)
  (q:R (OD lo (hi - lo).toNat) H):wpAny 93 X.A (pyIter (.ref s.heap.objs.size)) (PIE X pins σ tg R) E { s with heap:=s.heap.push { cls:= .type "range",data:= .fields #[.int lo t,.int hi u,.int 1 v] },toks:=tk }:=by
 refine wpAny_pyIter_range (IsRange.new ..) (small_one h1 h2 h3 h4) ?_
 have I1:Inv X pins σ H { s with heap:=s.heap.push { cls:= .type "range",data:= .fields #[.int lo t,.int hi u,.int 1 v] },toks:=tk }:=I.kept λb o e=>Ta _ e
 refine ⟨(s.heap.push { cls:= .type "range",data:= .fields #[.int lo t,.int hi u,.int 1 v] }).objs.size,[(s.heap.push { cls:= .type "range",data:= .fields #[.int lo t,.int hi u,.int 1 v] }).objs.size],_,_,H,rfl,
  I1.kept (t':=tk) λb o e=>Ta _ e,BP _ lo (hi - lo).toNat,?_,λb hb=>?_,q⟩
 ·have e1:lo+((0:Nat):Int)*1=lo:=by simp
  have e2:(((hi - lo).toNat:Nat):Int) - ((0:Nat):Int)=Builtin.Range.rangeSize lo hi 1:=by rw[rangeSize_one];split<;>lia
  show IsRangeIter _ _ (lo+((0:Nat):Int)*1) ((((hi - lo).toNat:Nat):Int) - ((0:Nat):Int)) 1
  rw[e1,e2]
  exact Qau _ rfl
 ·have e:b=(s.heap.push { cls:= .type "range",data:= .fields #[.int lo t,.int hi u,.int 1 v] }).objs.size:=by simpa using hb
  subst e
  walk_at"H"
def Vt(ta:TA):TI:=λσ H R=>ta σ H λvs H1=>∃j:Int,vs=[.int j]/\ -(2 ^ 62)<=j/\j<2 ^ 62/\R (OD 0 j.toNat) H1
def Vu(ta:TA):TI:=λσ H R=>ta σ H λvs H1=>∃i j:Int,vs=[.int i,.int j]/\(-(2 ^ 62)<=i/\i<2 ^ 62/\ -(2 ^ 62)<=j/\j<2 ^ 62)/\R (OD i (j - i).toNat) H1
theorem gu{a:Expr}{ta:TA}(hg:Gl X "range")(hm:X.mg "range"=none)(ha:PA X [a] ta)(hs:starEach [a] X.env=[(false,eval a X.env)]:=by rfl):PI X tg (.Call (.Name "range" p) [a] [] pos) (Vt ta):=by
 walk_at"K"
 refine Call_ (iA I hg hm boot_range (Qcc (cA (ha pos pins s σ H _ I h) λus s1 ⟨vs,H1,I1,r1,q1⟩=>?_) hs rfl))
 obtain ⟨j,e,q1,q2,q⟩:=q1
 subst e
 cases r1 with
 | cons r rr=>
  cases rr
  obtain ⟨t,rfl⟩:=r
  exact call_range_1 (zT I1 () () q1 q2 (by simpa using q))
theorem wj{a b:Expr}{ta:TA}(hg:Gl X "range")(hm:X.mg "range"=none)(ha:PA X [a,b] ta)(hs:starEach [a,b] X.env=[(false,eval a X.env),(false,eval b X.env)]:=by rfl)(Lv:starEach [b] X.env=[(false,eval b X.env)]:=by rfl):
  PI X tg (.Call (.Name "range" p) [a,b] [] pos) (Vu ta):=by
 walk_at"K"
 refine Call_ (iA I hg hm boot_range (Qcc (cA (ha pos pins s σ H _ I h) λus s1 ⟨vs,H1,I1,r1,q1⟩=>?_) (by rw[hs,Lv]) (by rw[Lv];rfl)))
 obtain ⟨i,j,e,⟨q1,q2,q3,q4⟩,q⟩:=q1
 subst e
 cases r1 with
 | cons r rr=>
  cases rr with
  | cons r' rr=>
   cases rr
   obtain ⟨t,rfl⟩:=r
   obtain ⟨t',rfl⟩:=r'
   exact call_range_2 (zT I1 q1 q2 q3 q4 q)
def Zc(wi:TI)(g:TG)(tb:TS):TS:=λD σ H=>wi σ H λJ H1=>∃W:Nat->Nat->St->Hp->Prop,(∃m,W 0 m σ H1)/\∀i m σ H,W i m σ H->(J.stop i H/\D.nx σ H)\/(J.go i H/\∃N:St->Hp->Prop,135/\∀x H',J.G3 i H x H'->g x σ H' λσ2 H2=>tb { D with nx:=N,ct:=N,bk:=D.nx } σ2 H2)
noncomputable def sH(fp:List Addr)(h:Heap):List 126:=fp.filterMap λb=>(h.get? b).map λo=>(b,o)
theorem jh{o:Obj}(hb:b∈fp)(e:h.get? b=some o):(b,o)∈sH fp h:=List.mem_filterMap.mpr ⟨b,hb,by rw[e];rfl⟩
theorem Fj{p:Addr×Obj}(hp:p∈sH fp h):p.1∈fp/\h.get? p.1=some p.2:=by
 obtain ⟨b,hb,e⟩:=List.mem_filterMap.mp hp
 cases q:h.get? b with
 | none=>rw[q]at e;cases e
 | some o=>
  rw[q]at e
  have e':(b,o)=p:=Qal e
  subst e'
  exact ⟨hb,q⟩
theorem Inv.pinned(I:Inv X pins σ H s)(hf:∀b∈fp,qU X pins H b)(ho:∀b∈fp,∃o,s.heap.get? b=some o/\∀v,o.data≠ .cell v):Inv X (pins++sH fp s.heap) σ H s:=
 I.nC λp hp=>(Qan.mp hp).elim (λz=>I.pin p (Qa3 _ z)) λz=>by
  obtain ⟨hb,e⟩:=Fj z
  obtain ⟨f0,f1,f2,_⟩:=hf p.1 hb
  obtain ⟨o,e',d⟩:=ho p.1 hb
  rw[e]at e';cases e'
  exact ⟨e,f0,f1,f2,d⟩
theorem Inv.j6{pl:List 126}(I:Inv X (pins++pl) σ H s):Inv X pins σ H s:=I.nC λp hp=>I.pin p (Qa3 _ (Qcj _ hp))
theorem cJ{iter:Expr}{wi:TI}{g:TG}(hp:PassesOwn 93 X.A X.env X.xe)(hc:X.calm=true)(hi:PI X tg iter wi)(hg:PG X tg g)(hb:zQ X body tb)
  (hs:∀x,foldedSetIterable iter X.env x=pure x:=by intro _;rfl):PS X (.For tg iter body [] pos) (Zc wi g tb):=by
 walk_at"u"
 refine wpAny_For (cA (hi pins s σ H _ I h) λv s1 h1=>cA h1 λZa s2 h2=>?_) hs
 obtain ⟨it,fp,tn,J,H2,e,I2,T,jB,f2,W,⟨m0,w0⟩,turn⟩:=h2
 subst e
 -- aaE stays true of Lw Qd objects through Lw loop
 have Qe:∀{H':Hp},(∀b∈fp,H' b=none)->∀b∈fp,qU X pins H' b:=λhn b hb=>⟨hn b hb,(f2 b hb).2⟩
 refine codeAny_forLoop_any (λn s'=>∃i σ' H',Inv X pins σ' H' s'/\tn i s'.heap/\(∀b∈fp,H' b=none)/\W i n σ' H') ?_ m0 ⟨0,σ,H2,I2,jB,λb hb=>(f2 b hb).1,w0⟩
 rintro n s3 ⟨i,σ3,H3,I3,BF,Vv,w3⟩
 rcases turn i n σ3 H3 w3 with ⟨stop,qn⟩ | ⟨go,N,hN,step⟩
 ·refine wpAny_passesOwn hp (cA (T.done X rfl rfl rfl hc i pins s3 σ3 H3 X.xe I3 (Qe Vv) BF stop) λr s4 ⟨hr,I4⟩=>?_)
  subst hr
  exact wpAny_execs_nil ⟨σ3,H3,I4,qn⟩
 ·refine wpAny_passesOwn hp (cA (T.item X rfl rfl rfl hc i pins s3 σ3 H3 X.xe I3 (Qe Vv) BF go) λr s4 ⟨u,hr,h4⟩=>?_)
  subst hr
  refine wpAny_passesOwn hp (cA h4 λ_ s5 ⟨x,H5,I5,r5,y5,o5,Zd⟩=>?_)
  have Ze:=I5.pinned (Qe Zd) (T.obj _ _ o5)
  refine wpAny_passesOwn hp (cA (hg _ s5 σ3 H5 x u _ Ze r5 (step x H5 y5)) λ_ s6 ⟨σ6,H6,I6,q6⟩=>?_)
  refine wpAny_passesOwn hp (cA (hb _ s6 σ6 H6 _ I6 q6) λf s7 q7=>?_)
  have again:∀{σ7:St} {H7:Hp},Inv X (pins++sH fp s5.heap) σ7 H7 s7->N σ7 H7->∃m,m<n/\∃i σ' H',Inv X pins σ' H' s7/\tn i s7.heap/\(∀b∈fp,H' b=none)/\W i m σ' H':=λ{σ7 H7} I7 n7=>by
   obtain ⟨m',hm,w7⟩:=hN σ7 H7 n7
   refine ⟨m',hm,i+1,σ7,H7,I7.j6,T.keep _ _ _ o5 λb hb o e=>(I7.pin (b,o) (Qa3 _ (Qa3 _ (jh hb e)))).1,λb hb=>?_,w7⟩
   obtain ⟨o,e,d⟩:=T.obj _ _ o5 b hb
   exact (I7.pin (b,o) (Qa3 _ (Qa3 _ (jh hb e)))).2.1
  cases f with
  | next=>obtain ⟨σ7,H7,I7,n7⟩:=q7;exact again I7 n7
  | cont=>obtain ⟨σ7,H7,I7,n7⟩:=q7;exact again I7 n7
  | brk=>obtain ⟨σ7,H7,I7,q7⟩:=q7;exact ⟨σ7,H7,I7.j6,q7⟩
  | ret v=>obtain ⟨x7,σ7,H7,I7,r7,q7⟩:=q7;exact ⟨x7,σ7,H7,I7.j6,r7,q7⟩
end
theorem fM{g:TG}(Pv:Nat->St->Hp->Prop)(h0:Pv 0 σ H)(hl:∀i σ H,i<=(xs:)->Pv i σ H->bC K H a xs)
  (hs:∀i x σ H,xs[i]? =some x->Pv i σ H->g x σ H λσ2 H2=>tb { D with nx:=Pv (i+1),ct:=Pv (i+1),bk:=D.nx } σ2 H2) (hd:∀σ H,Pv (xs:) σ H->D.nx σ H):
  ∃W:Nat->Nat->St->Hp->Prop,(∃m,W 0 m σ H)/\∀i m σ H,W i m σ H->
   ((S9 K a).stop i H/\D.nx σ H)\/((S9 K a).go i H/\∃N:St->Hp->Prop,135/\∀x H',(S9 K a).G3 i H x H'->g x σ H' λσ2 H2=>tb { D with nx:=N,ct:=N,bk:=D.nx } σ2 H2):=by
 walk_at"d"
 rintro i m σ H ⟨rfl,hi,p⟩
 have q:=hl i σ H hi p
 by_cases cH:i<(xs:)
 ·refine .inr ⟨⟨xs,xs[i],q,by simp[cH]⟩,Pv (i+1),λσ' H' p'=>⟨(xs:) - (i+1),(),rfl,cH,p'⟩,λx H' y=>?_⟩
  obtain ⟨e,y⟩:=y
  subst e
  exact hs i x σ _ (y xs q) p
 ·have e:i=(xs:):=by lia
  subst e
  exact .inl ⟨⟨xs,q,Qad _⟩,hd σ H p⟩
theorem gw{lo:Int}{g:TG}(Pv:Nat->St->Hp->Prop)(h0:Pv 0 σ H)
  (hs:∀i σ H,i<n->Pv i σ H->g (.int (lo+i)) σ H λσ2 H2=>tb { D with nx:=Pv (i+1),ct:=Pv (i+1),bk:=D.nx } σ2 H2) (hd:∀σ H,Pv n σ H->D.nx σ H):
  ∃W:Nat->Nat->St->Hp->Prop,(∃m,W 0 m σ H)/\∀i m σ H,W i m σ H->
   ((OD lo n).stop i H/\D.nx σ H)\/((OD lo n).go i H/\∃N:St->Hp->Prop,135/\∀x H',(OD lo n).G3 i H x H'->g x σ H' λσ2 H2=>tb { D with nx:=N,ct:=N,bk:=D.nx } σ2 H2):=by
 refine ⟨λi m σ H=>m=n - i/\i<=n/\Pv i σ H,⟨n,by simp,Qax _,h0⟩,?_⟩
 rintro i m σ H ⟨rfl,hi,p⟩
 by_cases cH:i<n
 ·refine .inr ⟨cH,Pv (i+1),λσ' H' p'=>⟨n - (i+1),(),rfl,cH,p'⟩,λx H' y=>?_⟩
  obtain ⟨e,y⟩:=y
  subst e y
  exact hs i σ _ cH p
 ·have e:i=n:=by lia
  subst e
  exact .inl ⟨Qad _,hd σ H p⟩
abbrev R2:=V->V->Hp->VK->Prop
def jY(X:Cx)(f:Value->Value->Sem Value)(r:R2):Prop:=
 ∀(pins:List 126) (s:Shared) (σ:St) (H:Hp) (x y:V) (v u:Value) (Q:VK),Inv X pins σ H s->RelV x v->RelV y u->r x y H Q->
  wpAny 93 X.A (f v u) (EP X pins σ Q) X.xe s
def Zf(X:Cx)(f:Value->Sem Value)(r:V->Hp->VK->Prop):Prop:=
 ∀(pins:List 126) (s:Shared) (σ:St) (H:Hp) (x:V) (v:Value) (Q:VK),Inv X pins σ H s->RelV x v->r x H Q->
  wpAny 93 X.A (f v) (EP X pins σ Q) X.xe s
def dA(X:Cx)(f:Value)(r:List V->Hp->VK->Prop):Prop:=
 ∀(pins:List 126) (s:Shared) (σ:St) (H:Hp) (xs:List V) (us:List Value) (Q:VK),Inv X pins σ H s->Vals xs us->r xs H Q->
  wpAny 93 X.A (call f us) (EP X pins σ Q) X.xe s
def Zg(X:Cx)(r:V->Hp->(Bool->Hp->Prop)->Prop):Prop:=
 ∀(pins:List 126) (s:Shared) (σ:St) (H:Hp) (x:V) (v:Value) (Q:Bool->Hp->Prop),Inv X pins σ H s->RelV x v->r x H Q->
  wpAny 93 X.A (truthy v) (TP X pins σ Q) X.xe s
def XZ(r:R2)(ta tb:TE):TE:=λσ H Q=>ta σ H λx H1=>tb σ H1 λy H2=>r x y H2 Q
def tUn(r:V->Hp->VK->Prop)(ta:TE):TE:=λσ H Q=>ta σ H λx H1=>r x H1 Q
def rI(C:Int->Int->Prop)(g:Int->Int->V):R2:=λx y H Q=>I2 x y H λi j H=>C i j/\Q (g i j) H
def L4(g:Int->Int->V):R2:=λx y H Q=>I2 x y H λi j H=>Q (g i j) H
def rU(g:Int->V):V->Hp->VK->Prop:=λx H Q=>∃i,x= .int i/\Q (g i) H
variable{g:Int->Int->Int}{r:R2}{f:Value->Value->Sem Value}
section
variable{X:Cx}{a b c:Expr}{ta tb tc:TE}{pos:Pos}
theorem Qf(ha:PE X a ta)(hb:PE X b tb){R:V->V->Hp->Prop}(I:Inv X pins σ H s)
  (h:ta σ H λx H1=>tb σ H1 λy H2=>R x y H2) {Q:Value->Shared->Prop} {f:Value->Value->Sem Value}
  (hf:∀v u s2 x y H2,Inv X pins σ H2 s2->RelV x v->RelV y u->R x y H2->wpAny 93 X.A (f v u) Q X.xe s2):
  wpAny 93 X.A (eval a X.env) (λv s₁=>wpAny 93 X.A (eval b X.env) (λu s₂=>wpAny 93 X.A (f v u) Q X.xe s₂) X.xe s₁) X.xe s:=by
 refine cA (ha pins s σ H _ I h) λv s1 ⟨x,H1,I1,r1,q1⟩=>?_
 refine cA (hb pins s1 σ H1 _ I1 q1) λu s2 ⟨y,H2,I2,r2,q2⟩=>?_
 exact hf v u s2 x y H2 I2 r1 r2 q2
theorem aC{op:Operator}(ho:jY X (binaryOp op) r)(ha:PE X a ta)(hb:PE X b tb):PE X (.BinOp a op b pos) (XZ r ta tb):=by
 walk_at"h"
 exact wpAny_BinOp (Qf ha hb I h λv u s2 x y H2 I2 rx ry q=>ho pins s2 σ H2 x y v u Q I2 rx ry q)
theorem wm{op:UnaryOp}{r:V->Hp->VK->Prop}(ho:Zf X (unaryOp op) r)(ha:PE X a ta):PE X (.UnaryOp op a pos) (tUn r ta):=by
 walk_at"h"
 exact UnaryOp_ (cA (ha pins s σ H _ I h) λv s1 ⟨x,H1,I1,r1,q1⟩=>ho pins s1 σ H1 x v Q I1 r1 q1)
theorem X0{C:Int->Int->Prop}
  (rule:∀(i j:Int) (t u:Tok) (s:Shared) (Q:Value->Shared->Prop) (E:Value->Shared->Prop),C i j->Q (.int (g i j) s.toks) { s with toks:=s.toks+1 }->wpAny 93 X.A (f (.int i t) (.int j u)) Q E s):
  jY X f (rI C λi j=> .int (g i j)):=by
 walk_at"b"
 obtain ⟨i,j,rfl,rfl,hc,q⟩:=h
 walk_at"g"
 walk_at"Y"
 exact rule i j t t' s _ _ hc ⟨.int (g i j),H,I.tok _,⟨_,rfl⟩,q⟩
theorem Vw
  (rule:∀(i j:Int) (t u:Tok) (s:Shared) (Q:Value->Shared->Prop) (E:Value->Shared->Prop),Q (.int (g i j) s.toks) { s with toks:=s.toks+1 }->wpAny 93 X.A (f (.int i t) (.int j u)) Q E s):
  jY X f (L4 λi j=> .int (g i j)):=by
 walk_at"b"
 obtain ⟨i,j,rfl,rfl,q⟩:=h
 walk_at"g"
 walk_at"Y"
 exact rule i j t t' s _ _ ⟨.int (g i j),H,I.tok _,⟨_,rfl⟩,q⟩
theorem L5{g:Int->Int->Bool}
  (rule:∀(i j:Int) (t u:Tok) (s:Shared) (Q:Value->Shared->Prop) (E:Value->Shared->Prop),Q (.bool (g i j)) s->wpAny 93 X.A (f (.int i t) (.int j u)) Q E s):
  jY X f (L4 λi j=> .bl (g i j)):=by
 walk_at"b"
 obtain ⟨i,j,rfl,rfl,q⟩:=h
 walk_at"g"
 walk_at"Y"
 exact rule i j t t' s _ _ ⟨.bl (g i j),H,I,rfl,q⟩
def Zh(i j:Int):Prop:=0<j/\j<1073741824
def Zi(i j:Int):Prop:=0<=j/\j<=1000000/\i.natAbs<2 ^ 64
def BQ(i j:Int):Prop:=(-(2 ^ 64)<i/\i<2 ^ 64)\/(-(2 ^ 64)<j/\j<2 ^ 64)
theorem BQ.ok{i j:Int}(h:BQ i j):IntMulOk i j:=by
 rcases h with ⟨h1,h2⟩ | ⟨h1,h2⟩
 ·exact .of_left (intBits_le_64 h1 h2)
 ·exact .of_right (intBits_le_64 h1 h2)
theorem bu:jY X (binaryOp .Add) (L4 λi j=> .int (i+j)):=Vw λ_ _ _ _ _ _ _ q=>add_int q
theorem cP:jY X (binaryOp .Sub) (L4 λi j=> .int (i - j)):=Vw λ_ _ _ _ _ _ _ q=>sub_int q
theorem fW:jY X (binaryOp .Mult) (rI BQ λi j=> .int (i*j)):=X0 λ_ _ _ _ _ _ _ hc q=>mul_int q hc.ok
theorem eW:jY X (binaryOp .Mod) (rI (λ_ j=>0<j) λi j=> .int (i%j)):=X0 λi j _ _ _ _ _ hc q=>by
 have h1:(0:Int)<j:=hc
 exact mod_int' () (by rw[Int.fmod_eq_emod_of_nonneg i ()];exact q)
theorem Hz:jY X (binaryOp .Pow) (rI Zi λi j=> .int (i ^ j.toNat)):=X0 λ_ _ _ _ _ _ _ hc q=>pow_int_small hc.1 hc.2.1 hc.2.2 q
theorem unI{f:Value->Sem Value}{g:Int->Int}
  (rule:∀(i:Int) (t:Tok) (s:Shared) (Q:Value->Shared->Prop) (E:Value->Shared->Prop),Q (.int (g i) s.toks) { s with toks:=s.toks+1 }->wpAny 93 X.A (f (.int i t)) Q E s):
  Zf X f (rU λi=> .int (g i)):=by
 intro pins s σ H x v Q I rx h
 obtain ⟨i,rfl,q⟩:=h
 walk_at"g"
 exact rule i t s _ _ ⟨.int (g i),H,I.tok _,⟨_,rfl⟩,q⟩
theorem pj:Zf X (unaryOp .USub) (rU λi=> .int (-i)):=unI λ_ _ _ _ _ q=>neg_int q
end
noncomputable def Vx:V->V->Bool
 | .g7,.g7=>true | .g7,.int _=>true | .int _,.g7=>true | .g7,.bl _=>true | .bl _,.g7=>true | .g7,.str _=>true | .str _,.g7=>true
 | .int _,.int _=>true | .bl _,.bl _=>true | .str _,.str _=>true | .Dw _, .Dw _=>true
 | .int _,.str _=>true | .str _,.int _=>true | .bl _,.str _=>true | .str _,.bl _=>true
 | _,_=>false
def rEq:R2:=λx y H Q=>Vx x y=true/\Q (.bl (decide (x=y))) H
def rNe:R2:=λx y H Q=>Vx x y=true/\Q (.bl (!decide (x=y))) H
theorem DC{i j:Int}:decide (V.int i=V.int j)=(i==j):=by
 rw[Qew]
 simp
theorem HA{i j:Bool}:decide (V.bl i=V.bl j)=(i==j):=by
 rw[Qew]
 simp
theorem DD{i j:Str}:decide (V.str i=V.str j)=(i==j):=by
 rw[Qew]
 simp
theorem DE{i j:Array UInt8}:decide (V.Dw i=V.Dw j)=(i.toList==j.toList):=by
 rw[Qew]
 cases i
 cases j
 simp
variable{op:CmpOp}
section
variable{X:Cx}{a b c:Expr}{ta tb tc:TE}{pos:Pos}
theorem bz{Q:VK}{k k':Bool}(I:Inv X pins σ H s)(q:Q (.bl k) H)(e:k=k'):EP X pins σ Q (.bool k') s:=by
 subst e
 exact ⟨.bl k,H,I,rfl,q⟩
theorem HB:jY X (compareOp .Eq) rEq:=by
 walk_at"b"
 obtain ⟨hs,q⟩:=h
 cases x with
 | g7=>
  cases rx
  cases y with
  | g7=>cases ry;exact PySem.EqNone.eq_none_none 136
  | bl j=>cases ry;exact PySem.EqNone.eq_none_bool 136
  | int j=>obtain ⟨t',rfl⟩:=ry;exact PySem.EqNone.eq_none_int 136
  | str j=>obtain ⟨t',rfl⟩:=ry;exact PySem.EqNone.eq_none_str 136
  | _=>exact absurd (show false=true from hs) Qba
 | bl i=>
  cases rx
  cases y with
  | g7=>cases ry;exact PySem.EqNone.eq_bool_none 136
  | bl j=>cases ry;exact eq_bool (bz I q HA)
  | str j=>obtain ⟨t',rfl⟩:=ry;exact PySem.EqMixed.eq_bool_str 136
  | _=>exact absurd (show false=true from hs) Qba
 | int i=>
  walk_at"g"
  cases y with
  | g7=>cases ry;exact PySem.EqNone.eq_int_none 136
  | int j=>obtain ⟨t',rfl⟩:=ry;exact eq_int (bz I q DC)
  | str j=>obtain ⟨t',rfl⟩:=ry;exact PySem.EqMixed.eq_int_str 136
  | _=>exact absurd (show false=true from hs) Qba
 | str i=>
  walk_at"g"
  cases y with
  | g7=>cases ry;exact PySem.EqNone.eq_str_none 136
  | bl j=>cases ry;exact PySem.EqMixed.eq_str_bool 136
  | int j=>obtain ⟨t',rfl⟩:=ry;exact PySem.EqMixed.eq_str_int 136
  | str j=>obtain ⟨t',rfl⟩:=ry;exact eq_str (bz I q DD)
  | _=>exact absurd (show false=true from hs) Qba
 | Dw i=>
  walk_at"g"
  cases y with
  | Dw j=>obtain ⟨t',rfl⟩:=ry;exact PySem.W.eq_bytes (bz I q DE)
  | _=>exact absurd (show false=true from hs) Qba
 | _=>cases y<;>exact absurd (show false=true from hs) Qba
theorem OF:jY X (compareOp .NotEq) rNe:=by
 walk_at"b"
 obtain ⟨hs,q⟩:=h
 cases x with
 | g7=>
  cases rx
  cases y with
  | g7=>cases ry;exact PySem.EqNone.ne_none_none 136
  | bl j=>cases ry;exact PySem.EqNone.ne_none_bool 136
  | int j=>obtain ⟨t',rfl⟩:=ry;exact PySem.EqNone.ne_none_int 136
  | str j=>obtain ⟨t',rfl⟩:=ry;exact PySem.EqNone.ne_none_str 136
  | _=>exact absurd (show false=true from hs) Qba
 | bl i=>
  cases rx
  cases y with
  | g7=>cases ry;exact PySem.EqNone.ne_bool_none 136
  | bl j=>cases ry;exact ne_bool (bz I q (congrArg not HA))
  | str j=>obtain ⟨t',rfl⟩:=ry;exact PySem.EqMixed.ne_bool_str 136
  | _=>exact absurd (show false=true from hs) Qba
 | int i=>
  walk_at"g"
  cases y with
  | g7=>cases ry;exact PySem.EqNone.ne_int_none 136
  | int j=>obtain ⟨t',rfl⟩:=ry;exact ne_int (bz I q (congrArg not DC))
  | str j=>obtain ⟨t',rfl⟩:=ry;exact PySem.EqMixed.ne_int_str 136
  | _=>exact absurd (show false=true from hs) Qba
 | str i=>
  walk_at"g"
  cases y with
  | g7=>cases ry;exact PySem.EqNone.ne_str_none 136
  | bl j=>cases ry;exact PySem.EqMixed.ne_str_bool 136
  | int j=>obtain ⟨t',rfl⟩:=ry;exact PySem.EqMixed.ne_str_int 136
  | str j=>obtain ⟨t',rfl⟩:=ry;exact ne_str (bz I q (congrArg not DD))
  | _=>exact absurd (show false=true from hs) Qba
 | Dw i=>
  walk_at"g"
  cases y with
  | Dw j=>obtain ⟨t',rfl⟩:=ry;exact PySem.W.ne_bytes (bz I q (congrArg not DE))
  | _=>exact absurd (show false=true from hs) Qba
 | _=>cases y<;>exact absurd (show false=true from hs) Qba
theorem mC:jY X (compareOp .Lt) (L4 λi j=> .bl (decide (i<j))):=L5 λ_ _ _ _ _ _ _ q=>lt_int q
theorem Vy:jY X (compareOp .LtE) (L4 λi j=> .bl (decide (i<=j))):=L5 λ_ _ _ _ _ _ _ q=>le_int q
theorem wq:jY X (compareOp .Gt) (L4 λi j=> .bl (decide (j<i))):=L5 λ_ _ _ _ _ _ _ q=>gt_int q
theorem HC:jY X (compareOp .GtE) (L4 λi j=> .bl (decide (j<=i))):=L5 λ_ _ _ _ _ _ _ q=>ge_int q
theorem Fl:jY X (compareOp .Lt) (λx y H Q=>∃i j,x= .str i/\y= .str j/\Q (.bl (decide (i.cps.toList<j.cps.toList))) H):=by
 walk_at"b"
 obtain ⟨i,j,rfl,rfl,q⟩:=h
 walk_at"g"
 walk_at"Y"
 exact lt_str (bz I q rfl)
theorem Fm:jY X (compareOp .In) (λx y H Q=>∃i j,x= .str i/\y= .str j/\Q (.bl (!(Builtin.Str.occurrences j i 0 (j:) 1).isEmpty)) H):=by
 walk_at"b"
 obtain ⟨i,j,rfl,rfl,q⟩:=h
 walk_at"g"
 walk_at"Y"
 exact in_str (bz I q rfl)
theorem aW(b:Expr)(h:op≠ .In:=by decide)(h2:op≠ .NotIn:=by decide):behindInMarks op b=false:=by
 have e1:(op==CmpOp.In)=false:=by cases op<;>first | rfl | exact absurd rfl h
 have e2:(op==CmpOp.NotIn)=false:=by cases op<;>first | rfl | exact absurd rfl h2
 cases b<;>simp[behindInMarks,e1,e2]
theorem cX(ho:jY X (compareOp op) r)(ha:PE X a ta)(hb:PE X b tb)(hm:behindInMarks op b=false):PE X (.Compare a [op] [b] pos) (XZ r ta tb):=by
 walk_at"h"
 exact wpAny_Compare1 (Qf ha hb I h λv u s2 x y H2 I2 rx ry q=>ho pins s2 σ H2 x y v u Q I2 rx ry q) hm
def Vz(t:TE):TT:=λσ H Q=>t σ H λx H'=>IB x H' Q
theorem bf(ho:jY X (compareOp op) r)(ha:PE X a ta)(hb:PE X b tb)(hm:behindInMarks op b=false):PT X (.Compare a [op] [b] pos) (Vz (XZ r ta tb)):=by
 walk_at"h"
 refine wpAny_isTrue_Compare1 (cA (ha pins s σ H _ I h) λv s1 ⟨x,H1,I1,r1,q1⟩=>cA (hb pins s1 σ H1 _ I1 q1) λu s2 ⟨y,H2,I2,r2,q2⟩=>
  cA (ho pins s2 σ H2 x y v u _ I2 r1 r2 q2) λc s3 ⟨z,H3,I3,r3,k,e,q3⟩=>?_) hm
 subst e
 cases r3
 exact wpAny_truthy_bool ⟨H3,I3,q3⟩
def Qg(r r':R2)(ta tb tc:TE):TE:=λσ H Q=>ta σ H λx H1=>tb σ H1 λy H2=>r x y H2 λz H3=>∃k,z= .bl k/\(if k=true then tc σ H3 λw' H4=>r' y w' H4 Q else Q (.bl false) H3)
theorem zU{Zj:CmpOp}{r':R2}(ho:jY X (compareOp op) r)(Ho:jY X (compareOp Zj) r')(ha:PE X a ta)(hb:PE X b tb)(hc:PE X c tc)
  (hm:lastMarks [op,Zj] [b,c]=false:=by with_unfolding_all rfl):PE X (.Compare a [op,Zj] [b,c] pos) (Qg r r' ta tb tc):=by
 walk_at"h"
 refine Compare_chain (cA (ha pins s σ H _ I h) λv s1 ⟨x,H1,I1,r1,q1⟩=>chain_link (cA (hb pins s1 σ H1 _ I1 q1) λu s2 ⟨y,H2,I2,r2,q2⟩=>
  cA (ho pins s2 σ H2 x y v u _ I2 r1 r2 q2) λd s3 ⟨z,H3,I3,r3,k,e,q3⟩=>?_)) hm
 subst e
 cases r3
 refine wpAny_truthy_bool ?_
 cases k with
 | false=>exact ite_ff ⟨.bl false,H3,I3,rfl,q3⟩
 | true=>exact ite_tt (chain_last (cA (hc pins s3 σ H3 _ I3 q3) λw' s4 ⟨z',H4,I4,r4,q4⟩=>Ho pins s4 σ H4 y z' u w' Q I4 r2 r4 q4))
def Zk(K:c7)(x:V)(H:Hp)(k:Bool):Prop:=
 match x with
 | .g7=>k=false
 | .bl b=>k=b
 | .int i=>k=(i != 0)
 | .str y=>(y:)<=sizeLine/\k=(((y:):Int) != 0)
 | .Dw y=>y.size<=sizeLine/\k=((y.size:Int) != 0)
 | .ref p=>(∃xs,bC K H p xs/\k=!xs.isEmpty)\/(∃xs,bY K H p xs/\k=!xs.isEmpty)\/∃aN,H p=some (.dK aN)/\k=!aN.isEmpty
 | _=>False
theorem BR{κ:Type}{aN:List (κ×V)}{vs:List (κ×Value)}(r:KV aN vs):(!vs.isEmpty)=!aN.isEmpty:=by
 cases r<;>rfl
theorem sI{aJ:List Value}(r:Vals xs aJ):(!aJ.toArray.isEmpty)=!xs.isEmpty:=by
 cases r<;>simp
theorem gH:(sizeLine:Nat)<2 ^ 63:=by rw[sizeLine_eq];decide
theorem Qh:Zg X (λx H Q=>∃k,Zk X.K x H k/\Q k H):=by
 intro pins s σ H x v Q I rx h
 obtain ⟨k,e,q⟩:=h
 have hl:=gH
 have hs:sizeLine=16777216:=sizeLine_eq
 cases x with
 | g7=>
  cases rx
  have e':k=false:=e
  subst e'
  exact truthy_none ⟨H,I,q⟩
 | bl b=>
  cases rx
  have e':k=b:=e
  subst e'
  exact wpAny_truthy_bool ⟨H,I,q⟩
 | int i=>
  walk_at"g"
  have e':k=(i != 0):=e
  subst e'
  exact PySem.P.truthy_int ⟨H,I,q⟩
 | str y=>
  walk_at"g"
  obtain ⟨hy,e'⟩:(y:)<=sizeLine/\k=(((y:):Int) != 0):=e
  subst e'
  exact PySem.P.truthy_str () ⟨H,I.tok _,q⟩
 | Dw y=>
  walk_at"g"
  obtain ⟨hy,e'⟩:y.size<=sizeLine/\k=((y.size:Int) != 0):=e
  subst e'
  exact PySem.W.truthy_bytes () ⟨H,I.tok _,q⟩
 | ref p=>
  cases rx
  have e':(∃xs,bC X.K H p xs/\k=!xs.isEmpty)\/(∃xs,bY X.K H p xs/\k=!xs.isEmpty)\/∃aN,H p=some (.dK aN)/\k=!aN.isEmpty:=e
  rcases e' with ⟨xs,hx,e'⟩ | ⟨xs,hx,e'⟩ | ⟨aN,hx,e'⟩
  ·subst e'
   obtain ⟨aJ,r,pl,hz⟩:=I.list hx
   have hlen:=(r:)
   exact wpAny_truthy_list pl.isList (by simp only[Qao];lia) ⟨H,I.tok _,by rw[sI r];exact q⟩
  ·subst e'
   obtain ⟨aJ,r,pl,hz⟩:=I.tuple hx
   have hlen:=(r:)
   exact truthy_tuple pl (by simp only[Qao];lia) ⟨H,I.tok _,by rw[sI r];exact q⟩
  ·subst e'
   obtain ⟨hz,hS,vs,r,m⟩:(aN:)<=sizeLine/\(p==sysModules)=false/\∃vs,KV aN vs/\s.heap.DictOf (cV X.prog X.w) p vs:=I.cq p _ hx
   have hlen:(aN:)=(vs:):=Paired.length r
   exact wpAny_truthy_dict hS m () ⟨H,I.tok _,by rw[BR r];exact q⟩
 | _=>exact (show False from e).elim
theorem BS:jY X (binaryOp .Add) (λx y H Q=>∃i j,x= .str i/\y= .str j/\(i:)+(j:)<=sizeLine/\Q (.str (i++j)) H):=by
 walk_at"b"
 obtain ⟨i,j,rfl,rfl,hz,q⟩:=h
 walk_at"g"
 walk_at"Y"
 exact add_str (λt' tk=>⟨.str (i++j),H,I.tok _,⟨_,rfl⟩,q⟩) hz
theorem vals1{x:V}(r:Vals [x] us):∃u,us=[u]/\RelV x u:=by
 cases r with
 | cons r1 r2=>cases r2;exact ⟨_,rfl,r1⟩
theorem vals2{x:V}(r:Vals [x,y] us):∃u w',us=[u,w']/\RelV x u/\RelV y w':=by
 cases r with
 | cons r1 r2=>
  cases r2 with
  | cons r3 r4=>cases r4;exact ⟨_,_,rfl,r1,r3⟩
theorem HD:dA X (.builtin "abs") (λxs H Q=>∃i,xs=[.int i]/\Q (.int (if i<0 then -i else i)) H):=by
 walk_at"e"
 obtain ⟨i,rfl,q⟩:=h
 obtain ⟨u,rfl,t,rfl⟩:=vals1 r
 exact call_abs_int λu tk=>⟨.int (if i<0 then -i else i),H,I.tok _,⟨_,rfl⟩,q⟩
theorem wu(hc:X.calm=true):dA X (.builtin "max") (λxs H Q=>∃i j,xs=[.int i,.int j]/\Q (.int (if j>i then j else i)) H):=by
 walk_at"e"
 obtain ⟨i,j,rfl,q⟩:=h
 obtain ⟨u,w',rfl,⟨t,rfl⟩,⟨t',rfl⟩⟩:=vals2 r
 refine max_two_ints (I.ok.hd hc) λh' tk k=>⟨_,H,I.kept k,?_,q⟩
 by_cases hj:j>i
 ·rw[if_pos hj,if_pos hj];exact ⟨_,rfl⟩
 ·rw[if_neg hj,if_neg hj];exact ⟨_,rfl⟩
theorem lG(hc:X.calm=true):dA X (.builtin "min") (λxs H Q=>∃i j,xs=[.int i,.int j]/\Q (.int (if j<i then j else i)) H):=by
 walk_at"e"
 obtain ⟨i,j,rfl,q⟩:=h
 obtain ⟨u,w',rfl,⟨t,rfl⟩,⟨t',rfl⟩⟩:=vals2 r
 refine min_two_ints (I.ok.hd hc) λh' tk k=>⟨_,H,I.kept k,?_,q⟩
 by_cases hj:j<i
 ·rw[if_pos hj,if_pos hj];exact ⟨_,rfl⟩
 ·rw[if_neg hj,if_neg hj];exact ⟨_,rfl⟩
theorem Fn:dA X (.type "int") (λxs H Q=>(∃i,xs=[.int i]/\Q (.int i) H)\/∃k,xs=[.bl k]/\Q (.int (if k then 1 else 0)) H):=by
 walk_at"e"
 rcases h with ⟨i,rfl,q⟩ | ⟨k,rfl,q⟩
 ·obtain ⟨u,rfl,t,rfl⟩:=vals1 r
  exact call_int_int ⟨.int i,H,I,⟨_,rfl⟩,q⟩
 ·obtain ⟨u,rfl,r1⟩:=vals1 r
  cases r1
  exact call_int_bool ⟨.int (if k then 1 else 0),H,I.tok _,⟨_,rfl⟩,q⟩
theorem xY:dA X (.type "str") (λxs H Q=>∃i,xs=[.int i]/\i.natAbs.log2<1920/\Q (.str (toString i)) H):=by
 walk_at"e"
 obtain ⟨i,rfl,hz,q⟩:=h
 obtain ⟨u,rfl,t,rfl⟩:=vals1 r
 exact PySem.P.str_of_int hz ⟨.str _,H,I.tok _,⟨_,rfl⟩,q⟩
end
structure Fo(h:Heap)(x dx C:Addr)(mA:Str->Option Value):Prop where
 obj:h.get? x=some (PySem.W.instObj C dx)
 ns:h.Ns1 dx mA
 ne:dx≠x
variable{dx:Addr}{mA:Str->Option Value}
theorem Fp(n:h.Ns1 dx mA):∃od,h.get? dx=some od/\∀name,PySem.W.lookIn name od=some (mA name):=by
 obtain ⟨o,es,ep,ho,hd,hk,_,hm⟩:=n
 refine ⟨o,ho,λname=>?_⟩
 have e:=hm name
 unfold nsFind findBy at e
 rw[<-Array.find?_toList]at e
 unfold PySem.W.lookIn
 rw[hd]
 dsimp only
 split
 ·rename_i y q
  rw[q]at e
  exact congrArg some e
 ·rename_i q
  rw[q]at e
  have a:es.toList.any (·.refKey)=false:=by
   rw[Qgj]
   intro y hy
   obtain ⟨z,t,L6⟩:=hk y (Array.mem_toList_iff.mp hy)
   simp[DictEntry.refKey,L6]
  have a': ¬es.toList.any (·.refKey)=true:=by rw[a];exact Qba
  rw[if_neg a']
  exact congrArg some e
variable{C:Addr}
theorem Fo.look{x:Addr}(I:Fo h x dx C mA):∃od,PySem.W.InstAt h x (PySem.W.instObj C dx) C (some od)/\∀name,PySem.W.lookIn name od=some (mA name):=
 let ⟨od,ho,hl⟩:=Fp I.ns
 ⟨od,⟨I.obj,rfl,rfl,ho⟩,hl⟩
variable{kw:List (Str×Value)}
section
variable{prog:Program}{w:World}{A:Around}{E:Value->Shared->Prop}{s:Shared}{K:c7}{x dx C f:Addr}{mA:Str->Option Value}{name:Str}{v:Value}
theorem get_map{expr:Bool}(X:K.In s.heap)(I:Fo s.heap x dx C mA)(hg:PySem.W.plainGet K C name=true)(hh:PySem.W.hasDictIn K C=true)
  (ha:PySem.W.findIn K (.ref C) name=some none) (hv:mA name=some v) (hv':PySem.W.handedIn v=true) (h:Q v { s with toks:=s.toks+1 }):
  wpAny 94 A (getAttr (.ref x) name expr) Q E s:=by
 obtain ⟨od,J,hl⟩:=I.look
 exact PySem.W.get_value X J (PySem.W.plainGet_of hg).1 (PySem.W.findObj_own hh ha rfl (by rw[hl,hv])) hv' h
theorem L7{ns:List Str}{Q:Unit->Shared->Prop}(X:K.In s.heap)(I:Fo s.heap x dx C mA)
  (hs:PySem.W.findIn K (.ref C) "__setattr__"=some (some (.builtin "object.__setattr__"))) (hp:PySem.W.plainOver K C=true) (ht:PySem.W.takerIn K C name=some none) (hh:PySem.W.hasDictIn K C=true)
  (hw:PySem.Within mA ns) (hsz:(ns:)<=sizeLine)
  (h:∀h',Fo h' x dx C (λy=>if y=name then some v else mA y)->Heap.SameBut dx s.heap h'->Q Unit.unit { s with heap:=h',toks:=s.toks+2 }):
  wpAny 94 A (setAttr (.ref x) name v) Q E s:=by
 obtain ⟨od,J,hl⟩:=I.look
 refine PySem.W.set_plain X J hs (PySem.W.osa_open (s:={ s with toks:=s.toks+1 }) (r:=none) X J hp ht λb=>?_)
 obtain ⟨cd,hc,YX⟩:=PySem.W.any_some hh
 have hx:s.heap.get? x=some ⟨.ref C,some dx,.plain, #[]⟩:=I.obj
 refine wpAny_bind (wpAny_pure (wpAny_bind (wpAny_bind (wpAny_loadPart hx (wpAny_bind (PySem.W.Looks.here (s:={ s with toks:=s.toks+1 }) (PySem.W.looks_clsIn X hc) ?_))))))
 rw[YX]
 refine wpAny_pure (a:=some dx) (wpAny_bind (wpAny_pure (wpAny_bind ?_)))
 refine wpAny_nsSet1 (s:={ s with toks:=s.toks+1 }) I.ns λh' mZ Lv=>?_
 obtain ⟨oD,esD,epD,hoD,hdD,hcD⟩:=mZ.count (PySem.Within.cons name v hw)
 refine wpAny_bind (wpAny_lookBehind hoD (by rw[hdD];exact pastItsLine_dict (Qbn hcD (by rw[Qa9];lia))) ?_)
 exact wpAny_pure (h _ ⟨(Lv.2 _ (Ne.symm I.ne)).trans I.obj,mZ,I.ne⟩ Lv)
theorem HE{R:Result->Shared->Prop}{vs:List Value}(X:K.In s.heap)(hm:PySem.W.makesIn K C=true)
  (hi:PySem.W.findIn K (.ref C) "__init__"=some (some (.ref f))) (hf:PySem.W.typeIn K (.ref f)=some (.type "function"))
  (h:codeAny 94 (A.under (.builtin "type.__call__" ⟨.ref C::vs,kw⟩)) (.call (.ref f) ⟨.ref 133::vs,kw⟩) (PySem.W.InitBack 133 R)
   { s with heap:=(s.heap.push PySem.W.emptyDict).push (PySem.W.instObj C s.heap.objs.size) }):
  codeAny 94 A (.call (.ref C) ⟨vs,kw⟩) R s:=by
 obtain ⟨hh,g,d,t,os⟩:=s
 exact PySem.W.make_core (PySem.W.makes_of X hm) (PySem.W.looks_findIn X hi) (λself=>PySem.W.bind_fn X self hf) (.inl rfl) h
end
noncomputable def eX(f:Str)(v:V):List (Str×V)->List (Str×V)
 | []=>[(f,v)]
 |(g,x)::r=>if g=f then (g,v)::r else (g,x)::eX f v r
theorem aL(f g:Str)(v:V):∀fs:List (Str×V),(eX f v fs).lookup g=if g=f then some v else fs.lookup g
 | []=>by
  show List.lookup g [(f,v)]=_
  by_cases h:g=f
  ·have hb:(g==f)=true:=beq_iff_eq.mpr h
   simp only[List.lookup,hb,if_pos h]
  ·have hb:(g==f)=false:=beq_eq_false_iff_ne.mpr h
   simp only[List.lookup,hb,if_neg h]
 |(k,x)::r=>by
  have ih:=aL f g v r
  walk_at"A"
  by_cases hk:k=f
  ·rw[if_pos hk]
   by_cases h:g=k
   ·have hb:(g==k)=true:=beq_iff_eq.mpr h
    simp only[List.lookup,hb,if_pos (h.trans hk)]
   ·have hb:(g==k)=false:=beq_eq_false_iff_ne.mpr h
    simp only[List.lookup,hb,if_neg (λe:g=f=>h (e.trans hk.symm))]
  ·rw[if_neg hk]
   by_cases h:g=k
   ·have hb:(g==k)=true:=beq_iff_eq.mpr h
    simp only[List.lookup,hb,if_neg (λe:g=f=>hk (h.symm.trans e))]
   ·have hb:(g==k)=false:=beq_eq_false_iff_ne.mpr h
    simp only[List.lookup,hb]
    exact ih
theorem pA(f:Str)(v:V):∀fs:List (Str×V),f∈(eX f v fs).map (·.1)/\∀g,g∈fs.map (·.1)->g∈(eX f v fs).map (·.1)
 | []=>⟨by simp[eX],λg h=>by simp at h⟩
 |(k,x)::r=>by
  obtain ⟨i1,i2⟩:=pA f v r
  walk_at"A"
  by_cases hk:k=f
  ·rw[if_pos hk]
   subst hk
   exact ⟨by simp,λg h=>by simpa using h⟩
  ·rw[if_neg hk]
   refine ⟨?_,λg h=>?_⟩
   ·rw[Qas]
    exact Qah _ i1
   ·rw[Qas]at h ⊢
    rcases Qaq.mp h with e | e
    ·exact Qaq.mpr (.inl e)
    ·exact Qah _ (i2 g e)
theorem qE(f:Str)(v:V):∀fs:List (Str×V),(eX f v fs:)<=(fs:)+1
 | []=>by simp[eX]
 |(k,x)::r=>by
  have ih:=qE f v r
  walk_at"A"
  by_cases hk:k=f
  ·rw[if_pos hk,Qa9,Qa9];lia
  ·rw[if_neg hk,Qa9,Qa9];lia
theorem o_.some_of{o:Option Value}(r:o_ (some v) o):∃u,o=some u/\RelV v u:=by
 cases o with
 | none=>exact (show False from r).elim
 | some u=>exact ⟨u,rfl,r⟩
theorem Fq(r:RelV v u):PySem.W.handedIn u=true:=by
 cases v with
 | g7=>cases (show u=Value.none from r);rfl
 | bl b=>cases (show u=Value.bool b from r);rfl
 | int i=>obtain ⟨t,e⟩:=(show ∃t,u=Value.int i t from r);cases e;rfl
 | str x=>obtain ⟨t,e⟩:=(show ∃t,u=Value.str x t from r);cases e;rfl
 | Dw b=>obtain ⟨t,e⟩:=(show ∃t,u=Value.bytes b t from r);cases e;rfl
 | XS b=>obtain ⟨t,e⟩:=(show ∃t,u=Value.float b t from r);cases e;rfl
 | ref a=>cases (show u=Value.ref a from r);rfl
 | ty n=>cases (show u=Value.type n from r);rfl
section
variable{P:Program}{w:World}{H H':Hp}{h h':Heap}{a C dx:Addr}{fs fs':List (Str×V)}
theorem DF(cq:mY P w H h)(e:H a=some (.ins C dx fs)):∃mA,Fo h a dx C mA/\(∀f,o_ (fs.lookup f) (mA f))/\PySem.Within mA (fs.map (·.1))/\(fs:)<=1000/\H dx=some (.own a):=by
 obtain ⟨d,z,ne,ob,mA,n,r,q⟩:=(show du P w H h a (.ins C dx fs) from cq a _ e)
 exact ⟨mA,⟨ob,n,ne⟩,r,q,z,d⟩
end
structure OG(K:c7)(C:Addr):Prop where
 pg:PySem.W.plainGet K C Str.empty=true
 hd:PySem.W.hasDictIn K C=true
 po:PySem.W.plainOver K C=true
 sa:PySem.W.findIn K (.ref C) "__setattr__"=some (some (.builtin "object.__setattr__"))
theorem OG.get(c:OG K C)(f:Str):PySem.W.plainGet K C f=true:=c.pg
def eY(K:c7)(C:Addr)(f:Str):Prop:=PySem.W.findIn K (.ref C) f=some none
theorem eY.VA{f:Str}(n:eY K C f):PySem.W.takerIn K C f=some none:=by
 unfold PySem.W.takerIn
 rw[show PySem.W.findIn K (.ref C) f=some none from n]
 rfl
section
variable{X:Cx}{pins:List 126}{σ:St}{H:Hp}{s:Shared}{a C dx:Addr}{fs:List (Str×V)}{f:Str}{v:V}{A:Around}{E:Value->Shared->Prop}
theorem BU{b:Bool}(I:Inv X pins σ H s)(e:H a=some (.ins C dx fs))(c:OG X.K C)(n:eY X.K C f)(l:fs.lookup f=some v)
  (h:∀u s',Inv X pins σ H s'->RelV v u->Q u s'):wpAny 93 A (getAttr (.ref a) f b) Q E s:=by
 obtain ⟨mA,O,r,_,_,_⟩:=DF I.cq e
 obtain ⟨u,hu,ru⟩:=o_.some_of (v:=v) (o:=mA f) (by rw[<-l];exact r f)
 exact get_map I.Ff O (c.get f) c.hd n hu (Fq ru) (h u _ (I.tok _) ru)
theorem BV{Q:Unit->Shared->Prop}(I:Inv X pins σ H s)(e:H a=some (.ins C dx fs))(c:OG X.K C)(n:eY X.K C f)(hl:(fs:)<1000)(ry:RelV y u)
  (h:∀s',Inv X pins σ (upd H a (.ins C dx (eX f y fs))) s'->Q Unit.unit s'):wpAny 93 A (setAttr (.ref a) f u) Q E s:=by
 obtain ⟨mA,O,r,wi,_,ho⟩:=DF I.cq e
 have hz:(fs.map (·.1):)<=sizeLine:=by rw[Qaa,sizeLine_eq];lia
 refine L7 I.Ff O c.sa c.po n.VA c.hd wi hz λh' O' sb=>h _ ?_
 have hd:∃o,h'.get? dx=some o:=let ⟨o,_,_,e',_⟩:=O'.ns;⟨o,e'⟩
 refine I.write (x:=a) (e:=dx) (by rw[e];exact True.intro) (.inr ho) (λb q hb z=>(sb.2 b hb).trans z) hd ?_
 refine ⟨by rw[aA O.ne];exact ho,?_,O.ne,O'.obj,_,O'.ns,λg=>?_,λg hg=>?_⟩
 ·have:=qE f y fs;lia
 ·show o_ ((eX f y fs).lookup g) (if g=f then some u else mA g)
  rw[aL]
  by_cases q:g=f
  ·rw[if_pos q,if_pos q];exact ry
  ·rw[if_neg q,if_neg q];exact r g
 ·by_cases q:g=f
  ·rw[q];exact (pA f y fs).1
  ·refine (pA f y fs).2 g (wi g λz=>hg ?_)
   show (if g=f then some u else mA g)=none
   rw[if_neg q];exact z
theorem Inv.made(I:Inv X pins σ H s):Inv X pins σ (upd (upd H s.heap.objs.size (.own 133)) 133 (.ins C s.heap.objs.size []))
  { s with heap:=(s.heap.push PySem.W.emptyDict).push (PySem.W.instObj C s.heap.objs.size) }:=by
 have e1:(s.heap.push PySem.W.emptyDict).get? s.heap.objs.size=some PySem.W.emptyDict:=Qau s.heap rfl
 have e2:((s.heap.push PySem.W.emptyDict).push (PySem.W.instObj C s.heap.objs.size)).get? 133=some (PySem.W.instObj C s.heap.objs.size):=by
  have:=Qau (s.heap.push PySem.W.emptyDict) (o:=PySem.W.instObj C s.heap.objs.size) rfl
  rwa [Qcu]at this
 have e3:(s.heap.push PySem.W.emptyDict).Ns s.heap.objs.size (λ_=>none):=⟨PySem.W.emptyDict, #[],_,e1,rfl,(λe he=>absurd he (by simp)),λ_=>rfl⟩
 have I1:=I.laid (a:=s.heap.objs.size) (o:= .own 133) (h':=s.heap.push PySem.W.emptyDict) (t':=s.toks) (λb u q=>Ta _ q) (Qad _) ⟨_,e1⟩
 refine I1.laid (a:=s.heap.objs.size+1) (o:= .ins C s.heap.objs.size []) (t':=s.toks) (λb u q=>Ta _ q) (Nat.le_of_eq (Qcu _ _)) ?_
 have ne:s.heap.objs.size≠s.heap.objs.size+1:=Qa6 (Qcs _)
 refine ⟨by rw[aA ne,ag],Qax _,ne,e2,λ_=>none,(Heap.Ns1.of_empty e3).at λo q=>Ta _ q,λ_=>True.intro,λy hy=>absurd rfl hy⟩
theorem L8{prog:Program}{w:World}{env:Env}{f:Str}{s:Shared}(hb:attributeBase e f env (eval e env)=eval e env)
  (h:wpAny 94 A (eval e env) (λo s₁=>wpAny 94 A (getAttr o f true) Q E s₁) E s):wpAny 94 A (eval (.Attribute e f pos) env) Q E s:=
 Attribute_any_ h (by rw[arm_eval_Attribute,hb])
end
def VB(K:c7)(ta:TE)(f:Str):TE:=λσ H Q=>ta σ H λx H1=>∃a C dx fs v,x= .ref a/\H1 a=some (.ins C dx fs)/\OG K C/\eY K C f/\fs.lookup f=some v/\Q v H1
def Zl(K:c7)(ta tv:TE)(f:Str):TS:=λD σ H=>tv σ H λy H1=>ta σ H1 λx H2=>∃a C dx fs,x= .ref a/\H2 a=some (.ins C dx fs)/\OG K C/\eY K C f/\(fs:)<1000/\D.nx σ (upd H2 a (.ins C dx (eX f y fs)))
section
variable{X:Cx}{o e value:Expr}{f:Str}{pos pos' VC:Pos}{ta tv:TE}
theorem Qi(he:PE X e ta)(hb:attributeBase e f X.env (eval e X.env)=eval e X.env):PE X (.Attribute e f pos) (VB X.K ta f):=by
 walk_at"h"
 refine L8 hb (cA (he pins s σ H _ I h) λu s1 ⟨x,H1,I1,rx,a,C,dx,fs,v,ex,ea,c,n,l,q⟩=>?_)
 subst ex
 obtain rfl:u=Value.ref a:=rx
 exact BU I1 ea c n l λu' s2 I2 ru=>⟨v,H1,I2,ru,q⟩
theorem j7(ha:PE X o ta)(hv:PE X value tv)(hs:swapsWith value (some (.Attribute o f pos')) pos.line X.env=pure false):PS X (.Assign [.Attribute o f pos'] value pos) (Zl X.K ta tv f):=by
 walk_at"u"
 refine plainObj_wpAny_Assign_Attribute (cA (hv pins s σ H _ I h) λu s1 ⟨y,H1,I1,ry,q⟩=>cA (ha pins s1 σ H1 _ I1 q) λov s2 ⟨x,H2,I2,rx,a,C,dx,fs,ex,ea,c,n,l,q2⟩=>?_) hs
 subst ex
 obtain rfl:ov=Value.ref a:=rx
 exact BV I2 ea c n l ry λs3 I3=>⟨σ,_,I3,q2⟩
end
structure fo(k:Nat)(A:Around):Prop where
 hd:A.handled=none
 dp:A.depth+3*k+5<recursionLimit
 un:A.units+16*k+200<cLine
 gd:A.guards=some []
theorem fo.mono{k:Nat}(r:fo k A)(h:j<=k):fo j A:=⟨r.hd,by have:=r.dp;lia,by have:=r.un;lia,r.gd⟩
theorem fo.deeper{k:Nat}(r:fo (k+1) A)(env:Env):fo k (A.deeper env):=
 ⟨r.hd,by have:=r.dp;show A.depth+1+3*k+5<_;lia,by have:=r.un;show A.units+3+16*k+200<_;lia,r.gd⟩
theorem BW:(A.under (.builtin "type.__call__" ⟨.ref C::us,kw⟩)).depth=A.depth+1:=by
 first | rfl | simp[Around.under,Code.weight,Code.isCreation,Code.isGuard,Code.isCaller,Code.frames,Code.isFrame,guardIds]
theorem BX:(A.under (.builtin "type.__call__" ⟨.ref C::us,kw⟩)).units=A.units+1:=by
 first | rfl | simp[Around.under,Code.cUnits,Code.frames,Code.isFrame]
theorem fo.make{k:Nat}(r:fo (k+1) A)(C:Addr)(us:List Value)(kw:List (Str×Value)):fo k (A.under (.builtin "type.__call__" ⟨.ref C::us,kw⟩)):=
 ⟨r.hd,by have:=r.dp;rw[BW];lia,by have:=r.un;rw[BX];lia,by first | exact r.gd | (simpa [Around.under,Code.guards,Code.isGuard,pushGuards,guardIds]using r.gd)⟩
theorem fo.depth{k:Nat}(r:fo k A):A.depth<recursionLimit:=by have:=r.dp;lia
theorem fo.units{k:Nat}(r:fo k A):A.units+64<cLine:=by have:=r.un;lia
def Qj:TA:=λ_ H Q=>Q [] H
def HF(ta:TE)(tr:TA):TA:=λσ H Q=>ta σ H λx H1=>tr σ H1 λxs H2=>Q (x::xs) H2
section
variable{X:Cx}{e:Expr}{es:List Expr}{te:TE}{t:TA}{pos:Pos}
theorem bV:PA X [] Qj:=λ_ _ _ _ H Q I h=>Calls.spliced_nil ⟨[],H,I,.nil,h⟩
theorem aa(ha:PE X e te)(hr:PA X es t)(hs:starEach (e::es) X.env=(false,eval e X.env)::starEach es X.env:=by rfl):PA X (e::es) (HF te t):=by
 intro pos pins s σ H Q I h
 rw[hs]
 show wpAny _ _ (spliced ((false,eval e X.env)::backTo pos (starEach es X.env))) _ _ s
 refine Calls.spliced_cons (cA (ha pins s σ H _ I h) λu s1 ⟨x,H1,I1,r1,q1⟩=>?_)
 exact cA (hr pos pins s1 σ H1 _ I1 q1) λus s2 ⟨xs,H2,I2,r2,q2⟩=>⟨x::xs,H2,I2,.cons r1 r2,q2⟩
def Zm(t:TA):TE:=λσ H Q=>t σ H λxs H1=>(xs:)<=sizeLine/\∀p,H1 p=none->Q (.ref p) (upd H1 p (.tup xs))
def Zn(t:TA):TE:=λσ H Q=>t σ H λxs H1=>(xs:)<=sizeLine/\∀p,H1 p=none->Q (.ref p) (upd H1 p (.lst xs))
theorem dB{x1}(h:PA X es t):PE X (.Tuple es x1 pos) (Zm t):=by
 intro pins s σ H Q I hq
 refine wpAny_Tuple_spliced (cA (h pos pins s σ H _ I hq) λus s1 ⟨xs,H1,I1,r,z,q⟩=>⟨by rw[<-(r:)];exact z,?_⟩)
 have hf:H1 s1.heap.objs.size=none:=I1.cq.fresh (Qad _)
 refine ⟨.ref s1.heap.objs.size,upd H1 s1.heap.objs.size (.tup xs),I1.laid (t':=s1.toks) (λb u e=>Ta _ e) (Qad _) ?_,rfl,q _ hf⟩
 exact ⟨z,us,r,⟨_,Qau _ rfl,rfl,_,rfl⟩⟩
theorem eK(h:PA X es t):PE X (.List es pos) (Zn t):=by
 intro pins s σ H Q I hq
 refine wpAny_List_spliced (cA (h pos pins s σ H _ I hq) λus s1 ⟨xs,H1,I1,r,z,q⟩=>⟨by rw[<-(r:)];exact z,?_⟩)
 have hf:H1 s1.heap.objs.size=none:=I1.cq.fresh (Qad _)
 refine ⟨.ref s1.heap.objs.size,upd H1 s1.heap.objs.size (.lst xs),I1.laid (t':=s1.toks) (λb u e=>Ta _ e) (Qad _) ?_,rfl,q _ hf⟩
 exact ⟨z,us,0,r,Qau _ rfl⟩
end
abbrev Sp:=List V->Hp->VK->XK->Prop
abbrev Fs:=List Env->Hp->Shared->XK->Value->Shared->Prop
structure BY(P:Program)(w:World)(K:c7)(mg:Str->Option Value)(base:Heap)(A:Around)(outer:List Env)(s:Shared)(H:Hp):Prop where
 frames:A.frames=some outer
 mod:Mod K mg base
 bs:∀b o,base.get? b=some o->s.heap.get? b=some o/\H b=none
 LY:base.objs.size<=s.heap.objs.size
 qT:s.heap.FunFrames base outer
 PV:∀b∈Dy outer,H b=none
 cq:mY P w H s.heap
 bare:AllBare s.gens
def CE(outer:List Env)(P:Program)(w:World)(H:Hp)(s:Shared)(Q:VK)(u:Value)(s':Shared):Prop:=
 ∃v H',s'.os=s.os/\AllBare s'.gens/\Un (Dy outer) [] H H' s.heap s'.heap/\mY P w H' s'.heap/\RelV v u/\Q v H'
def CR(CX:Fs)(outer:List Env)(P:Program)(w:World)(H:Hp)(s:Shared)(Q:VK)(E:XK)(r:Result)(s':Shared):Prop:=
 match r with
 | .ok (.ret u)=>CE outer P w H s Q u s'
 | .ok _=>False
 | .error e=>CX outer H s E e s'
structure bp(P:Program)(w:World)(K:c7)(mg:Str->Option Value)(base:Heap)(CX:Fs)(k:Nat)(f:Addr)(fd:FuncData)(ps:List Str)(sp:Sp):Prop where
 len:∀vs H Q E,sp vs H Q E->(vs:)=(ps:)
 run:∀(A:Around) (outer:List Env) (s:Shared) (H:Hp) (args:Args) (us:List Value) (vs:List V) (Q:VK) (E:XK),fo k A->BY P w K mg base A outer s H->BindsTo s fd args (ps.zip us)->Vals vs us->sp vs H Q E->
  codeAny (model P w) A (.call (.ref f) args) (CR CX outer P w H s Q E) s
variable{mg:Str->Option Value}{base:Heap}{outer:List Env}
theorem BY.make{P:Program}{w:World}(e:BY P w K mg base A outer s H)(C:Addr)(us:List Value)(kw:List (Str×Value)):
  BY P w K mg base (A.under (.builtin "type.__call__" ⟨.ref C::us,kw⟩)) outer s H:=⟨by first | exact e.frames | (simpa [Around.under,Code.envs,Code.isFrame,pushEnvs]using e.frames),e.mod,e.bs,e.LY,e.qT,e.PV,e.cq,e.bare⟩
section
variable{X:Cx}{pins:List 126}{σ:St}{H:Hp}{s s':Shared}
theorem Inv.VD(I:Inv X pins σ H s):BY X.prog X.w X.K X.mg X.base X.A X.stack s H:=
 ⟨I.ok.frames,I.ok.mod,I.bs,Qbn I.ok.LY I.sz,I.stack,I.Dz,I.cq,I.bare⟩
theorem Inv.after{Q:VK}(I:Inv X pins σ H s)(h:CE X.stack X.prog X.w H s Q u s'):EP X pins σ Q u s':=by
 obtain ⟨v,H',os,bare,un,cq,r,q⟩:=h
 obtain ⟨hh,g,d,t,os'⟩:=s'
 obtain rfl:os'=s.os:=os
 exact ⟨v,H',I.call (h':=hh) (g':=g) (d':=d) (t':=t) (ch:=[]) un cq bare (λb z=>absurd z (by simp)),r,q⟩
end
def OH(sp:Sp)(dvs:List V)(E:XK)(t:TA):TE:=λσ H Q=>t σ H λvs H1=>sp (vs++dvs) H1 Q E
def VE(C:Addr)(sp:Sp)(dvs:List V)(E:XK)(t:TA):TE:=λσ H Q=>t σ H λvs H1=>∀x dx,H1 x=none->H1 dx=none->dx≠x->sp (.ref x::(vs++dvs)) (upd (upd H1 dx (.own x)) x (.ins C dx [])) (λv H2=>v= .g7/\Q (.ref x) H2) E
def Binds(K:c7)(fd:FuncData)(ps:List Str)(ds:List Value):Prop:=
 ∀(s:Shared) (us:List Value),K.In s.heap->(us++ds:)=(ps:)->BindsTo s fd ⟨us,[]⟩ (ps.zip (us++ds))
variable{ps:List Str}
theorem Binds.all{fd:FuncData}(h:∀us:List Value,(us:)=(ps:)->bindArgs fd ⟨us,[]⟩=pure (ps.zip us)):Binds K fd ps []:=λs us _ hl=>by
 rw[Qbh]at hl ⊢
 exact .of_eq (h us hl)
def Passes(CX:Fs)(X:Cx)(E:XK):Prop:=∀(pins:List 126) (σ:St) (H:Hp) (s:Shared) (e:Value) (s':Shared),Inv X pins σ H s->CX X.stack H s E e s'->X.xe e s'
variable{vs:List V}
section
variable{X:Cx}{CX:Fs}{k:Nat}{f C:Addr}{fd:FuncData}{ps:List Str}{sp:Sp}{dvs:List V}{ds:List Value}{E:XK}{x m:Str}{p pos apos:Pos}{e o:Expr}{es:List Expr}{ta:TE}{t:TA}
theorem BZ{Q:VK}(F:bp X.prog X.w X.K X.mg X.base CX k f fd ps sp)(hr:fo k X.A)(hb:Binds X.K fd ps ds)(hd:Vals dvs ds)(hx:Passes CX X E)
  (I:Inv X pins σ H s) (r:Vals vs us) (h:sp (vs++dvs) H Q E):wpAny 93 X.A (call (.ref f) us) (EP X pins σ Q) X.xe s:=by
 have r2:Vals (vs++dvs) (us++ds):=r.append hd
 have hl:(us++ds:)=(ps:):=by rw[<-(r2:)];exact F.len _ _ _ _ h
 refine wpAny_call (codeAny_mono (F.run X.A X.stack s H ⟨us,[]⟩ (us++ds) (vs++dvs) Q E hr I.VD (hb s us I.Ff hl) r2 h) λr s' hq=>?_)
 cases r with
 | error e=>exact hx pins σ H s e s' I hq
 | ok fl=>
  cases fl with
  | ret u=>exact I.after hq
  | next=>exact False.elim hq
  | brk=>exact False.elim hq
  | cont=>exact False.elim hq
theorem lH(F:bp X.prog X.w X.K X.mg X.base CX k f fd ps sp)(hr:fo k X.A)(hg:Gl X x)(hm:X.mg x=some (.ref f))(hk:PySem.W.keepIn X.K (.ref f)=true)(hb:Binds X.K fd ps ds)(hd:Vals dvs ds)(hx:Passes CX X E)
  (ha:PA X (e::es) t) (Qk:(x==("__debug__":Str))=false:=by decide) (he:starEach (e::es) X.env=(false,eval e X.env)::starEach es X.env:=by rfl) (jC:(backTo pos (starEach es X.env)).any (·.1)=false:=by rfl):
  PE X (.Call (.Name x p) (e::es) [] pos) (OH sp dvs E t):=by
 walk_at"h"
 refine wpAny_Call_Name_kw (xW I hg hm ?_ Qk)
 refine Qe2 (h₀:=X.base) I.ok.mod.S8 hk (cA (ha pos pins s σ H _ I h) λus s1 ⟨vs,H1,I1,r,q⟩=>⟨I1.Ff,?_⟩) he jC
 exact BZ F hr hb hd hx I1 r q
structure Mk(K:c7)(C f:Addr):Prop where
 makes:PySem.W.makesIn K C=true
 init:PySem.W.findIn K (.ref C) "__init__"=some (some (.ref f))
 fn:PySem.W.isFn K (.ref f)=true
 kp:PySem.W.keepIn K (.ref C)=true
theorem HG{Q:VK}(M:Mk X.K C f)(F:bp X.prog X.w X.K X.mg X.base CX k f fd ps sp)(hr:fo (k+1) X.A)(hb:Binds X.K fd ps ds)(hd:Vals dvs ds)
  (hx:Passes CX X E) (I:Inv X pins σ H s) (r:Vals vs us)
  (h:∀x dx,H x=none->H dx=none->dx≠x->sp (.ref x::(vs++dvs)) (upd (upd H dx (.own x)) x (.ins C dx [])) (λv H2=>v= .g7/\Q (.ref x) H2) E):
  wpAny 93 X.A (call (.ref C) us) (EP X pins σ Q) X.xe s:=by
 have hq:=h 133 s.heap.objs.size (I.cq.fresh (Qdo _)) (I.cq.fresh (Qad _)) (Qa6 (Qcs _))
 have I2:=Inv.made (C:=C) I
 have r2:Vals (V.ref 133::(vs++dvs)) (Value.ref 133::(us++ds)):= .cons rfl (r.append hd)
 have hl:((Value.ref 133::us++ds):)=(ps:):=by
  have e:=(r2:)
  rw[F.len _ _ _ _ hq]at e
  exact e.symm
 refine wpAny_call (HE (f:=f) I.Ff M.makes M.init (beq_iff_eq.mp M.fn) (codeAny_mono (F.run _ X.stack _ _ ⟨Value.ref 133::us,[]⟩ (Value.ref 133::(us++ds)) _ _ E (hr.make C us [])
  (I2.VD.make C us []) (hb _ (Value.ref (s.heap.objs.size+1)::us) I2.Ff hl) r2 hq) λr s' L9=>?_))
 cases r with
 | error e=>exact hx pins σ _ _ e s' I2 L9
 | ok fl=>
  cases fl with
  | ret u=>
   obtain ⟨v,H',I3,rv,ev,q3⟩:=I2.after L9
   subst ev
   exact ⟨rv,⟨V.ref 133,H',I3,rfl,q3⟩⟩
  | next=>exact False.elim L9
  | brk=>exact False.elim L9
  | cont=>exact False.elim L9
theorem rF(M:Mk X.K C f)(F:bp X.prog X.w X.K X.mg X.base CX k f fd ps sp)(hr:fo (k+1) X.A)(hg:Gl X x)(hm:X.mg x=some (.ref C))(hb:Binds X.K fd ps ds)(hd:Vals dvs ds)(hx:Passes CX X E)
  (ha:PA X (e::es) t) (Qk:(x==("__debug__":Str))=false:=by decide) (he:starEach (e::es) X.env=(false,eval e X.env)::starEach es X.env:=by rfl) (jC:(backTo pos (starEach es X.env)).any (·.1)=false:=by rfl):
  PE X (.Call (.Name x p) (e::es) [] pos) (VE C sp dvs E t):=by
 walk_at"h"
 refine wpAny_Call_Name_kw (xW I hg hm ?_ Qk)
 refine Qe2 (h₀:=X.base) I.ok.mod.S8 M.kp (cA (ha pos pins s σ H _ I h) λus s1 ⟨vs,H1,I1,r,q⟩=>⟨I1.Ff,?_⟩) he jC
 exact HG M F hr hb hd hx I1 r q
end
structure aD(N P:List Str)(sc:Scope):Prop where
 kind:sc.kind= .function
 co:sc.isCoroutine=false
 gen:sc.isGenerator=false
 nd:N.Nodup
 pre:N.take P.length=P
 par:∀x∈P,sc.names.lookup x=some .local\/sc.names.lookup x=some .cell
 Ql:∀y∈sc.names,y.2≠ .free
theorem wx{kindOf:Str->Option NameKind}{x:Str}:∀{binds:List (Str×Value)} {m:Str->Option Value},(∀v,(x,v)∉binds)->bindL kindOf binds m x=m x
 | [],_,_=>rfl
 |(n,v)::r,m,h=>by
  unfold bindL
  rw[wx λw hw=>h w (Qah _ hw)]
  split
  ·have:x≠n:=by rintro rfl;exact h v Qak
   simp[this]
  ·rfl
theorem wz{kindOf:Str->Option NameKind}{x:Str}:∀{binds:List (Str×Value)} {m:Str->Option Value},(∀v,(x,v)∉binds)->bindC kindOf binds m x=m x
 | [],_,_=>rfl
 |(n,v)::r,m,h=>by
  unfold bindC
  rw[wz λw hw=>h w (Qah _ hw)]
  split
  ·rfl
  ·have:x≠n:=by rintro rfl;exact h v Qak
   simp[this]
theorem wA{kindOf:Str->Option NameKind}{x:Str}{v:Value}:∀{P:List Str} {vs:List Value} {i:Nat} {m:Str->Option Value},P.Nodup->P[i]? =some x->vs[i]? =some v->kindOf x=some .local->
  bindL kindOf (P.zip vs) m x=some v
 | [],_,_,_,_,h,_,_=>by simp at h
 | _::_,[],_,_,_,_,h,_=>by simp at h
 | p::P,w::vs,0,m,nd,h1,h2,hk=>by
  simp at h1 h2;subst h1;subst h2
  show bindL kindOf ((p,w)::P.zip vs) m p=_
  unfold bindL
  rw[wx λv hv=>(Qbv.mp nd).1 (Qgz hv).1,if_pos hk]
  simp
 | p::P,w::vs,i+1,m,nd,h1,h2,hk=>by
  show bindL kindOf ((p,w)::P.zip vs) m x=_
  unfold bindL
  exact wA (i:=i) (Qbv.mp nd).2 (by simpa using h1) (by simpa using h2) hk
theorem wB{kindOf:Str->Option NameKind}{x:Str}{v:Value}:∀{P:List Str} {vs:List Value} {i:Nat} {m:Str->Option Value},P.Nodup->P[i]? =some x->vs[i]? =some v->kindOf x≠some .local->
  bindC kindOf (P.zip vs) m x=some v
 | [],_,_,_,_,h,_,_=>by simp at h
 | _::_,[],_,_,_,_,h,_=>by simp at h
 | p::P,w::vs,0,m,nd,h1,h2,hk=>by
  simp at h1 h2;subst h1;subst h2
  show bindC kindOf ((p,w)::P.zip vs) m p=_
  unfold bindC
  rw[wz λv hv=>(Qbv.mp nd).1 (Qgz hv).1,if_neg hk]
  simp
 | p::P,w::vs,i+1,m,nd,h1,h2,hk=>by
  show bindC kindOf ((p,w)::P.zip vs) m x=_
  unfold bindC
  exact wB (i:=i) (Qbv.mp nd).2 (by simpa using h1) (by simpa using h2) hk
noncomputable def start(N:List Str)(vs:List V):St:=vs.map some++List.replicate (N.length - (vs:)) none
noncomputable def Ft(CX:Fs)(P:Program)(w:World)(K:c7)(mg:Str->Option Value)(base:Heap)(N:List Str)(qual:Str)(scope:Scope)(f:Addr)(cd:Value)(A:Around)(outer:List Env)(s:Shared)(H:Hp)(E:XK):Cx where
 prog:=P
 w:=w
 K:=K
 mg:=mg
 base:=base
 A:=A.deeper (envOfC qual scope s.heap.objs.size f cd)
 N:=N
 s₀:=s
 H₀:=H
 env:=envOfC qual scope s.heap.objs.size f cd
 outer:=outer
 stack:=envOfC qual scope s.heap.objs.size f cd::outer
 ex:=[]
 calm:=true
 fn:=λ_=>true
 pn:=[]
 xe:=λe s'=>wpAny (model P w) (A.deeper (envOfC qual scope s.heap.objs.size f cd)) (leaving (envOfC qual scope s.heap.objs.size f cd) e) (λ_ VF=>CX outer H s E e VF) (λe' VF=>CX outer H s E e' VF) s'
theorem zV{sc:Scope}(h:sc.names.lookup x=some .cell):∃c,(cellsFrom n sc.names []).lookup x=some c:=by
 have q:=PySem.W.cellsFrom_some sc.names n [] (.inl h)
 exact Option.isSome_iff_exists.mp q
theorem Fu{CX:Fs}{P:Program}{w:World}{qual:Str}{scope:Scope}{f:Addr}{cd:Value}{s1:Shared}{E:XK}
  (S:aD N ps scope) (hd:A.handled=none) (e0:BY P w K mg base A outer s H) (hl:(vs:)=(ps:)) (r:Vals vs us)
  (x:InCallC s s.heap.objs.size (bindL (envOfC qual scope s.heap.objs.size f cd).kindOf (ps.zip us) λ_=>none) (cellsFrom 133 scope.names []) (bindC (envOfC qual scope s.heap.objs.size f cd).kindOf (ps.zip us) λ_=>none) s1):
  Inv (Ft CX P w K mg base N qual scope f cd A outer s H E) [] (start N vs) H s1:=by
 have jC:(ps:)<=N.length:=by have:=congrArg List.length S.pre;rw[Qai]at this;lia
 obtain ⟨h1,tk,rfl,hk⟩:=x.done
 have VG:∀b:Addr,b∉(Ft CX P w K mg base N qual scope f cd A outer s H E).ex:=λb z=>absurd (show b∈([]:List Addr) from z) (by simp)
 refine ⟨⟨e0.mod,S.kind,rfl,rfl,Qad _,λy z c h1 h2=>?_,λy hy=>?_,λy c _ h=>?_,λ_=>hd,Around.frames_deeper e0.frames,.inr ⟨rfl,rfl⟩,λb z=>absurd z (VG b),e0.bs,e0.LY,λb _ _=>VG b,λb z=>absurd z (VG b),e0.qT,e0.PV⟩,
  rfl,e0.bare,Un.kept hk,⟨_,x.toInCall.ns,λi y v h1 h2 h3=>?_⟩,λy c h=>⟨_,x.cell y c h⟩,e0.cq.fresh (Qad _),λy c h=>?_,λp hp=>absurd (show p∈([]:List (Addr×Obj)) from hp) (by simp),e0.cq.kept hk,?_⟩
 ·exact name_of_addr x.apart (Qd8 h1) (Qd8 h2)
 ·have hy:scope.names.lookup y=some .cell\/scope.names.lookup y=some .free:=hy
  rcases hy with hy | hy
  ·exact zV hy
  ·exact absurd rfl (S.Ql _ (Qd8 hy))
 ·exact Qbz (x.above y c (Qd8 h))
 ·have hi:i<(vs:):=by
   unfold start at h2
   by_cases hi:i<(vs:)
   ·exact hi
   ·rw[Qa2 (by simpa using hi)]at h2
    rw[List.getElem?_replicate]at h2
    split at h2<;>cases h2
  have ha:vs[i]? =some v:=by
   unfold start at h2
   rw[Qbg (by simpa using hi),Qat]at h2
   cases e:vs[i]? with
   | none=>rw[e]at h2;cases h2
   | some a=>rw[e]at h2;cases h2;rfl
  obtain ⟨u,hu,rv⟩:=r.get ha
  have hp:ps[i]? =some y:=by
   rw[<-S.pre,Qa7 ()];exact h1
  have ndP:ps.Nodup:=by rw[<-S.pre];exact S.nd.sublist (Qgf _ _)
  refine ⟨u,rv,?_⟩
  rcases S.par y (Qae hp) with k | k
  ·exact .inl ⟨k,wA ndP hp hu k⟩
  ·obtain ⟨c,e⟩:=zV (n:=s.heap.objs.size+1) k
   refine .inr ⟨.inl k,c,e,?_⟩
   have q:=x.cell y c e
   rw[wB ndP hp hu (by show scope.names.lookup y≠_;rw[k];decide)]at q
   exact q
 ·exact e0.cq.fresh (Qbz (x.above y c (Qd8 h)))
 ·unfold start
  show _=N.length
  rw[X4,Qaa,List.length_replicate]
  lia
theorem VH{CX:Fs}{P:Program}{w:World}{k:Nat}{f:Addr}{name qual:Str}{params:Arguments}{scope:Scope}{dV kV doc pm cI ct oc:Value}{an od:Option Addr}
  {Ly:Array (Option Value)} {N ps:List Str} {sp:Sp} (lk:K.lookup f=some ⟨oc,od,.func (PySem.W.fnOf name qual params body scope dV kV doc pm an cI ct),Ly⟩) (jV:PySem.W.codeIn K cI qual=true) (S:aD N ps scope)
  (len:∀vs H Q E,sp vs H Q E->(vs:)=(ps:))
  (HH:∀(A:Around) (outer:List Env) (s:Shared) (H:Hp) (vs:List V) (Q:VK) (E:XK),fo k (A.deeper (envOfC qual scope s.heap.objs.size f cI))->sp vs H Q E->
   ∃t,zQ (Ft CX P w K mg base N qual scope f cI A outer s H E) body t/\t { nx:=λ_ H'=>Q .g7 H',rt:=Q } (start N vs) H):
  bp P w K mg base CX (k+1) f (PySem.W.fnOf name qual params body scope dV kV doc pm an cI ct) ps sp:=by
 refine ⟨len,λA outer s H args us vs Q E hr e0 hb r OI=>?_⟩
 have hl:=len _ _ _ _ OI
 have KX:K.In s.heap:=e0.mod.S8.keeps λb o e=>(e0.bs b o e).1
 have lim:s.heap.NoLimit:=e0.mod.nolimit.keeps λb o e=>(e0.bs b o e).1
 have jD:∀y∈ps.zip us,scope.names.lookup y.1=some .local\/(scope.names.lookup y.1=some .cell/\((cellsFrom 133 scope.names []).lookup y.1).isSome=true):=λ⟨n,v⟩ hy=>by
  rcases S.par n (Qgz hy).1 with q | q
  ·exact .inl q
  ·exact .inr ⟨q,PySem.W.cellsFrom_some _ _ _ (.inl q)⟩
 refine codeAny_call_function hr.depth (KX _ _ lk) rfl S.co S.gen rfl (PySem.W.codeRec_of KX jV) (hb _ _ _ _ ?_)
 refine wpAny_newFunctionEnv_cells S.kind jD λenv he s1 x=>?_
 subst he
 refine ⟨lim.keeps x.toInCall.keep,codeAny_func ?_⟩
 obtain ⟨t,ht,hq⟩:=HH A outer s H vs Q E (hr.deeper _) OI
 have I:Inv (Ft CX P w K mg base N qual scope f cI A outer s H E) [] (start N vs) H s1:=Fu S hr.hd e0 hl r x
 refine wpAny_mono (ht [] s1 (start N vs) H _ I hq) (λfl s' hs=>?_) λe s' hs=>hs
 have fin:∀{σ':St} {H':Hp} {v:V} {u:Value},Inv (Ft CX P w K mg base N qual scope f cI A outer s H E) [] σ' H' s'->RelV v u->Q v H'->CE outer P w H s Q u s':=
  λ{σ' H' v u} J rv q=>⟨v,H',J.os,J.bare,J.base,J.cq,rv,q⟩
 cases fl with
 | ret u=>
  obtain ⟨v,σ',H',J,rv,q⟩:=hs
  exact fin J rv q
 | next=>
  obtain ⟨σ',H',J,q⟩:=hs
  exact fin (v:=V.g7) (u:=Value.none) J rfl q
 | brk=>
  obtain ⟨_,_,_,q⟩:=hs
  exact False.elim q
 | cont=>
  obtain ⟨_,_,_,q⟩:=hs
  exact False.elim q
section
variable{X:Cx}{x:Str}{p pos:Pos}{e:Expr}{es:List Expr}{t:TA}{id T:String}{r:List V->Hp->VK->Prop}
def Zo(r:List V->Hp->VK->Prop)(t:TA):TE:=λσ H Q=>t σ H λvs H1=>r vs H1 Q
theorem aU(hc:dA X (.builtin id) r)(hg:Gl X x)(hm:X.mg x=none)(hv:bootBuiltins x=some (.builtin id))(ha:PA X (e::es) t)(hn:x≠"__name__":=by decide)(Qk:(x==("__debug__":Str))=false:=by decide)
  (he:starEach (e::es) X.env=(false,eval e X.env)::starEach es X.env:=by rfl) (jC:(backTo pos (starEach es X.env)).any (·.1)=false:=by rfl):PE X (.Call (.Name x p) (e::es) [] pos) (Zo r t):=by
 walk_at"h"
 refine wpAny_Call_Name_kw (iA I hg hm hv ?_ hn Qk)
 exact PyProof.Rows.callWith_builtin1 (cA (ha pos pins s σ H _ I h) λus s1 ⟨vs,H1,I1,r1,q1⟩=>hc pins s1 σ H1 vs us Q I1 r1 q1) he jC
theorem cQ(hc:dA X (.type T) r)(hg:Gl X x)(hm:X.mg x=none)(hv:bootBuiltins x=some (.type T))(ha:PA X (e::es) t)(hn:x≠"__name__":=by decide)(Qk:(x==("__debug__":Str))=false:=by decide)
  (he:starEach (e::es) X.env=(false,eval e X.env)::starEach es X.env:=by rfl) (jC:(backTo pos (starEach es X.env)).any (·.1)=false:=by rfl):PE X (.Call (.Name x p) (e::es) [] pos) (Zo r t):=by
 walk_at"h"
 refine wpAny_Call_Name_kw (iA I hg hm hv ?_ hn Qk)
 exact Qcc (cA (ha pos pins s σ H _ I h) λus s1 ⟨vs,H1,I1,r1,q1⟩=>hc pins s1 σ H1 vs us Q I1 r1 q1) he jC
end
end L2
namespace HT
open PySem PyProof.Rows
section
variable{prog:Program}{w:World}{A:Around}{E:Value->Shared->Prop}{s:Shared}
noncomputable def lI(n d:Nat):Option Int->Nat
 | none=>d
 | some v=>if v<0 then (v+(n:Int)).toNat else min v.toNat n
theorem zW(n d:Nat):lI n d none=d:=rfl
theorem hJ(n d k:Nat):lI n d (some (k:Int))=min k n:=by
 show (if (k:Int)<0 then ((k:Int)+(n:Int)).toNat else min (k:Int).toNat n)=min k n
 rw[if_neg (),Qap]
theorem Qm(n d:Nat)(hd:d<=n)(o:Option Int):lI n d o<=n:=by
 cases o with
 | none=>exact hd
 | some v=>
  show (if v<0 then (v+(n:Int)).toNat else min v.toNat n)<=n
  by_cases hv:v<0
  ·rw[if_pos hv];lia
  ·rw[if_neg hv];exact Nat.min_le_right _ _
end
end HT
namespace L2
open PySem PySem.Spec PyProof.Rows
abbrev TO:=St->Hp->(Option Int->Hp->Prop)->Prop
def PO(X:Cx)(e:Option Expr)(t:TO):Prop:=
 ∀(pins:List 126) (s:Shared) (σ:St) (H:Hp) (Q:Option Int->Hp->Prop),Inv X pins σ H s->t σ H Q->
  wpAny 93 X.A (evalPart e X.env) (λu s'=>∃o H',Inv X pins σ H' s'/\IsPart u o/\Q o H') X.xe s
def L_:TO:=λ_ H Q=>Q none H
def VI(t:TE):TO:=λσ H Q=>t σ H λx H1=>∃i,x= .int i/\Q (some i) H1
theorem intsAre_of{ns:List Int}:∀{us:List Value},Vals (ns.map V.int) us->IntsAre us ns:=by
 induction ns with
 | nil=>intro us r;rw[Qe0]at r;cases r;exact .nil
 | cons n ns ih=>
  intro us r
  rw[Qas]at r
  cases r with
  | cons r1 r2=>
   obtain ⟨t,e⟩:=r1
   subst e
   exact .cons n t (ih r2)
section
variable{X:Cx}{e:Expr}{te:TE}{lo hi:Option Expr}{tl th:TO}{pos p2:Pos}
theorem fB:PO X none L_:=by
 walk_at"h"
 rw[evalPart_none]
 exact wpAny_pure ⟨none,H,I,.none,h⟩
theorem cb(h:PE X e te):PO X (some e) (VI te):=by
 intro pins s σ H Q I hw
 rw[evalPart_some]
 refine cA (h pins s σ H _ I hw) λu s1 ⟨x,H1,I1,r1,q1⟩=>?_
 obtain ⟨i,rfl,q⟩:=q1
 walk_at"T"
 exact ⟨some i,H1,I1,.int i t,q⟩
def X1(X:Cx)(r:V->Option Int->Option Int->Hp->VK->Prop):Prop:=
 ∀(pins:List 126) (s:Shared) (σ:St) (H:Hp) (x:V) (v vl vu:Value) (lo hi:Option Int) (sl:Addr) (Q:VK),Inv X pins σ H s->RelV x v->s.heap.IsSliceOf sl vl vu .none->IsPart vl lo->IsPart vu hi->r x lo hi H Q->
  ∃T id,typeLookup (.type T) "__getitem__"=pure (some (.builtin id))/\s.TypeIs v T/\wpAny 93 X.A (getItem v (.ref sl)) (EP X pins σ Q) X.xe s
def tSl(r:V->Option Int->Option Int->Hp->VK->Prop)(te:TE)(tl th:TO):TE:=λσ H Q=>te σ H λx H1=>tl σ H1 λl H2=>th σ H2 λu H3=>r x l u H3 Q
theorem cD{r:V->Option Int->Option Int->Hp->VK->Prop}(hr:X1 X r)(he:PE X e te)(hl:PO X lo tl)(hu:PO X hi th):PE X (.Subscript e (.Slice lo hi none p2) pos) (tSl r te tl th):=by
 walk_at"h"
 refine Subscript_ (cA (he pins s σ H _ I h) λv s1 ⟨x,H1,I1,r1,q1⟩=>?_)
 refine wpAny_Slice (cA (hl pins s1 σ H1 _ I1 q1) λvl s2 ⟨l,H2,I2,pl,q2⟩=>cA (hu pins s2 σ H2 _ I2 q2) λvu s3 ⟨u,H3,I3,pu,q3⟩=>?_)
 rw[evalPart_none]
 refine wpAny_pure ?_
 have I4:Inv X pins σ H3 { s3 with heap:=s3.heap.push { cls:= .type "slice",data:= .fields #[vl,vu,.none] } }:=I3.kept (t':=s3.toks) λb ob q=>Ta _ q
 obtain ⟨T,id,hT,ht,hg⟩:=hr pins { s3 with heap:=s3.heap.push { cls:= .type "slice",data:= .fields #[vl,vu,.none] } } σ H3 x v vl vu l u s3.heap.objs.size Q I4 r1 (Heap.IsSliceOf.new ..) pl pu q3
 show wpAny 93 X.A (subscriptTail e (.Slice lo hi none p2) v (.ref s3.heap.objs.size)) (EP X pins σ Q) X.xe { s3 with heap:=s3.heap.push { cls:= .type "slice",data:= .fields #[vl,vu,.none] } }
 exact tail_any (ops:=[.ref s3.heap.objs.size,v]) ht hT hg (by with_unfolding_all rfl)
noncomputable def vn(xs:List V)(lo hi:Option Int):List V:=(xs.drop (HT.lI (xs:) 0 lo)).take (HT.lI (xs:) (xs:) hi - HT.lI (xs:) 0 lo)
theorem zX(xs:List V)(lo hi:Option Int):(vn xs lo hi:)<=(xs:):=by
 unfold vn
 rw[Qai,Qaz]
 lia
end
noncomputable def Lz(n:Nat)(i:Int):Option Nat:=if 0<=i then (if i<n then some i.toNat else none) else if -(n:Int)<=i then some (i+n).toNat else none
noncomputable def vp{α:Type}(xs:List α)(i:Int):Option α:=(Lz (xs:) i).bind λj=>xs[j]?
variable{n j:Nat}{i:Int}
theorem DG(h:Lz n i=some j):seqIndex? i n=some j/\j<n/\ -(n:Int)<=i/\i<n:=by
 unfold Lz at h
 by_cases h0:0<=i
 ·rw[if_pos h0]at h
  by_cases h1:i<n
  ·rw[if_pos h1]at h
   have e:i.toNat=j:=Qal h
   exact ⟨by rw[seqIndex_of h0 h1,e],(),(),h1⟩
  ·rw[if_neg h1]at h;cases h
 ·rw[if_neg h0]at h
  by_cases h1: -(n:Int)<=i
  ·rw[if_pos h1]at h
   have e:(i+n).toNat=j:=Qal h
   exact ⟨by rw[seqIndex_neg () h1,e],(),h1,()⟩
  ·rw[if_neg h1]at h;cases h
theorem xZ{α:Type}{xs:List α}{v:α}(h:vp xs i=some v):∃j,seqIndex? i (xs:)=some j/\xs[j]? =some v/\j<(xs:)/\ -((xs:):Int)<=i/\i<(xs:):=by
 unfold vp at h
 cases e:Lz (xs:) i with
 | none=>rw[e]at h;cases h
 | some j=>
  rw[e]at h
  obtain ⟨h1,h2,h3,h4⟩:=DG e
  exact ⟨j,h1,h,h2,h3,h4⟩
theorem cO{α:Type}{xs:List α}{v:α}(h:xs[j]? =some v):vp xs (j:Int)=some v:=by
 have hj:j<(xs:):=(Qz.mp h).1
 have e:Lz (xs:) (j:Int)=some j:=by
  unfold Lz
  rw[if_pos (),if_pos ()];simp
 unfold vp;rw[e];exact h
theorem zY{α:Type}(xs:List α)(v:α):vp (xs++[v]) (-1)=some v:=by
 have hl:(xs++[v]:)=(xs:)+1:=by simp
 have e:Lz (xs++[v]:) (-1)=some (xs:):=by
  unfold Lz
  rw[hl,if_neg ∅,if_pos ()]
  congr 1
  lia
 unfold vp
 rw[e]
 show (xs++[v])[(xs:)]? =some v
 simp
def Ma(b:Expr):Prop:=∀o i,subscripted b false o i=operate [o,i] (getItem o i)
def Qn(X:Cx)(r:R2):Prop:=
 ∀(value slice:Expr) (pins:List 126) (s:Shared) (σ:St) (H:Hp) (x y:V) (v u:Value) (Q:VK),Inv X pins σ H s->RelV x v->RelV y u->r x y H Q->
  subscripted slice false v u=operate [v,u] (getItem v u)->wpAny 93 X.A (subscriptTail value slice v u) (EP X pins σ Q) X.xe s
def DH(X:Cx)(id:String)(r:V->List V->Hp->VK->Prop):Prop:=
 ∀(pins:List 126) (s:Shared) (σ:St) (H:Hp) (x:V) (xs:List V) (v:Value) (us:List Value) (Q:VK),Inv X pins σ H s->RelV x v->Vals xs us->r x xs H Q->
  wpAny 93 X.A (call (.builtin id) (v::us)) (EP X pins σ Q) X.xe s
variable{pins:List 126}{σ:St}{H:Hp}{s:Shared}{p:Addr}{xs:List V}{aJ its':List Value}
section
variable{X:Cx}{a b:Expr}{ta tb:TE}{pos:Pos}
theorem aO{r:R2}(hr:Qn X r)(ha:PE X a ta)(hb:PE X b tb)(hs:Ma b):PE X (.Subscript a b pos) (XZ r ta tb):=by
 walk_at"h"
 exact Subscript_ (Qf ha hb I h λv u s2 x y H2 I2 rx ry q=>hr a b pins s2 σ H2 x y v u Q I2 rx ry q (hs _ _))
inductive HI(K:c7)(x:V)(y:V)(H:Hp)(Q:VK):Prop
 | mk (p:_) (xs:_) (i:_) (v:_) (_:x= .ref p) (_:y= .int i) (_:bC K H p xs) (_:vp xs i=some v) (_:Q v H):HI K x y H Q
def VJ(K:c7):R2:=HI K
inductive HJ(K:c7)(x:V)(y:V)(H:Hp)(Q:VK):Prop
 | mk (p:_) (xs:_) (i:_) (v:_) (_:x= .ref p) (_:y= .int i) (_:bY K H p xs) (_:vp xs i=some v) (_:Q v H):HJ K x y H Q
def VL(K:c7):R2:=HJ K
inductive HK(x:V)(y:V)(H:Hp)(Q:VK):Prop
 | mk (z:_) (i:_) (c:_) (_:x= .str z) (_:y= .int i) (_:(z:)<=sizeLine) (_:vp z.cps.toList i=some c) (_:Q (.str ⟨#[c]⟩) H):HK x y H Q
def Zp:R2:=HK
theorem Mb:Qn X (VJ X.K):=by
 walk_at"G"
 obtain ⟨p,xs,i,z,rfl,rfl,hq,he,q⟩:=h
 cases rx
 obtain ⟨t,rfl⟩:=ry
 obtain ⟨aJ,r,pl,hz⟩:=I.list hq
 obtain ⟨j,h1,h2,h3,h4,h5⟩:=xZ he
 obtain ⟨w,ew,zZ⟩:=r.get h2
 have hl:=(r:)
 have hn:=gH
 have fin:EP X pins σ Q w s:=⟨z,H,I,zZ,q⟩
 by_cases h0:0<=i
 ·have hj:i.toNat=j:=by
   rw[seqIndex_of h0 h5]at h1
   exact Qal h1
  exact item_listR pl.isList h0 () (by rw[hj];simpa using ew) fin hs
 ·have hj:(i+(aJ.toArray.size:Int)).toNat=j:=by
   rw[seqIndex_neg () h4]at h1
   rw[Qao, <-hl]
   exact Qal h1
  exact subscriptTail_builtinR (x:=w) pl.isList.typeIs slot_list_getitem.lookup
   (wpAny_getItem_list_neg (Q:=λr s'=>r=w/\EP X pins σ Q r s') pl.isList () (by rw[Qao]<;>lia) () (by rw[hj];simpa using ew) ⟨rfl,fin⟩) hs
theorem Qo:Qn X (VL X.K):=by
 walk_at"G"
 obtain ⟨p,xs,i,z,rfl,rfl,hq,he,q⟩:=h
 cases rx
 obtain ⟨t,rfl⟩:=ry
 obtain ⟨aJ,r,pl,hz⟩:=I.tuple hq
 obtain ⟨j,h1,h2,h3,h4,h5⟩:=xZ he
 obtain ⟨w,ew,zZ⟩:=r.get h2
 have hl:=(r:)
 have hn:=gH
 have fin:EP X pins σ Q w s:=⟨z,H,I,zZ,q⟩
 exact subscriptTail_builtinR (x:=w) pl.typeIs slot_tuple_getitem.lookup
  (getItem_tuple (j:=j) (Q:=λr s'=>r=w/\EP X pins σ Q r s') pl () () (by rw[Qao, <-hl];exact h1) (by simpa using ew) ⟨rfl,fin⟩) hs
theorem Qp:Qn X Zp:=by
 walk_at"G"
 obtain ⟨z,i,c,rfl,rfl,hz,he,q⟩:=h
 walk_at"g"
 walk_at"Y"
 obtain ⟨j,h1,h2,h3,h4,h5⟩:=xZ he
 have hl:(z.cps.toList:)=(z:):=by simp[Str.length]
 rw[hl]at h1 h4 h5
 have hn:=gH
 exact tail_any (typeIs_str s z t) slot_str_getitem.lookup (getItem_str (c:=c) (by
  have e1:decide (i< -(2 ^ 63:Int))=false:=decide_eq_false ()
  have e2:decide (i ≥ 2 ^ 63)=false:=decide_eq_false ()
  rw[e1,e2,Bool.or_false]) (by rw[h1];simpa using h2) ⟨.str ⟨#[c]⟩,H,I.tok _,⟨_,rfl⟩,q⟩) hs
theorem B2(aJ:List Value)(n j:Nat)(u:Value):Obj.mapSeq (·.setIfInBounds j u) { cls:= .type "list",data:= .seq aJ.toArray n }={ cls:= .type "list",data:= .seq (aJ.set j u).toArray n }:=by
 simp[Obj.mapSeq]
theorem Inv.lst(I:Inv X pins σ H s)(h:H p=some (.lst xs)):
  ∃(aJ:List Value) (n:Nat),Vals xs aJ/\s.heap.get? p=some { cls:= .type "list",data:= .seq aJ.toArray n }/\(xs:)<=sizeLine:=by
 obtain ⟨z,aJ,n,r,e⟩:=I.cq p _ h
 exact ⟨aJ,n,r,e,z⟩
theorem Inv.Qq{ys:List V}{n':Nat}{f:Obj->Obj}(I:Inv X pins σ H s)(h:H p=some (.lst xs))
  (ho:s.heap.get? p=some { cls:= .type "list",data:= .seq aJ.toArray n }) (hf:f { cls:= .type "list",data:= .seq aJ.toArray n }={ cls:= .type "list",data:= .seq its'.toArray n' }) (r:Vals ys its') (hz:(ys:)<=sizeLine) (t:Nat):
  Inv X pins σ (upd H p (.lst ys)) { s with heap:=s.heap.update p f,toks:=t }:=by
 have e:(s.heap.update p f).get? p=some { cls:= .type "list",data:= .seq its'.toArray n' }:=by
  rw[Qc1 f ho (by rw[hf]<;>rfl),hf]
 refine I.write (x:=p) (e:=p) (by rw[h];trivial) (.inl rfl) (λb u hb q=>(Qby _ _ (Ne.symm hb)).trans q) ⟨_,e⟩ ?_
 exact ⟨hz,its',n',r,e⟩
inductive DI(o:V)(i:V)(v:V)(H:Hp)(Q:(Hp->Prop)):Prop
 | mk (p:_) (xs:_) (k:_) (j:_) (_:o= .ref p) (_:i= .int k) (_:H p=some (.lst xs)) (_:Lz (xs:) k=some j) (_:Q (upd H p (.lst (xs.set j v)))):DI o i v H Q
def VM:V->V->V->Hp->(Hp->Prop)->Prop:=DI
theorem set_list:Vo X VM:=by
 intro pins s σ H o i v ov iv u Q I ro ri rv h
 obtain ⟨p,xs,k,j,rfl,rfl,hp,hj,q⟩:=h
 cases ro
 obtain ⟨t,rfl⟩:=ri
 obtain ⟨aJ,n,r,ho,hz⟩:=I.lst hp
 obtain ⟨h1,h2,h3,h4⟩:=DG hj
 have hl:=(r:)
 have hn:=gH
 have I':Inv X pins σ (upd H p (.lst (xs.set j v))) { s with heap:=s.heap.update p (Obj.mapSeq (·.setIfInBounds j u)) }:=
  I.Qq hp ho (B2 aJ n j u) (r.set rv j) (by rw[List.length_set];exact hz) s.toks
 by_cases h0:0<=k
 ·have hk:k.toNat=j:=by
   rw[seqIndex_of h0 h4]at h1
   exact Qal h1
  exact PySem.W.ki_setAt ho h0 () (by rw[Qao, <-hl];exact h4) (by rw[hk];exact ⟨_,I',q⟩)
 ·have hk:(k+(aJ.toArray.size:Int)).toNat=j:=by
   rw[seqIndex_neg () h3]at h1
   rw[Qao, <-hl]
   exact Qal h1
  exact PySem.W.ki_setBack ho () (by rw[Qao, <-hl];exact h3) () (by rw[hk];exact ⟨_,I',q⟩)
theorem x3(lo hi:Option Int)(n:Nat):(sliceBounds lo hi none n).1=((HT.lI n 0 lo:Nat):Int)/\(sliceBounds lo hi none n).2.1=((HT.lI n n hi:Nat):Int)/\(sliceBounds lo hi none n).2.2=1:=by
 refine ⟨?_,?_,rfl⟩
 ·cases lo with
  | none=>simp[sliceBounds,HT.lI]
  | some i=>
   simp only[sliceBounds,HT.lI,Option.getD_none,show (1:Int)>0 by decide,if_true]
   by_cases h:i<0
   ·simp only[h,if_true]<;>lia
   ·simp only[h,if_false]<;>lia
 ·cases hi with
  | none=>simp[sliceBounds,HT.lI]
  | some i=>
   simp only[sliceBounds,HT.lI,Option.getD_none,show (1:Int)>0 by decide,if_true]
   by_cases h:i<0
   ·simp only[h,if_true]<;>lia
   ·simp only[h,if_false]<;>lia
theorem vq(aJ:List Value)(lo hi:Option Int):slicePick aJ.toArray lo hi none=((aJ.drop (HT.lI (aJ:) 0 lo)).take (HT.lI (aJ:) (aJ:) hi - HT.lI (aJ:) 0 lo)).toArray:=by
 obtain ⟨h1,h2,h3⟩:=x3 lo hi aJ.toArray.size
 unfold slicePick
 rw[h1,h2,h3]
 simp only[sliceRange_one,pick_run,Qao]<;>rfl
inductive HL(K:c7)(x:V)(lo:Option Int)(hi:Option Int)(H:Hp)(Q:VK):Prop
 | mk (a:_) (xs:_) (_:x= .ref a) (_:bC K H a xs) (_:∀p,H p=none->Q (.ref p) (upd H p (.lst (vn xs lo hi)))):HL K x lo hi H Q
def VN(K:c7):V->Option Int->Option Int->Hp->VK->Prop:=HL K
theorem Mc:X1 X (VN X.K):=by
 intro pins s σ H x v vl vu lo hi sl Q I rx hs pl pu h
 obtain ⟨a,xs,rfl,hx,q⟩:=h
 cases rx
 obtain ⟨aJ,r,ht,hz⟩:=I.list hx
 have hlen:=(r:)
 refine ⟨"list",_,slot_list_getitem.lookup,ht.isList.typeIs,?_⟩
 refine wpAny_getItem_list_slice ht.isList hs pl pu .none (by simp) ?_ (by rw[Qao]<;>lia)
 rw[vq, <-hlen]
 refine ⟨.ref s.heap.objs.size,_,I.laid (t':=s.toks) (o:= .lst (vn xs lo hi)) (λb ob q=>Ta _ q) (Qad _) ?_,rfl,q _ (I.cq.fresh (Qad _))⟩
 exact ⟨Qbn (zX xs lo hi) hz,_,0,(r.drop (HT.lI (xs:) 0 lo)).take (HT.lI (xs:) (xs:) hi - HT.lI (xs:) 0 lo),Qau _ rfl⟩
theorem x4:dA X (.builtin "len") (λxs H Q=>∃p ys,xs=[.ref p]/\(bC X.K H p ys\/bY X.K H p ys)/\Q (.int (ys:)) H):=by
 walk_at"e"
 obtain ⟨p,ys,rfl,hq,q⟩:=h
 obtain ⟨u,rfl,rx⟩:=vals1 r
 cases rx
 have hn:=gH
 rcases hq with hq | hq
 ·obtain ⟨aJ,r',pl,hz⟩:=I.list hq
  have hlen:=(r':)
  exact Calls.call_len_list pl.isList (by simp only[Qao]<;>lia) ⟨.int (ys:),H,I.tok _,⟨s.toks+1,by rw[Qao,hlen]⟩,q⟩
 ·obtain ⟨aJ,r',pl,hz⟩:=I.tuple hq
  have hlen:=(r':)
  exact len_tuple pl (by simp only[Qao]<;>lia) ⟨.int (ys:),H,I.tok _,⟨s.toks+1,by rw[Qao,hlen]⟩,q⟩
theorem x5:dA X (.builtin "len") (λxs H Q=>∃z,xs=[.str z]/\(z:)<=sizeLine/\Q (.int (z:)) H):=by
 walk_at"e"
 obtain ⟨z,rfl,hz,q⟩:=h
 obtain ⟨u,rfl,t,rfl⟩:=vals1 r
 have hn:=gH
 exact len_str () ⟨.int (z:),H,I.tok _,⟨_,rfl⟩,q⟩
theorem x6:dA X (.type "list") (λxs H Q=>∃p ys,xs=[.ref p]/\(bC X.K H p ys\/bY X.K H p ys)/\∀l,H l=none->Q (.ref l) (upd H l (.lst ys))):=by
 walk_at"e"
 obtain ⟨p,ys,rfl,hq,q⟩:=h
 obtain ⟨u,rfl,rx⟩:=vals1 r
 cases rx
 have fin:∀(aJ:List Value),Vals ys aJ->(ys:)<=sizeLine->∀(h':Heap) (c':Nat),(∀b o',s.heap.get? b=some o'->h'.get? b=some o')->
   h'.get? s.heap.objs.size=some { cls:= .type "list",dict:=none,data:= .seq aJ.toArray c',slots:= #[] }->EP X pins σ Q (.ref s.heap.objs.size) { s with heap:=h' }:=λaJ r' hz h' c' kp e=>
  ⟨.ref s.heap.objs.size,_,I.laid (t':=s.toks) kp (Qad _) (show du X.prog X.w _ h' _ (.lst ys) from ⟨hz,aJ,c',r',e⟩),rfl,q _ (I.cq.fresh (Qad _))⟩
 rcases hq with hq | hq
 ·obtain ⟨aJ,r',pl,hz⟩:=I.list hq
  have hlen:=(r':)
  obtain ⟨o,ho,hc,n,hd⟩:=pl.isList
  exact call_list_seq p (.inl rfl) ho hc hd (λh' c' kp e=>fin aJ r' hz h' c' kp e) (by simp only[Qao]<;>lia)
 ·obtain ⟨aJ,r',pl,hz⟩:=I.tuple hq
  have hlen:=(r':)
  obtain ⟨o,ho,hc,n,hd⟩:=pl
  exact call_list_seq p (.inr rfl) ho hc hd (λh' c' kp e=>fin aJ r' hz h' c' kp e) (by simp only[Qao]<;>lia)
theorem vv:dA X (.type "tuple") (λxs H Q=>∃p ys,xs=[.ref p]/\((bC X.K H p ys/\∀l,H l=none->Q (.ref l) (upd H l (.tup ys)))\/(bY X.K H p ys/\Q (.ref p) H))):=by
 walk_at"e"
 obtain ⟨p,ys,rfl,h⟩:=h
 obtain ⟨u,rfl,rx⟩:=vals1 r
 cases rx
 rcases h with ⟨hq,q⟩ | ⟨hq,q⟩
 ·obtain ⟨aJ,r',pl,hz⟩:=I.list hq
  have hlen:=(r':)
  refine call_tuple_list pl.isList (λh' kp=>?_) (by simp only[Qao]<;>lia)
  have I1:Inv X pins σ H { s with heap:=h' }:=I.kept (t':=s.toks) kp
  have I2:Inv X pins σ (upd H h'.objs.size (.tup ys)) { s with heap:=h'.push { cls:= .type "tuple",data:= .seq aJ.toArray } }:=
   I1.laid (t':=s.toks) (λb o e=>Ta _ e) (Qad _) (show du X.prog X.w _ _ _ (.tup ys) from ⟨hz,aJ,r',IsTup.new _ _⟩)
  exact ⟨.ref h'.objs.size,_,I2,rfl,q _ (I1.cq.fresh (Qad _))⟩
 ·obtain ⟨aJ,r',pl,hz⟩:=I.tuple hq
  exact call_tuple_same pl ⟨.ref p,H,I,rfl,q⟩
def Zq(K:c7)(T:String)(x:V)(H:Hp):Prop:=match x with
 | .str _=>T="str"
 | .int _=>T="int"
 | .ref p=>(T="list"/\∃xs,bC K H p xs)\/(T="tuple"/\∃o,K.lookup p=some o/\o.cls= .type "tuple"/\o.dict=none)\/
   (T="dict"/\((∃aN,H p=some (.dK aN))\/∃aN,H p=some (.dT aN)))\/(T="set"/\∃S n,H p=some (.set S n))
 | _=>False
theorem HM{T:String}{x:V}{v:Value}(I:Inv X pins σ H s)(r:RelV x v)(ty:Zq X.K T x H):
  s.TypeIs v T/\∀a,v= .ref a->∃ob,s.heap.get? a=some ob/\ob.dict=none:=by
 cases x with
 | str z=>
  obtain ⟨t,rfl⟩:=r
  cases (show T="str" from ty)
  exact ⟨typeIs_str s z t,λ_ e=>nomatch e⟩
 | int i=>
  obtain ⟨t,rfl⟩:=r
  cases (show T="int" from ty)
  exact ⟨typeIs_int s i t,λ_ e=>nomatch e⟩
 | ref p=>
  cases r
  rcases ty with ⟨rfl,xs,hq⟩ | ⟨rfl,o,hk,hc,hd⟩ | ⟨rfl,hk⟩ | ⟨rfl,S,n,hk⟩
  ·obtain ⟨aJ,_,pl,_⟩:=I.list hq
   refine ⟨pl.isList.typeIs,λa e=>?_⟩
   cases e
   obtain ⟨o,n,e,c,hd,_⟩:=pl
   exact ⟨o,e,hd⟩
  ·refine ⟨⟨o,I.Ff p o hk,hc⟩,λa e=>?_⟩
   cases e
   exact ⟨o,I.Ff _ o hk,hd⟩
  ·have z:∃o,s.heap.get? p=some o/\o.ExactDict:=by
    rcases hk with ⟨aN,hk⟩ | ⟨aN,hk⟩
    ·obtain ⟨_,_,_,_,o,_,_,e,ex,_⟩:=I.cq p _ hk
     exact ⟨o,e,ex⟩
    ·obtain ⟨_,_,_,_,o,_,_,e,ex,_⟩:=I.cq p _ hk
     exact ⟨o,e,ex⟩
   obtain ⟨o,e,ex⟩:=z
   refine ⟨⟨o,e,ex.1⟩,λa e2=>?_⟩
   cases e2
   exact ⟨o,e,ex.2.1⟩
  ·obtain ⟨o,_,_,_,e,ex,_⟩:=I.cq p _ hk
   refine ⟨⟨o,e,ex.1⟩,λa e2=>?_⟩
   cases e2
   exact ⟨o,e,ex.2.1⟩
 | _=>exact False.elim ty
def VO(K:c7)(T:String)(r:V->List V->Hp->VK->Prop)(to:TE):TE:=λσ H Q=>to σ H λx H1=>Zq K T x H1/\r x [] H1 Q
def tBM(K:c7)(T:String)(r:V->List V->Hp->VK->Prop)(to:TE)(t:TA):TE:=λσ H Q=>to σ H λx H1=>Zq K T x H1/\t σ H1 λxs H2=>r x xs H2 Q
variable{o e:Expr}{es:List Expr}{to:TE}{t:TA}{name:Str}{apos jW:Pos}{T id:String}{r:V->List V->Hp->VK->Prop}
theorem Qr(pa:PlainAttrs T)(slot:Slot T name id)(Qs:typeOf (.builtin id)=pure (.type "method_descriptor"))(hm:DH X id r)(ho:PE X o to)
  (sJ:attributeBase o name X.env (eval o X.env)=eval o X.env:=by rfl) (mD:(apos.endLine==jW.line)=true:=by rfl):PE X (.Call (.Attribute o name apos) [] [] jW) (VO X.K T r to):=by
 walk_at"h"
 refine wpAny_Call_method0_late sJ mD (cA (ho pins s σ H _ I h) λv s1 ⟨x,H1,I1,r1,ty,q1⟩=>?_)
 obtain ⟨h1,h2⟩:=HM I1 r1 ty
 exact ⟨T,id,pa,slot,Qs,h1,h2,Calls.callWith_builtin rfl (PySem.evalArgs_none (hm pins s1 σ H1 x [] v [] Q I1 r1 .nil q1))⟩
theorem VP(pa:PlainAttrs T)(slot:Slot T name id)(Qs:typeOf (.builtin id)=pure (.type "method_descriptor"))(hm:DH X id r)(ho:PE X o to)(ha:PA X (e::es) t)
  (sJ:attributeBase o name X.env (eval o X.env)=eval o X.env:=by rfl)
  (Md:((backTo jW (starEach (e::es) X.env)).all (λx=>!x.1)&&(backToKw jW (keywordEach [] X.env)).all (λx=>x.1.isSome)
   &&decide (((e::es):)+(([]:List Keyword):)+(if ([]:List Keyword).isEmpty then 0 else 1)<30))=true:=by rfl)
  (mD:(apos.endLine==jW.line)=true:=by rfl) (hs:starEach (e::es) X.env=(false,eval e X.env)::starEach es X.env:=by rfl) (B3:(backTo jW (starEach es X.env)).any (·.1)=false:=by rfl):
  PE X (.Call (.Attribute o name apos) (e::es) [] jW) (tBM X.K T r to t):=by
 walk_at"h"
 refine wpAny_Call_method_late sJ Md mD rfl (cA (ho pins s σ H _ I h) λv s1 ⟨x,H1,I1,r1,ty,q1⟩=>?_)
 obtain ⟨h1,h2⟩:=HM I1 r1 ty
 refine ⟨T,id,pa,slot,Qs,h1,h2,?_⟩
 have hA:=ha jW pins s1 σ H1 _ I1 q1
 rw[hs]at hA ⊢
 refine Calls.callWith_builtin (by show (false||(backTo jW (starEach es X.env)).any (·.1))=false;rw[B3]<;>rfl) (Calls.evalArgs_plain ?_)
 exact cA hA λus s2 ⟨vs,H2,I2,r2,q2⟩=>hm pins s2 σ H2 x vs v us Q I2 r1 r2 q2
end
def S_(X:Cx)(id:String)(r:V->List V->Hp->VK->Prop):Prop:=
 ∀(pins:List 126) (s:Shared) (σ:St) (H:Hp) (x:V) (xs:List V) (v:Value) (us:List Value) (Q:VK),Inv X pins σ H s->RelV x v->Vals xs us->r x xs H Q->
  wpAny 93 X.A (call (.builtin id) (v::us)) (EP X pins σ Q) X.xe s
theorem Vals.one:∀{x:V} {us:List Value},Vals [x] us->∃u,us=[u]/\RelV x u
 | _,_,.cons r .nil=>⟨_,rfl,r⟩
theorem Vals.zero:∀{us:List Value},Vals [] us->us=[]
 | _,.nil=>rfl
variable{us:List Value}
theorem Vals.dropLast(h:Vals xs us):Vals xs.dropLast us.dropLast:=by
 induction h with
 | nil=>exact .nil
 | cons r t ih=>
  cases t with
  | nil=>exact .nil
  | cons q t'=>exact .cons r ih
theorem Vals.eraseIdx:∀{xs:List V} {us:List Value} (i:Nat),Vals xs us->Vals (xs.eraseIdx i) (us.eraseIdx i)
 | _,_,_,.nil=> .nil
 | _,_,0,.cons _ t=>t
 | _,_,i+1,.cons r t=> .cons r (Vals.eraseIdx i t)
theorem Vals.reverse(h:Vals xs us):Vals xs.reverse us.reverse:=by
 induction h with
 | nil=>exact .nil
 | cons r t ih=>rw[Qgh,Qgh];exact Vals.append ih (.cons r .nil)
theorem B4{α:Type}(l:List α):l.eraseIdx ((l:) - 1)=l.dropLast:=by
 induction l with
 | nil=>rfl
 | cons a r ih=>
  cases r with
  | nil=>rfl
  | cons b r=>
   have e:((a::b::r):) - 1=(((b::r):) - 1)+1:=by
    have h1:((a::b::r):)=(r:)+2:=rfl
    have h2:((b::r):)=(r:)+1:=rfl
    lia
   rw[e,Qec,ih]
   all_goals rfl
theorem wC{α:Type}:∀(l:List α) (i:Nat),(l.eraseIdx i:)<=(l:)
 | [],_=>Qad _
 | _::_,0=>Qdo _
 | _::r,i+1=>Qdg (wC r i)
section
variable{X:Cx}{pins:List 126}{σ:St}{H:Hp}{s:Shared}{l b:Addr}{xs ys zs:List V}
theorem Inv.Fv{f:Array Value->Array Value}{t':Nat}(I:Inv X pins σ H s)(hH:H l=some (.lst xs))
  (e:s.heap.get? l=some { cls:= .type "list",data:= .seq aJ.toArray n }) (hf:f aJ.toArray=its'.toArray) (hv:Vals ys its') (hz:(ys:)<=sizeLine):
  Inv X pins σ (upd H l (.lst ys)) { s with heap:=s.heap.update l (Obj.mapSeq f),toks:=t' }:=by
 have q:=PySem.IsL.update e f
 rw[hf]at q
 refine I.write (x:=l) (e:=l) (by rw[hH];exact trivial) (.inl rfl) (λb' u hb hu=>(Qby s.heap (Obj.mapSeq f) (Ne.symm hb)).trans hu) ⟨_,q⟩ ?_
 exact ⟨hz,its',_,hv,q⟩
theorem Inv.Zr{t':Nat}(I:Inv X pins σ H s)(hv:Vals ys aJ)(hz:(ys:)<=sizeLine):
  Inv X pins σ (upd H s.heap.objs.size (.lst ys)) { s with heap:=s.heap.push { cls:= .type "list",data:= .seq aJ.toArray },toks:=t' }:=
 I.laid (λ_ _ q=>Ta _ q) (Qad _) ⟨hz,aJ,0,hv,Qau _ rfl⟩
theorem Inv.fresh(I:Inv X pins σ H s):H s.heap.objs.size=none:=I.cq.fresh (Qad _)
theorem Inv.x8(I:Inv X pins σ H s)(hH:H l=some (.lst xs)):(xs:)<=sizeLine/\∃(aJ:List Value) (n:Nat),Vals xs aJ/\(xs:)=(aJ:)/\s.heap.get? l=some { cls:= .type "list",data:= .seq aJ.toArray n }:=by
 obtain ⟨z,aJ,n,r,e⟩:=I.cq l _ hH
 exact ⟨z,aJ,n,r,(r:),e⟩
theorem HP(h:n<=sizeLine):Builtin.List.listTooLong n=false:=by
 unfold Builtin.List.listTooLong
 exact decide_eq_false ()
end
section
variable{X:Cx}
inductive wD(x:V)(vs:List V)(H:Hp)(Q:VK):Prop
 | mk (l:_) (xs:_) (y:_) (_:x= .ref l) (_:vs=[y]) (_:H l=some (.lst xs)) (_:(xs:)<sizeLine) (_:Q .g7 (upd H l (.lst (xs++[y])))):wD x vs H Q
def Me:V->List V->Hp->VK->Prop:=wD
theorem eQ:S_ X "list.append" Me:=by
 walk_at"z"
 obtain ⟨l,xs,y,rfl,rfl,hH,hz,q⟩:=h
 cases rx
 obtain ⟨u,rfl,ru⟩:=rv.one
 walk_at"v"
 refine call_meets F.slot_list_append ⟨_,e,rfl⟩ F.entry_list_append (F.args_list_append_2 _ _) (PySem.list_append l aJ.toArray n u (by rw[Qao];lia)) ⟨e,?_⟩
 refine ⟨.g7,_,I.Fv (its':=aJ++[u]) hH e (by simp) (r.append (.cons ru .nil)) ?_,rfl,q⟩
 rw[X4,List.length_singleton]
 lia
inductive wF(x:V)(vs:List V)(H:Hp)(Q:VK):Prop
 | mk (l:_) (b:_) (xs:_) (zs:_) (_:x= .ref l) (_:vs=[.ref b]) (_:H l=some (.lst xs)) (_:H b=some (.lst zs)) (_:(xs:)+(zs:)<=sizeLine) (_:Q .g7 (upd H l (.lst (xs++zs)))):wF x vs H Q
def Mf:V->List V->Hp->VK->Prop:=wF
theorem wG:S_ X "list.extend" Mf:=by
 walk_at"z"
 obtain ⟨l,b,xs,zs,rfl,rfl,hH,hB,hz,q⟩:=h
 cases rx
 obtain ⟨u,rfl,ru⟩:=rv.one
 cases ru
 walk_at"v"
 obtain ⟨z2,B5,n2,r2,DJ,e2⟩:=I.x8 hB
 have hsz:aJ.toArray.size+B5.toArray.size<=sizeLine:=by rw[Qao,Qao];lia
 have VQ: ¬(!aJ.toArray.isEmpty&&Builtin.List.listTooLong (aJ.toArray.size+B5.toArray.size))=true:=by
  rw[HP hsz,Bool.and_false]
  exact Qba
 refine call_meets F.slot_list_extend ⟨_,e,rfl⟩ F.entry_list_extend (F.args_list_extend_2 _ _)
  (AutoSeq1.list_extend_list_list_0 l aJ.toArray n b B5.toArray n2 VQ (by rw[Qao];lia) ()) ⟨e,e2,?_⟩
 refine ⟨.g7,_,I.Fv (its':=aJ++B5) hH e (by simp) (r.append r2) ?_,rfl,q⟩
 rw[X4]
 lia
inductive HQ(x:V)(vs:List V)(H:Hp)(Q:VK):Prop
 | mk (l:_) (xs:_) (y:_) (_:x= .ref l) (_:vs=[]) (_:H l=some (.lst xs)) (_:xs[(xs:) - 1]? =some y) (_:Q y (upd H l (.lst xs.dropLast))):HQ x vs H Q
def Zs:V->List V->Hp->VK->Prop:=HQ
theorem Qt:S_ X "list.pop" Zs:=by
 walk_at"z"
 obtain ⟨l,xs,y,rfl,rfl,hH,hy,q⟩:=h
 cases rx
 have G4:=rv.zero
 subst G4
 walk_at"v"
 obtain ⟨u,hu,ru⟩:=r.get hy
 have hy':aJ.toArray[aJ.toArray.size - 1]? =some u:=by
  show aJ.toArray[(aJ:) - 1]? =some u
  rw[<-Qbc, <-hl]
  exact hu
 refine call_meets F.slot_list_pop ⟨_,e,rfl⟩ F.entry_list_pop (F.args_list_pop_1 _) (MeetsSeq.list_pop_last l aJ.toArray n u hy' (by rw[Qao];lia)) ⟨e,?_⟩
 refine ⟨y,_,I.Fv (its':=aJ.dropLast) hH e ?_ r.dropLast ?_,ru,q⟩
 ·show aJ.toArray.eraseIdxIfInBounds (aJ.toArray.size - 1)=aJ.dropLast.toArray
  rw[Qao,List.eraseIdxIfInBounds_toArray,B4]
 ·rw[Qf5]
  lia
inductive z9(x:V)(vs:List V)(H:Hp)(Q:VK):Prop
 | mk (l:_) (xs:_) (i:_) (k:_) (y:_) (_:x= .ref l) (_:vs=[.int i]) (_:H l=some (.lst xs)) (_: -(2 ^ 63)<=i) (_:i<2 ^ 63) (_:seqIndex? i (xs:)=some k) (_:xs[k]? =some y) (_:Q y (upd H l (.lst (xs.eraseIdx k)))):z9 x vs H Q
def Qu:V->List V->Hp->VK->Prop:=z9
theorem sL:S_ X "list.pop" Qu:=by
 walk_at"z"
 obtain ⟨l,xs,i,k,y,rfl,rfl,hH,h1,h2,hk,hy,q⟩:=h
 cases rx
 obtain ⟨u,rfl,ru⟩:=rv.one
 obtain ⟨t,rfl⟩:=ru
 walk_at"v"
 obtain ⟨w,hw,zZ⟩:=r.get hy
 refine call_meets F.slot_list_pop ⟨_,e,rfl⟩ F.entry_list_pop (F.args_list_pop_2 _ _)
  (MeetsSeq.list_pop_at l aJ.toArray n i t k w (fitsIndex_both h1 h2) (by rw[Qao, <-hl];exact hk) (by rw[<-Qbc];exact hw) (by rw[Qao];lia)) ⟨e,?_⟩
 refine ⟨y,_,I.Fv (its':=aJ.eraseIdx k) hH e ?_ (r.eraseIdx k) ?_,zZ,q⟩
 ·show aJ.toArray.eraseIdxIfInBounds k=(aJ.eraseIdx k).toArray
  rw[List.eraseIdxIfInBounds_toArray]
 ·have:=wC xs k
  lia
inductive sM(x:V)(vs:List V)(H:Hp)(Q:VK):Prop
 | mk (l:_) (xs:_) (_:x= .ref l) (_:vs=[]) (_:H l=some (.lst xs)) (_:Q .g7 (upd H l (.lst xs.reverse))):sM x vs H Q
def HR:V->List V->Hp->VK->Prop:=sM
theorem B6:S_ X "list.reverse" HR:=by
 walk_at"z"
 obtain ⟨l,xs,rfl,rfl,hH,q⟩:=h
 cases rx
 have G4:=rv.zero
 subst G4
 walk_at"v"
 refine call_meets F.slot_list_reverse ⟨_,e,rfl⟩ F.entry_list_reverse (F.args_list_reverse_1 _) (AutoSeq1.list_reverse_list_0 l aJ.toArray n (by rw[Qao];lia)) ⟨e,?_⟩
 refine ⟨.g7,_,I.Fv (its':=aJ.reverse) hH e (by simp) r.reverse ?_,rfl,q⟩
 rw[Qa0]
 lia
inductive HS(x:V)(y:V)(H:Hp)(Q:VK):Prop
 | mk (l:_) (b:_) (xs:_) (zs:_) (_:x= .ref l) (_:y= .ref b) (_:H l=some (.lst xs)) (_:H b=some (.lst zs)) (_:(xs:)+(zs:)<=sizeLine) (_:∀p,H p=none->Q (.ref p) (upd H p (.lst (xs++zs)))):HS x y H Q
def Zt:R2:=HS
theorem Qv:jY X (binaryOp .Add) Zt:=by
 walk_at"b"
 obtain ⟨l,b,xs,zs,rfl,rfl,hH,hB,hz,q⟩:=h
 cases rx
 cases ry
 walk_at"v"
 obtain ⟨z2,B5,n2,r2,DJ,e2⟩:=I.x8 hB
 refine PySem.P.add_list e e2 ?_ (by rw[Qao,Qao];lia)
 have ea:aJ.toArray++B5.toArray=(aJ++B5).toArray:=by simp
 rw[ea]
 exact ⟨.ref _,_,I.Zr (t':=s.toks) (r.append r2) (by rw[X4];lia),rfl,q _ I.fresh⟩
end
end L2
namespace Att
open PySem PySem.W PySem.Calls PyProof.Rows
variable{h:Heap}
theorem qV{P:Params}:∀(ns:List Int) (vs:List Value),WellAll P h vs (ns.map WData.int)->IntsAre vs ns:=by
 intro ns
 induction ns with
 | nil=>
  intro vs w
  rw[Qe0]at w
  cases w
  exact .nil
 | cons n ns ih=>
  intro vs w
  rw[Qas]at w
  cases w with
  | cons a b=>
   cases a
   exact .cons _ _ (ih _ b)
variable{l:OpenLaw}{n:Nat}
theorem Fx(hn:l.most=some n){P:Params}{args:List WData}{vals:List Value}
  (Mi:l.row.toRowW.claim.pre args=true) (wH:WellAll P h vals args):
  ∃a vs ns,vals=[Value.ref a]/\args=[WData.list (ns.map WData.int)]/\h.get? a=some { cls:= .type "list",data:= .seq vs.toArray }/\IntsAre vs ns/\(ns:)<=n:=by
 have hsh:WShape.hasAll [] args [.list .int]=true:=(pre_splitW Mi).1
 have hc:l.pre.holds [] { args:=args }=true:=(pre_splitW Mi).2
 obtain ⟨d,r,rfl,h1,h2⟩:=hasAllW_cons hsh
 obtain rfl:=hasAllW_nil h2
 obtain ⟨xs,rfl,h3⟩:=hasW_list h1
 obtain ⟨ns,rfl⟩:=items_int h3
 have hlen:(ns:)<=n:=by
  unfold OpenLaw.pre at hc
  have h4:(WTm.not (.lt (.lit (.int (n:Int))) (.len (.arg 0)))).holds [] { args:=[.list (ns.map .int)] }=true:=by
   have h4:=(holds_andW hc).1
   rw[hn]at h4
   exact h4
  have h5:=condW_of h4 (w_not (w_lt w_lit (w_len_list (w_arg rfl))))
  rw[Qaa]at h5
  refine Nat.le_of_not_lt λq=>?_
  have q':(n:Int)<(((ns:):Nat):Int):=by lia
  first
   |(rw[decide_eq_true q']at h5;exact absurd h5 ∅)
   |(simp at h5;lia)
 cases wH with
 | cons w1 w2=>
  cases w2
  cases w1 with
  | list ho Zu=>exact ⟨_,_,ns,rfl,rfl,ho,qV ns _ Zu,hlen⟩
theorem Fy(l:OpenLaw)(args:List WData):l.row.toRowW.claim.post args (.bool true) args=true:=
 postW_of (r:=l.row.toRowW) (X:=(true==true))
  (show WShape.has [] (.bool true) .bool=true by first | rfl | decide | simp[WShape.has,WShape.arms,WShape.armsAll])
  (show (WTm.eq .res (.lit (.bool true))).value [] { args:=args,res:=some (.bool true),after:=args }=some (.bool (true==true)) from w_eq_bool (w_res rfl) w_lit) rfl
theorem z_{q:Program}{loose:List Str}{XP:(Str->Option Value)->Heap->Prop}{YP:World->Heap->Prop}{d:DefRec}
  (hn:l.most=some n) (VR:d.params.defaults=[])
  (call:∀(w:World) (s₀ s₁:Shared) (mg mb:Str->Option Value) (fa:Addr) (o:Obj) (pm cd doc:Value) (a:Addr) (vs:List Value) (ns:List Int),
   Ground q loose [] XP w s₀ mg mb s₁.heap->YP w s₁.heap->
   s₁.heap.get? fa=some o->o.data= .func (docDef d.name d.params d.body d.scope pm cd doc)->s₁.heap.CodeRec cd d.name->mg d.name=some (.ref fa)->
   s₁.heap.get? a=some { cls:= .type "list",data:= .seq vs.toArray }->IntsAre vs ns->(ns:)<=n->s₁.gens= #[]->
   codeAny (model l.prog w) callerA (.call (.ref fa) ⟨[.ref a],[]⟩) (λr s'=>r= .ok (.ret (.bool true))/\OldK s₁.heap s'.heap/\s'.os=s₁.os/\AllBare s'.gens) s₁):
  WalkO q loose XP YP l.row.toRowW d [] (λf vs=>PySem.call f vs):=by
 intro w s₀ s₁ mg mb G Y fa o pm cd doc dV kV ho hd jV hD hmg hg args vals as Mi aaG hrd wH hlo
 obtain rfl:dV= .none:=Dflts.none hD VR
 obtain rfl:kV= .none:=Dflts.noKw hD
 obtain ⟨a,vs,ns,rfl,rfl,Qw,hints,hlen⟩:=Fx hn Mi wH
 refine enter_call (codeAny_mono (call w s₀ s₁ mg mb fa o pm cd doc a vs ns G Y ho (fd_plain hd) jV hmg Qw hints hlen hg) λr s' hq=>?_)
 obtain ⟨rfl,h2,h3,h4⟩:=hq
 exact ⟨.inl ⟨.bool true,.bool true,[],rfl,λ_=>rfl,.bool true,Fy l _,λ_=>⟨List.Pairwise.nil,λ_ hm=>(nomatch hm)⟩⟩,h2,h3,h4⟩
end Att
namespace L2
open PySem PySem.Spec PyProof.Rows
theorem wI:∀{vs:List Value} {ns:List Int},IntsAre vs ns->Vals (ns.map V.int) vs
 | _,_,.nil=> .nil
 | _,_,.cons n t h=> .cons ⟨t,rfl⟩ (wI h)
def Qx(H:Hp):Prop:=∀b,H b=none\/∃o xs,H b=some (.Lr o (.lst xs))
variable{a:Addr}{x:Str}
theorem HU{P:Program}{w:World}{K:c7}{mg mb:Str->Option Value}{CX:Fs}{k:Nat}{fa:Addr}{fd:FuncData}{sp:Sp}{s₁:Shared}{vs:List Value}{ns:List Int}
  (KX:K.In s₁.heap) (X2:s₁.heap.Ns mainGlobals mg) (hb:s₁.heap.Ns builtinsNs mb) (hbb:∀x:Str,x≠"__name__"->mb x=bootBuiltins x) (Zv:s₁.heap.NoLimit) (hg:s₁.gens= #[])
  (ha:s₁.heap.get? a=some { cls:= .type "list",data:= .seq vs.toArray }) (hi:IntsAre vs ns) (hl:(ns:)<=sizeLine) (hr:fo k callerA)
  (F:∀base:Heap,K.In base->base.Ns mainGlobals mg->bp P w K mg base CX k fa fd [x] sp) (VS:∀(s:Shared) (u:Value),BindsTo s fd ⟨[u],[]⟩ [(x,u)])
  (OI:∀H:Hp,Qx H->bC K H a (ns.map V.int)->sp [.ref a] H (λv _=>v= .bl true) λ_ _ _=>False)
  (Zw:∀H e s',CX [] H s₁ (λ_ _ _=>False) e s'->False):
  codeAny (model P w) callerA (.call (.ref fa) ⟨[.ref a],[]⟩) (λr s'=>r= .ok (.ret (.bool true))/\OldK s₁.heap s'.heap/\s'.os=s₁.os/\AllBare s'.gens) s₁:=by
 have rv:=wI hi
 have Zx:=(hi:)
 -- from an abstract heap in aax nothing but Lw script may be tracked
 have core:∀H:Hp,Qx H->bC K H a (ns.map V.int)->mY P w H s₁.heap->(∀b,H b≠none->b=a)->(H a≠none->K.lookup a=none)->
   codeAny (model P w) callerA (.call (.ref fa) ⟨[.ref a],[]⟩) (λr s'=>r= .ok (.ret (.bool true))/\OldK s₁.heap s'.heap/\s'.os=s₁.os/\AllBare s'.gens) s₁:=by
  intro H hO hS cq hA hK
  have DK:∀{b:Addr} {o:Obj},s₁.heap.get? b=some o->H b=none->(xV s₁.heap H).get? b=some o:=λe n=>Hm e n
  have VG:∀{b:Addr} {o:Obj} {es:Array DictEntry} {ep:Nat},s₁.heap.get? b=some o->o.data= .dict es ep->H b=none:=λ{b o es ep} e d=>by
   cases q:H b with
   | none=>rfl
   | some u=>
    have e':b=a:=hA b (by rw[q];simp)
    subst e'
    rw[ha]at e;cases e
    have d':Data.seq vs.toArray _=Data.dict es ep:=d
    cases d'
  have X3:∀{b:Addr} {m:Str->Option Value},s₁.heap.Ns b m->(xV s₁.heap H).Ns b m:=λ{b m} ⟨o,es,ep,e,d,r⟩=>⟨o,es,ep,DK e (VG e d),d,r⟩
  have hKb:K.In (xV s₁.heap H):=λb o e=>DK (KX b o e) (by
   cases q:H b with
   | none=>rfl
   | some u=>
    have e':b=a:=hA b (by rw[q];simp)
    subst e'
    rw[hK (by rw[q];simp)]at e;cases e)
  have hM:Mod K mg (xV s₁.heap H):=⟨hKb,X3 X2,⟨mb,X3 hb,hbb⟩,let ⟨mc,h1,h2⟩:=Zv;⟨mc,X3 h1,h2⟩⟩
  have e0:BY P w K mg (xV s₁.heap H) callerA [] s₁ H:=⟨rfl,hM,λb o e=>LX e,Nat.le_of_eq (Fe _ _),trivial,λb hb=>absurd (show b∈([]:List Addr) from hb) (by simp),cq,.of_eq hg⟩
  refine codeAny_mono ((F _ hKb (X3 X2)).run callerA [] s₁ H ⟨[.ref a],[]⟩ [.ref a] [.ref a] _ _ hr e0 (VS s₁ (.ref a)) (.cons rfl .nil) (OI H hO hS)) λr s' h=>?_
  cases r with
  | error e=>exact (Zw H e s' h).elim
  | ok fl=>
   cases fl with
   | next=>exact False.elim h
   | brk=>exact False.elim h
   | cont=>exact False.elim h
   | ret u=>
    obtain ⟨v,H',os,bare,un,Zy,r',q⟩:=h
    have q':v= .bl true:=q
    subst q'
    obtain rfl:u=Value.bool true:=r'
    refine ⟨rfl,OldK.of_keep λb o e=>?_,os,bare⟩
    cases q:H b with
    | none=>exact un.keep b o e q (by intro z;exact absurd (show b∈([]:List Addr) from z) (by simp)) (by simp)
    | some u=>
     rcases hO b with z | ⟨ob,xs,z⟩
     ·rw[q]at z;cases z
     ·have z2:=un.so b ob _ z
      obtain ⟨e1,_⟩:=cq b _ z
      obtain ⟨e2,_⟩:=Zy b _ z2
      rw[e]at e1;cases e1
      exact e2
 cases hk:K.lookup a with
 | some o=>
  -- Lw script is one of Lw HN own objects
  have e:=KX a o hk
  rw[ha]at e
  cases e
  refine core (λ_=>none) (λ_=> .inl rfl) (.inr ⟨_,vs.toArray,_,hk,rfl,rfl,rfl,by rw[Qao,Zx];exact hl,by simpa using rv⟩) (λb u z=>by have z':(none:Option HO)=some u:=z;cases z') (λb z=>absurd rfl z) λz=>absurd rfl z
 | none=>
  refine core (λb=>if b=a then some (.Lr { cls:= .type "list",data:= .seq vs.toArray } (.lst (ns.map V.int))) else none) (λb=>?_) (.inl (.inr ⟨{ cls:= .type "list",data:= .seq vs.toArray },if_pos rfl⟩)) (λb u z=>?_) (λb z=>?_) λ_=>hk
  ·by_cases hb:b=a
   ·exact .inr ⟨_,_,if_pos hb⟩
   ·exact .inl (if_neg hb)
  ·by_cases hb:b=a
   ·have z':=(if_pos hb).symm.trans z
    cases z'
    subst hb
    exact ⟨ha,by rw[Qaa];exact hl,vs,_,rv,ha⟩
   ·have z':=(if_neg hb).symm.trans z
    cases z'
  ·by_cases hb:b=a
   ·exact hb
   ·exact absurd (if_neg hb) z
theorem DL{l:PySem.W.OpenLaw}{n k:Nat}{q:Program}{loose:List Str}{XP:(Str->Option Value)->Heap->Prop}{YP:World->Heap->Prop}{d:DefRec}{K:Params->c7}{CX:World->Fs}{sp:World->Sp}
  (hn:l.most=some n) (mZ:n<=sizeLine) (VR:d.params.defaults=[]) (hr:fo k callerA)
  (hY:∀(w:World) (h:Heap),YP w h->(K w.params).In h)
  (F:∀(w:World) (mg:Str->Option Value) (fa:Addr) (h:Heap),(K w.params).In h->h.Ns mainGlobals mg->mg d.name=some (.ref fa)->
   ∃fd:FuncData,(∀(s:Shared) (u:Value),BindsTo s fd ⟨[u],[]⟩ [(x,u)])/\
    ∀base:Heap,(K w.params).In base->base.Ns mainGlobals mg->bp l.prog w (K w.params) mg base (CX w) k fa fd [x] (sp w))
  (OI:∀(w:World) (H:Hp) (a:Addr) (ns:List Int),(ns:)<=n->Qx H->bC (K w.params) H a (ns.map V.int)->sp w [.ref a] H (λv _=>v= .bl true) λ_ _ _=>False)
  (Zw:∀(w:World) (H:Hp) (s:Shared) (e:Value) (s':Shared),CX w [] H s (λ_ _ _=>False) e s'->False):
  PySem.W.WalkO q loose XP YP l.row.toRowW d [] (λf vs=>PySem.call f vs):=by
 refine Att.z_ hn VR λw s₀ s₁ mg mb fa o pm cd doc a vs ns G Y ho hd jV hmg Qw hints hlen hg=>?_
 have KX:=hY w _ Y
 obtain ⟨fd,hb,hF⟩:=F w mg fa _ KX G.T.g hmg
 exact HU KX G.T.g G.T.b G.T.builtins G.T.nolimit hg Qw hints (Qbn hlen mZ) hr hF hb (λH hO hS=>OI w H a ns hlen hO hS) λH e s'=>Zw w H s₁ e s'
noncomputable def gm(s:Stmt):Arguments:=match s with
 | .FunctionDef _ a _ _ _ _ _ _ _ _=>a
 | _=>{ posonlyargs:=[],args:=[],vararg:=none,kwonlyargs:=[],kw_defaults:=[],kwarg:=none,defaults:=[] }
noncomputable def fD(s:Stmt):List Stmt:=match s with
 | .FunctionDef _ _ b _ _ _ _ _ _ _=>b
 | _=>[]
noncomputable def ay(s:Stmt):Scope:=match s with
 | .FunctionDef _ _ _ _ _ _ sc _ _ _=>sc
 | _=>{ kind:= .function,names:=[],isGenerator:=false,isCoroutine:=false }
abbrev eL:Fs:=λ_ _ _ _ _ _=>False
abbrev E0:XK:=λ_ _ _=>False
variable{X:Cx}
theorem hU:Passes eL X E0:=λ_ _ _ _ _ _ _ h=>h.elim
structure Mj(K:c7)(x qual:Str)(st:Stmt)(f:Addr)(fd:FuncData):Prop where
 ex:∃(oc:Value) (od:Option Addr) (kV doc pm:Value) (an:Option Addr) (cI ct:Value) (Ly:Array (Option Value)),
  fd=PySem.W.fnOf x qual (gm st) (fD st) (ay st) .none kV doc pm an cI ct/\K.lookup f=some ⟨oc,od,.func fd,Ly⟩/\PySem.W.codeIn K cI qual=true
 kp:PySem.W.keepIn K (.ref f)=true
variable{qual:Str}{st:Stmt}{f:Addr}{ps:List Str}
section
variable{P:Program}{w:World}{K:c7}{mg:Str->Option Value}{base:Heap}
theorem Mj.ok{fd:FuncData}{N:List Str}{k:Nat}{sp:Sp}(F:Mj K x qual st f fd)(S:aD N ps (ay st))(len:∀vs H Q E,sp vs H Q E->(vs:)=(ps:))
  (HH:∀(cI:Value) (A:Around) (outer:List Env) (s:Shared) (H:Hp) (vs:List V) (Q:VK) (E:XK),fo k (A.deeper (envOfC qual (ay st) s.heap.objs.size f cI))->sp vs H Q E->
   ∃t,zQ (Ft eL P w K mg base N qual (ay st) f cI A outer s H E).XX (fD st) t/\t { nx:=λ_ H'=>Q .g7 H',rt:=Q } (start N vs) H):bp P w K mg base eL (k+1) f fd ps sp:=by
 obtain ⟨oc,od,kV,doc,pm,an,cI,ct,Ly,rfl,lk,jV⟩:=F.ex
 refine VH lk jV S len λA outer s H vs Q E hr OI=>?_
 obtain ⟨t,h,q⟩:=HH cI A outer s H vs Q E hr OI
 exact ⟨t,h.XX,q⟩
theorem Mj.binds{fd:FuncData}(F:Mj K x qual st f fd)
  (h:∀(kV doc pm:Value) (an:Option Addr) (cI ct:Value) (us:List Value),(us:)=(ps:)->bindArgs (PySem.W.fnOf x qual (gm st) (fD st) (ay st) .none kV doc pm an cI ct) ⟨us,[]⟩=pure (ps.zip us)):Binds K fd ps []:=by
 obtain ⟨oc,od,kV,doc,pm,an,cI,ct,Ly,rfl,lk,jV⟩:=F.ex
 exact .all (h kV doc pm an cI ct)
theorem B7{oc:Value}{od an:Option Addr}{Ly:Array (Option Value)}{kV doc pm cI ct:Value}(l:K.lookup f=some ⟨oc,od,.func (PySem.W.fnOf x qual (gm st) (fD st) (ay st) .none kV doc pm an cI ct),Ly⟩)
  (c:PySem.W.codeIn K cI qual=true) (k:PySem.W.keepIn K (.ref f)=true):Mj K x qual st f (PySem.W.fnOf x qual (gm st) (fD st) (ay st) .none kV doc pm an cI ct):=⟨⟨oc,od,kV,doc,pm,an,cI,ct,Ly,rfl,l,c⟩,k⟩
end
theorem sN{A:Around}{k:Nat}(hr:fo k A):A.units+1<cLine:=Qbt (Nat.add_le_add_left (by decide:1<=64) _) hr.units
variable{pos:Pos}
section
variable{X:Cx}
theorem pv(i:Nat)(hN:X.N[i]? =some x:=by rfl)(hv:Ve X.env.scope x:=by first | exact Or.inl rfl | exact Or.inr 125 | exact Or.inr (Or.inr rfl))(hd:(x==("__debug__":Str))=false:=by decide)
  (jV:(x==("__classdict__":Str))=false:=by decide):PE X (.Name x pos) (P5 i):=P6 hN hv hd jV
end
variable{A B:Prop}
theorem VT(h:B):if false=true then A else B:=by
 rw[if_neg Qba]
 exact h
theorem Zz(h:A):if true=true then A else B:=by
 rw[if_pos rfl]
 exact h
theorem cw{c:Prop}[Decidable c](h1:c->A)(h2: ¬c->B):if c then A else B:=by
 by_cases h:c
 ·rw[if_pos h]
  exact h1 h
 ·rw[if_neg h]
  exact h2 h
def aq(H H':Hp):Prop:=∀b o,H b=some o->H' b=some o
theorem aq.refl(H:Hp):aq H H:=λ_ _ h=>h
variable{H:Hp}
theorem aq.trans{H1 H2:Hp}(a:aq H H1)(b:aq H1 H2):aq H H2:=λc o h=>b c o (a c o h)
variable{H':Hp}
theorem aq.free(e:aq H H'){l:Addr}(h:H' l=Option.none):H l=Option.none:=by
 cases q:H l with
 | none=>rfl
 | some o=>
  rw[e l o q]at h
  cases h
theorem aq.seq{K:c7}{xs:List V}(e:aq H H')(h:bC K H a xs):bC K H' a xs:=by
 rcases h with (h | ⟨o,h⟩) | h
 ·exact .inl (.inl (e _ _ h))
 ·exact .inl (.inr ⟨o,e _ _ h⟩)
 ·exact .inr h
noncomputable def jX(env:Env):List (Str×NameKind)->List (Str×Addr)->List (Str×Addr)
 | [],acc=>acc
 |(n,k)::r,acc=>jX env r (if k== .free then (match env.cells.lookup n with | some a=>(n,a)::acc | none=>acc) else acc)
theorem fX{env:Env}:∀(names:List (Str×NameKind)) (acc:List (Str×Addr)),(∀y∈names,y.2= .free->∃c,env.cells.lookup y.1=some c)->
  (forIn names acc λ(x:Str×NameKind) (cs:List (Str×Addr))=>(if (x.2==NameKind.free)=true then do let a <-cellOf env x.1;pure (ForInStep.yield ((x.1,a)::cs)) else pure (ForInStep.yield cs):Sem (ForInStep (List (Str×Addr)))))=pure (jX env names acc)
 | [],acc,_=>rfl
 |(n,k)::r,acc,h=>by
  rw[Qdy]
  have hr:∀y∈r,y.2= .free->∃c,env.cells.lookup y.1=some c:=λy hy=>h y (Qah _ hy)
  cases hk:(k==NameKind.free) with
  | false=>
   have e1:jX env ((n,k)::r) acc=jX env r acc:=by
    walk_at"P"
    rw[hk,if_neg Qba]
   rw[e1, <-fX r acc hr]
   simp only[hk,Qc0,if_false,pure_bind]
  | true=>
   obtain ⟨c,hc⟩:=h (n,k) Qak (by simpa using hk)
   have e1:jX env ((n,k)::r) acc=jX env r ((n,c)::acc):=by
    have sE:env.cells.lookup n=some c:=hc
    walk_at"P"
    rw[hk,sE,if_pos rfl]
   have e2:cellOf env n=pure c:=by
    have sE:env.cells.lookup n=some c:=hc
    unfold cellOf
    rw[sE]
   rw[e1, <-fX r ((n,c)::acc) hr]
   simp only[hk,if_true,e2,pure_bind]
variable{scope:Scope}
theorem mE{env:Env}(h:∀y∈scope.names,y.2= .free->∃c,env.cells.lookup y.1=some c):closureFor scope env=pure (jX env scope.names []):=by
 have e:=fX scope.names [] h
 simp only[closureFor]
 rw[e]
 rfl
theorem pE{env:Env}{x:Str}{c:Addr}:∀(names:List (Str×NameKind)) (acc:List (Str×Addr)),(∀y d,acc.lookup y=some d->env.cells.lookup y=some d)->(jX env names acc).lookup x=some c->env.cells.lookup x=some c
 | [],acc,ha,h=>ha x c h
 |(n,k)::r,acc,ha,h=>by
  refine pE r _ (λy d q=>?_) h
  by_cases hk:(k==NameKind.free)=true
  ·rw[if_pos hk]at q
   cases e:env.cells.lookup n with
   | none=>rw[e]at q;exact ha y d q
   | some a=>
    rw[e]at q
    have q':List.lookup y ((n,a)::acc)=some d:=q
    rw[Qb5]at q'
    cases hy:(y==n) with
    | true=>
     rw[hy]at q'
     have:y=n:=by simpa using hy
     subst this
     rw[e];exact q'
    | false=>rw[hy]at q';exact ha y d q'
  ·rw[if_neg hk]at q;exact ha y d q
theorem Aa{env:Env}{x:Str}:∀(names:List (Str×NameKind)) (acc:List (Str×Addr)),(∃c,acc.lookup x=some c)->∃c,(jX env names acc).lookup x=some c
 | [],acc,h=>h
 |(n,k)::r,acc,⟨c,hc⟩=>by
  refine Aa r _ ?_
  by_cases hk:(k==NameKind.free)=true
  ·rw[if_pos hk]
   cases e:env.cells.lookup n with
   | none=>exact ⟨c,hc⟩
   | some a=>
    show ∃c,List.lookup x ((n,a)::acc)=some c
    rw[Qb5]
    cases hy:(x==n) with
    | true=>exact ⟨a,rfl⟩
    | false=>exact ⟨c,hc⟩
  ·rw[if_neg hk];exact ⟨c,hc⟩
theorem sO{env:Env}{x:Str}:∀(names:List (Str×NameKind)) (acc:List (Str×Addr)),(∀y∈names,y.2= .free->∃c,env.cells.lookup y.1=some c)->names.lookup x=some .free->∃c,(jX env names acc).lookup x=some c
 | [],acc,_,h=>by simp at h
 |(n,k)::r,acc,hf,h=>by
  have hr:∀y∈r,y.2= .free->∃c,env.cells.lookup y.1=some c:=λy hy=>hf y (Qah _ hy)
  rw[Qb5]at h
  cases hy:(x==n) with
  | true=>
   rw[hy]at h
   have hk:k= .free:=Qal h
   subst hk
   have hx:x=n:=by simpa using hy
   subst hx
   obtain ⟨c,hc⟩:=hf (x,.free) Qak rfl
   have sE:env.cells.lookup x=some c:=hc
   refine Aa r _ ⟨c,?_⟩
   rw[if_pos (show (NameKind.free==NameKind.free)=true by decide),sE]
   show List.lookup x ((x,c)::acc)=some c
   rw[Qb5]
   simp
  | false=>
   rw[hy]at h
   exact sO r _ hr h
theorem nF{env:Env}:∀{names:List (Str×NameKind)} {x:Str},names.lookup x=some .free->
  ((names.map λ(n,k)=>if 95 then (n,NameKind.cell) else (n,k)).lookup x=some .cell\/
   (names.map λ(n,k)=>if (k==NameKind.free&&env.scope.kind== .function&&env.kindOf n==some .cell) then (n,NameKind.cell) else (n,k)).lookup x=some .free)
 | [],_,h=>by simp at h
 |(n,k)::r,x,h=>by
  have ih:= @nF env r x
  show (List.lookup x ((if 95=true then (n,NameKind.cell) else (n,k))::_)=_\/List.lookup x ((if 95=true then (n,NameKind.cell) else (n,k))::_)=_)
  cases hx:x==n with
  | true=>
   simp only[Qb5,hx]at h
   cases h
   by_cases hc:((NameKind.free==NameKind.free)&&env.scope.kind== .function&&env.kindOf n==some .cell)=true
   ·rw[if_pos hc];simp[Qb5,hx]
   ·rw[if_neg hc];simp[Qb5,hx]
  | false=>
   simp only[Qb5,hx]at h
   by_cases hc:95=true
   ·rw[if_pos hc];simp only[Qb5,hx];exact ih h
   ·rw[if_neg hc];simp only[Qb5,hx];exact ih h
theorem nG{env:Env}:∀{names:List (Str×NameKind)} {x:Str},(∀y∈names,y.2≠ .cell)->
  ((names.map λ(n,k)=>if 95 then (n,NameKind.cell) else (n,k)).lookup x=some .cell\/
   (names.map λ(n,k)=>if (k==NameKind.free&&env.scope.kind== .function&&env.kindOf n==some .cell) then (n,NameKind.cell) else (n,k)).lookup x=some .free)->names.lookup x=some .free
 | [],_,_,h=>by simp at h
 |(n,k)::r,x,hn,h=>by
  have ih:= @nG env r x (λy hy=>hn y (Qah _ hy))
  have hk:=hn (n,k) Qak
  have h':(List.lookup x ((if 95=true then (n,NameKind.cell) else (n,k))::(r.map λ(n,k)=>if 95 then (n,NameKind.cell) else (n,k)))=some .cell\/List.lookup x ((if 95=true then (n,NameKind.cell) else (n,k))::(r.map λ(n,k)=>if 95 then (n,NameKind.cell) else (n,k)))=some .free):=h
  cases hx:x==n with
  | true=>
   rw[Qb5,hx]
   by_cases hc:95=true
   ·have:(k==NameKind.free)=true:=by
     rw[Qct,Qct]at hc;exact hc.1.1
    have B8:k= .free:=by simpa using this
    rw[B8]
   ·rw[if_neg hc]at h'
    simp only[Qb5,hx]at h'
    rcases h' with h' | h'
    ·exact absurd (Qal h') hk
    ·exact h'
  | false=>
   rw[Qb5,hx]
   by_cases hc:95=true
   ·rw[if_pos hc]at h';simp only[Qb5,hx]at h';exact ih h'
   ·rw[if_neg hc]at h';simp only[Qb5,hx]at h';exact ih h'
abbrev LA:Value->Shared->Prop:=λ_ _=>False
variable{s:Shared}{elt iter:Expr}{ifs:List Expr}
theorem x9{prog:Program}{w:World}{A:Around}{R:Result->Shared->Prop}{target:Expr}{it acc:Value}{env:Env}(I:Nat->Shared->Prop)
  (turn:∀n s,I n s->wpAny 94 A (pyNext it) (λr s₁=>match r with
   | none=>R (.ok .next) s₁
   | some v=>wpAny 94 A (letOwnedTupleGo target it v) (λ_ s₁'=>wpAny 94 A (assign target env v) (λ_ s₂=>
     wpAny 94 A (forIn ifs true λc r=>if r=true then do let ok <-isTrue c env (eval c env);pure (ForInStep.yield ok) else pure (ForInStep.yield r)) (λok s₃=>
      if ok=true then wpAny 94 A (eval elt env) (λx s₄=>
       wpAny (model prog w) A (call (.builtin "list.append") [acc,x]) (λ_ s₅=>∃m,m<n/\I m s₅) LA s₄) LA s₃
      else ∃m,m<n/\I m s₃) LA s₂) LA s₁') LA s₁) LA s)
  (n:Nat) (h:I n s):codeAny 94 A (.compLoop (.ListComp elt [⟨target,iter,ifs,0⟩] scope pos) 0 it acc env) R s:=by
 refine codeAny_loop rfl I (λn s hI=>?_) n h
 show wpAny _ A ((compTurn (.ListComp elt [⟨target,iter,ifs,0⟩] scope pos) 0 it acc env).onRaise (λx=>do noteFrame x env;theTreesLotGoes x)) _ _ s
 refine wpAny_noted ?_
 rw[compTurn_list]
 have no:∀{F:Value->Shared->Prop} (e:Value) (s':Shared),LA e s'->F e s':=λ_ _ h=>h.elim
 refine wpAny_bind (wpAny_standAt (wpAny_bind (wpAny_mono (turn n s hI) (λr s₁ h₁=>?_) no)))
 cases r with
 | none=>exact wpAny_pure h₁
 | some v=>
  refine wpAny_bind (wpAny_mono h₁ (λ_ s₁' h₁'=>?_) no)
  refine wpAny_bind (wpAny_mono h₁' (λ_ s₂ h₂=>wpAny_bind (wpAny_mono h₂ (λok s₃ h₃=>?_) no)) no)
  cases ok with
  | false=>exact wpAny_pure ⟨rfl,h₃⟩
  | true=>
   exact wpAny_bind (wpAny_bind (wpAny_mono h₃ (λx s₄ h₄=>wpAny_bind (wpAny_mono h₄ (λ_ s₅ h₅=>wpAny_pure (wpAny_pure ⟨rfl,h₅⟩)) no)) no))
noncomputable def b9(X:Cx)(scope:Scope)(C:Addr)(Nc:List Str)(s:Shared)(H:Hp)(fp:List Addr):Cx where
 prog:=X.prog
 w:=X.w
 K:=X.K
 mg:=X.mg
 base:=X.base
 A:=X.A
 N:=Nc
 s₀:=s
 H₀:=H
 env:=compEnvC scope (jX X.env scope.names []) C X.env
 outer:=X.stack
 stack:=X.stack
 ex:=fp
 fn:=λ_=>false
 calm:=X.calm
 pn:=[]
 xe:=LA
def mh(X:Cx)(scope:Scope):List Str->List (Option Nat)->Prop
 | [],[]=>True
 | _::ys,none::os=>mh X scope ys os
 | y::ys,some j::os=>(X.N[j]? =some y/\scope.names.lookup y=some .free/\(X.env.kindOf y=some .cell\/X.env.kindOf y=some .free))/\mh X scope ys os
 | _,_=>False
noncomputable def nH(σ:St)(ix:List (Option Nat)):St:=ix.map λo=>match o with | none=>none | some j=>(σ[j]?).getD none
def Wk:St->St->Prop
 | [],[]=>True
 | none::a,_::b=>Wk a b
 | some v::a,w::b=>w=some v/\Wk a b
 | _,_=>False
theorem Wk.len:∀{a b:St},Wk a b->(a:)=(b:)
 | [],[],_=>rfl
 | none::a,_::b,h=>congrArg (· +1) (Wk.len (a:=a) (b:=b) h)
 | some _::a,_::b,h=>congrArg (· +1) (Wk.len (a:=a) (b:=b) h.2)
theorem Wk.get:∀{a b:St} {i:Nat} {v:V},Wk a b->a[i]? =some (some v)->b[i]? =some (some v)
 | [],[],i,v,_,h=>by simp at h
 | none::a,x::b,0,v,_,h=>by simp at h
 | none::a,x::b,i+1,v,k,h=>by
  have:=Wk.get (a:=a) (b:=b) (i:=i) (v:=v) k (by simpa using h)
  simpa using this
 | some y::a,x::b,0,v,k,h=>by
  have e:y=v:=by simpa using h
  subst e
  simp[k.1]
 | some y::a,x::b,i+1,v,k,h=>by
  have:=Wk.get (a:=a) (b:=b) (i:=i) (v:=v) k.2 (by simpa using h)
  simpa using this
theorem mh.len:∀{N:List Str} {ix:List (Option Nat)},mh X scope N ix->(ix:)=N.length
 | [],[],_=>rfl
 | _::ys,none::os,h=>congrArg (· +1) (mh.len (N:=ys) (ix:=os) h)
 | _::ys,some _::os,h=>congrArg (· +1) (mh.len (N:=ys) (ix:=os) h.2)
theorem mh.get:∀{N:List Str} {ix:List (Option Nat)} {i j:Nat},mh X scope N ix->ix[i]? =some (some j)->∃y,N[i]? =some y/\X.N[j]? =some y/\scope.names.lookup y=some .free/\(X.env.kindOf y=some .cell\/X.env.kindOf y=some .free)
 | [],[],i,j,_,h=>by simp at h
 | y::ys,none::os,0,j,_,h=>by simp at h
 | y::ys,none::os,i+1,j,k,h=>by
  obtain ⟨z,h1,h2⟩:=mh.get (N:=ys) (ix:=os) (i:=i) (j:=j) k (by simpa using h)
  exact ⟨z,by simpa using h1,h2⟩
 | y::ys,some j'::os,0,j,k,h=>by
  have e:j'=j:=by simpa using h
  subst e
  exact ⟨y,by simp,k.1⟩
 | y::ys,some j'::os,i+1,j,k,h=>by
  obtain ⟨z,h1,h2⟩:=mh.get (N:=ys) (ix:=os) (i:=i) (j:=j) k.2 (by simpa using h)
  exact ⟨z,by simpa using h1,h2⟩
variable{σ:St}{ix:List (Option Nat)}{i:Nat}
theorem Fz{v:V}(h:(nH σ ix)[i]? =some (some v)):∃j,ix[i]? =some (some j)/\σ[j]? =some (some v):=by
 unfold nH at h
 rw[Qat]at h
 cases e:ix[i]? with
 | none=>rw[e]at h;cases h
 | some o=>
  rw[e]at h
  cases o with
  | none=>cases h
  | some j=>
   refine ⟨j,rfl,?_⟩
   have h':some ((σ[j]?).getD none)=some (some v):=h
   cases q:σ[j]? with
   | none=>rw[q]at h';cases h'
   | some z=>rw[q]at h';cases h';rfl
variable{pins:List 126}{Nc:List Str}
theorem B9(I:Inv X pins σ H s)(B_:mh X scope Nc ix)(iO:∀y∈scope.names,y.2≠ .cell)
  (jD:scope.kind= .function) (Ml:∀y∈scope.names,y.2= .free->X.env.kindOf y.1=some .cell\/X.env.kindOf y.1=some .free) {fp:List Addr} (hf:∀b∈fp,qU X pins H b) (VU:∀b∈fp,∃o,s.heap.get? b=some o)
  {C:Addr} {h':Heap} {t':Nat} {m0:Str->Option Value} (hC:s.heap.objs.size<=C) (X2:h'.Ns C m0) (k:∀b o,s.heap.get? b=some o->h'.get? b=some o):
  Inv 134 [] (nH σ ix) H { s with heap:=h',toks:=t' }:=by
 walk_at"n"
 walk_at"x"
 refine ⟨⟨I.ok.mod,jD,I.ok.glob,I.ok.blt,hC,λx y c h1 h2=>I.ok.inj x y c (nI h1) (nI h2),λx hx=>?_,λx c h=>?_,I.ok.hd,I.ok.frames,.inl rfl,λb hb=>?_,I.bs,Qbn I.ok.LY I.sz,λb o e hb=>?_,λb hb hs=>?_,I.stack,I.Dz⟩,
  rfl,I.bare,Un.kept k,⟨m0,X2,λi x v h1 h2 h3=>?_⟩,λx c e=>?_,I.cq.fresh hC,λx c e=>I.jZ x c (nI e),λp hp=>absurd (show p∈([]:List (Addr×Obj)) from hp) (by simp),I.cq.kept k,?_⟩
 ·have wJ:scope.names.lookup x=some .free:=nG iO hx
  exact sO scope.names [] Tb wJ
 ·exact absurd (show false=true from h) ∅
 ·refine ⟨?_,λx c e=>(hf b hb).2.2.2.2.1 x c (nI e)⟩
  obtain ⟨o,ho⟩:=VU b hb
  exact Qa6 (Qbd (Qay ho) hC)
 ·rcases (hf b hb).2.2.2.1 with z | z
  ·exact I.ok.Hn b o e z
  ·exact absurd (Qbd (Qay e) (Qbn I.ok.LY z)) (Qbw _)
 ·rcases Qaq.mp (I.sC b hs) with z | z
  ·exact (hf b hb).2.1 z
  ·exact (hf b hb).2.2.1 z
 ·obtain ⟨j,e1,e2⟩:=Fz h2
  obtain ⟨y,y1,y2,y3,y4⟩:=B_.get e1
  have h1':Nc[i]? =some x:=h1
  rw[y1]at h1'
  cases h1'
  obtain ⟨m,hn,hl⟩:=I.loc
  have hv:Ve X.env.scope x:=by
   rcases y4 with z | z
   ·exact .inr (.inl z)
   ·exact .inr (.inr z)
  obtain ⟨u,r,l⟩:=hl j x v y2 e2 hv
  refine ⟨u,r,.inr ⟨nF y3,?_⟩⟩
  rcases l with ⟨l,_⟩ | ⟨_,c,hc,q⟩
  ·rcases y4 with z | z
   ·rw[z]at l;cases l
   ·rw[z]at l;cases l
  ·obtain ⟨c',sE⟩:=sO scope.names [] Tb y3
   have e:=nI sE
   rw[hc]at e
   cases e
   obtain ⟨o,ho,hd⟩:=q
   exact ⟨c,sE,o,k _ _ ho,hd⟩
 ·obtain ⟨v,o,ho,hd⟩:=I.cell x c (nI e)
  exact ⟨v,o,k _ _ ho,hd⟩
 ·show (nH σ ix:)=Nc.length
  unfold nH
  rw[Qaa]
  exact B_.len
theorem FA{DA:List 126}{σ':St}{s':Shared}(I:Inv X pins σ H s){fp:List Addr}{C D:Addr}(J:Inv 134 DA σ' H' s')
  (hf:∀b∈fp,qU X pins H b) (hD:s.heap.objs.size<=D) (hC:s.heap.objs.size<=C) (QA:D≠C) {aJ:List Value} {n:Nat} {acc:List V} (eD:s'.heap.get? D=some { cls:= .type "list",data:= .seq aJ.toArray n }) (r:Vals acc aJ)
  (hz:(acc:)<=sizeLine) (nD:H' D=none) {oC:Obj} (eC:s'.heap.get? C=some oC) (dC:∀v,oC.data≠ .cell v):Inv X (pins++[(C,oC)]) σ (upd H' D (.lst acc)) s':=by
 have lt:∀b o,s.heap.get? b=some o->b≠D:=λb o e=>Qa6 (Qbd (Qay e) hD)
 have U:Un (Dy X.stack) fp H H' s.heap s'.heap:=J.base
 have U':Un (Dy X.stack) fp H (upd H' D (.lst acc)) s.heap s'.heap:=
  ⟨U.keep,U.slot,λb o e n hx=>by rw[aA (lt b o e)];exact U.free b o e n hx,U.there,λb xs e=>by rw[aA (au (U.vh b xs e) nD)];exact U.vh b xs e,
   λb o u e=>by rw[aA (au (U.so b o u e) nD)];exact U.so b o u e,λb ps e=>by
    obtain ⟨more,q⟩:=U.xU b ps e
    exact ⟨more,by rw[aA (au q nD)];exact q⟩⟩
 have cq:mY X.prog X.w (upd H' D (.lst acc)) s'.heap:=λb u e=>by
  by_cases hb:b=D
  ·subst hb
   rw[ag]at e;cases e
   exact ⟨hz,aJ,n,r,eD⟩
  ·rw[aA hb]at e
   exact (J.cq b u e).zO (λc v _ q=>q) (λc q=>by rw[aA (au q nD)];exact q) λc xs q=>by rw[aA (au q nD)];exact q
 have I':Inv X pins σ (upd H' D (.lst acc)) s':=I.Vh (ch:=fp) J.os U' cq J.bare λb hb=>by
  obtain ⟨_,h1,_,h2,h3,h4⟩:=hf b hb
  exact ⟨h2,h1,h3,h4⟩
 refine I'.nC λp hp=>?_
 rcases Qan.mp hp with z | z
 ·exact I'.pin p (Qa3 _ z)
 ·have e:p=(C,oC):=Qab.mp z
  subst e
  refine ⟨eC,?_,Qd3 (Qbd I.lt hC),I.PX hC,dC⟩
  rw[aA (Ne.symm QA)]
  exact J.free
def PF(Y:Cx)(ifs:List Expr)(tc:TT):Prop:=
 ∀(pins:List 126) (s:Shared) (σ:St) (H:Hp) (Q:Bool->Hp->Prop),Inv Y pins σ H s->tc σ H Q->
  wpAny (model Y.prog Y.w) Y.A (forIn ifs true λc r=>if r=true then do let ok <-isTrue c Y.env (eval c Y.env);pure (ForInStep.yield ok) else pure (ForInStep.yield r)) (TP Y pins σ Q) Y.xe s
def VV:TT:=λ_ H Q=>Q true H
theorem eZ{Y:Cx}:PF Y [] VV:=λ_ _ _ H _ I h=>wpAny_tests_nil ⟨H,I,h⟩
variable{tc:TT}
theorem x_{Y:Cx}{c:Expr}(h:PT Y c tc):PF Y [c] tc:=λpins s σ H Q I hw=>wpAny_tests_one (h pins s σ H Q I hw)
def sQ(J:It)(σc:St)(g:TG)(tc:TT)(te:TE)(Q:VK)(H1:Hp):Prop:=
 ∃W:Nat->Nat->List V->Hp->Prop,(∃m,W 0 m [] H1)/\∀i m acc H,W i m acc H->(acc:)<sizeLine/\
 ((J.stop i H/\∀D,H D=none->Q (.ref D) (upd H D (.lst acc)))\/
  (J.go i H/\∀x H',J.G3 i H x H'->g x σc H' λσ2 H2=>Wk σc σ2/\tc σ2 H2 λb H3=>if b=true then te σ2 H3 λv H4=>∃m',m'<m/\W (i+1) m' (acc++[v]) H4 else ∃m',m'<m/\W (i+1) m' acc H3))
def Ab(wi:TI)(ix:List (Option Nat))(g:TG)(tc:TT)(te:TE):TE:=λσ H Q=>wi σ H λJ H1=>sQ J (nH σ ix) g tc te Q H1
variable{tg:Expr}{wi:TI}{g:TG}{te:TE}
theorem wK(hi:PI X tg iter wi)(mF:X.calm=true)(B_:mh X scope Nc ix)
  (iO:∀y∈scope.names,y.2≠ .cell) (jD:scope.kind= .function) (Ml:∀y∈scope.names,y.2= .free->X.env.kindOf y.1=some .cell\/X.env.kindOf y.1=some .free)
  (hG:∀C s H fp,PG 134 tg g) (hT:∀C s H fp,PF 134 ifs tc) (hE:∀C s H fp,PE 134 elt te)
  {pins:List 126} {s:Shared} {σ:St} {H:Hp} {Q:VK} (I:Inv X pins σ H s) (h:Ab wi ix g tc te σ H Q) {RR:Value->Addr->Result->Shared->Prop}
  (hRR:∀(D C:Addr) (oC:Obj) (m:Str->Option Value) (H':Hp) (s':Shared),s'.heap.get? C=some oC->s'.heap.Ns C m->qU X pins H' C->Inv X (pins++[(C,oC)]) σ H' s'->Q (.ref D) H'->RR (.ref D) C (.ok .next) s'):
  wpAny 93 X.A (eval iter X.env) (λv s1=>wpAny 93 X.A (pyIter v) (λit s2=>wpAny 93 X.A (newList []) (λacc s3=>
   wpAny 93 X.A (newFunctionEnv scope X.env.globals (jX X.env scope.names []) [] X.env.qual none .none (some X.env)) (λVW s4=>
    codeAny (model X.prog X.w) X.A (.compStart (.ListComp elt [⟨tg,iter,ifs,0⟩] scope pos) 0 it acc { VW with scope:=relabel scope X.env }) (RR acc VW.locals) s4) X.xe s3) X.xe s2) X.xe s1) X.xe s:=by
 refine cA (hi pins s σ H _ I h) λv s1 h1=>cA h1 λZa s2 h2=>?_
 obtain ⟨it,fp,tn,J,H2,e,I2,T,jB,f2,W,⟨m0,w0⟩,turn⟩:=h2
 subst e
 refine wpAny_newObj_type (wpAny_newFunctionEnv iO (by intro y hy;simp at hy) (λh₁ QB Mm=>?_) jD)
 dsimp only at QB Mm ⊢
 generalize OJ:s2.heap.push { cls:= .type "list",dict:=none,data:= .seq ([]:List Value).toArray }=P2 at QB Mm ⊢
 have hC:P2.objs.size=s2.heap.objs.size+1:=by rw[<-OJ,Qcu]
 have QA:s2.heap.objs.size≠P2.objs.size:=by rw[hC];exact Qa6 (Qcs _)
 have QC:s2.heap.objs.size<=P2.objs.size:=by rw[hC];exact Qdo _
 have PZ:∀b,b<s2.heap.objs.size->b≠P2.objs.size:=λb hb=>by rw[hC];exact Qa6 (Qcv hb)
 have old:∀b o,s2.heap.get? b=some o->h₁.get? b=some o:=λb o e=>Mm.extBut b o (PZ b (Qay e)) (Ta _ (OJ▸Ta _ e))
 have Ca:h₁.get? s2.heap.objs.size=some { cls:= .type "list",data:= .seq ([]:List Value).toArray }:=Mm.extBut _ _ QA (Ta _ (OJ▸Qau _ rfl))
 have st₁:tn 0 h₁:=T.keep 0 _ _ jB λb _ o e=>old b o e
 have VU:∀b∈fp,∃o,s2.heap.get? b=some o:=λb hb=>let ⟨o,e,_⟩:=T.obj 0 _ jB b hb;⟨o,e⟩
 have fpD:∀b∈fp,s2.heap.objs.size≠b:=λb hb=>let ⟨o,e⟩:=VU b hb;Qd3 (Qay e)
 have IY:=B9 I2 B_ iO jD Ml f2 VU (t':=s2.toks+(([]:List (Str×Value)):)) QC QB old
 have ZC:∀b,s2.heap.objs.size<=b->b∉Dy X.stack:=λb hb hs=>by
  rcases Qaq.mp (I2.sC b hs) with z | z
  ·exact absurd (Qbd I2.lt hb) (by rw[z];exact Qbw _)
  ·exact I2.PX hb z
 walk_at"x"
 have VX:∀x c,(jX X.env scope.names []).lookup x=some c->c≠s2.heap.objs.size:=λx c e z=>by
  obtain ⟨v,q⟩:=I2.cell x c (nI e)
  exact absurd (q.lt) (by rw[z];exact Qbw _)
 have fY:∀{pl:List 126} {H':Hp},(∀p∈pl,p.1=s2.heap.objs.size)->(∀b∈fp,H' b=none)->∀b∈fp,qU (b9 X scope P2.objs.size Nc s2 H2 fp) pl H' b:=λ{pl H'} jC hn b hb=>by
  refine ⟨hn b hb,?_,?_,.inl hb,λx c e=>(f2 b hb).2.2.2.2.1 x c (nI e),λp hp=>?_⟩
  ·obtain ⟨o,e⟩:=VU b hb
   exact PZ b (Qay e)
  ·intro hs
   rcases Qaq.mp (I2.sC b hs) with z | z
   ·exact (f2 b hb).2.1 z
   ·exact (f2 b hb).2.2.1 z
  ·rw[jC p hp]
   exact fpD b hb
 have loop:∀s₃:Shared,s₃={ s2 with heap:=h₁,toks:=s2.toks+(([]:List (Str×Value)):) }->
   codeAny 93 X.A (.compLoop 137 0 (.ref it) (.ref s2.heap.objs.size) (compEnvC scope (jX X.env scope.names []) P2.objs.size X.env)) (RR (.ref s2.heap.objs.size) P2.objs.size) s₃:=by
  rintro s₃ rfl
  refine x9 (λn s'=>∃i acc aJ nn H',Inv (b9 X scope P2.objs.size Nc s2 H2 fp) [] (nH σ ix) H' s'/\tn i s'.heap/\(∀b∈fp,H' b=none)/\
   s'.heap.get? s2.heap.objs.size=some { cls:= .type "list",data:= .seq (aJ:List Value).toArray nn }/\Vals acc aJ/\H' s2.heap.objs.size=none/\W i n acc H') ?_ m0
   ⟨0,[],[],0,H2,IY,st₁,λb hb=>(f2 b hb).1,Ca,.nil,I2.cq.fresh (Qad _),w0⟩
  rintro n s3 ⟨i,acc,aJ,nn,H3,I3,BF,Vv,eD,rv,nD,w3⟩
  obtain ⟨hz,alt⟩:=turn i n acc H3 w3
  have IP:Inv (b9 X scope P2.objs.size Nc s2 H2 fp) [(s2.heap.objs.size,{ cls:= .type "list",data:= .seq aJ.toArray nn })] (nH σ ix) H3 s3:=I3.nC λp hp=>by
   have e:p=(s2.heap.objs.size,_):=Qab.mp hp
   subst e
   refine ⟨eD,nD,QA,ZC _ (Qad _),λv z=>?_⟩
   have z':Data.seq aJ.toArray nn=Data.cell v:=z
   cases z'
  have jC:∀p∈[(s2.heap.objs.size,({ cls:= .type "list",data:= .seq aJ.toArray nn }:Obj))],p.1=s2.heap.objs.size:=λp hp=>by
   have e:p=(s2.heap.objs.size,_):=Qab.mp hp
   rw[e]
  rcases alt with ⟨stop,fin⟩ | ⟨go,step⟩
  ·refine cA (T.done (b9 X scope P2.objs.size Nc s2 H2 fp) rfl rfl rfl mF i _ s3 _ H3 LA IP (fY jC Vv) BF stop) λr s4 zz=>?_
   obtain ⟨hr,I4⟩:=zz
   subst hr
   obtain ⟨m,hn,_⟩:=id I4.loc
   obtain ⟨oC,es,ep,eC,dC,_⟩:=id hn
   have eD4:=(I4.pin (s2.heap.objs.size,_) (Qa3 _ (Qab.mpr rfl))).1
   have ZD:=fin _ nD
   refine hRR _ _ oC m _ s4 eC hn ?_ (FA I2 I4 f2 (Qad _) QC QA eD4 rv (Qbz hz) nD eC λv z=>?_) ZD
   ·refine I2.sG QC ?_
    rw[aA (Ne.symm QA)]
    exact I4.free
   ·rw[dC]at z;cases z
  ·refine cA (T.item (b9 X scope P2.objs.size Nc s2 H2 fp) rfl rfl rfl mF i _ s3 _ H3 LA IP (fY jC Vv) BF go) λr s4 zz=>?_
   obtain ⟨u,hr,h4⟩:=zz
   subst hr
   refine cA h4 λ_ s5 zz=>?_
   obtain ⟨x,H5,I5,r5,y5,o5,Zd⟩:=zz
   have Ze:=I5.pinned (fY jC Zd) (T.obj _ _ o5)
   refine cA (hG _ s2 H2 fp _ s5 _ H5 x u _ Ze r5 (step x H5 y5)) λ_ s6 zz=>?_
   obtain ⟨σ6,H6,I6,wk,q6⟩:=zz
   refine cA (hT _ s2 H2 fp _ s6 σ6 H6 _ I6 q6) λb s7 zz=>?_
   obtain ⟨H7,I7,q7⟩:=zz
   have again:∀{H9:Hp} {s9:Shared} {m':Nat},Inv (b9 X scope P2.objs.size Nc s2 H2 fp) ([(s2.heap.objs.size,({ cls:= .type "list",data:= .seq aJ.toArray nn }:Obj))]++sH fp s5.heap) σ6 H9 s9->
     (s9.heap.get? s2.heap.objs.size=some { cls:= .type "list",data:= .seq aJ.toArray nn }/\H9 s2.heap.objs.size=none)/\tn (i+1) s9.heap/\(∀b∈fp,H9 b=none)/\Inv (b9 X scope P2.objs.size Nc s2 H2 fp) [] (nH σ ix) H9 s9:=λ{H9 s9 m'} I9=>by
    have pD:=I9.pin (s2.heap.objs.size,_) (Qa3 _ (Qcj _ (Qab.mpr rfl)))
    refine ⟨⟨pD.1,pD.2.1⟩,T.keep _ _ _ o5 λb hb o e=>(I9.pin (b,o) (Qa3 _ (Qa3 _ (jh hb e)))).1,λb hb=>?_,?_⟩
    ·obtain ⟨o,e,d⟩:=T.obj _ _ o5 b hb
     exact (I9.pin (b,o) (Qa3 _ (Qa3 _ (jh hb e)))).2.1
    ·exact (I9.weak wk.len λi v e=>wk.get e).nC λp hp=>absurd hp (by simp)
   cases b with
   | false=>
    rw[if_neg Qba]at q7 ⊢
    obtain ⟨m',hm,w7⟩:=q7
    obtain ⟨⟨e7,n7⟩,t7,f7,J7⟩:=again (m':=0) I7
    exact ⟨m',hm,i+1,acc,aJ,nn,H7,J7,t7,f7,e7,rv,n7,w7⟩
   | true=>
    rw[if_pos rfl]at q7 ⊢
    refine cA (hE _ s2 H2 fp _ s7 σ6 H7 _ I7 q7) λy s8 zz=>?_
    obtain ⟨v,H8,I8,r8,m',hm,w8⟩:=zz
    obtain ⟨⟨e8,n8⟩,t8,f8,J8⟩:=again (m':=0) I8
    refine wpAny_list_append_plain (items:=aJ.toArray) ⟨nn,e8⟩ (λh9 hl9 hs9=>?_) (by rw[Qao, <-(rv:)];exact Qbz hz)
    obtain ⟨n9,e9⟩:=hl9
    refine ⟨m',hm,i+1,acc++[v],aJ++[y],n9,H8,J8.turned (t':=s8.toks) (λb o hb e=>(hs9.2 b hb).trans e) n8 QA (.inr (Qad _)) VX (λp hp=>absurd hp (by simp[b9])),?_,f8,?_,rv.append (.cons r8 .nil),n8,w8⟩
    ·exact T.keep _ _ _ t8 λb hb o e=>(hs9.2 b (Ne.symm (fpD b hb))).trans e
    ·simpa using e9
 exact codeAny_compStart_list (loop _ rfl) (T.self _ 0 _ _ _ st₁ (loop _ rfl))
theorem Mn(Nc:List Str)(ix:List (Option Nat))(hi:PI X tg iter wi)(mF:X.calm=true)(B_:mh X scope Nc ix)
  (iO:∀y∈scope.names,y.2≠ .cell) (jD:scope.kind= .function) (Ml:∀y∈scope.names,y.2= .free->X.env.kindOf y.1=some .cell\/X.env.kindOf y.1=some .free)
  (Cb:∀x∈scope.names,x.2= .local->scope.names.lookup x.1=some .local)
  (hG:∀C s H fp,PG 134 tg g) (hT:∀C s H fp,PF 134 ifs tc) (hE:∀C s H fp,PE 134 elt te)
  (hs:∀x,foldedSetIterable iter X.env x=pure x:=by intro _;rfl):PE X 137 (Ab wi ix g tc te):=by
 walk_at"h"
 rw[eval_ListComp]
 walk_at"n"
 refine wpAny_comprehension_free (use:=none) rfl hs (mE Tb) jD Cb (wK hi mF B_ iO jD Ml hG hT hE I h (RR:=λacc C=>compPost 93 X.A X.xe none (EP X pins σ Q) acc C) ?_)
 intro D C oC m H' s' eC hn fC I' q
 refine ⟨m,hn,λh' VY=>⟨.ref D,H',?_,rfl,q⟩⟩
 exact I'.j6.turned (t':=s'.toks) (λb o hb e=>(VY.2 b hb).trans e) fC.1 fC.2.1 fC.2.2.2.1 fC.2.2.2.2.1 fC.2.2.2.2.2
theorem Mo{HV pos':Pos}(Nc:List Str)(ix:List (Option Nat))(hN:X.N.Nodup)(QD:X.N[i]? =some x)(hx:Loc X.env.scope x)
  (OK:swapsWith 137 (some (.Name x pos')) HV.line X.env=pure true) (hi:PI X tg iter wi) (mF:X.calm=true) (B_:mh X scope Nc ix)
  (iO:∀y∈scope.names,y.2≠ .cell) (jD:scope.kind= .function) (Ml:∀y∈scope.names,y.2= .free->X.env.kindOf y.1=some .cell\/X.env.kindOf y.1=some .free)
  (Cb:∀x∈scope.names,x.2= .local->scope.names.lookup x.1=some .local)
  (hG:∀C s H fp,PG 134 tg g) (hT:∀C s H fp,PF 134 ifs tc) (hE:∀C s H fp,PE 134 elt te)
  (hs:∀x,foldedSetIterable iter X.env x=pure x:=by intro _;rfl) (hf:X.fn x=true\/X.env.scope.names.lookup x=some .local:=by first | exact .inl rfl | exact .inr rfl | assumption):
  PS X (.Assign [.Name x pos'] 137 HV) (Hx (Ab wi ix g tc te) (wg i)):=by
 intro pins s σ H E I h
 walk_at"n"
 rw[exec_Assign_Name_used _ _ _ _ OK]
 refine wpAny_bind (wpAny_standAt (wpAny_bind ?_))
 show wpAny _ X.A (do let _ <-comprehension 137 scope X.env _ (newList []) false (eval iter X.env) (some (assign (.Name x pos') X.env))) _ _ s
 refine wpAny_bind (wpAny_mono (wpAny_comprehension_free (use:=some (assign (.Name x pos') X.env)) (Q:=λ_ s'=>SP X pins E .next s') rfl hs (mE Tb) jD Cb
  (wK hi mF B_ iO jD Ml hG hT hE I h (RR:=λacc C=>compPost (model X.prog X.w) X.A X.xe (some (assign (.Name x pos') X.env)) (λ_ s'=>SP X pins E .next s') acc C) ?_)) (λ_ s' hq=>wpAny_pure (wpAny_pure hq)) λ_ _ e=>e)
 intro D C oC m H' s' eC hn fC I' q
 show wpAny _ X.A (assign (.Name x pos') X.env (.ref D)) _ _ _
 refine wpAny_assign_Name (nE I' hN QD hx (show RelV (.ref D) _ from rfl) (λVF I''=>?_) hf)
 have pC:=I''.pin (C,oC) (Qa3 _ (Qa3 _ (Qab.mpr rfl)))
 refine ⟨m,?_,λh' VY=>?_⟩
 ·obtain ⟨o,es,ep,e,r⟩:=hn
  rw[eC]at e;cases e
  exact ⟨oC,es,ep,pC.1,r⟩
 ·refine ⟨_,H',I''.j6.turned (t':=VF.toks) (λb o hb e=>(VY.2 b hb).trans e) fC.1 fC.2.1 fC.2.2.2.1 fC.2.2.2.2.1 fC.2.2.2.2.2,q⟩
noncomputable def S(l:c0):Str:=⟨l.toArray⟩
theorem dX(l:c0):(S l).cps.toList=l:=by simp[S]
theorem dS(l:c0):(S l:)=(l:):=by simp[S,Str.length]
theorem pH(l:c0):(S l).cps.size=(l:):=by simp[S]
theorem VZ{a b:c0}(h:S a=S b):a=b:=by
 have:=congrArg (λx:Str=>x.cps.toList) h
 simpa [S]using this
theorem V0(x:Str):x=S x.cps.toList:=by cases x;simp[S]
theorem V1(a b:c0):S a++S b=S (a++b):=by
 apply Str.ext'
 apply Qeo.mp
 simp[S,Str.cps_append]
theorem OL{a b:c0}:decide (V.str (S a)=V.str (S b))=decide (a=b):=by
 by_cases h:a=b
 ·subst h;simp
 ·rw[decide_eq_false h,decide_eq_false]
  intro q
  exact h (VZ (V.str.inj q))
noncomputable def cut{α:Type}(xs:List α)(lo hi:Option Int):List α:=(xs.drop (HT.lI (xs:) 0 lo)).take (HT.lI (xs:) (xs:) hi - HT.lI (xs:) 0 lo)
theorem Mp{α:Type}(xs:List α)(lo hi:Option Int):(cut xs lo hi:)<=(xs:):=by
 unfold cut
 rw[Qai,Qaz]
 lia
theorem Ac(n d:Nat)(v:Int):max 0 (min (if v<0 then v+(n:Int) else v) (n:Int))=((HT.lI n d (some v):Nat):Int):=by
 show _=(((if v<0 then (v+(n:Int)).toNat else min v.toNat n):Nat):Int)
 by_cases hv:v<0
 ·simp only[if_pos hv];lia
 ·simp only[if_neg hv];lia
theorem qF(lo hi:Option Int)(n:Nat):Builtin.Str.strSliceIndices lo hi 1 n=(List.range (HT.lI n n hi - HT.lI n 0 lo)).map (HT.lI n 0 lo+ ·):=by
 have h1:(1:Int)>0:=by decide
 rw[<-sliceRange_one]
 unfold Builtin.Str.strSliceIndices
 simp only[h1,if_true]
 congr 1
 ·cases lo with
  | none=>rfl
  | some v=>exact Ac n 0 v
 ·cases hi with
  | none=>rfl
  | some v=>exact Ac n n v
theorem Mq(l:c0)(lo hi:Option Int):Txt.slice (S l) lo hi=S (cut l lo hi):=by
 have hx:((Builtin.Str.strSliceIndices lo hi 1 (S l:)).filterMap ((S l).cps[·]?))=cut l lo hi:=by
  rw[dS,qF,pick_run,dX]
  rfl
 have hlen:(Builtin.Str.strSliceIndices lo hi 1 (S l:):)=HT.lI (l:) (l:) hi - HT.lI (l:) 0 lo:=by
  rw[dS,qF,Qaa,Qdp]
 unfold Txt.slice
 by_cases hc:((1:Int)==1&&(Builtin.Str.strSliceIndices lo hi 1 (S l:):)==(S l:))=true
 ·rw[if_pos hc]
  rw[hlen,dS]at hc
  have e:HT.lI (l:) (l:) hi - HT.lI (l:) 0 lo=(l:):=by simpa using hc
  have h2:=HT.Qm (l:) (l:) (Qad _) hi
  have e0:HT.lI (l:) 0 lo=0\/(l:)=0:=by lia
  unfold cut
  rw[e]
  rcases e0 with z | z
  ·rw[z];simp
  ·have:l=[]:=Qdc z
   subst this
   simp
 ·rw[if_neg hc]
  rw[hx]
  rfl
section
variable{X:Cx}
theorem mi{j pos}(l:c0)(h:x=S l):PE X (.Constant (.str x) j pos) (tC (.str (S l))):=by
 subst h
 exact P7
def V2:R2:=λx y H Q=>∃a b,x= .str (S a)/\y= .str (S b)/\(a:)+(b:)<=sizeLine/\Q (.str (S (a++b))) H
theorem lJ:jY X (binaryOp .Add) V2:=by
 walk_at"b"
 obtain ⟨a,b,rfl,rfl,hz,q⟩:=h
 exact BS pins s σ H _ _ v u Q I rx ry ⟨S a,S b,rfl,rfl,by rw[dS,dS];exact hz,by rw[V1];exact q⟩
inductive DM(x:V)(y:V)(H:Hp)(Q:VK):Prop
 | mk (l:_) (i:_) (c:_) (_:x= .str (S l)) (_:y= .int i) (_:(l:)<=sizeLine) (_:vp l i=some c) (_:Q (.str (S [c])) H):DM x y H Q
def V3:R2:=DM
theorem pJ:Qn X V3:=by
 walk_at"G"
 obtain ⟨l,i,c,rfl,rfl,hz,he,q⟩:=h
 exact Qp value slice pins s σ H _ _ v u Q I rx ry ⟨S l,i,c,rfl,rfl,by rw[dS];exact hz,by rw[dX];exact he,q⟩ hs
def ZE:V->Option Int->Option Int->Hp->VK->Prop:=λx lo hi H Q=>∃l,x= .str (S l)/\(l:)<=sizeLine/\Q (.str (S (cut l lo hi))) H
theorem qW:X1 X ZE:=by
 intro pins s σ H x v vl vu lo hi sl Q I rx hs pl pu h
 obtain ⟨l,rfl,hz,q⟩:=h
 walk_at"g"
 refine ⟨"str",_,F.slot_str_getitem.lookup,typeIs_str _ _ _,?_⟩
 have key:∀(a b:Option (Int×Tok)),vl=partValue a->vu=partValue b->a.map (·.1)=lo->b.map (·.1)=hi->wpAny 93 X.A (getItem (.str (S l) t) (.ref sl)) (EP X pins σ Q) X.xe s:=by
  rintro a b rfl rfl rfl rfl
  obtain ⟨o,e,c,d⟩:=hs
  refine wpAny_getItem_str_slice (l:=a) (u:=b) (st:=none) ⟨o,e,c,d⟩ rfl (post_val_or_str ⟨?_,λt' k=>?_⟩)
  ·exact Qbn (Txt.slice_le (S l) _ _) (by rw[dS];exact hz)
  ·exact ⟨.str (S (cut l _ _)),H,I.tok _,⟨t',congrArg (λz=>Value.str z t') (Mq l _ _)⟩,q⟩
 cases pl with
 | none=>
  cases pu with
  | none=>exact key none none rfl rfl rfl rfl
  | int i ti=>exact key none (some (i,ti)) rfl rfl rfl rfl
 | int i ti=>
  cases pu with
  | none=>exact key (some (i,ti)) none rfl rfl rfl rfl
  | int j tj=>exact key (some (i,ti)) (some (j,tj)) rfl rfl rfl rfl
theorem bO:dA X (.builtin "len") (λxs H Q=>∃l,xs=[.str (S l)]/\(l:)<=sizeLine/\Q (.int (l:)) H):=by
 walk_at"e"
 obtain ⟨l,rfl,hz,q⟩:=h
 exact x5 pins s σ H _ us Q I r ⟨S l,rfl,by rw[dS];exact hz,by rw[dS];exact q⟩
noncomputable def dU(l:c0):List V:=l.map λc=>V.str (S [c])
theorem Cc{l:c0}:∀{acc:List Value},(acc:)=(l:)->(∀j v,acc[j]? =some v->SignAt (S l) j v)->Vals (dU l) acc:=by
 induction l with
 | nil=>intro acc h _;have:acc=[]:=Qdc h;subst this;exact .nil
 | cons c l ih=>
  intro acc h k
  cases acc with
  | nil=>cases h
  | cons a acc=>
   refine .cons ?_ (ih (by simpa using h) λj v e=>?_)
   ·obtain ⟨c',u,e1,e2⟩:=k 0 a rfl
    have:c=c':=by simpa [S]using e1
    subst this
    exact ⟨u,e2⟩
   ·obtain ⟨c',u,e1,e2⟩:=k (j+1) v 139
    exact ⟨c',u,by simpa [S]using e1,e2⟩
theorem Cd(hc:X.calm=true):dA X (.type "list") (λxs H Q=>∃l,xs=[.str (S l)]/\(l:)<=sizeLine/\∀p,H p=none->Q (.ref p) (upd H p (.lst (dU l)))):=by
 walk_at"e"
 obtain ⟨l,rfl,hz,q⟩:=h
 obtain ⟨u,rfl,t,rfl⟩:=vals1 r
 refine call_list_str (I.ok.hd hc) (S l) t (λh' tk dD c' hk e Ca=>?_) (by rw[pH];exact hz)
 obtain ⟨h1,h2⟩:=Ca
 rw[pH]at h1
 refine ⟨.ref s.heap.objs.size,_,I.laid (t':=tk) (o:= .lst (dU l)) hk (Qad _) ?_,rfl,q _ I.fresh⟩
 exact ⟨by unfold dU;rw[Qaa];exact hz,dD.toList,c',Cc (by simpa using h1) (λj v e=>h2 j v 139),by simpa using e⟩
inductive HW(x:V)(y:V)(H:Hp)(Q:VK):Prop
 | mk (c:_) (l:_) (_:x= .str (S [c])) (_:y= .str (S l)) (_:Q (.bl (decide (c∈l))) H):HW x y H Q
def ZF:R2:=HW
theorem QE:jY X (compareOp .In) ZF:=by
 walk_at"b"
 obtain ⟨c,l,rfl,rfl,q⟩:=h
 refine Fm pins s σ H _ _ v u Q I rx ry ⟨S [c],S l,rfl,rfl,?_⟩
 have e:=StrLaws.found_one (S l) c
 rw[dX]at e
 rw[show (S [c])=(⟨#[c]⟩:Str) from rfl,e]
 exact q
end
theorem wL(s sub:Str)(hi:Nat):∀(l:c0) (st:Array Nat×Nat),1<=st.fst.size->(forIn l st (StrLaws.occBody s sub hi 1)).run.fst=st.fst
 | [],st,h=>rfl
 | a::l,st,h=>by
  rw[Qdy]
  unfold StrLaws.occBody
  rw[if_neg (λz=>absurd z.1.1.1 (Nat.not_lt.mpr h))]
  exact wL s sub hi l _ h
theorem occ_first(s sub:Str)(hi:Nat):∀(l:c0) (free:Nat),(∀i∈l,free<=i)->
  (forIn l ((#[]:Array Nat),free) (StrLaws.occBody s sub hi 1)).run.fst.toList=(l.find? λi=>decide (i+(sub:)<=hi)&&Builtin.Str.subAt s sub i).toList
 | [],free,_=>rfl
 | a::l,free,hf=>by
  rw[Qdy,Qdm]
  unfold StrLaws.occBody
  have ha:free<=a:=hf a Qak
  by_cases hc:a+(sub:)<=hi/\Builtin.Str.subAt s sub a=true
  ·rw[if_pos ⟨⟨⟨by simp,ha⟩,hc.1⟩,hc.2⟩]
   have:(decide (a+(sub:)<=hi)&&Builtin.Str.subAt s sub a)=true:=by simp[hc]
   rw[this]
   show (forIn l (#[].push a,a+(sub:)) (StrLaws.occBody s sub hi 1)).run.fst.toList=_
   rw[wL s sub hi l _ (by simp)]
   rfl
  ·rw[if_neg (λz=>hc ⟨z.1.2,z.2⟩)]
   have:(decide (a+(sub:)<=hi)&&Builtin.Str.subAt s sub a)=false:=by
    cases h1:decide (a+(sub:)<=hi) with
    | false=>rfl
    | true=>
     cases h2:Builtin.Str.subAt s sub a with
     | false=>rfl
     | true=>exact absurd ⟨of_decide_eq_true h1,h2⟩ hc
   rw[this]
   exact occ_first s sub hi l free λi rG=>hf i (Qah _ rG)
theorem subAt_one(l:c0)(c i:Nat):Builtin.Str.subAt (S l) (S [c]) i=(l[i]? ==some c):=by
 unfold Builtin.Str.subAt
 rw[dS]
 show ((S l).cps.extract i (i+1)== #[c])=_
 have e:((S l).cps.extract i (i+1))=((l.drop i).take 1).toArray:=by
  apply Qeo.mp
  simp[S,List.take_drop]
 rw[e]
 by_cases h:i<(l:)
 ·have e2:(l.drop i).take 1=[l[i]]:=by
   rw[Qb8 h];rfl
  rw[e2,Qy h]
  by_cases hc:l[i]=c
  ·rw[hc];simp
  ·have h1:([l[i]].toArray== #[c])=false:=by
    rw[beq_eq_false_iff_ne]
    intro z
    apply hc
    have:=congrArg Array.toList z
    simpa using this
   have h2:(some l[i]==some c)=false:=by simpa using hc
   rw[h1,h2]
 ·have e2:(l.drop i).take 1=[]:=by rw[Qeh ()];rfl
  rw[e2,Qcx ()]
  rfl
theorem sR(l:c0)(c:Nat):∀(k n:Nat),k+n=(l:)+1->((List.range' k n).find? λi=>decide (i+1<=(l:))&&(l[i]? ==some c))=if c∈l.drop k then some (k+(l.drop k).idxOf c) else none
 | k,0,h=>by
  have:l.drop k=[]:=Qeh ()
  rw[this];simp
 | k,n+1,h=>by
  rw[List.range'_succ,Qdm]
  by_cases hk:k<(l:)
  ·have e:l.drop k=l[k]::l.drop (k+1):=Qb8 hk
   rw[Qy hk,e]
   by_cases hc:l[k]=c
   ·have:(decide (k+1<=(l:))&&(some l[k]==some c))=true:=by simp[hc];lia
    rw[this,if_pos (by simp[hc])]
    simp[hc]
   ·have:(decide (k+1<=(l:))&&(some l[k]==some c))=false:=by simp[hc]
    rw[this,sR l c (k+1) n ()]
    have sE: ¬c=l[k]:=λz=>hc z.symm
    by_cases hm:c∈l.drop (k+1)
    ·rw[if_pos hm,if_pos (Qah _ hm),List.idxOf_cons]
     have:(l[k]==c)=false:=by simpa using hc
     rw[this]
     show some (k+1+List.idxOf c (List.drop (k+1) l))=some (k+(List.idxOf c (List.drop (k+1) l)+1))
     congr 1
     lia
    ·rw[if_neg hm,if_neg (by intro z;rcases Qaq.mp z with z | z;exact sE z;exact hm z)]
  ·have:l.drop k=[]:=Qeh ()
   have e1:(decide (k+1<=(l:))&&(l[k]? ==some c))=false:=by
    rw[decide_eq_false ()];rfl
   have e2:l.drop (k+1)=[]:=Qeh ()
   rw[e1,sR l c (k+1) n (),this,e2]
   simp
theorem OM(l:c0)(c:Nat):Builtin.Str.occurrences (S l) (S [c]) 0 (S l:) 1=if c∈l then [l.idxOf c] else []:=by
 rw[StrLaws.occ_eq,occ_first _ _ _ _ 0 λ_ _=>Qax _]
 have e:(λi=>decide (i+(S [c]:)<=(S l:))&&Builtin.Str.subAt (S l) (S [c]) i)=λi=>decide (i+1<=(l:))&&(l[i]? ==some c):=by
  funext i
  rw[subAt_one,dS,dS]
  rfl
 rw[e,dS,Qdn,sR l c 0 ((l:)+1) (),Qcy]
 by_cases h:c∈l
 ·rw[if_pos h,if_pos h,Qc6];rfl
 ·rw[if_neg h,if_neg h];rfl
variable{c:Nat}
section
variable{X:Cx}
inductive wM(x:V)(vs:List V)(H:Hp)(Q:VK):Prop
 | mk (l:_) (c:_) (_:x= .str (S l)) (_:vs=[.str (S [c])]) (_:c∈l) (_:Q (.int (l.idxOf c:Nat)) H):wM x vs H Q
def Mr:V->List V->Hp->VK->Prop:=wM
theorem pK:DH X "str.index" Mr:=by
 walk_at"p"
 obtain ⟨l,c,rfl,rfl,hc,q⟩:=h
 walk_at"g"
 obtain ⟨u,rfl,t',rfl⟩:=vals1 rv
 exact SC.index (i:=l.idxOf c) (rest:=[]) (by rw[OM,if_pos hc]) ⟨.int (l.idxOf c:Nat),H,I.tok _,⟨_,rfl⟩,q⟩
inductive Ad(x:V)(vs:List V)(H:Hp)(Q:VK):Prop
 | mk (l:_) (c:_) (_:x= .str (S l)) (_:vs=[.str (S [c])]) (_:Q (.int (if c∈l then (l.idxOf c:Nat) else -1)) H):Ad x vs H Q
def QF:V->List V->Hp->VK->Prop:=Ad
theorem Ae:DH X "str.find" QF:=by
 walk_at"p"
 obtain ⟨l,c,rfl,rfl,q⟩:=h
 walk_at"g"
 obtain ⟨u,rfl,t',rfl⟩:=vals1 rv
 refine SC.find ⟨.int _,H,I.tok _,⟨_,rfl⟩,?_⟩
 have e:Txt.find (S l) (S [c])=(if c∈l then ((l.idxOf c:Nat):Int) else -1):=by
  unfold Txt.find
  rw[OM]
  by_cases h:c∈l
  ·rw[if_pos h,if_pos h]
  ·rw[if_neg h,if_neg h]
 rw[e]
 exact q
def ON(f:Nat->Bool):V->List V->Hp->VK->Prop:=λx vs H Q=>∃c,x= .str (S [c])/\vs=[]/\c<128/\Q (.bl (f c)) H
def V4(f:Nat->Nat):V->List V->Hp->VK->Prop:=λx vs H Q=>∃c,x= .str (S [c])/\vs=[]/\c<128/\Q (.str (S [f c])) H
noncomputable def aB(c:Nat):Bool:=decide (97<=c)&&decide (c<=122)
noncomputable def isUp(c:Nat):Bool:=decide (65<=c)&&decide (c<=90)
theorem Ms:∀c,c<128->Txt.islower ⟨#[c]⟩=aB c:=⋯
theorem QG:∀c,c<128->Txt.isupper ⟨#[c]⟩=isUp c:=⋯
theorem m7:DH X "str.islower" (ON aB):=by
 walk_at"p"
 obtain ⟨c,rfl,rfl,hc,q⟩:=h
 walk_at"g"
 have e:us=[]:=by cases rv;rfl
 subst e
 exact SC.islower ⟨.bl (aB c),H,I,congrArg Value.bool (Ms c hc),q⟩
theorem Ce:DH X "str.isupper" (ON isUp):=by
 walk_at"p"
 obtain ⟨c,rfl,rfl,hc,q⟩:=h
 walk_at"g"
 have e:us=[]:=by cases rv;rfl
 subst e
 exact SC.isupper ⟨.bl (isUp c),H,I,congrArg Value.bool (QG c hc),q⟩
theorem upper_one(hc:c<128):Txt.upper (S [c])=S [up1 c]:=by
 rw[upper_ascii (by intro d hd;rw[dX]at hd;simp at hd;lia)]
 simp[S]
theorem wN(hc:c<128):Txt.lower (S [c])=S [lo1 c]:=by
 rw[lower_ascii (by intro d hd;rw[dX]at hd;simp at hd;lia)]
 simp[S]
theorem OO(c:Nat):Builtin.Str.tooLong (S [c]:)=false:=by
 rw[dS]
 show Builtin.Str.tooLong 1=false
 decide
theorem HX:DH X "str.upper" (V4 up1):=by
 walk_at"p"
 obtain ⟨c,rfl,rfl,hc,q⟩:=h
 walk_at"g"
 have e:us=[]:=by cases rv;rfl
 subst e
 exact SC.upper (by rw[upper_one hc];exact OO _) ⟨.str (S [up1 c]),H,I.tok _,⟨_,congrArg (λz=>Value.str z _) (upper_one hc)⟩,q⟩
theorem sS:DH X "str.lower" (V4 lo1):=by
 walk_at"p"
 obtain ⟨c,rfl,rfl,hc,q⟩:=h
 walk_at"g"
 have e:us=[]:=by cases rv;rfl
 subst e
 exact SC.lower (by rw[wN hc];exact OO _) ⟨.str (S [lo1 c]),H,I.tok _,⟨_,congrArg (λz=>Value.str z _) (wN hc)⟩,q⟩
theorem HY:∀(ls:List c0) (a:Array Nat),(ls.map S).foldl (λacc p=>acc++(S []).cps++p.cps) a=a++ls.flatten.toArray
 | [],a=>by simp
 | l::ls,a=>by
  rw[Qas,Qdl,HY ls]
  simp[S]
theorem QH(ls:List c0):Txt.join (S []) (ls.map S)=S ls.flatten:=by
 unfold Txt.join Builtin.Str.glued
 cases ls with
 | nil=>rfl
 | cons l ls=>
  show Str.mk ((List.map S ls).foldl (λacc p=>acc++(S []).cps++p.cps) (S l).cps)=_
  rw[HY]
  simp[S]
theorem sU:∀{ls:List c0} {us:List Value},Vals (ls.map λl=>V.str (S l)) us->StrsAre us (ls.map S)
 | [],us,r=>by cases r;exact .nil
 | l::ls,us,r=>by
  cases r with
  | cons r1 r2=>
   walk_at"T"
   exact .cons _ t (sU r2)
inductive Af(K:c7)(x:V)(vs:List V)(H:Hp)(Q:VK):Prop
 | mk (p:Addr) (ls:List c0) (_:x= .str (S [])) (_:vs=[.ref p]) (_:bC K H p (ls.map λl=>V.str (S l))) (_:(ls.map List.length).sum<=16777216) (_:Q (.str (S ls.flatten)) H):Af K x vs H Q
def HZ(K:c7):V->List V->Hp->VK->Prop:=Af K
theorem H_:DH X "str.join" (HZ X.K):=by
 walk_at"p"
 obtain ⟨p,ls,rfl,rfl,hq,hz,q⟩:=h
 walk_at"g"
 obtain ⟨u,rfl,ru⟩:=vals1 rv
 cases ru
 obtain ⟨aJ,r,pl,_⟩:=I.list hq
 have e:(S []:)=0:=rfl
 refine join_list pl.isList (by simpa using sU r) ?_ λt' k=>?_
 ·rw[e,Nat.mul_zero,Qdu,Qbj]
  have e2:(Str.length ∘ S)=List.length:=by funext l;exact dS l
  have e3:((λx:Str=>(x:)) ∘ S)=List.length:=by funext l;exact dS l
  first | (rw[e2];exact hz) | (rw[e3];exact hz)
 ·exact ⟨.str (S ls.flatten),H,I.tok _,⟨t',congrArg (λz=>Value.str z t') (QH ls)⟩,q⟩
end
end L2
namespace L2.F2
open PySem PySem.Spec PyProof.Rows
theorem wO:Manifest.owners.lookup (String.ofList ['d','e','s','r','e','v','e','r'].reverse)=some Manifest.sig_reversed:=by kernel_rfl
theorem d_:Slot "reversed" "__next__" "reversed.__next__":=
 .of (owner:="reversed") (n:="__next__") (by rw[typeLookup_type,builtinLookup_eq_fast];kernel_rfl) ⋯ ⋯ ⋯
  (by first | exact .inl ⋯ | exact .inr ⋯) (by rw[isSubtype_type];kernel_rfl)
theorem j8:entryFor table "reversed.__next__"=some Builtin.«reversed.__next__» :=entryFor_of_tree (by kernel_rfl)
theorem jE(a:Value):argsOk "reversed.__next__" ⟨[a],[]⟩:=by
 unfold argsOk;rw[signature?_of (id:="reversed.__next__") (n:=['_','_','t','x','e','n','_','_']) (o:=['d','e','s','r','e','v','e','r']) (by kernel_rfl) wO];kernel_rfl
theorem mG:Slot "reversed" "__iter__" "reversed.__iter__":=
 .of (owner:="reversed") (n:="__iter__") (by rw[typeLookup_type,builtinLookup_eq_fast];kernel_rfl) ⋯ ⋯ ⋯
  (by first | exact .inl ⋯ | exact .inr ⋯) (by rw[isSubtype_type];kernel_rfl)
theorem qX(a:Value):argsOk "reversed.__iter__" ⟨[a],[]⟩:=by
 unfold argsOk;rw[signature?_of (id:="reversed.__iter__") (n:=['_','_','r','e','t','i','_','_']) (o:=['d','e','s','r','e','v','e','r']) (by kernel_rfl) wO];kernel_rfl
theorem sV:entryFor table "reversed.__iter__"=some Builtin.«dict_keyiterator.__iter__» :=
 entryFor_alias (id':="dict_keyiterator.__iter__") (by kernel_rfl) (by first | rfl | decide+kernel | (unfold String.splitOn;simp+decide [String.splitOnAux])) ⋯ (by kernel_rfl)
theorem vw:Slot "reversed" "__init__" "object.__init__":=
 .of (owner:="object") (n:="__init__") (by rw[typeLookup_type,builtinLookup_eq_fast];kernel_rfl) ⋯ ⋯ ⋯
  (by first | exact .inl ⋯ | exact .inr ⋯) (by rw[isSubtype_type];kernel_rfl)
theorem Cf:TypeCalled "reversed" "reversed.__new__" "object.__init__":=
 ⟨⋯,⋯,⟨_,_,F.mro_reversed⟩,F.made_reversed,⋯,by rw[isSubtype_type];kernel_rfl,vw⟩
theorem Cg:typeLookup (.type "str") "__reversed__"=pure none:=by rw[typeLookup_type,builtinLookup_eq_fast];kernel_rfl
end L2.F2
namespace L2
open PySem PySem.Spec PyProof.Rows
theorem sW(x:Str)(t:Tok)(hz:(x:)<=sizeLine):Meets (Builtin.«reversed.__new__» ⟨[.type "reversed",.str x t],[]⟩) (λ_ R s=>∀tk,R (.ok (.ret (.ref s.heap.objs.size))) { s with heap:=s.heap.push { cls:= .type "reversed",data:= .fields #[.str x t,rawInt (((x:):Int) - 1)] },toks:=tk }):=by
 refine Meets.of_wp λprog w A R s h=>?_
 unfold Builtin.«reversed.__new__»
 refine wpAny_bind (wpAny_of_eq (newClass_reversed _) ?_)
 try dsimp only
 refine wpAny_bind (wpAny_of_eq (a:=Unit.unit) (by first | rfl | kernel_rfl) ?_)
 refine wpAny_bind (wpAny_of_eq (a:=Unit.unit) (by first | rfl | kernel_rfl) ?_)
 try dsimp only
 refine wpAny_bind (wpAny_specialOf (typeIs_str s x t) F2.Cg ?_)
 try dsimp only
 refine wpAny_bind (wpAny_of_eq (a:=true) (by first | rfl | kernel_rfl) ?_)
 rw[if_neg ∅]
 have hn:=gH
 refine wpAny_bind (len_str () ?_)
 refine wpAny_bind (wpAny_of_eq (a:=some ((x:):Int)) (by first | rfl | kernel_rfl) ?_)
 show wpAny _ _ (Builtin.SmallTypes.newRecord (Value.type "reversed") [Value.str x t,rawInt (((x:):Int) - 1)] >>= _) _ _ _
 refine wpAny_bind ?_
 unfold Builtin.SmallTypes.newRecord
 refine wpAny_newObj_type ?_ (by size_fits)
 exact wpAny_pure ⟨_,rfl,h _⟩
variable{x:Str}{Q:Value->Shared->Prop}{it:Addr}{i:Int}
section
variable{prog:Program}{w:World}{A:Around}{E:Value->Shared->Prop}{s:Shared}
theorem sZ{t:Tok}(hz:(x:)<=sizeLine)(h:∀tk,Q (.ref s.heap.objs.size) { s with heap:=s.heap.push { cls:= .type "reversed",data:= .fields #[.str x t,rawInt (((x:):Int) - 1)] },toks:=tk }):
  wpAny 94 A (call (.type "reversed") [.str x t]) Q E s:=
 callType_new F2.Cf ⋯ (F.typeCall_reversed_1 _) (F.newCall_reversed_1 _) (λobj=>by unfold argsOk;kernel_rfl) F.entry_reversed_new (sW x t hz)
  λtk=>⟨⟨_,Qau _ rfl,rfl⟩,h tk⟩
def j9(h:Heap)(it:Addr)(x:Str)(t:Tok)(i:Int):Prop:=∃o,h.get? it=some o/\o.cls= .type "reversed"/\o.data= .fields #[.str x t,rawInt i]
theorem j9.typeIs{t:Tok}(h:j9 s.heap it x t i):s.TypeIs (.ref it) "reversed":=let ⟨o,ho,hc,_⟩:=h;⟨o,ho,hc⟩
theorem s_{t:Tok}(hit:j9 s.heap it x t i)(h:Q (.ref it) s):wpAny 94 A (pyIter (.ref it)) Q E s:=by
 refine wpAny_pyIter_slot hit.typeIs F2.mG (wpAny_call_entry F2.mG hit.typeIs F2.sV ?_ (F2.qX _))
 show wpAny _ _ (ret (.ref it)) _ _ s
 exact wpAny_pure ⟨_,rfl,"reversed",_,hit.typeIs,F2.d_.lookup,h⟩
theorem qY{t:Tok}{i c:Nat}{Q:Option Value->Shared->Prop}(hit:j9 s.heap it x t (i:Int))(hx:x.cps[i]? =some c)(hz:(x:)<=sizeLine)
  (hQ:∀h' tk u,j9 h' it x t ((i:Int) - 1)->Heap.SameBut it s.heap h'->Q (some (.str ⟨#[c]⟩ u)) { s with heap:=h',toks:=tk }):wpAny 94 A (pyNext (.ref it)) Q E s:=by
 obtain ⟨o,ho,hc,hd⟩:=id hit
 have hn:=gH
 have hi:i<(x:):=(Array.getElem?_eq_some_iff.mp hx).1
 unfold pyNext
 refine wpAny_bind (wpAny_attempt (wpAny_callSpecial?_slot (name:=Str.ofString "__next__") hit.typeIs F2.d_
  (wpAny_call_entry F2.d_ hit.typeIs F2.j8 ?_ (F2.jE _))))
 unfold Builtin.«reversed.__next__»
 refine wpAny_bind (wpAny_of_eq (a:=(Value.ref it,[])) rfl ?_)
 try dsimp only
 refine wpAny_bind (wpAny_field ho hd (x:= .str x t) rfl ?_)
 refine wpAny_bind (wpAny_field ho hd (x:=rawInt (i:Int)) rfl ?_)
 show wpAny _ _ (if (i:Int)<0 then _ else _) _ _ s
 rw[if_neg ()]
 refine wpAny_bind (wpAny_specialOf (typeIs_str s x t) F.slot_str_getitem.lookup ?_)
 show wpAny _ _ (if (some (Value.builtin _)).isNone=true then _ else _) _ _ s
 rw[if_neg ∅]
 refine wpAny_bind (wpAny_mkInt ?_)
 refine wpAny_bind (wpAny_attempt (getItem_str (c:=c) (by
  have e1:decide ((i:Int)< -(2 ^ 63:Int))=false:=decide_eq_false ()
  have e2:decide ((i:Int) ≥ 2 ^ 63)=false:=decide_eq_false ()
  rw[e1,e2,Bool.or_false]) (by rw[seqIndex_of () (),Qap];exact hx) ?_))
 show wpAny _ _ (field (Value.ref it) 1 >>= _) _ _ _
 refine wpAny_bind (wpAny_field ho hd (x:=rawInt (i:Int)) rfl ?_)
 show wpAny _ _ (setField (Value.ref it) 1 (rawInt ((i:Int) - 1)) >>= _) _ _ _
 refine wpAny_bind (wpAny_setField ho hd (by simp) ?_)
 refine wpAny_pure ⟨_,rfl,wpAny_pure (hQ _ _ _ ?_ (Qgw ..))⟩
 exact ⟨_,Qc1 _ ho (Obj.isFreed_of_fields (Obj.data_mapFields hd _)),(Obj.cls_mapFields ..).trans hc,by
  rw[Obj.data_mapFields hd];simp⟩
theorem tf{t:Tok}{Q:Option Value->Shared->Prop}(hh:A.handled=none)(hit:j9 s.heap it x t (-1))
  (hQ:∀h',Heap.ExtBut it s.heap h'->Q none { s with heap:=h' }):wpAny 94 A (pyNext (.ref it)) Q E s:=by
 obtain ⟨o,ho,hc,hd⟩:=id hit
 unfold pyNext
 refine wpAny_bind (wpAny_attempt (wpAny_callSpecial?_slot (name:=Str.ofString "__next__") hit.typeIs F2.d_
  (wpAny_call_entry F2.d_ hit.typeIs F2.j8 ?_ (F2.jE _))))
 unfold Builtin.«reversed.__next__»
 refine wpAny_bind (wpAny_of_eq (a:=(Value.ref it,[])) rfl ?_)
 try dsimp only
 refine wpAny_bind (wpAny_field ho hd (x:= .str x t) rfl ?_)
 refine wpAny_bind (wpAny_field ho hd (x:=rawInt (-1)) rfl ?_)
 show wpAny _ _ (if (-1:Int)<0 then _ else _) _ _ s
 rw[if_pos ∅]
 refine wpAny_bind (wpAny_rule ?_)
 refine wpAny_bind ?_
 show wpAny _ _ (setField (Value.ref it) 1 (rawInt (-1)) >>= λ_=>setField (Value.ref it) 0 .none) _ _ _
 refine wpAny_bind (wpAny_setField ho hd (by simp) ?_)
 refine wpAny_setField (Qc1 _ ho (Obj.isFreed_of_fields (Obj.data_mapFields hd _))) (Obj.data_mapFields hd _) (by simp) ?_
 first
 | show wpAny _ _ (newExc (.type "StopIteration") [] >>= _) _ _ _
 |(refine wpAny_bind ?_;show wpAny _ _ (newExc (.type "StopIteration") [] >>= _) _ _ _)
 refine wpAny_bind ?_
 simp only[newExc,newTuple]
 refine wpAny_bind (wpAny_newObj_type ?_ (by size_fits))
 refine wpAny_bind (m:=firstArgMember _ _) (wpAny_of_eq (a:=Value.none) (by first | rfl | (simp only[firstArgMember];rfl)) ?_)
 refine wpAny_newObj_type ?_ (by size_fits)
 simp only[raiseNew]
 refine wpAny_bind (wpAny_handled ?_)
 first | rw[show A.in1.handled=none from hh] | rw[hh]
 refine wpAny_bind (wpAny_pure (wpAny_throw ?_))
 refine wpAny_bind (wpAny_isInstance (T:="StopIteration") (b:=true) ⟨_,Qau _ rfl,rfl⟩ isSubtype_stop ?_)
 refine wpAny_pure (hQ _ λb ob hb e=>?_)
 refine Ta _ (Ta _ ?_)
 exact (Qby _ _ (Ne.symm hb)).trans ((Qby _ _ (Ne.symm hb)).trans e)
end
noncomputable def Mt(xs:List V):It:=⟨λi _=>i<(xs:),λi H x H'=>H'=H/\xs[i]? =some x,λi _=>(xs:)<=i⟩
variable{l:c0}
theorem fE{i:Nat}{x:V}(h:(dU l)[i]? =some x):∃c,l[i]? =some c/\x= .str (S [c]):=by
 unfold dU at h
 rw[Qat]at h
 cases e:l[i]? with
 | none=>rw[e]at h;cases h
 | some c=>rw[e]at h;cases h;exact ⟨c,rfl,rfl⟩
theorem aX(l:c0):(dU l:)=(l:):=by unfold dU;rw[Qaa]
variable{K:c7}{tg:Expr}
theorem Ia{P:Program}{w:World}(it:Addr)(l:c0)(t:Tok):Turn P w K tg (Mt (dU l)) [it] it (λi h=>h.IsStrIter it (strIterType (S l)) (S l) t i) where
 mem:=by simp
 obj:=λi h st b hb=>by
  have e:b=it:=by simpa using hb
  subst e
  obtain ⟨o,e,c,d⟩:=st
  walk_at"X"
 keep:=λi h h' st k=>let ⟨o,e,r⟩:=st;⟨o,k it (by simp) o e,r⟩
 item:=by
  walk_at"a"
  subst hP hw hK
  have QI:i<(l:):=by have:i<(dU l:):=hg;rwa [aX]at this
  walk_at"f"
  have fin:∀(v:Value) (h':Heap) (tk:Nat),SignAt (S l) i v->h'.IsStrIter it (strIterType (S l)) (S l) t (i+1)->(∀b o,b∉[it]->s.heap.get? b=some o->h'.get? b=some o)->
    ∃u,some v=some u/\wpAny 93 X.A (letOwnedTupleGo tg (.ref it) u) (λ_ s2=>∃x H',Inv X pins σ H' s2/\RelV x u/\(Mt (dU l)).G3 i H x H'/\s2.heap.IsStrIter it (strIterType (S l)) (S l) t (i+1)/\∀b∈[it],H' b=none) E { s with heap:=h',toks:=tk }:=by
   intro v h' tk hv aT kk
   obtain ⟨c,u,e1,e2⟩:=hv
   subst e2
   walk_at"R"
   obtain ⟨o,e,cc,d⟩:=id aT
   refine ⟨_,rfl,zS (s:={ s with heap:=h',toks:=tk }) e cc d (by unfold strIterType;split<;>decide) ⟨.str (S [c]),H,I1,⟨u,rfl⟩,⟨rfl,?_⟩,aT,λb hb=>(hf b hb).1⟩⟩
   unfold dU
   rw[Qat]
   have Ci:l[i]? =some c:=by simpa [S]using e1
   rw[Ci]
   rfl
  have hsz:i<(S l).cps.size:=by rw[pH];exact QI
  by_cases ha:(S l).cps.all (· <128)=true
  ·have et:strIterType (S l)="str_ascii_iterator":=by unfold strIterType;rw[if_pos ha]
   rw[et]at st
   exact (Walks.strAscii (prog:=X.prog) (w:=X.w) (I.ok.hd hc) it (S l) t).item i s _ _ hsz st λv h' tk hv aT kk=>fin v h' tk hv (by rw[et];exact aT) kk
  ·have et:strIterType (S l)="str_iterator":=by unfold strIterType;rw[if_neg ha]
   rw[et]at st
   exact (Walks.strWide (prog:=X.prog) (w:=X.w) (I.ok.hd hc) it (S l) t).item i s _ _ hsz st λv h' tk hv aT kk=>fin v h' tk hv (by rw[et];exact aT) kk
 done:=by
  walk_at"a"
  subst hP hw hK
  walk_at"f"
  have QI:(l:)<=i:=by have:(dU l:)<=i:=hg;rwa [aX]at this
  have hx:(S l).cps[i]? =none:=by rw[Array.getElem?_eq_none_iff,pH];exact QI
  by_cases ha:(S l).cps.all (· <128)=true
  ·have et:strIterType (S l)="str_ascii_iterator":=by unfold strIterType;rw[if_pos ha]
   rw[et]at st
   exact wpAny_pyNext_ascii_end (I.ok.hd hc) st hx λh' eb=>⟨rfl,I.turned (t':=s.toks) (λb o hb e=>eb b o hb e) f0 f1 f3 f4 f5⟩
  ·have et:strIterType (S l)="str_iterator":=by unfold strIterType;rw[if_neg ha]
   rw[et]at st
   exact wpAny_pyNext_wide_end (I.ok.hd hc) st hx λh' eb=>⟨rfl,I.turned (t':=s.toks) (λb o hb e=>eb b o hb e) f0 f1 f3 f4 f5⟩
 self:=λ_ _ s _ _ st h=>by
  by_cases ha:(S l).cps.all (· <128)=true
  ·have et:strIterType (S l)="str_ascii_iterator":=by unfold strIterType;rw[if_pos ha]
   rw[et]at st
   exact wpAny_pyIter_striter_ascii st h
  ·have et:strIterType (S l)="str_iterator":=by unfold strIterType;rw[if_neg ha]
   rw[et]at st
   exact wpAny_pyIter_striter_wide st h
theorem Ib{P:Program}{w:World}(it:Addr)(l:c0)(t:Tok)(hz:(l:)<=sizeLine):Turn P w K tg (Mt (dU l).reverse) [it] it (λi h=>i<=(l:)/\j9 h it (S l) t (((l:):Int) - 1 - (i:Int))) where
 mem:=by simp
 obj:=λi h st b hb=>by
  have e:b=it:=by simpa using hb
  subst e
  obtain ⟨_,o,e,c,d⟩:=st
  walk_at"X"
 keep:=λi h h' st k=>let ⟨q,o,e,r⟩:=st;⟨q,o,k it (by simp) o e,r⟩
 item:=by
  walk_at"a"
  subst hP hw hK
  have QI:i<(l:):=by have:i<(dU l).reverse.length:=hg;rwa [Qa0,aX]at this
  walk_at"f"
  obtain ⟨_,st⟩:=st
  have e:((l:):Int) - 1 - (i:Int)=(((l:) - 1 - i:Nat):Int):=by lia
  rw[e]at st
  have cH:(l:) - 1 - i<(l:):=by lia
  refine qY (c:=l[(l:) - 1 - i]) st (by simp[S,cH]) (by rw[dS];exact hz) λh' tk u aT sb=>?_
  have I1:Inv X pins σ H { s with heap:=h',toks:=tk }:=I.turned (λb o hb e=>(sb.2 b hb).trans e) f0 f1 f3 f4 f5
  obtain ⟨o,e1,cc,d⟩:=id aT
  refine ⟨_,rfl,zS (s:={ s with heap:=h',toks:=tk }) e1 cc d ∅ ⟨.str (S [l[(l:) - 1 - i]]),H,I1,⟨u,rfl⟩,⟨rfl,?_⟩,⟨QI,?_⟩,λb hb=>(hf b hb).1⟩⟩
  ·rw[Qd0 (by rw[aX];exact QI),aX]
   unfold dU
   rw[Qat,Qy cH]
   rfl
  ·have e2:((l:):Int) - 1 - ((i+1:Nat):Int)=(((l:) - 1 - i:Nat):Int) - 1:=by lia
   rw[e2]
   exact aT
 done:=by
  walk_at"a"
  subst hP hw hK
  walk_at"f"
  have QI:(l:)<=i:=by have:(dU l).reverse.length<=i:=hg;rwa [Qa0,aX]at this
  obtain ⟨hi,st⟩:=st
  have e:((l:):Int) - 1 - (i:Int)= -1:=by lia
  rw[e]at st
  exact tf (I.ok.hd hc) st λh' eb=>⟨rfl,I.turned (t':=s.toks) (λb o hb e=>eb b o hb e) f0 f1 f3 f4 f5⟩
 self:=λ_ _ _ _ _ st h=>s_ st.2 h
variable{tl:TE}{a:Expr}{ta:TA}{p pos:Pos}
section
variable{X:Cx}{tg:Expr}
def ZG(tl:TE):TI:=λσ H R=>tl σ H λx H1=>∃l,x= .str (S l)/\R (Mt (dU l)) H1
theorem j_{l:Expr}(hl:PE X l tl):PI X tg l (ZG tl):=by
 walk_at"K"
 walk_at"S"
 obtain ⟨l,rfl,q⟩:=q1
 walk_at"T"
 refine wpAny_pyIter_strU ?_
 refine ⟨s1.heap.objs.size,[s1.heap.objs.size],_,_,H1,rfl,I1.kept (t':=s1.toks) λb o e=>Ta _ e,Ia _ l t,⟨_,Qau _ rfl,rfl,rfl⟩,λb hb=>?_,q⟩
 have e:b=s1.heap.objs.size:=by simpa using hb
 subst e
 walk_at"H"
def ZH(ta:TA):TI:=λσ H R=>ta σ H λvs H1=>∃l,vs=[.str (S l)]/\(l:)<=sizeLine/\R (Mt (dU l).reverse) H1
theorem Ic(hg:Gl X "reversed")(hm:X.mg "reversed"=none)(ha:PA X [a] ta)(hs:starEach [a] X.env=[(false,eval a X.env)]:=by rfl):PI X tg (.Call (.Name "reversed" p) [a] [] pos) (ZH ta):=by
 walk_at"K"
 refine Call_ (iA I hg hm boot_reversed (Qcc (cA (ha pos pins s σ H _ I h) λus s1 ⟨vs,H1,I1,r1,q1⟩=>?_) hs rfl))
 obtain ⟨l,rfl,hz,q⟩:=q1
 obtain ⟨u,rfl,t,rfl⟩:=vals1 r1
 refine sZ (by rw[dS];exact hz) λtk=>?_
 have hit:j9 (s1.heap.push { cls:= .type "reversed",data:= .fields #[.str (S l) t,rawInt (((S l:):Int) - 1)] }) s1.heap.objs.size (S l) t (((S l:):Int) - 1):=⟨_,Qau _ rfl,rfl,rfl⟩
 refine s_ hit ?_
 refine ⟨s1.heap.objs.size,[s1.heap.objs.size],_,_,H1,rfl,I1.kept (t':=tk) λb o e=>Ta _ e,Ib _ l t hz,⟨Qax _,?_⟩,λb hb=>?_,q⟩
 ·have e:((l:):Int) - 1 - ((0:Nat):Int)=((S l:):Int) - 1:=by rw[dS];simp
  rw[e]
  exact hit
 ·have e:b=s1.heap.objs.size:=by simpa using hb
  subst e
  walk_at"H"
end
variable{xs:List V}{g:TG}{tb:TS}{D:Ends}{σ:St}{H:Hp}
theorem DN(Pv:Nat->St->Hp->Prop)(h0:Pv 0 σ H)
  (hs:∀i x σ H,xs[i]? =some x->Pv i σ H->g x σ H λσ2 H2=>tb { D with nx:=Pv (i+1),ct:=Pv (i+1),bk:=D.nx } σ2 H2) (hd:∀σ H,Pv (xs:) σ H->D.nx σ H):
  ∃W:Nat->Nat->St->Hp->Prop,(∃m,W 0 m σ H)/\∀i m σ H,W i m σ H->
   ((Mt xs).stop i H/\D.nx σ H)\/((Mt xs).go i H/\∃N:St->Hp->Prop,135/\∀x H',(Mt xs).G3 i H x H'->g x σ H' λσ2 H2=>tb { D with nx:=N,ct:=N,bk:=D.nx } σ2 H2):=by
 walk_at"d"
 rintro i m σ H ⟨rfl,hi,p⟩
 by_cases cH:i<(xs:)
 ·refine .inr ⟨cH,Pv (i+1),λσ' H' p'=>⟨(xs:) - (i+1),(),rfl,cH,p'⟩,λx H' y=>?_⟩
  obtain ⟨e,y⟩:=y
  subst e
  exact hs i x σ _ y p
 ·have e:i=(xs:):=by lia
  subst e
  exact .inl ⟨Qad _,hd σ H p⟩
variable{n:Nat}{σc:St}{tc:TT}{te:TE}{H1:Hp}
theorem rH{J:It}{xs:Nat->V->Prop}{Q:VK}(Pv:Nat->List V->Hp->Prop)(hn:n<sizeLine)(hgo:∀i acc H,i<n->Pv i acc H->J.go i H)(V5:∀acc H,Pv n acc H->J.stop n H)
  (hy:∀i acc H x H',i<n->Pv i acc H->J.G3 i H x H'->H'=H/\xs i x) (h0:Pv 0 [] H1)
  (hs:∀(i:Nat) (x:V) (acc:List V) (H:Hp) (Nx:List V->Hp->Prop),i<n->xs i x->(acc:)<=i->Pv i acc H->(∀dD H',(dD:)<=i+1->Pv (i+1) dD H'->Nx dD H')->
   g x σc H λσ2 H2=>Wk σc σ2/\tc σ2 H2 λb H3=>if b=true then te σ2 H3 λv H4=>Nx (acc++[v]) H4 else Nx acc H3)
  (hd:∀acc H D,(acc:)<=n->Pv n acc H->H D=none->Q (.ref D) (upd H D (.lst acc))):sQ J σc g tc te Q H1:=by
 refine ⟨λi m acc H=>m=n - i/\i<=n/\(acc:)<=i/\Pv i acc H,⟨n,by simp,Qax _,Qad _,h0⟩,?_⟩
 rintro i m acc H ⟨rfl,hi,hl,p⟩
 refine ⟨(),?_⟩
 by_cases cH:i<n
 ·refine .inr ⟨hgo i acc H cH p,λx H' y=>?_⟩
  obtain ⟨rfl,y2⟩:=hy i acc H x H' cH p y
  exact hs i x acc _ (λdD H'=>∃m',m'<n - i/\(m'=n - (i+1)/\i+1<=n/\(dD:)<=i+1/\Pv (i+1) dD H')) cH y2 hl p λdD H' h1 h2=>⟨n - (i+1),(),rfl,cH,h1,h2⟩
 ·have e:i=n:=by lia
  subst e
  exact .inl ⟨V5 acc H p,λD hD=>hd acc H D hl p hD⟩
theorem fN{Q:VK}(Pv:Nat->List V->Hp->Prop)(hn:(xs:)<sizeLine)(h0:Pv 0 [] H1)
  (hs:∀(i:Nat) (x:V) (acc:List V) (H:Hp) (Nx:List V->Hp->Prop),i<(xs:)->xs[i]? =some x->(acc:)<=i->Pv i acc H->(∀dD H',(dD:)<=i+1->Pv (i+1) dD H'->Nx dD H')->
   g x σc H λσ2 H2=>Wk σc σ2/\tc σ2 H2 λb H3=>if b=true then te σ2 H3 λv H4=>Nx (acc++[v]) H4 else Nx acc H3)
  (hd:∀acc H D,(acc:)<=(xs:)->Pv (xs:) acc H->H D=none->Q (.ref D) (upd H D (.lst acc))):sQ (Mt xs) σc g tc te Q H1:=
 rH (xs:=λi x=>xs[i]? =some x) Pv hn (λi _ _ h _=>h) (λ_ _ _=>Qad _) (λi _ H x H' _ _ y=>y) h0 hs hd
theorem Ag{lo:Int}{Q:VK}(Pv:Nat->List V->Hp->Prop)(hn:n<sizeLine)(h0:Pv 0 [] H1)
  (hs:∀(i:Nat) (acc:List V) (H:Hp) (Nx:List V->Hp->Prop),i<n->(acc:)<=i->Pv i acc H->(∀dD H',(dD:)<=i+1->Pv (i+1) dD H'->Nx dD H')->
   g (.int (lo+i)) σc H λσ2 H2=>Wk σc σ2/\tc σ2 H2 λb H3=>if b=true then te σ2 H3 λv H4=>Nx (acc++[v]) H4 else Nx acc H3)
  (hd:∀acc H D,(acc:)<=n->Pv n acc H->H D=none->Q (.ref D) (upd H D (.lst acc))):sQ (OD lo n) σc g tc te Q H1:=
 rH (xs:=λi x=>x= .int (lo+i)) Pv hn (λi _ _ h _=>h) (λ_ _ _=>Qad _) (λi _ H x H' _ _ y=>y) h0 (λi x acc H Nx h1 h2=>by subst h2;exact hs i acc H Nx h1) hd
theorem lK{a:Addr}{Q:VK}(Pv:Nat->List V->Hp->Prop)(hn:(xs:)<sizeLine)(hl:∀i acc H,Pv i acc H->bC K H a xs)(h0:Pv 0 [] H1)
  (hs:∀(i:Nat) (x:V) (acc:List V) (H:Hp) (Nx:List V->Hp->Prop),i<(xs:)->xs[i]? =some x->(acc:)<=i->Pv i acc H->(∀dD H',(dD:)<=i+1->Pv (i+1) dD H'->Nx dD H')->
   g x σc H λσ2 H2=>Wk σc σ2/\tc σ2 H2 λb H3=>if b=true then te σ2 H3 λv H4=>Nx (acc++[v]) H4 else Nx acc H3)
  (hd:∀acc H D,(acc:)<=(xs:)->Pv (xs:) acc H->H D=none->Q (.ref D) (upd H D (.lst acc))):sQ (S9 K a) σc g tc te Q H1:=
 rH (xs:=λi x=>xs[i]? =some x) Pv hn (λi acc H h p=>⟨xs,xs[i],hl i acc H p,by simp[h]⟩) (λacc H p=>⟨xs,hl _ acc H p,Qad _⟩) (λi acc H x H' h p y=>⟨y.1,y.2 xs (hl i acc H p)⟩) h0 hs hd
def Mu(c:TT)(tb:TS):TS:=λD σ H=>∃W:Nat->St->Hp->Prop,(∃m,W m σ H)/\∀m σ H,W m σ H->c σ H λb H1=>if b=true then tb { D with nx:=λσ' H'=>∃m',m'<m/\W m' σ' H',ct:=λσ' H'=>∃m',m'<m/\W m' σ' H',bk:=D.nx } σ H1 else D.nx σ H1
variable{X:Cx}
theorem gz{c:Expr}{body:List Stmt}(hp:PassesOwn 93 X.A X.env X.xe)(hc:PT X c tc)(hb:zQ X body tb):PS X (.While c body [] pos) (Mu tc tb):=by
 walk_at"u"
 obtain ⟨W,⟨m0,w0⟩,turn⟩:=h
 refine wpAny_While (codeAny_whileLoop (λn s'=>∃σ' H',Inv X pins σ' H' s'/\W n σ' H') ?_ m0 ⟨σ,H,I,w0⟩)
 rintro n s1 ⟨σ1,H1,I1,w1⟩
 refine wpAny_passesOwn hp (cA (hc pins s1 σ1 H1 _ I1 (turn n σ1 H1 w1)) λb s2 ⟨H2,I2,q2⟩=>?_)
 cases b with
 | true=>
  rw[if_pos rfl]at q2 ⊢
  refine wpAny_passesOwn hp (cA (hb pins s2 σ1 H2 _ I2 q2) λf s3 q3=>?_)
  cases f with
  | next=>
   obtain ⟨σ3,H3,I3,m',hm,w3⟩:=q3
   exact ⟨m',hm,σ3,H3,I3,w3⟩
  | cont=>
   obtain ⟨σ3,H3,I3,m',hm,w3⟩:=q3
   exact ⟨m',hm,σ3,H3,I3,w3⟩
  | brk=>exact q3
  | ret v=>exact q3
 | false=>
  rw[if_neg Qba]at q2 ⊢
  exact wpAny_execs_nil ⟨σ1,H2,I2,q2⟩
noncomputable def yf(X:Cx)(scope:Scope):Bool:=(scope.names.all λy=>y.2 != .cell)&&(scope.kind== .function)&&(scope.names.all λy=>y.2 != .free||X.env.kindOf y.1==some .cell||X.env.kindOf y.1==some .free)&&(scope.names.all λy=>y.2 != .local||scope.names.lookup y.1==some .local)
variable{scope:Scope}
theorem nJ(h:yf X scope=true):(∀y∈scope.names,y.2≠ .cell)/\scope.kind= .function/\(∀y∈scope.names,y.2= .free->X.env.kindOf y.1=some .cell\/X.env.kindOf y.1=some .free)/\(∀x∈scope.names,x.2= .local->scope.names.lookup x.1=some .local):=by
 unfold yf at h
 simp only[Qct]at h
 obtain ⟨⟨⟨h1,h2⟩,h3⟩,h4⟩:=h
 refine ⟨λy hy e=>?_,by simpa using h2,λy hy e=>?_,λy hy e=>?_⟩
 ·have:=Qgu.mp h1 y hy
  rw[e]at this;simp at this
 ·have:=Qgu.mp h3 y hy
  rw[e]at this
  simpa using this
 ·have:=Qgu.mp h4 y hy
  rw[e]at this
  simpa using this
variable{ifs:List Expr}
theorem bW{iter elt:Expr}{wi:TI}(Nc:List Str)(ix:List (Option Nat))(hi:PI X tg iter wi)(B_:mh X scope Nc ix)
  (hG:∀C s H fp,PG 134 tg g) (hT:∀C s H fp,PF 134 ifs tc) (hE:∀C s H fp,PE 134 elt te) (cq:yf X scope=true:=by rfl) (mF:X.calm=true:=by rfl)
  (hs:∀x,foldedSetIterable iter X.env x=pure x:=by intro _;rfl):PE X 137 (Ab wi ix g tc te):=
 let ⟨h1,h2,h3,h4⟩:=nJ cq
 Mn Nc ix hi mF B_ h1 h2 h3 h4 hG hT hE hs
variable{pos':Pos}
theorem Ie{i:Nat}{iter elt:Expr}{HV:Pos}{wi:TI}(Nc:List Str)(ix:List (Option Nat))(hN:X.N.Nodup)(QD:X.N[i]? =some x)(hx:Loc X.env.scope x)
  (hi:PI X tg iter wi) (B_:mh X scope Nc ix)
  (hG:∀C s H fp,PG 134 tg g) (hT:∀C s H fp,PF 134 ifs tc) (hE:∀C s H fp,PE 134 elt te)
  (OK:swapsWith 137 (some (.Name x pos')) HV.line X.env=pure true:=by rfl) (cq:yf X scope=true:=by rfl) (mF:X.calm=true:=by rfl)
  (hs:∀x,foldedSetIterable iter X.env x=pure x:=by intro _;rfl) (hf:X.fn x=true\/X.env.scope.names.lookup x=some .local:=by first | exact .inl rfl | exact .inr rfl | assumption):
  PS X (.Assign [.Name x pos'] 137 HV) (Hx (Ab wi ix g tc te) (wg i)):=
 let ⟨h1,h2,h3,h4⟩:=nJ cq
 Mo Nc ix hN QD hx OK hi mF B_ h1 h2 h3 h4 hG hT hE hs hf
section
variable{X:Cx}
inductive Ig(x:V)(y:V)(H:Hp)(Q:VK):Prop
 | mk (a:_) (b:_) (_:x= .str (S a)) (_:y= .str (S b)) (_:Q (.bl (decide (a=b))) H):Ig x y H Q
def ZI:R2:=Ig
inductive Ih(x:V)(y:V)(H:Hp)(Q:VK):Prop
 | mk (a:_) (b:_) (_:x= .str (S a)) (_:y= .str (S b)) (_:Q (.bl (!decide (a=b))) H):Ih x y H Q
def ZJ:R2:=Ih
theorem iB:jY X (compareOp .Eq) ZI:=by
 walk_at"b"
 walk_at"O"
 exact HB pins s σ H _ _ v u Q I rx ry ⟨rfl,by rw[OL];exact q⟩
theorem Ii:jY X (compareOp .NotEq) ZJ:=by
 walk_at"b"
 walk_at"O"
 exact OF pins s σ H _ _ v u Q I rx ry ⟨rfl,by rw[OL];exact q⟩
theorem V6{j:Int}:decide (V.int i=V.int j)=decide (i=j):=by
 by_cases h:i=j
 ·subst h;simp
 ·rw[decide_eq_false h,decide_eq_false]
  intro q
  exact h (V.int.inj q)
theorem OP{i j:Bool}:decide (V.bl i=V.bl j)=decide (i=j):=by
 by_cases h:i=j
 ·subst h;simp
 ·rw[decide_eq_false h,decide_eq_false]
  intro q
  exact h (V.bl.inj q)
theorem m8:jY X (compareOp .Eq) (L4 λi j=> .bl (decide (i=j))):=by
 walk_at"b"
 walk_at"O"
 exact HB pins s σ H _ _ v u Q I rx ry ⟨rfl,by rw[V6];exact q⟩
inductive OQ(g:Bool->Bool->V)(x:V)(y:V)(H:Hp)(Q:VK):Prop
 | mk (i:_) (j:_) (_:x= .bl i) (_:y= .bl j) (_:Q (g i j) H):OQ g x y H Q
def rB0(g:Bool->Bool->V):R2:=OQ g
theorem QJ:jY X (compareOp .Eq) (rB0 λi j=> .bl (decide (i=j))):=by
 walk_at"b"
 walk_at"O"
 exact HB pins s σ H _ _ v u Q I rx ry ⟨rfl,by rw[OP];exact q⟩
theorem Ij:jY X (compareOp .NotEq) (rB0 λi j=> .bl (!decide (i=j))):=by
 walk_at"b"
 walk_at"O"
 exact OF pins s σ H _ _ v u Q I rx ry ⟨rfl,by rw[OP];exact q⟩
inductive Ik(f:c0->c0->Bool)(x:V)(y:V)(H:Hp)(Q:VK):Prop
 | mk (a:_) (b:_) (_:x= .str (S a)) (_:y= .str (S b)) (_:Q (.bl (f a b)) H):Ik f x y H Q
def V7(f:c0->c0->Bool):R2:=Ik f
theorem yg:jY X (compareOp .Lt) (V7 λa b=>decide (a<b)):=by
 walk_at"b"
 walk_at"O"
 exact Fl pins s σ H _ _ v u Q I rx ry ⟨S a,S b,rfl,rfl,by rw[dX,dX];exact q⟩
end
section
variable{X:Cx}{tg:Expr}
theorem cE(K:c7)(h:X.K=K):Qn X (VJ K):=by subst h;exact Mb
theorem aP(K:c7)(h:X.K=K):Qn X (VL K):=by subst h;exact Qo
def OR(K:c7):List V->Hp->VK->Prop:=λxs H Q=>∃p ys,xs=[.ref p]/\(bC K H p ys\/bY K H p ys)/\Q (.int (ys:)) H
theorem vz(K:c7)(h:X.K=K):dA X (.builtin "len") (OR K):=by subst h;exact x4
theorem gI(K:c7)(h:X.K=K):DH X "str.join" (HZ K):=by subst h;exact H_
def Mv(K:c7):List V->Hp->VK->Prop:=λxs H Q=>∃p ys,xs=[.ref p]/\(bC K H p ys\/bY K H p ys)/\∀l,H l=none->Q (.ref l) (upd H l (.lst ys))
theorem mH(K:c7)(h:X.K=K):dA X (.type "list") (Mv K):=by subst h;exact x6
theorem Ah(K:c7)(h:X.K=K):X1 X (VN K):=by subst h;exact Mc
theorem de(K:c7)(h:X.K=K){l:Expr}(hl:PE X l tl):PI X tg l (OE K tl):=by subst h;exact L3 hl
theorem DO(K:c7)(h:X.K=K){l:Expr}(hl:PE X l tl):PI X tg l (Vs K tl):=by subst h;exact Qc hl
end
section
variable{X:Cx}{o e:Expr}{es:List Expr}{to:TE}{t:TA}{name:Str}{apos jW:Pos}{T id:String}{r:V->List V->Hp->VK->Prop}
theorem fF(K:c7)(hK:X.K=K)(pa:PlainAttrs T)(slot:Slot T name id)(Qs:typeOf (.builtin id)=pure (.type "method_descriptor"))(hm:DH X id r)(ho:PE X o to)
  (sJ:attributeBase o name X.env (eval o X.env)=eval o X.env:=by rfl) (mD:(apos.endLine==jW.line)=true:=by rfl):PE X (.Call (.Attribute o name apos) [] [] jW) (VO K T r to):=by
 subst hK
 exact Qr pa slot Qs hm ho sJ mD
theorem bP(K:c7)(hK:X.K=K)(pa:PlainAttrs T)(slot:Slot T name id)(Qs:typeOf (.builtin id)=pure (.type "method_descriptor"))(hm:DH X id r)(ho:PE X o to)(ha:PA X (e::es) t)
  (sJ:attributeBase o name X.env (eval o X.env)=eval o X.env:=by rfl)
  (Md:((backTo jW (starEach (e::es) X.env)).all (λx=>!x.1)&&(backToKw jW (keywordEach [] X.env)).all (λx=>x.1.isSome)
   &&decide (((e::es):)+(([]:List Keyword):)+(if ([]:List Keyword).isEmpty then 0 else 1)<30))=true:=by rfl)
  (mD:(apos.endLine==jW.line)=true:=by rfl) (hs:starEach (e::es) X.env=(false,eval e X.env)::starEach es X.env:=by rfl) (B3:(backTo jW (starEach es X.env)).any (·.1)=false:=by rfl):
  PE X (.Call (.Attribute o name apos) (e::es) [] jW) (tBM K T r to t):=by
 subst hK
 exact VP pa slot Qs hm ho ha sJ Md mD hs B3
end
mutual
inductive G5(K:c7)(H:Hp):V->PyData->Prop
 | g7:G5 K H .g7 .none
 | bl (b:Bool):G5 K H (.bl b) (.bool b)
 | int (i:Int):G5 K H (.int i) (.int i)
 | str (x:Str):G5 K H (.str x) (.str x)
 | lst {a:Addr} {xs:List V} {ds:List PyData} (h:bC K H a xs) (r:tm K H xs ds):G5 K H (.ref a) (.list ds)
 | tup {a:Addr} {xs:List V} {ds:List PyData} (h:bY K H a xs) (r:tm K H xs ds):G5 K H (.ref a) (.tuple ds)
inductive tm(K:c7)(H:Hp):List V->List PyData->Prop
 | nil:tm K H [] []
 | cons {x:V} {xs:List V} {d:PyData} {ds:List PyData} (h:G5 K H x d) (r:tm K H xs ds):tm K H (x::xs) (d::ds)
end
section
variable{X:Cx}{pins:List 126}{σ:St}{H:Hp}{s:Shared}
mutual
theorem G5.reads(I:Inv X pins σ H s):∀{x:V} {d:PyData} {u:Value},G5 X.K H x d->RelV x u->∃as,Reads s.heap u d as
 | _,_,u,.g7,r=>by cases (show u=Value.none from r);exact ⟨_,.none⟩
 | _,_,u,.bl b,r=>by cases (show u=Value.bool b from r);exact ⟨_,.bool b⟩
 | _,_,u,.int i,r=>by obtain ⟨t,rfl⟩:=r;exact ⟨_,.int i t⟩
 | _,_,u,.str x,r=>by obtain ⟨t,rfl⟩:=r;exact ⟨_,.str x t⟩
 | _,_,u,.lst (a:=a) h q,r=>by
  cases (show u=Value.ref a from r)
  obtain ⟨aJ,rv,pl,_⟩:=I.list h
  obtain ⟨as,ra⟩:=tm.reads I q rv
  obtain ⟨o,ho,hc,n,hd⟩:=pl.isList
  exact ⟨_,.list ho hc hd (by simpa using ra)⟩
 | _,_,u,.tup (a:=a) h q,r=>by
  cases (show u=Value.ref a from r)
  obtain ⟨aJ,rv,pl,_⟩:=I.tuple h
  obtain ⟨as,ra⟩:=tm.reads I q rv
  obtain ⟨o,ho,hc,n,hd⟩:=pl
  exact ⟨_,.tuple ho hc hd (by simpa using ra)⟩
theorem tm.reads(I:Inv X pins σ H s):∀{xs:List V} {ds:List PyData} {us:List Value},tm X.K H xs ds->Vals xs us->∃as,ReadsAll s.heap us ds as
 | _,_,us,.nil,r=>by cases r;exact ⟨_,.nil⟩
 | _,_,us,.cons h q,r=>by
  cases r with
  | cons r1 r2=>
   obtain ⟨as,ra⟩:=G5.reads I h r1
   obtain ⟨bs,rb⟩:=tm.reads I q r2
   exact ⟨_,.cons ra rb⟩
end
end
section
variable{X:Cx}
inductive Il(K:c7)(x:V)(y:V)(H:Hp)(Q:VK):Prop
 | mk (dx:_) (dy:_) (_:G5 K H x dx) (_:G5 K H y dy) (_:(dx.canLay0=true/\dy.canLay0=true)) (_:dx.depth<=60) (_:Q (.bl (!PyData.eqv dx dy)) H):Il K x y H Q
def ZK(K:c7):R2:=Il K
theorem QK{k:Nat}(K:c7)(h:X.K=K)(hr:fo k X.A):jY X (compareOp .NotEq) (ZK K):=by
 subst h
 walk_at"b"
 obtain ⟨dx,dy,h1,h2,⟨h3,h4⟩,h5,q⟩:=h
 obtain ⟨as,ra⟩:=h1.reads I rx
 obtain ⟨bs,rb⟩:=h2.reads I ry
 have hu:=hr.units
 exact SeqAt.compareNe_reads ra rb h3 h4 () ⟨.bl _,H,I,rfl,q⟩
def V8(K:c7)(ta:TE):TT:=λσ H Q=>ta σ H λx H'=>∃p xs,x= .ref p/\bC K H' p xs/\Q (!xs.isEmpty) H'
theorem Mw{ta:TE}(K:c7)(h:X.K=K)(ha:PE X a ta)(he:∀whole,isTrue a X.env whole=(do let v <-whole;standAt a.pos;holding [v] (truthy v)):=by intro _;rfl):PT X a (V8 K ta):=by
 subst h
 intro pins s σ H Q I hw
 refine isTrue_plain (cA (ha pins s σ H _ I hw) λv s1 ⟨x,H1,I1,r1,q1⟩=>?_) (he _)
 obtain ⟨p,xs,rfl,hq,q⟩:=q1
 exact Qh pins s1 σ H1 _ v Q I1 r1 ⟨_,.inl ⟨xs,hq,rfl⟩,q⟩
theorem hV(K:c7)(h:X.K=K){es:List Expr}{k:Nat}{t:OC}(hc:X.calm=true)(hs:Vn X es t)
  (hn:(assignEach es X.env:)=n:=by rfl) (qD:(assignEach es X.env).findIdx? (·.1)=none:=by rfl):PG X (.Tuple es k pos) (Vr K n t):=by
 subst h
 exact Qa hc hs hn qD
end
noncomputable def bI(a b:c0):c0:=if b<a then b else a
noncomputable def cF:c0->List c0->c0
 | a,[]=>a
 | a,b::r=>cF (bI a b) r
noncomputable def wQ(ls:List c0)(i j:Nat):Bool:=decide ((ls|||i)<(ls|||j))
theorem argBest_lt(bt:Nat->Nat->Bool):∀n,argBest bt n<=n
 | 0=>Qad _
 | n+1=>by
  unfold argBest
  split
  ·exact Qad _
  ·exact Nat.le_succ_of_le (argBest_lt bt n)
variable{prog:Program}{A:Around}{ls:List c0}
section
variable{X:Cx}
theorem FC{w:World}{aJ:List Value}(r:Vals (ls.map λl=>V.str (S l)) aJ):CmpOf prog w A .Lt (λi v=>aJ.toArray[i]? =some v) (wQ ls):=by
 intro i j vi vj s Q E hi hj hQ
 have get:∀{i:Nat} {v:Value},aJ.toArray[i]? =some v->∃t,v= .str (S (ls|||i)) t:=by
  intro i v h
  have h':aJ[i]? =some v:=by simpa using h
  have hl:i<(ls:):=by have:=(Qz.mp h').1;rw[<-(r:),Qaa]at this;exact this
  obtain ⟨u,hu,ru⟩:=r.get (i:=i) (x:=V.str (S (ls|||i))) (by rw[Qat,Qam,Qy hl];rfl)
  rw[h']at hu;cases hu
  exact ru
 obtain ⟨t,rfl⟩:=get hi
 obtain ⟨u,rfl⟩:=get hj
 have q:Q (.bool (decide ((S (ls|||i)).cps.toList<(S (ls|||j)).cps.toList))) s:=by rw[dX,dX];exact hQ
 exact lt_str q
def QL:List V->Hp->VK->Prop:=λxs H Q=>∃(a b:c0),xs=[.str (S a),.str (S b)]/\Q (.str (S (bI a b))) H
theorem tu(hc:X.calm=true):dA X (.builtin "min") QL:=by
 walk_at"e"
 obtain ⟨a,b,rfl,q⟩:=h
 obtain ⟨u,w',rfl,⟨t,rfl⟩,⟨t',rfl⟩⟩:=vals2 r
 have rv:Vals ([a,b].map λl=>V.str (S l)) [Value.str (S a) t,Value.str (S b) t']:= .cons ⟨t,rfl⟩ (.cons ⟨t',rfl⟩ .nil)
 have hT:(s.heap.push { cls:= .type "tuple",data:= .seq #[.str (S a) t,.str (S b) t'] }).IsTuple s.heap.objs.size #[.str (S a) t,.str (S b) t']:=⟨_,Qau _ rfl,rfl,0,rfl⟩
 refine call_min_two (wpAny_pyIter_tuple hT ?_)
 have hsz:(s.heap.push { cls:= .type "tuple",data:= .seq #[.str (S a) t,.str (S b) t'] }).objs.size=s.heap.objs.size+1:=Qcu ..
 refine ⟨_,_,_,_,_,_,wQ [a,b],rfl,Walks.tuple (A:=X.A.in1) (I.ok.hd hc) _ s.heap.objs.size (by rw[hsz];exact Qa6 (Qcs _)) #[.str (S a) t,.str (S b) t'],
  ⟨⟨_,Qau _ rfl,rfl,rfl⟩,hT.push _⟩,λc hc=>?_,(by show 0<2;decide),FC rv,λv h' tk hP hk=>?_⟩
 ·show c<((s.heap.push _).push _).objs.size
  rw[Qcu,hsz]
  rcases Qaq.mp hc with rfl | hc
  ·rw[hsz];exact Qcs _
  ·rcases Qaq.mp hc with rfl | hc
   ·exact Qcv (Qcs _)
   ·cases hc
 ·have I1:Inv X pins σ H { s with heap:=h',toks:=tk }:=by
   refine I.kept (t':=tk) λc o e=>hk c o (λhm=>?_) (Ta _ (Ta _ e))
   have:c=(s.heap.push { cls:= .type "tuple",data:= .seq #[.str (S a) t,.str (S b) t'] }).objs.size:=by simpa using hm
   have hl:=Qay e
   rw[this,hsz]at hl
   exact absurd hl (Nat.not_lt.mpr (Qdo _))
  have e:argBest (wQ [a,b]) (#[Value.str (S a) t,Value.str (S b) t'].size - 1)=if b<a then 1 else 0:=by
   show (if wQ [a,b] 1 0=true then 1 else 0)=_
   by_cases z:b<a
   ·rw[if_pos z,if_pos (show wQ [a,b] 1 0=true from decide_eq_true z)]
   ·rw[if_neg z,if_neg (show ¬wQ [a,b] 1 0=true from λy=>z (of_decide_eq_true y))]
  rw[e]at hP
  refine ⟨.str (S (bI a b)),H,I1,?_,q⟩
  unfold bI
  by_cases z:b<a
  ·rw[if_pos z]at hP ⊢
   have:v= .str (S b) t':=by simpa using hP.symm
   exact ⟨_,this⟩
  ·rw[if_neg z]at hP ⊢
   have:v= .str (S a) t:=by simpa using hP.symm
   exact ⟨_,this⟩
end
noncomputable def dJ(n:Nat)(l:c0):c0:=(List.replicate n l).flatten
theorem eR(n:Nat)(l:c0):dJ (n+1) l=l++dJ n l:=by unfold dJ;rw[List.replicate_succ,Qc7]
theorem Cj(n:Nat)(l:c0):dJ (n+1) l=dJ n l++l:=by unfold dJ;rw[List.replicate_succ',Qd9,Qc7,Qfk,Qbh]
theorem tw(n:Nat)(l:c0):(dJ n l:)=n*(l:):=by
 induction n with
 | zero=>simp[dJ]
 | succ n ih=>rw[eR,X4,ih,Qge,Nat.add_comm]
theorem wR(l:c0):∀(n:Nat) (acc:Array Nat),((List.replicate n (S l).cps).foldl (· ++ ·) acc).toList=acc.toList++dJ n l
 | 0,acc=>by simp[dJ]
 | n+1,acc=>by
  rw[List.replicate_succ,Qdl,wR l n,eR]
  simp[S]
def V9:R2:=λx y H Q=>∃(l:c0) (i:Int),x= .str (S l)/\y= .int i/\(0<=i/\i<=1000000)/\(l:)*i.toNat<=sizeLine/\Q (.str (S (dJ i.toNat l))) H
theorem rJ:jY X (binaryOp .Mult) V9:=by
 walk_at"b"
 obtain ⟨l,i,rfl,rfl,⟨h0,h1⟩,hz,q⟩:=h
 walk_at"g"
 walk_at"Y"
 have hn:=gH
 have Ai:(S l:)=(l:):=dS l
 have ZL:((l:):Int)*i<=2 ^ 63 - 1:=by
  have e:(((l:)*i.toNat:Nat):Int)=((l:):Int)*i:=by rw[Int.natCast_mul,Int.toNat_of_nonneg h0]
  have:(((l:)*i.toNat:Nat):Int)<=(sizeLine:Int):=by exact_mod_cast hz
  rw[<-e];lia
 refine P.mul_str (x:=S l) (n:=i) (t:=t) (u:=t') (by
  have e1:decide (i< -(2 ^ 63:Int))=false:=decide_eq_false ()
  have e2:decide (i ≥ 2 ^ 63)=false:=decide_eq_false ()
  rw[e1,e2];rfl) (λz _=>?_) (λz _=>?_) ?_
 ·rw[Ai]
  have:((l:):Int)<=(2 ^ 63 - 1) / i:=(Int.le_ediv_iff_mul_le ()).mpr ZL
  lia
 ·rw[Ai]
  show Builtin.Str.tooLong _=false
  unfold Builtin.Str.tooLong
  exact decide_eq_false ()
 ·by_cases z:i<1
  ·rw[if_pos z]
   have e:i.toNat=0:=by lia
   rw[e]at q
   exact ⟨∅,.str _,H,I.tok _,⟨_,rfl⟩,q⟩
  ·rw[if_neg z]
   by_cases z2:(i==1||(S l:)==0)=true
   ·rw[if_pos z2]
    have e:dJ i.toNat l=l:=by
     rcases Bool.or_eq_true _ _ |>.mp z2 with e | e
     ·have e:i=1:=by simpa using e
      subst e
      show dJ 1 l=l
      rw[eR];simp[dJ]
     ·have e:(l:)=0:=by rw[Ai]at e;simpa using e
      have e:l=[]:=Qch.mp e
      subst e
      unfold dJ
      simp
    rw[e]at q
    exact ⟨.str _,H,I,⟨_,rfl⟩,q⟩
   ·rw[if_neg z2]
    have e:(⟨(List.replicate i.toNat (S l).cps).foldl (· ++ ·) #[]⟩:Str)=S (dJ i.toNat l):=by
     have:=wR l i.toNat #[]
     show _=(⟨(dJ i.toNat l).toArray⟩:Str)
     congr 1
     apply Qeo.mp
     rw[this]
     simp
    rw[e]
    refine ⟨?_,.str _,H,I.tok _,⟨_,rfl⟩,q⟩
    rw[dS,tw,Qdf]
    exact hz
variable{ch:List Addr}
section
variable{X:Cx}{pins:List 126}{σ:St}{H:Hp}{s:Shared}{h':Heap}
theorem Inv.nK{t':Nat}{T:Addr}{ob:HO}(I:Inv X pins σ H s)(k:∀b o,b∉ch->s.heap.get? b=some o->h'.get? b=some o)(hf:∀b∈ch,qU X pins H b)
  (hT:s.heap.objs.size<=T) (new:du X.prog X.w (upd H T ob) h' T ob):Inv X pins σ (upd H T ob) { s with heap:=h',toks:=t' }:=by
 have hn:=I.cq.fresh hT
 have Oz:∀b u,H b=some u->b∉ch:=λb u e z=>by rw[(hf b z).1]at e;cases e
 have neT:∀b o,s.heap.get? b=some o->b≠T:=λb o e z=>absurd (Qbd (Qay e) hT) (by rw[z];exact Qbw _)
 refine I.step (g':=s.gens) (d':=s.drawn) (ch:=ch) (λb hb=>?_) (λb o _ _ hc e _=>k b o hc e) (λb o _ _ hc e _=>⟨o.slots,k b o hc e⟩) (λb o _ e n=>by rw[aA (neT b o e)];exact n)
  (λb o hc e=>⟨o,k b o hc e⟩) (λb xs e=>by rw[aA (au e hn)];exact e) (λb o u e=>by rw[aA (au e hn)];exact e) (λb ps e=>⟨#[],by rw[aA (au e hn),e];simp⟩) (λm hm=>?_) (λb u e=>?_) I.bare
 ·obtain ⟨_,h2,_,h4,h5,h6⟩:=hf b hb
  exact ⟨h4,h2,h5,h6⟩
 ·obtain ⟨o,es,ep,ho,r⟩:=hm
  exact ⟨o,es,ep,k _ o (λz=>(hf _ z).2.1 rfl) ho,r⟩
 ·by_cases hb:b=T
  ·subst hb;rw[ag]at e;cases e;exact new
  ·rw[aA hb]at e
   refine (I.cq b u e).zO (λc v hc q=>k c v ?_ q) (λc q=>by rw[aA (au q hn)];exact q) λc xs q=>by rw[aA (au q hn)];exact q
   rcases hc with z | z
   ·rw[z];exact Oz b u e
   ·exact Oz c _ z
theorem Inv.rK{t':Nat}(I:Inv X pins σ H s)(k:∀b o,b∉ch->s.heap.get? b=some o->h'.get? b=some o)(hf:∀b∈ch,qU X pins H b):Inv X pins σ H { s with heap:=h',toks:=t' }:=by
 have Oz:∀b u,H b=some u->b∉ch:=λb u e z=>by rw[(hf b z).1]at e;cases e
 refine I.step (g':=s.gens) (d':=s.drawn) (ch:=ch) (λb hb=>?_) (λb o _ _ hc e _=>k b o hc e) (λb o _ _ hc e _=>⟨o.slots,k b o hc e⟩) (λb o _ e n=>n)
  (λb o hc e=>⟨o,k b o hc e⟩) (λb xs e=>e) (λb o u e=>e) (λb ps e=>⟨#[],by rw[e];simp⟩) (λm hm=>?_) (λb u e=>?_) I.bare
 ·obtain ⟨_,h2,_,h4,h5,h6⟩:=hf b hb
  exact ⟨h4,h2,h5,h6⟩
 ·obtain ⟨o,es,ep,ho,r⟩:=hm
  exact ⟨o,es,ep,k _ o (λz=>(hf _ z).2.1 rfl) ho,r⟩
 ·refine (I.cq b u e).zO (λc v hc q=>k c v ?_ q) (λc q=>q) λc xs q=>q
  rcases hc with z | z
  ·rw[z];exact Oz b u e
  ·exact Oz c _ z
end
noncomputable def V_(l:c0):It:=⟨λi _=>i<(l:),λi H x H'=>∃T c,l[i]? =some c/\x= .ref T/\H T=none/\H'=upd H T (.tup [.int i,.str (S [c])]),λi _=>(l:)<=i⟩
theorem wU{w:World}(hh:A.handled=none)(it:Addr)(x:Str)(t:Tok):
  Draws prog w A it [it] x.cps.size (λi v=>∃c u,x.cps[i]? =some c/\v= .str ⟨#[c]⟩ u) (λi h=>h.IsStrIter it (strIterType x) x t i):=by
 by_cases ha:x.cps.all (· <128)=true
 ·have et:strIterType x="str_ascii_iterator":=by unfold strIterType;rw[if_pos ha]
  rw[et];exact Draws.strAscii hh it x t
 ·have et:strIterType x="str_iterator":=by unfold strIterType;rw[if_neg ha]
  rw[et];exact Draws.strWide hh it x t
variable{elts:List Expr}
theorem Ck{P:Program}{w:World}{k:Nat}(e it:Addr)(DQ:e≠it)(l:c0)(t:Tok):
  Turn P w K (.Tuple elts k pos) (V_ l) [e,it] e (λi h=>i<=(l:)/\(∃old,IsEnum h e it i old)/\h.IsStrIter it (strIterType (S l)) (S l) t i) where
 mem:=by simp
 obj:=λi h st b hb=>by
  obtain ⟨_,⟨old,he⟩,o,ho,hc,hd⟩:=st
  rcases Qaq.mp hb with z | z
  ·rw[z];exact ⟨_,he,λv z=>by cases z⟩
  ·rw[Qab.mp z];exact ⟨o,ho,λv z=>by rw[hd]at z;cases z⟩
 keep:=λi h h' st kp=>by
  obtain ⟨h1,⟨old,he⟩,o,ho,r⟩:=st
  exact ⟨h1,⟨old,kp e (by simp) _ he⟩,o,kp it (by simp) o ho,r⟩
 item:=by
  walk_at"a"
  subst hP hw hK
  obtain ⟨_,eG,jB⟩:=st
  have D:=wU (prog:=X.prog) (w:=X.w) (A:=X.A.in1) (I.ok.hd hc) it (S l) t
  have W:=WalksT.enumerateD D e DQ (by simpa using DQ) (by simp)
  have hi:i<(S l).cps.size:=by rw[pH];exact hg
  refine W.item i s _ _ hi ⟨eG,jB⟩ λT vals h' tk Wa hT Im Aj hk=>⟨_,rfl,?_⟩
  walk_at"C"
  obtain ⟨tt,x,⟨c,u,G6,rfl⟩,rfl⟩:=Wa
  have LB:T∉[e,it]:=W.apart i T h' Aj
  have tD:h2.IsTuple T #[.int i tt,.str ⟨#[c]⟩ u]:=by
   obtain ⟨o,ho,r⟩:=Im
   exact ⟨o,ve T o LB ho,r⟩
  have hl:l[i]? =some c:=by simpa [S]using G6
  refine ⟨.ref T,upd H T (.tup [.int i,.str (S [c])]),?_,rfl,⟨T,c,hl,rfl,I.cq.fresh hT,rfl⟩,⟨hg,Ak.1,Ak.2⟩,λb hb=>?_⟩
  ·refine I.nK (t':=tk) (h':=h2) (λb o hb y=>ve b o hb (hk b o hb y)) hf hT ?_
   exact ⟨by show 2<=sizeLine;decide,[.int i tt,.str ⟨#[c]⟩ u],.cons ⟨tt,rfl⟩ (.cons ⟨u,rfl⟩ .nil),tD⟩
  ·rw[aA (λz:b=T=>LB (z▸hb))];exact (hf b hb).1
 done:=by
  walk_at"a"
  subst hP hw hK
  obtain ⟨h1,eG,jB⟩:=st
  have e1:i=(l:):=Qdk h1 hg
  have D:=wU (prog:=X.prog) (w:=X.w) (A:=X.A.in1) (I.ok.hd hc) it (S l) t
  have W:=WalksT.enumerateD D e DQ (by simpa using DQ) (by simp)
  walk_at"Q"
  rw[pH, <-e1]
  exact ⟨eG,jB⟩
 self:=λ_ _ s _ _ st h=>by
  obtain ⟨_,⟨old,he⟩,_⟩:=st
  exact wpAny_pyIter_enum he h
def QM(ta:TA):TI:=λσ H R=>ta σ H λvs H1=>∃l,vs=[.str (S l)]/\R (V_ l) H1
theorem Io{k:Nat}(hg:Gl X "enumerate")(hm:X.mg "enumerate"=none)(ha:PA X [a] ta)(hs:starEach [a] X.env=[(false,eval a X.env)]:=by rfl):PI X (.Tuple elts k pos') (.Call (.Name "enumerate" p) [a] [] pos) (QM ta):=by
 walk_at"K"
 walk_at"l"
 obtain ⟨l,rfl,q⟩:=q1
 obtain ⟨u,rfl,t,rfl⟩:=vals1 r1
 refine call_enumerate_str λh' he hit hsz hk=>?_
 refine wpAny_pyIter_enum he ?_
 refine ⟨s1.heap.objs.size+1,[s1.heap.objs.size+1,s1.heap.objs.size],_,_,H1,rfl,I1.kept (t':=s1.toks) hk,Ck _ _ (Qfj _) l t,⟨Qax _,⟨_,he⟩,hit⟩,λb hb=>?_,q⟩
 have vf:s1.heap.objs.size<=b:=by
  rcases Qaq.mp hb with z | z
  ·rw[z];exact Qdo _
  ·rw[Qab.mp z];exact Qad _
 exact I1.sG vf (I1.cq.fresh vf)
theorem Ip(Pv:Nat->St->Hp->Prop)(h0:Pv 0 σ H)
  (hs:∀i c σ H T,l[i]? =some c->Pv i σ H->H T=none->g (.ref T) σ (upd H T (.tup [.int i,.str (S [c])])) λσ2 H2=>tb { D with nx:=Pv (i+1),ct:=Pv (i+1),bk:=D.nx } σ2 H2) (hd:∀σ H,Pv (l:) σ H->D.nx σ H):
  ∃W:Nat->Nat->St->Hp->Prop,(∃m,W 0 m σ H)/\∀i m σ H,W i m σ H->
   ((V_ l).stop i H/\D.nx σ H)\/((V_ l).go i H/\∃N:St->Hp->Prop,135/\∀x H',(V_ l).G3 i H x H'->g x σ H' λσ2 H2=>tb { D with nx:=N,ct:=N,bk:=D.nx } σ2 H2):=by
 refine ⟨λi m σ H=>m=(l:) - i/\i<=(l:)/\Pv i σ H,⟨(l:),by simp,Qax _,h0⟩,?_⟩
 rintro i m σ H ⟨rfl,hi,p⟩
 by_cases cH:i<(l:)
 ·refine .inr ⟨cH,Pv (i+1),λσ' H' p'=>⟨(l:) - (i+1),(),rfl,cH,p'⟩,λx H' y=>?_⟩
  obtain ⟨T,c,hc,rfl,hn,rfl⟩:=y
  exact hs i c σ _ T hc p hn
 ·have e:i=(l:):=by lia
  subst e
  exact .inl ⟨Qad _,hd σ H p⟩
section
variable{X:Cx}
theorem yh:∀{aJ:List Value},Vals (ls.map λl=>V.str (S l)) aJ->StrsAre aJ (ls.map S):=by
 induction ls with
 | nil=>intro aJ r;cases r;exact .nil
 | cons l ls ih=>
  intro aJ r
  cases r with
  | cons r1 r2=>
   walk_at"T"
   exact .cons _ t (ih r2)
theorem yj:∀{aJ:List Value} {ss:List Str},StrsAre aJ ss->Vals ((ss.map λx=>x.cps.toList).map λl=>V.str (S l)) aJ
 | _,_,.nil=> .nil
 | _,_,.cons x t h=> .cons ⟨t,by rw[<-V0]⟩ (yj h)
theorem wV:∀(p:Str) (r:List Str),risingS p r=true->(p::r).Pairwise λa b=> ¬b.cps.toList<a.cps.toList
 | p,[],_=>Qcg _ _
 | p,x::r,h=>by
  have h':(!ltCps x.cps.toList p.cps.toList&&risingS x r)=true:=h
  rw[Qct,ltCps_eq]at h'
  have h1: ¬x.cps.toList<p.cps.toList:=by simpa using h'.1
  have ih:=wV x r h'.2
  refine Qdi.mpr ⟨λy hy=>?_,ih⟩
  rcases Qaq.mp hy with z | z
  ·rw[z];exact h1
  ·exact List.le_trans (show p.cps.toList<=x.cps.toList from h1) (show x.cps.toList<=y.cps.toList from Qe7 ih z)
theorem FD{ss:List Str}(h:sortedS ss=true):(ss.map λx=>x.cps.toList).Pairwise λa b=> ¬b<a:=by
 rw[Qco]
 cases ss with
 | nil=>exact List.Pairwise.nil
 | cons x r=>exact wV x r h
def QN(K:c7):List V->Hp->VK->Prop:=λxs H Q=>∃(p:Addr) (ls:List c0),xs=[.ref p]/\bC K H p (ls.map λl=>V.str (S l))/\(ls:)<64/\∀(q:Addr) (QO:List c0),H q=none->QO.Perm ls->(QO.Pairwise λa b=> ¬b<a)->Q (.ref q) (upd H q (.lst (QO.map λl=>V.str (S l))))
theorem yk(K:c7)(h:X.K=K):dA X (.builtin "sorted") (QN K):=by
 subst h
 walk_at"e"
 obtain ⟨p,ls,rfl,hq,hn,q⟩:=h
 obtain ⟨u,rfl,ru⟩:=vals1 r
 cases ru
 obtain ⟨aJ,rv,pl,hz⟩:=I.list hq
 have hlen:(aJ:)=(ls:):=by rw[<-(rv:),Qaa]
 refine sorted_strs (l:=p) (vs:=aJ) (ss:=ls.map S) pl.isList (yh rv) () λout mj h1 h2 h3=>?_
 obtain ⟨e,he⟩:=sortedAll_at s.heap aJ out
 have qG:(mj.map λx=>x.cps.toList).Perm ls:=by
  have:=h2.map λx:Str=>x.cps.toList
  rw[Qbj]at this
  have e2:ls.map ((λx:Str=>x.cps.toList) ∘ S)=ls:=by
   have:∀l∈ls,((λx:Str=>x.cps.toList) ∘ S) l=l:=λl _=>dX l
   calc ls.map _=ls.map id:=Qbl this
    _=ls:=Qe9 ls
  rwa [e2]at this
 have DJ:=qG.length_eq
 have h64:(64:Nat)<sizeLine:=by decide
 have QP:(((mj.map λx=>x.cps.toList).map λl=>V.str (S l)):)<=sizeLine:=by rw[Qaa,DJ];lia
 refine ⟨.ref 133,_,I.laid (t':=s.toks) (a:=s.heap.objs.size+1) (o:= .lst ((mj.map λx=>x.cps.toList).map λl=>V.str (S l))) (λb o e=>sortedAll_old e) (Qdo _) ⟨QP,out.toList,e,yj h1,by simpa [seqObj]using he⟩,rfl,q _ _ (I.cq.fresh (Qdo _)) qG (FD h3)⟩
theorem Mx(h:ls.Perm (l.map λc=>[c])):∃l':c0,ls=l'.map (λc=>[c])/\l'.Perm l:=by
 refine ⟨ls.flatten,?_,?_⟩
 ·have hs:∀x∈ls,∃c,x=[c]:=λx hx=>by
   obtain ⟨c,_,e⟩:=Qa4.mp (h.mem_iff.mp hx)
   exact ⟨c,e.symm⟩
  clear h
  induction ls with
  | nil=>rfl
  | cons x ls ih=>
   obtain ⟨c,rfl⟩:=hs x Qak
   rw[Qc7,Qag, <-ih λy hy=>hs y (Qah _ hy)]
   rfl
 ·have:=h.flatten
  have e:(l.map λc=>[c]).flatten=l:=by
   clear h this
   induction l with
   | nil=>rfl
   | cons c l ih=>rw[Qas,Qc7,ih];rfl
  rwa [e]at this
theorem Mz(h:(l.map λc=>[c]).Pairwise λa b=> ¬b<a):l.Pairwise λa b=>a<=b:=by
 rw[Qco]at h
 refine h.imp λ{a b} z=>?_
 by_cases y:a<=b
 ·exact y
 ·exact absurd (Qf1.mpr (.inl ())) z
end
variable{tp:Addr}{j:Nat}
section
variable{prog:Program}{w:World}{A:Around}{E:Value->Shared->Prop}{s:Shared}
theorem Cm{xs:Array Value}{y:Value}(hi:s.heap.IsTupleIter it tp j)(ht:s.heap.IsTuple tp xs)(hy:xs[j]? =some y)
  (q:∀h2,h2.IsTupleIter it tp (j+1)->Heap.SameBut it s.heap h2->Q y { s with heap:=h2 }):wpAny 94 A (Builtin.SmallTypes.nextOf (.ref it)) Q E s:=by
 obtain ⟨oi,eo,ec,ed⟩:=id hi
 obtain ⟨ot,et,_,nt,dt⟩:=ht
 unfold Builtin.SmallTypes.nextOf
 walk_at"k"
 refine wpAny_bind (m:=field (.ref it) 0) (wpAny_field eo ed (x:= .ref tp) rfl ?_)
 show wpAny 94 _ (if (Value.ref tp==Value.none)=true then _ else _) _ E s
 rw[if_neg (show ¬(Value.ref tp==Value.none)=true from Qba)]
 refine wpAny_bind (m:=field (.ref it) 1) (wpAny_field eo ed (x:= .int j 0) rfl ?_)
 refine wpAny_bind (m:=seqItems? (.ref tp)) (wpAny_seqItems et dt ?_)
 simp only[Qap,hy]
 refine wpAny_bind (wpAny_setField eo ed (by simp) (wpAny_pure ⟨y,rfl,wpAny_pure (q _ ⟨_,Qc1 _ eo (Obj.isFreed_of_fields (Obj.data_mapFields ed _)),(Obj.cls_mapFields ..).trans ec,by rw[Obj.data_mapFields ed];simp[rawInt]⟩ (Qgw ..))⟩))
theorem FE{xs:Array Value}(hh:A.handled=none)(hi:s.heap.IsTupleIter it tp j)(ht:s.heap.IsTuple tp xs)(hy:xs[j]? =none)
  (q:∀h2 e,Heap.ExtBut it s.heap h2->(∃o,h2.get? e=some o/\o.cls= .type "StopIteration")->E (.ref e) { s with heap:=h2 }):wpAny 94 A (Builtin.SmallTypes.nextOf (.ref it)) Q E s:=by
 obtain ⟨oi,eo,ec,ed⟩:=id hi
 obtain ⟨ot,et,_,nt,dt⟩:=ht
 unfold Builtin.SmallTypes.nextOf
 walk_at"k"
 refine wpAny_bind (m:=field (.ref it) 0) (wpAny_field eo ed (x:= .ref tp) rfl ?_)
 show wpAny 94 _ (if (Value.ref tp==Value.none)=true then _ else _) _ E s
 rw[if_neg (show ¬(Value.ref tp==Value.none)=true from Qba)]
 refine wpAny_bind (m:=field (.ref it) 1) (wpAny_field eo ed (x:= .int j 0) rfl ?_)
 refine wpAny_bind (m:=seqItems? (.ref tp)) (wpAny_seqItems et dt ?_)
 simp only[Qap,hy]
 refine wpAny_bind (wpAny_rule (wpAny_bind (wpAny_setField eo ed (by simp) ?_)))
 refine wpAny_bind (m:=newExc (.type "StopIteration") []) ?_
 simp only[newExc,newTuple]
 refine wpAny_bind (wpAny_newObj_type (wpAny_bind (m:=firstArgMember _ _) (wpAny_of_eq (a:=Value.none) (by first | rfl | (simp only[firstArgMember];rfl)) (wpAny_newObj_type ?_ (by size_fits)))) (by size_fits))
 simp only[raiseNew]
 refine wpAny_bind (wpAny_handled ?_);first | rw[show A.in1.handled=none from hh] | rw[hh]
 exact wpAny_bind (wpAny_pure (wpAny_throw (q _ _ (((Qgw ..).extBut.push _).push _) ⟨_,Qau _ rfl,rfl⟩)))
theorem ka(hh:A.handled=none)(it tp:Addr)(ne:tp≠it)(xs:Array Value):
  Draws prog w A it [it,tp] xs.size (λi v=>xs[i]? =some v) (λi h=>h.IsTupleIter it tp i/\h.IsTuple tp xs) where
 live:=λ_ _ z=>let ⟨o,e,_⟩:=z.1;⟨o,e⟩
 frame:=λ_ _ _ z k=>by
  obtain ⟨⟨o,e,r⟩,o2,e2,r2⟩:=z
  exact ⟨⟨o,k it (by simp) o e,r⟩,o2,k tp (by simp) o2 e2,r2⟩
 item:=λi s Q E hi z q=>Cm z.1 z.2 (y:=xs[i]) (by simp[hi]) λh2 z2 sb=>q _ h2 s.toks (by simp[hi]) ⟨z2,z.2.extBut sb.extBut ne⟩ sb
 done:=λs Q E z q=>FE hh z.1 z.2 (by simp) q
theorem Al(l:Addr)(items:Array Value)(n:Nat)(ZM:Option Addr)(sl:Array (Option Value)):
  Meets (Builtin.«enumerate.__new__» ⟨[.type "enumerate",.ref l],[]⟩) (λ_ R s=>s.heap.get? l=some { cls:= .type "tuple",dict:=ZM,data:= .seq items n,slots:=sl }/\
   R (.ok (.ret (.ref (s.heap.push { cls:= .type "tuple_iterator",data:= .fields #[.ref l,.int 0 0] }).objs.size)))
    { s with heap:=(s.heap.push { cls:= .type "tuple_iterator",data:= .fields #[.ref l,.int 0 0] }).push { cls:= .type "enumerate",data:= .fields #[.none,.bool false,.ref s.heap.objs.size,rawInt 0,.none,.none] } }):=
 .of_wp λprog w A R s h=>by
  obtain ⟨hp,g,d,tk,os⟩:=s;obtain ⟨hl,q⟩:=h;have ZN:=sub_enumerate
  have hT:Heap.IsTuple (Shared.heap ⟨hp,g,d,tk,os⟩) l items:=⟨_,hl,rfl,n,rfl⟩
  wp_walk using AutoSeq1.wpAny_loadPart' hl
  refine wpAny_stack_any λst=>wpAny_pure ?_
  split
  ·rename_i c _ _ _ _ _
   cases (c==Value.type "enumerate")<;>(wp_walk using AutoSeq1.wpAny_loadPart' hl,wpAny_pyIter_tuple hT;exact ⟨_,rfl,q⟩)
  ·wp_walk using AutoSeq1.wpAny_loadPart' hl,wpAny_pyIter_tuple hT
   exact ⟨_,rfl,q⟩
theorem Cn{l:Addr}{items:Array Value}(hL:s.heap.IsTuple l items)
  (h:∀h',IsEnum h' 133 s.heap.objs.size 0 .none->h'.IsTupleIter s.heap.objs.size l 0->(∀b o,s.heap.get? b=some o->h'.get? b=some o)->Q (.ref 133) { s with heap:=h' }):
  wpAny 94 A (call (.type "enumerate") [.ref l]) Q E s:=by
 obtain ⟨⟨c,ZM,dt,sl⟩,hl,hc,n,hd⟩:=hL
 cases (show c= .type "tuple" from hc)
 cases (show dt= .seq items n from hd)
 refine callType_new F.called_enumerate ∅ (F.typeCall_enumerate_1 _) (F.newCall_enumerate_1 _) (λob=>F.args_object_init_2 ob _) F.entry_enumerate_new (Al l items n ZM sl) ⟨hl,?_⟩
 have hz:(s.heap.push { cls:= .type "tuple_iterator",data:= .fields #[.ref l,.int 0 0] }).objs.size=s.heap.objs.size+1:=Qcu ..
 show _/\_
 rw[hz]
 have he:IsEnum ((s.heap.push { cls:= .type "tuple_iterator",data:= .fields #[.ref l,.int 0 0] }).push { cls:= .type "enumerate",data:= .fields #[.none,.bool false,.ref s.heap.objs.size,rawInt 0,.none,.none] }) 133 s.heap.objs.size 0 .none:=by
  have:=Qau (s.heap.push { cls:= .type "tuple_iterator",data:= .fields #[.ref l,.int 0 0] }) (o:={ cls:= .type "enumerate",data:= .fields #[.none,.bool false,.ref s.heap.objs.size,rawInt 0,.none,.none] }) rfl
  rwa [hz]at this
 exact ⟨⟨_,he,rfl⟩,h _ he ⟨_,Ta _ (Qau _ rfl),rfl,rfl⟩ λb o x=>Ta _ (Ta _ x)⟩
end
noncomputable def Iq(K:c7)(a:Addr):It:=⟨λi H=>∃xs x,bY K H a xs/\xs[i]? =some x,λi H x H'=>∃T y,(∀xs,bY K H a xs->xs[i]? =some y)/\x= .ref T/\H T=none/\H'=upd H T (.tup [.int i,y]),λi H=>∃xs,bY K H a xs/\(xs:)=i⟩
noncomputable def Ir(K:c7)(a:Addr):It:=⟨λi H=>∃xs x,bC K H a xs/\xs[i]? =some x,λi H x H'=>∃T y,(∀xs,bC K H a xs->xs[i]? =some y)/\x= .ref T/\H T=none/\H'=upd H T (.tup [.int i,y]),λi H=>∃xs,bC K H a xs/\(xs:)=i⟩
theorem Co{P:Program}{w:World}{k:Nat}(e it a:Addr)(DQ:e≠it)(Wb:a≠e)(Wc:a≠it):
  Turn P w K (.Tuple elts k pos) (Iq K a) [e,it] e (λi h=>(∃old,IsEnum h e it i old)/\h.IsTupleIter it a i) where
 mem:=by simp
 obj:=λi h st b hb=>by
  obtain ⟨⟨old,he⟩,o,ho,hc,hd⟩:=st
  rcases Qaq.mp hb with z | z
  ·rw[z];exact ⟨_,he,λv z=>by cases z⟩
  ·rw[Qab.mp z];exact ⟨o,ho,λv z=>by rw[hd]at z;cases z⟩
 keep:=λi h h' st kp=>by
  obtain ⟨⟨old,he⟩,o,ho,r⟩:=st
  exact ⟨⟨old,kp e (by simp) _ he⟩,o,kp it (by simp) o ho,r⟩
 item:=by
  walk_at"a"
  subst hP hw hK
  obtain ⟨eG,jB⟩:=st
  obtain ⟨xs,x,hq,hx⟩:=hg
  obtain ⟨aJ,rv,p,hz⟩:=I.tuple hq
  obtain ⟨u0,hu,ru⟩:=rv.get hx
  have D:=ka (prog:=X.prog) (w:=X.w) (A:=X.A.in1) (I.ok.hd hc) it a Wc aJ.toArray
  walk_at"o"
  have X5:i<aJ.toArray.size:=by rw[Qao];exact (Qz.mp hu).1
  refine W.item i s _ _ X5 ⟨eG,jB,p⟩ λT vals h' tk Wa hT Im Aj hk=>⟨_,rfl,?_⟩
  walk_at"C"
  obtain ⟨tt,x2,QQ,rfl⟩:=Wa
  have ex:x2=u0:=by
   rw[List.getElem?_toArray]at QQ
   exact Qal (QQ.symm.trans hu)
  subst ex
  have LB:T∉[e,it]:=W.apart i T h' Aj
  have tD:h2.IsTuple T #[.int i tt,x2]:=by
   obtain ⟨o,ho,r⟩:=Im
   exact ⟨o,ve T o LB ho,r⟩
  refine ⟨.ref T,upd H T (.tup [.int i,x]),?_,rfl,⟨T,x,λys hy=>by rw[I.ph hy hq];exact hx,rfl,I.cq.fresh hT,rfl⟩,⟨Ak.1,Ak.2.1⟩,λb hb=>?_⟩
  ·refine I.nK (t':=tk) (h':=h2) (λb o hb y=>ve b o hb (hk b o hb y)) hf hT ?_
   exact ⟨by show 2<=sizeLine;decide,[.int i tt,x2],.cons ⟨tt,rfl⟩ (.cons ru .nil),tD⟩
  ·rw[aA (λz:b=T=>LB (z▸hb))];exact (hf b hb).1
 done:=by
  walk_at"a"
  subst hP hw hK
  obtain ⟨eG,jB⟩:=st
  obtain ⟨xs,hq,hx⟩:=hg
  obtain ⟨aJ,rv,p,hz⟩:=I.tuple hq
  have hl:=(rv:)
  have D:=ka (prog:=X.prog) (w:=X.w) (A:=X.A.in1) (I.ok.hd hc) it a Wc aJ.toArray
  walk_at"o"
  walk_at"Q"
  have e1:aJ.toArray.size=i:=by rw[Qao];lia
  rw[e1]
  exact ⟨eG,jB,p⟩
 self:=λ_ _ s _ _ st h=>by
  obtain ⟨⟨old,he⟩,_⟩:=st
  exact wpAny_pyIter_enum he h
theorem Cp{P:Program}{w:World}{k:Nat}(e it a:Addr)(DQ:e≠it)(Wb:a≠e)(Wc:a≠it):
  Turn P w K (.Tuple elts k pos) (Ir K a) [e,it] e (λi h=>(∃old,IsEnum h e it i old)/\h.IsListIter it a i) where
 mem:=by simp
 obj:=λi h st b hb=>by
  obtain ⟨⟨old,he⟩,o,ho,hc,hd⟩:=st
  rcases Qaq.mp hb with z | z
  ·rw[z];exact ⟨_,he,λv z=>by cases z⟩
  ·rw[Qab.mp z];exact ⟨o,ho,λv z=>by rw[hd]at z;cases z⟩
 keep:=λi h h' st kp=>by
  obtain ⟨⟨old,he⟩,o,ho,r⟩:=st
  exact ⟨⟨old,kp e (by simp) _ he⟩,o,kp it (by simp) o ho,r⟩
 item:=by
  walk_at"a"
  subst hP hw hK
  obtain ⟨eG,jB⟩:=st
  obtain ⟨xs,x,hq,hx⟩:=hg
  obtain ⟨aJ,rv,p,hz⟩:=I.list hq
  obtain ⟨u0,hu,ru⟩:=rv.get hx
  have D:=Draws.list (prog:=X.prog) (w:=X.w) (A:=X.A.in1) (I.ok.hd hc) it a Wc aJ.toArray
  walk_at"o"
  have X5:i<aJ.toArray.size:=by rw[Qao];exact (Qz.mp hu).1
  refine W.item i s _ _ X5 ⟨eG,jB,p.isList⟩ λT vals h' tk Wa hT Im Aj hk=>⟨_,rfl,?_⟩
  walk_at"C"
  obtain ⟨tt,x2,QQ,rfl⟩:=Wa
  have ex:x2=u0:=by
   rw[List.getElem?_toArray]at QQ
   exact Qal (QQ.symm.trans hu)
  subst ex
  have LB:T∉[e,it]:=W.apart i T h' Aj
  have tD:h2.IsTuple T #[.int i tt,x2]:=by
   obtain ⟨o,ho,r⟩:=Im
   exact ⟨o,ve T o LB ho,r⟩
  refine ⟨.ref T,upd H T (.tup [.int i,x]),?_,rfl,⟨T,x,λys hy=>by rw[I.zR hy hq];exact hx,rfl,I.cq.fresh hT,rfl⟩,⟨Ak.1,Ak.2.1⟩,λb hb=>?_⟩
  ·refine I.nK (t':=tk) (h':=h2) (λb o hb y=>ve b o hb (hk b o hb y)) hf hT ?_
   exact ⟨by show 2<=sizeLine;decide,[.int i tt,x2],.cons ⟨tt,rfl⟩ (.cons ru .nil),tD⟩
  ·rw[aA (λz:b=T=>LB (z▸hb))];exact (hf b hb).1
 done:=by
  walk_at"a"
  subst hP hw hK
  obtain ⟨eG,jB⟩:=st
  obtain ⟨xs,hq,hx⟩:=hg
  obtain ⟨aJ,rv,p,hz⟩:=I.list hq
  have hl:=(rv:)
  have D:=Draws.list (prog:=X.prog) (w:=X.w) (A:=X.A.in1) (I.ok.hd hc) it a Wc aJ.toArray
  walk_at"o"
  walk_at"Q"
  have e1:aJ.toArray.size=i:=by rw[Qao];lia
  rw[e1]
  exact ⟨eG,jB,p.isList⟩
 self:=λ_ _ s _ _ st h=>by
  obtain ⟨⟨old,he⟩,_⟩:=st
  exact wpAny_pyIter_enum he h
def QR(K:c7)(ta:TA):TI:=λσ H R=>ta σ H λvs H1=>∃a,vs=[.ref a]/\(∃xs,bY K H1 a xs)/\R (Iq K a) H1
def QS(K:c7)(ta:TA):TI:=λσ H R=>ta σ H λvs H1=>∃a,vs=[.ref a]/\(∃xs,bC K H1 a xs)/\R (Ir K a) H1
theorem Am(K:c7)(hK:X.K=K){k:Nat}(hg:Gl X "enumerate")(hm:X.mg "enumerate"=none)(ha:PA X [a] ta)(hs:starEach [a] X.env=[(false,eval a X.env)]:=by rfl):PI X (.Tuple elts k pos') (.Call (.Name "enumerate" p) [a] [] pos) (QR K ta):=by
 subst hK
 walk_at"K"
 walk_at"l"
 obtain ⟨b,rfl,⟨xs,hq⟩,q⟩:=q1
 obtain ⟨u,rfl,ru⟩:=vals1 r1
 cases ru
 obtain ⟨aJ,rv,pl,hz⟩:=I1.tuple hq
 obtain ⟨ob,eb,_⟩:=id pl
 have cH:b<s1.heap.objs.size:=Qay eb
 refine Cn pl λh' he hit hk=>wpAny_pyIter_enum he ?_
 refine ⟨s1.heap.objs.size+1,[s1.heap.objs.size+1,s1.heap.objs.size],_,_,H1,rfl,I1.kept (t':=s1.toks) hk,Co _ _ b (Qfj _) (Qa6 (Qcv cH)) (Qa6 cH),⟨⟨_,he⟩,hit⟩,λc hb=>?_,q⟩
 have vf:s1.heap.objs.size<=c:=by
  rcases Qaq.mp hb with z | z
  ·rw[z];exact Qdo _
  ·rw[Qab.mp z];exact Qad _
 exact I1.sG vf (I1.cq.fresh vf)
theorem Iu(K:c7)(hK:X.K=K){k:Nat}(hg:Gl X "enumerate")(hm:X.mg "enumerate"=none)(ha:PA X [a] ta)(hs:starEach [a] X.env=[(false,eval a X.env)]:=by rfl):PI X (.Tuple elts k pos') (.Call (.Name "enumerate" p) [a] [] pos) (QS K ta):=by
 subst hK
 walk_at"K"
 walk_at"l"
 obtain ⟨b,rfl,⟨xs,hq⟩,q⟩:=q1
 obtain ⟨u,rfl,ru⟩:=vals1 r1
 cases ru
 obtain ⟨aJ,rv,pl,hz⟩:=I1.list hq
 obtain ⟨ob,eb,_⟩:=id pl.isList
 have cH:b<s1.heap.objs.size:=Qay eb
 refine call_enumerate_list pl.isList λh' he hit hsz hk=>wpAny_pyIter_enum he ?_
 refine ⟨s1.heap.objs.size+1,[s1.heap.objs.size+1,s1.heap.objs.size],_,_,H1,rfl,I1.kept (t':=s1.toks) hk,Cp _ _ b (Qfj _) (Qa6 (Qcv cH)) (Qa6 cH),⟨⟨_,he⟩,hit⟩,λc hb=>?_,q⟩
 have vf:s1.heap.objs.size<=c:=by
  rcases Qaq.mp hb with z | z
  ·rw[z];exact Qdo _
  ·rw[Qab.mp z];exact Qad _
 exact I1.sG vf (I1.cq.fresh vf)
theorem wW{a:Addr}(Pv:Nat->St->Hp->Prop)(h0:Pv 0 σ H)(hl:∀i σ H,i<=(xs:)->Pv i σ H->bY K H a xs)
  (hs:∀i x σ H T,xs[i]? =some x->Pv i σ H->H T=none->g (.ref T) σ (upd H T (.tup [.int i,x])) λσ2 H2=>tb { D with nx:=Pv (i+1),ct:=Pv (i+1),bk:=D.nx } σ2 H2) (hd:∀σ H,Pv (xs:) σ H->D.nx σ H):
  ∃W:Nat->Nat->St->Hp->Prop,(∃m,W 0 m σ H)/\∀i m σ H,W i m σ H->
   ((Iq K a).stop i H/\D.nx σ H)\/((Iq K a).go i H/\∃N:St->Hp->Prop,135/\∀x H',(Iq K a).G3 i H x H'->g x σ H' λσ2 H2=>tb { D with nx:=N,ct:=N,bk:=D.nx } σ2 H2):=by
 walk_at"d"
 rintro i m σ H ⟨rfl,hi,p⟩
 have hq:=hl i σ H hi p
 by_cases cH:i<(xs:)
 ·refine .inr ⟨⟨xs,xs[i],hq,by simp[cH]⟩,Pv (i+1),λσ' H' p'=>⟨(xs:) - (i+1),(),rfl,cH,p'⟩,λx H' y=>?_⟩
  obtain ⟨T,z,hz,rfl,hn,rfl⟩:=y
  exact hs i z σ _ T (hz xs hq) p hn
 ·have e:i=(xs:):=by lia
  subst e
  exact .inl ⟨⟨xs,hq,rfl⟩,hd σ H p⟩
theorem FF{a:Addr}(Pv:Nat->St->Hp->Prop)(h0:Pv 0 σ H)(hl:∀i σ H,i<=(xs:)->Pv i σ H->bC K H a xs)
  (hs:∀i x σ H T,xs[i]? =some x->Pv i σ H->H T=none->g (.ref T) σ (upd H T (.tup [.int i,x])) λσ2 H2=>tb { D with nx:=Pv (i+1),ct:=Pv (i+1),bk:=D.nx } σ2 H2) (hd:∀σ H,Pv (xs:) σ H->D.nx σ H):
  ∃W:Nat->Nat->St->Hp->Prop,(∃m,W 0 m σ H)/\∀i m σ H,W i m σ H->
   ((Ir K a).stop i H/\D.nx σ H)\/((Ir K a).go i H/\∃N:St->Hp->Prop,135/\∀x H',(Ir K a).G3 i H x H'->g x σ H' λσ2 H2=>tb { D with nx:=N,ct:=N,bk:=D.nx } σ2 H2):=by
 walk_at"d"
 rintro i m σ H ⟨rfl,hi,p⟩
 have hq:=hl i σ H hi p
 by_cases cH:i<(xs:)
 ·refine .inr ⟨⟨xs,xs[i],hq,by simp[cH]⟩,Pv (i+1),λσ' H' p'=>⟨(xs:) - (i+1),(),rfl,cH,p'⟩,λx H' y=>?_⟩
  obtain ⟨T,z,hz,rfl,hn,rfl⟩:=y
  exact hs i z σ _ T (hz xs hq) p hn
 ·have e:i=(xs:):=by lia
  subst e
  exact .inl ⟨⟨xs,hq,rfl⟩,hd σ H p⟩
section
variable{X:Cx}
def QT(K:c7):List V->Hp->VK->Prop:=λxs H Q=>∃p ys,xs=[.ref p]/\((bC K H p ys/\∀l,H l=none->Q (.ref l) (upd H l (.tup ys)))\/(bY K H p ys/\Q (.ref p) H))
theorem cR(K:c7)(h:X.K=K):dA X (.type "tuple") (QT K):=by subst h;exact vv
end
theorem An{a:Addr}{Q:VK}(Pv:Nat->List V->Hp->Prop)(hn:(xs:)<sizeLine)(hl:∀i acc H,Pv i acc H->bY K H a xs)(h0:Pv 0 [] H1)
  (hs:∀(i:Nat) (x:V) (acc:List V) (H:Hp) (Nx:List V->Hp->Prop),i<(xs:)->xs[i]? =some x->(acc:)<=i->Pv i acc H->(∀dD H',(dD:)<=i+1->Pv (i+1) dD H'->Nx dD H')->
   g x σc H λσ2 H2=>Wk σc σ2/\tc σ2 H2 λb H3=>if b=true then te σ2 H3 λv H4=>Nx (acc++[v]) H4 else Nx acc H3)
  (hd:∀acc H D,(acc:)<=(xs:)->Pv (xs:) acc H->H D=none->Q (.ref D) (upd H D (.lst acc))):sQ (Zb K a) σc g tc te Q H1:=
 rH (xs:=λi x=>xs[i]? =some x) Pv hn (λi acc H h p=>⟨xs,xs[i],hl i acc H p,by simp[h]⟩) (λacc H p=>⟨xs,hl _ acc H p,Qad _⟩) (λi acc H x H' h p y=>⟨y.1,y.2 xs (hl i acc H p)⟩) h0 hs hd
def eS(H H':Hp):Prop:=∀c xs,H c=some (.tup xs)->H' c=some (.tup xs)
theorem eS.trans{H2:Hp}(a:eS H H1)(b:eS H1 H2):eS H H2:=λc xs h=>b c xs (a c xs h)
theorem eS.of{H':Hp}(s:aq H H'):eS H H':=λc xs h=>s c _ h
theorem eS.MA{p:Addr}{ys:List V}{o:HO}(h:H p=some (.lst ys)):eS H (upd H p o):=λc xs e=>by
 rw[aA (λz=>by rw[z,h]at e;cases e)];exact e
section
variable{prog:Program}{w:World}{A:Around}{E:Value->Shared->Prop}{s:Shared}
theorem DR:∀l:List Value,(l.zip l).map (λx=>x.2)=l
 | []=>rfl
 | v::l=>by rw[List.zip_cons_cons,Qas,DR l]
noncomputable def bA:List Int->List Int->Bool
 | [],[]=>false
 | [],_::_=>true
 | _::_,[]=>false
 | a::r,b::t=>if a=b then bA r t else decide (a<b)
end
end L2
namespace HT
open PySem PySem.Spec PyProof.Rows
end HT
namespace L2
open PySem PySem.Spec PyProof.Rows
variable{o:Option V}{y:V}{u:Value}
section
variable{κ:Type}[DecidableEq κ]
noncomputable def eh(aN:List (κ×V))(k:κ):Option V:=(aN.find? λkv=>decide (kv.1=k)).map (·.2)
noncomputable def putK(aN:List (κ×V))(k:κ)(v:V):List (κ×V):=
 if (aN.any λkv=>decide (kv.1=k))=true then aN.map (λkv=>if kv.1=k then (kv.1,v) else kv) else aN++[(k,v)]
theorem dh{p:κ×V}{r:List (κ×V)}{k:κ}(e:p.1=k):eh (p::r) k=some p.2:=by simp[eh,Qdm,e]
theorem cS{p:κ×V}{r:List (κ×V)}{k:κ}(e: ¬p.1=k):eh (p::r) k=eh r k:=by simp[eh,Qdm,e]
theorem kc(k:κ):∀aN:List (κ×V),(aN.any λkv=>decide (kv.1=k))=(eh aN k).isSome
 | []=>rfl
 | p::r=>by
  rw[Qeq]
  by_cases e:p.1=k
  ·simp only[dh e,decide_eq_true e,Bool.true_or,Option.isSome_some]
  ·rw[cS e,decide_eq_false e,Qgc];exact kc k r
theorem Ao(k j:κ)(y:V):∀aN:List (κ×V),eh (aN.map λkv=>if kv.1=k then (kv.1,y) else kv) j=(eh aN j).map λx=>if j=k then y else x
 | []=>rfl
 | p::r=>by
  have ih:=Ao k j y r
  rw[Qas]
  by_cases h:p.1=k
  ·rw[if_pos h]
   by_cases e:p.1=j
   ·rw[dh (p:=(p.1,y)) e,dh e,Qfw,if_pos (e.symm.trans h)]
   ·rw[cS (p:=(p.1,y)) e,cS e,ih]
  ·rw[if_neg h]
   by_cases e:p.1=j
   ·rw[dh (p:=p) e,dh e,Qfw,if_neg (λz=>h (e.trans z))]
   ·rw[cS (p:=p) e,cS e,ih]
theorem wX(k j:κ)(y:V):∀aN:List (κ×V),eh aN k=none->eh (aN++[(k,y)]) j=if j=k then some y else eh aN j
 | [],_=>by
  by_cases e:k=j
  ·rw[if_pos e.symm];exact dh (p:=(k,y)) e
  ·rw[if_neg (λz=>e z.symm)];exact cS (p:=(k,y)) e
 | p::r,hn=>by
  rw[Qen]
  have hk: ¬p.1=k:=λz=>by rw[dh z]at hn;cases hn
  rw[cS hk]at hn
  have ih:=wX k j y r hn
  by_cases e:p.1=j
  ·rw[dh e,dh e,if_neg (λz=>hk (e.trans z))]
  ·rw[cS e,cS e,ih]
theorem Iv(aN:List (κ×V))(k j:κ)(y:V):eh (putK aN k y) j=if j=k then some y else eh aN j:=by
 unfold putK
 by_cases a:(aN.any λkv=>decide (kv.1=k))=true
 ·rw[if_pos a,Ao]
  rw[kc]at a
  by_cases e:j=k
  ·obtain ⟨x,hx⟩:=Option.isSome_iff_exists.mp a
   rw[if_pos e,e,hx,Qfw,if_pos rfl]
  ·rw[if_neg e]
   cases eh aN j with
   | none=>rfl
   | some x=>rw[Qfw,if_neg e]
 ·rw[if_neg a]
  refine wX k j y aN ?_
  rw[kc]at a
  cases q:eh aN k with
  | none=>rfl
  | some x=>rw[q]at a;exact (a rfl).elim
theorem hW(aN:List (κ×V))(k:κ)(v:V):(putK aN k v:)<=(aN:)+1:=by
 unfold putK
 split
 ·rw[Qaa];lia
 ·rw[X4,Qa9,Qfz];lia
theorem Ap{aN:List (κ×V)}{k:κ}(v:V)(h:eh aN k=none):putK aN k v=aN++[(k,v)]:=by
 unfold putK
 rw[kc,h]
 exact if_neg ∅
theorem o_.FG{u:Option Value}(r:o_ o u):o.isSome=u.isSome:=by
 cases o with
 | none=>cases u with
  | none=>rfl
  | some _=>exact (show False from r).elim
 | some _=>cases u with
  | none=>exact (show False from r).elim
  | some _=>rfl
theorem KV.val{aN:List (κ×V)}{vs:List (κ×Value)}(r:KV aN vs)(k:κ):o_ (eh aN k) (valueAt vs k):=by
 unfold KV at r
 induction r with
 | nil=>exact True.intro
 | @cons p q ps qs h t ih=>
  obtain ⟨h1,h2⟩:=h
  by_cases e:p.1=k
  ·have e':q.1=k:=h1.symm.trans e
   have b:valueAt (q::qs) k=some q.2:=by simp[valueAt,Qdm,e']
   rw[dh e,b];exact h2
  ·have e': ¬q.1=k:=λz=>e (h1.trans z)
   have b:valueAt (q::qs) k=valueAt qs k:=by simp[valueAt,Qdm,e']
   rw[cS e,b];exact ih
theorem KV.any{aN:List (κ×V)}{vs:List (κ×Value)}(r:KV aN vs)(k:κ):(aN.any λkv=>decide (kv.1=k))=vs.any λkv=>decide (kv.1=k):=by
 unfold KV at r
 induction r with
 | nil=>rfl
 | cons h t ih=>rw[Qeq,Qeq,ih,h.1]
theorem KV.QU{aN:List (κ×V)}{vs:List (κ×Value)}(r:KV aN vs)(k:κ)(ry:RelV y u):
  KV (aN.map λkv=>if kv.1=k then (kv.1,y) else kv) (vs.map λkv=>if kv.1=k then (kv.1,u) else kv):=by
 unfold KV at r ⊢
 induction r with
 | nil=>exact .nil
 | @cons p q ps qs h t ih=>
  rw[Qas,Qas]
  refine .cons ?_ ih
  obtain ⟨h1,h2⟩:=h
  by_cases e:p.1=k
  ·rw[if_pos e,if_pos (h1.symm.trans e)];exact ⟨h1,ry⟩
  ·rw[if_neg e,if_neg (λz=>e (h1.trans z))];exact ⟨h1,h2⟩
theorem KV.put{aN:List (κ×V)}{vs:List (κ×Value)}(r:KV aN vs)(k:κ)(ry:RelV y u):KV (putK aN k y) (stored vs k u):=by
 unfold putK stored
 rw[r.any k]
 by_cases e:(vs.any λkv=>decide (kv.1=k))=true
 ·rw[if_pos e,if_pos e];exact r.QU k ry
 ·rw[if_neg e,if_neg e];exact Paired.snoc r ⟨rfl,ry⟩
theorem KV.length{aN:List (κ×V)}{vs:List (κ×Value)}(r:KV aN vs):(aN:)=(vs:):=Paired.length r
end
theorem Iw{P:Program}{w:World}{k:Key}(r:RelV (kV k) u):(cV P w).is k u=true:=by
 cases k with
 | inl i=>obtain ⟨t,e⟩:=(show ∃t,u=Value.int i t from r);subst e;exact zM P w i t
 | inr x=>obtain ⟨t,e⟩:=(show ∃t,u=Value.str x t from r);subst e;exact zN P w x t
theorem wY{P:Program}{w:World}:∀{ks:List Key} {us:List Value},Vals (ks.map kV) us->ItemsAre (cV P w) ks us
 | [],_,r=>by rw[Qe0]at r;cases r;exact .nil
 | k::ks,_,r=>by
  rw[Qas]at r
  cases r with
  | cons h t=>exact .cons (Iw h) (wY t)
abbrev KT(H:Hp):List (List Key×V)->List (List Key×Addr×Value)->Prop:=Paired λp q=>p.1=q.1/\H q.2.1=some (.tup (p.1.map kV))/\RelV p.2 q.2.2
variable{H:Hp}{aN:List (List Key×V)}{xs:List (List Key×Addr×Value)}
theorem KT.val(r:KT H aN xs)(k:List Key):o_ (eh aN k) ((atKey xs k).map (·.2)):=by
 induction r with
 | nil=>exact True.intro
 | @cons p q ps qs h t ih=>
  obtain ⟨h1,_,h2⟩:=h
  by_cases e:p.1=k
  ·have e':q.1=k:=h1.symm.trans e
   have b:atKey (q::qs) k=some q.2:=by simp[atKey,Qdm,e']
   rw[dh e,b];exact h2
  ·have e': ¬q.1=k:=λz=>e (h1.trans z)
   have b:atKey (q::qs) k=atKey qs k:=by simp[atKey,Qdm,e']
   rw[cS e,b];exact ih
theorem KT.QU(r:KT H aN xs)(k:List Key)(ry:RelV y u):
  KT H (aN.map λkv=>if kv.1=k then (kv.1,y) else kv) (xs.map (putAt k u)):=by
 induction r with
 | nil=>exact .nil
 | @cons p q ps qs h t ih=>
  rw[Qas,Qas]
  refine .cons ?_ ih
  obtain ⟨h1,h2,h3⟩:=h
  unfold putAt
  by_cases e:p.1=k
  ·rw[if_pos e,if_pos (h1.symm.trans e)];exact ⟨h1,h2,ry⟩
  ·rw[if_neg e,if_neg (λz=>e (h1.trans z))];exact ⟨h1,h2,h3⟩
variable{b:Addr}
theorem KT.put(r:KT H aN xs)(k:List Key)(hb:H b=some (.tup (k.map kV)))(ry:RelV y u):
  KT H (putK aN k y) (storedH xs k b u):=by
 have e:(aN.any λkv=>decide (kv.1=k))=(atKey xs k).isSome:=by
  rw[kc,(r.val k).FG,Option.isSome_map]
 unfold putK storedH
 rw[e]
 by_cases q:(atKey xs k).isSome=true
 ·rw[if_pos q,if_pos q];exact r.QU k ry
 ·rw[if_neg q,if_neg q];exact Paired.snoc r ⟨rfl,hb,ry⟩
variable{H':Hp}
theorem KT.keeps(r:KT H aN xs)(ht:∀b ys,H b=some (.tup ys)->H' b=some (.tup ys)):KT H' aN xs:=
 Paired.PU r λ_ _ z=>⟨z.1,ht _ _ z.2.1,z.2.2⟩
section
variable{P:Program}{w:World}{H:Hp}{h:Heap}{a:Addr}
theorem OS{u:HO}(ok:mY P w H h)(e:Rd H a u):du P w H h a u:=e.ok ok
theorem Iy{aN:List (Key×V)}(ok:mY P w H h)(e:Rd H a (.dK aN)):(aN:)<=sizeLine/\(a==sysModules)=false/\∃vs,KV aN vs/\h.DictOf (cV P w) a vs:=
 show du P w H h a (.dK aN) from OS ok e
theorem Wd{aN:List (Key×V)}(ok:mY P w H h)(e:H a=some (.dK aN)):(aN:)<=sizeLine/\(a==sysModules)=false/\∃vs,KV aN vs/\h.DictOf (cV P w) a vs:=Iy ok (.inl e)
theorem Cq{ks:List Key}(ok:mY P w H h)(e:H a=some (.tup (ks.map kV))):(tupleKind (cV P w)).is h ks a:=by
 obtain ⟨_,aJ,r,o,h1,h2,n,h3⟩:=(show du P w H h a (.tup (ks.map kV)) from ok a _ e)
 exact ⟨o,aJ.toArray,n,h1,h2,h3,by simpa using wY r⟩
theorem Iz(ok:mY P w H h)(e:Rd H a (.dT aN)):(aN:)<=sizeLine/\(a==sysModules)=false/\
  ∃xs,KT H aN xs/\h.DictOfH (tupleKind (cV P w)) a xs:=by
 obtain ⟨z,y,xs,r,o,es,ep,h1,h2,h3,h4,h5⟩:=(show du P w H h a (.dT aN) from OS ok e)
 refine ⟨z,y,xs,r,o,es,ep,h1,h2,h3,h4,λx hx=>?_,h5⟩
 have all:∀{l:List (List Key×V)} {m:List (List Key×Addr×Value)},KT H l m->∀x∈m,(tupleKind (cV P w)).is h x.1 x.2.1:=by
  intro l m q
  induction q with
  | nil=>intro x hx;exact nomatch hx
  | @cons p q ps qs hq t ih=>
   intro x hx
   rcases Qaq.mp hx with e | hx
   ·subst e
    exact Cq ok (by rw[<-hq.1];exact hq.2.1)
   ·exact ih x hx
 exact all r x hx
theorem We(ok:mY P w H h)(e:H a=some (.dT aN)):(aN:)<=sizeLine/\(a==sysModules)=false/\
  ∃xs,KT H aN xs/\h.DictOfH (tupleKind (cV P w)) a xs:=Iz ok (.inl e)
end
def tE(H:Hp)(a:Addr)(y:V)(r:Option V):Prop:=
 (∃aN k,Rd H a (.dK aN)/\y=kV k/\r=eh aN k)\/∃aN k b,Rd H a (.dT aN)/\y= .ref b/\H b=some (.tup (k.map kV))/\r=eh aN k
def yl(H:Hp)(a:Addr)(y v:V)(H':Hp):Prop:=
 (∃aN k,H a=some (.dK aN)/\y=kV k/\(aN:)<sizeLine/\H'=upd H a (.dK (putK aN k v)))\/
 ∃aN k b,H a=some (.dT aN)/\y= .ref b/\H b=some (.tup (k.map kV))/\(aN:)<sizeLine/\H'=upd H a (.dT (putK aN k v))
theorem tE.k{H:Hp}{a:Addr}{aN:List (Key×V)}{k:Key}(e:H a=some (.dK aN)):tE H a (kV k) (eh aN k):= .inl ⟨aN,k,.inl e,rfl,rfl⟩
variable{a:Addr}
theorem tE.t{k:List Key}(e:H a=some (.dT aN))(eb:H b=some (.tup (k.map kV))):tE H a (.ref b) (eh aN k):= .inr ⟨aN,k,b,.inl e,rfl,eb,rfl⟩
theorem yl.k{H:Hp}{a:Addr}{aN:List (Key×V)}{k:Key}{v:V}(e:H a=some (.dK aN))(hl:(aN:)<sizeLine):yl H a (kV k) v (upd H a (.dK (putK aN k v))):= .inl ⟨aN,k,e,rfl,hl,rfl⟩
theorem yl.t{k:List Key}{v:V}(e:H a=some (.dT aN))(eb:H b=some (.tup (k.map kV)))(hl:(aN:)<sizeLine):
  yl H a (.ref b) v (upd H a (.dT (putK aN k v))):= .inr ⟨aN,k,b,e,rfl,eb,hl,rfl⟩
variable{Q:Value->Shared->Prop}{h':Heap}
section
variable{X:Cx}{pins:List 126}{σ:St}{H:Hp}{s:Shared}{a:Addr}{y v:V}{u r:Value}{o:Option V}{A:Around}{E:Value->Shared->Prop}
theorem Inv.big(I:Inv X pins σ H s):sysModules<s.heap.objs.size:=by
 have h:mainGlobals<s.heap.objs.size:=(I.mod.glob.keeps I.bk).lt
 exact Qd5 ∅ h
theorem FH(hu:A.units+1<cLine)(I:Inv X pins σ H s)(g:tE H a y (some v))(ry:RelV y u)(h:∀w' s',Inv X pins σ H s'->RelV v w'->Q w' s'):
  wpAny 93 A (getItem (.ref a) u) Q E s:=by
 rcases g with ⟨aN,k,e,ey,l⟩ | ⟨aN,k,b,e,ey,eb,l⟩
 ·subst ey
  obtain ⟨z,hd,vs,rel,dd⟩:=Iy I.cq e
  obtain ⟨w',hw,zZ⟩:=o_.some_of (v:=v) (o:=valueAt vs k) (by rw[l];exact rel.val k)
  exact wpAny_getItem_of (Iw ry) dd.mapOf hw (h w' _ (I.tok _) zZ)
 ·subst ey
  cases (show u=Value.ref b from ry)
  obtain ⟨z,hd,xs,rel,dd⟩:=Iz I.cq e
  obtain ⟨w',hw,zZ⟩:=o_.some_of (v:=v) (o:=(atKey xs k).map (·.2)) (by rw[l];exact rel.val k)
  obtain ⟨p,hp,nL⟩:=Option.map_eq_some_iff.mp hw
  refine wpAny_getItem_heap (tupleKind_room_in1 hu) (Cq I.cq eb) dd hp ?_
  rw[nL]
  exact h w' _ (I.tok _) zZ
theorem DS{t':Nat}{ob:HO}(I:Inv X pins σ H s)(mu:Vc (H a))(hs:Heap.SameBut a s.heap h')(he:∃q,h'.get? a=some q)(new:du X.prog X.w (upd H a ob) h' a ob):
  Inv X pins σ (upd H a ob) { s with heap:=h',toks:=t' }:=
 I.write (x:=a) (e:=a) mu (.inl rfl) (λb q hb z=>(hs.2 b hb).trans z) he new
theorem QV{P:Program}{w:World}{aN:List (Key×V)}{vs:List (Key×Value)}(z:(aN:)<=sizeLine)(hd:(a==sysModules)=false)(rel:KV aN vs)(dd:h'.DictOf (cV P w) a vs):
  du P w H' h' a (.dK aN):=⟨z,hd,vs,rel,dd⟩
theorem FI{Q:Unit->Shared->Prop}(hu:A.units+1<cLine)(I:Inv X pins σ H s)(g:yl H a y v H')(ry:RelV y u)(rv:RelV v r)(h:∀s',Inv X pins σ H' s'->Q Unit.unit s'):
  wpAny 93 A (setItem (.ref a) u r) Q E s:=by
 rcases g with ⟨aN,k,e,ey,l,eH⟩ | ⟨aN,k,b,e,ey,eb,l,eH⟩
 ·subst ey eH
  obtain ⟨z,hd,vs,rel,dd⟩:=Wd I.cq e
  have hz:(vs:)<=sizeLine:=by rw[<-(rel:)];exact z
  have hl:(putK aN k v:)<=sizeLine:=by have:=hW aN k v;lia
  refine wpAny_setItem_pairs (hsz:=hz) (Iw ry) dd λh' X6 hs=>h _ ?_
  have he:∃q,h'.get? a=some q:=let ⟨q,_,_,hq,_⟩:=X6;⟨q,hq⟩
  exact DS I (by rw[e];exact True.intro) hs he (QV hl hd (rel.put k rv) X6)
 ·subst ey eH
  cases (show u=Value.ref b from ry)
  obtain ⟨z,hd,xs,rel,dd⟩:=We I.cq e
  have hz:(xs:)<=sizeLine:=by rw[<-Paired.length rel];exact z
  have hl:(putK aN k v:)<=sizeLine:=by have:=hW aN k v;lia
  refine wpAny_setItem_heap (hsz:=hz) (tupleKind_room_in1 hu) (Cq I.cq eb) dd λh' X6 hs=>h _ ?_
  obtain ⟨q,es,ep,hq,h2,h3,h4,_,h5⟩:=X6
  refine DS I (by rw[e];exact True.intro) hs ⟨q,hq⟩ ⟨hl,hd,_,(rel.put k eb rv).keeps λc ys ec=>?_,q,es,ep,hq,h2,h3,h4,h5⟩
  rw[aA (Vb ec e (λz=>nomatch z))]
  exact ec
end
def Wf(i:Expr):Prop:=∀ov iv,subscripted i false ov iv=operate [ov,iv] (getItem ov iv)
variable{s:Shared}
theorem MB{prog:Program}{w:World}{A:Around}{E:Value->Shared->Prop}{env:Env}{value slice:Expr}{pos:Pos}{T id:String}
  (hl:typeLookup (.type T) "__getitem__"=pure (some (.builtin id))) (hs:Wf slice)
  (h:wpAny 94 A (eval value env) (λo s₁=>wpAny 94 A (eval slice env) (λi s₂=>s₂.TypeIs o T/\wpAny 94 A (getItem o i) Q E s₂) E s₁) E s):
  wpAny 94 A (eval (.Subscript value slice pos) env) Q E s:=by
 refine Subscript_ (wpAny_mono h (λo s₁ h₁=>wpAny_mono h₁ (λi s₂ h₂=>?_) λ_ _ x=>x) λ_ _ x=>x)
 obtain ⟨hT,h₂⟩:=h₂
 unfold subscriptTail
 refine wpAny_bind ?_
 rw[getitemInPython_of_ne hT.not_modules]
 refine wpAny_bind (wpAny_specialOf hT hl ?_)
 have fin:wpAny 94 A (subscripted slice false o i) (λr s₃=>wpAny 94 A (letTemporaryGo value o r >>= λ_=>pure r) Q E s₃) E s₂:=by
  rw[hs o i]
  exact wpAny_operating (wpAny_mono h₂ (λr s₃ h₃=>wpAny_bind (wpAny_letTemporaryGo (wpAny_pure h₃))) λ_ _ x=>x)
 first
  | exact wpAny_pure (wpAny_bind fin)
  | exact wpAny_bind (wpAny_pure (wpAny_bind fin))
  | exact wpAny_bind fin
theorem Aq{X:Cx}{pins:List 126}{σ:St}(I:Inv X pins σ H s)(g:tE H a y o):s.TypeIs (.ref a) "dict":=by
 rcases g with ⟨aN,k,e,_,_⟩ | ⟨aN,k,b,e,_,_,_⟩
 ·obtain ⟨_,_,vs,_,dd⟩:=Iy I.cq e
  exact dd.typeIs
 ·obtain ⟨_,_,xs,_,dd⟩:=Iz I.cq e
  exact dd.typeIs
def Wg(td ty:TE):TE:=λσ H Q=>td σ H λx H1=>ty σ H1 λy H2=>∃a v,x= .ref a/\tE H2 a y (some v)/\Q v H2
def Wh(td ty tv:TE):TS:=λD σ H=>tv σ H λv H1=>td σ H1 λx H2=>ty σ H2 λy H3=>∃a H4,x= .ref a/\yl H3 a y v H4/\D.nx σ H4
section
variable{X:Cx}{o i e value:Expr}{pos pos' VC:Pos}{td ty tv:TE}
theorem rL(hu:X.A.units+1<cLine)(ho:PE X o td)(hi:PE X i ty)(hs:Wf i):PE X (.Subscript o i pos) (Wg td ty):=by
 walk_at"h"
 refine MB PySem.F.slot_dict_getitem.lookup hs (cA (ho pins s σ H _ I h) λu s1 ⟨x,H1,I1,rx,q1⟩=>cA (hi pins s1 σ H1 _ I1 q1) λiv s2 ⟨y,H2,I2,ry,a,v,ex,g,q2⟩=>?_)
 subst ex
 obtain rfl:u=Value.ref a:=rx
 exact ⟨Aq I2 g,FH hu I2 g ry λw' s3 I3 zZ=>⟨v,H2,I3,zZ,q2⟩⟩
theorem ym(hu:X.A.units+1<cLine)(ho:PE X o td)(hi:PE X i ty)(hv:PE X value tv)(hs:swapsWith value (some (.Subscript o i pos')) pos.line X.env=pure false):
  PS X (.Assign [.Subscript o i pos'] value pos) (Wh td ty tv):=by
 walk_at"u"
 refine wpAny_Assign_Subscript (cA (hv pins s σ H _ I h) λr s1 ⟨v,H1,I1,rv,q1⟩=>cA (ho pins s1 σ H1 _ I1 q1) λu s2 ⟨x,H2,I2,rx,q2⟩=>cA (hi pins s2 σ H2 _ I2 q2) λiv s3 ⟨y,H3,I3,ry,a,H4,ex,g,q3⟩=>?_) hs
 subst ex
 obtain rfl:u=Value.ref a:=rx
 exact FI hu I3 g ry rv λs4 I4=>⟨σ,H4,I4,q3⟩
end
theorem IA{P:Program}{w:World}(h:Heap)(hb:sysModules<h.objs.size):du P w H (h.push { cls:= .type "dict",data:= .dict #[] }) h.objs.size (.dK []):=
 ⟨Qax _,beq_eq_false_iff_ne.mpr (Ne.symm (Qa6 hb)),[],.nil,Heap.DictOf.new h⟩
theorem IC{P:Program}{w:World}(h:Heap)(hb:sysModules<h.objs.size):du P w H (h.push { cls:= .type "dict",data:= .dict #[] }) h.objs.size (.dT []):=
 ⟨Qax _,beq_eq_false_iff_ne.mpr (Ne.symm (Qa6 hb)),[],.nil,_, #[],0,Qau _ rfl,⟨rfl,rfl,rfl⟩,rfl,rfl,Qf4⟩
def QW:TE:=λ_ H Q=>∀p,H p=none->Q (.ref p) (upd H p (.dK []))
def QX:TE:=λ_ H Q=>∀p,H p=none->Q (.ref p) (upd H p (.dT []))
section
variable{X:Cx}{pos:Pos}
theorem ID:PE X (.Dict [] [] pos) QW:=λpins s σ H Q I h=>
 wpAny_Dict_empty ⟨.ref s.heap.objs.size,_,I.laid (a:=s.heap.objs.size) (o:= .dK []) (t':=s.toks) (λ_ _ q=>Ta _ q) (Qad _) (IA s.heap I.big),rfl,h _ (I.cq.fresh (Qad _))⟩
theorem IE:PE X (.Dict [] [] pos) QX:=λpins s σ H Q I h=>
 wpAny_Dict_empty ⟨.ref s.heap.objs.size,_,I.laid (a:=s.heap.objs.size) (o:= .dT []) (t':=s.toks) (λ_ _ q=>Ta _ q) (Qad _) (IC s.heap I.big),rfl,h _ (I.cq.fresh (Qad _))⟩
end
end L2
namespace L2.F2
open PySem PySem.Spec PyProof.Rows
end L2.F2
namespace L2
open PySem PySem.Spec PyProof.Rows
noncomputable def LC(a b c d:Int):Bool:=if a=c then decide (b<d) else decide (a<c)
variable{a b:Int}
section
variable{prog:Program}{w:World}{A:Around}{E:Value->Shared->Prop}{s:Shared}
theorem MC{p q:Addr}{ox oy:Obj}{mx my:Nat}{c d:Int}{t1 t2 t3 t4:Tok}{P:PySem.Fin->Shared->Prop}(Tc:s.heap.get? p=some ox)(Wi:ox.data= .seq #[.int a t1,.int b t2] mx)
  (Wj:s.heap.get? q=some oy) (G7:oy.cls= .type "tuple") (ZO:oy.data= .seq #[.int c t3,.int d t4] my) (h:P (.done (.ret (.bool (LC a b c d)))) s):
  wpAny 94 A (Builtin.«tuple.__lt__» ⟨[.ref p,.ref q],[]⟩) P E s:=by
 have hT:s.TypeIs (.ref q) "tuple":=⟨oy,Wj,G7⟩
 show wpAny _ _ (isInstance (.ref q) (.type "tuple") >>= λb=>_) _ _ s
 refine wpAny_bind (wpAny_isInstance (b:=true) hT isSubtype_tuple_tuple ?_)
 simp only[Qgb,Qc0,if_false]
 refine wpAny_bind (wpAny_tupleItemsOf Tc Wi ?_)
 refine wpAny_bind (wpAny_tupleItemsOf Wj ZO ?_)
 refine wpAny_bind ?_
 show wpAny _ _ (forIn [(Value.int a t1,Value.int c t3),(Value.int b t2,Value.int d t4)] _ _) _ _ _
 rw[Qdy]
 refine wpAny_bind (wpAny_bind (wpAny_eqBool_int ?_))
 unfold LC at h
 by_cases e:a=c
 ·rw[if_pos e]at h
  rw[show (a==c)=true by simp[e]]
  simp only[Qgb,Qc0,if_false]
  refine wpAny_pure ?_
  dsimp only
  rw[Qdy]
  refine wpAny_bind (wpAny_bind (wpAny_eqBool_int ?_))
  by_cases e2:b=d
  ·rw[show (b==d)=true by simp[e2]]
   simp only[Qgb,Qc0,if_false]
   refine wpAny_pure ?_
   dsimp only
   rw[List.forIn_nil]
   refine wpAny_pure ?_
   dsimp only
   refine wpAny_pure ?_
   rw[decide_eq_false ()]at h
   exact h
  ·rw[show (b==d)=false by simp[e2]]
   simp only[Bool.not_false,if_true]
   refine wpAny_bind (wpAny_rule ?_)
   refine wpAny_bind (lt_int ?_)
   walk_at"M"
   refine wpAny_pure ?_
   dsimp only
   refine wpAny_pure ?_
   dsimp only
   exact wpAny_pure h
 ·rw[if_neg e]at h
  rw[show (a==c)=false by simp[e]]
  simp only[Bool.not_false,if_true]
  refine wpAny_bind (wpAny_rule ?_)
  refine wpAny_bind (lt_int ?_)
  walk_at"M"
  refine wpAny_pure ?_
  dsimp only
  refine wpAny_pure ?_
  dsimp only
  exact wpAny_pure h
end
section
variable{X:Cx}
inductive IF(K:c7)(x:V)(y:V)(H:Hp)(Q:VK):Prop
 | mk (p:_) (q:_) (a:_) (b:_) (c:_) (d:_) (_:x= .ref p) (_:y= .ref q) (_:bY K H p [.int a,.int b]) (_:bY K H q [.int c,.int d]) (_:Q (.bl (LC a b c d)) H):IF K x y H Q
def ZP(K:c7):R2:=IF K
theorem Ar{us:List Value}(r:Vals [.int a,.int b] us):∃t u,us=[.int a t,.int b u]:=by
 cases r with
 | cons r1 r=>
  cases r with
  | cons r2 r=>
   cases r
   walk_at"T"
   obtain ⟨u,rfl⟩:=r2
   exact ⟨t,u,rfl⟩
theorem QY{k:Nat}(K:c7)(h:X.K=K)(hr:fo k X.A):jY X (compareOp .Lt) (ZP K):=by
 subst h
 walk_at"b"
 obtain ⟨p,q,a,b,c,d,rfl,rfl,hp,hq,r⟩:=h
 cases rx
 cases ry
 obtain ⟨xs,MD,px,_⟩:=I.tuple hp
 obtain ⟨ys,rvy,py,_⟩:=I.tuple hq
 obtain ⟨ox,Tc,G6,mx,Wi⟩:=px
 obtain ⟨oy,Wj,G7,my,ZO⟩:=py
 obtain ⟨t1,t2,rfl⟩:=Ar MD
 obtain ⟨t3,t4,rfl⟩:=Ar rvy
 have hu:=hr.units
 show wpAny _ _ (richCompare .Lt (.ref p) (.ref q)) _ _ s
 have hT:s.TypeIs (.ref p) "tuple":=⟨ox,Tc,G6⟩
 refine wpAny_richCompare_same_room hT ⟨oy,Wj,G7⟩ PySem.F.slot_tuple_lt (wpAny_call_entry PySem.F.slot_tuple_lt hT PySem.F.entry_tuple_lt (MC Tc Wi Wj G7 ZO ⟨_,rfl,(λz=>nomatch z),?_⟩) (PySem.F.args_tuple_lt_2 _ _)) ()
 exact ⟨.bl _,H,I,rfl,r⟩
end
section
variable{X:Cx}{st:Stmt}{rest:List Stmt}{t u:TS}
def ZQ(t u:TS):TS:=λD σ H=>∃P:St->Hp->Prop,t { D with nx:=P } σ H/\∀σ' H',P σ' H'->u D σ' H'
theorem DT(h1:PS X st t)(h2:zQ X rest u):zQ X (st::rest) (ZQ t u):=by
 walk_at"u"
 obtain ⟨P,h,g⟩:=h
 refine wpAny_execs_cons (cA (h1 pins s σ H _ I h) λf s1 q=>?_)
 cases f with
 | ret v=>exact q
 | brk=>exact q
 | cont=>exact q
 | next=>
  obtain ⟨τ,G,J,p⟩:=q
  exact h2 pins s1 τ G D J (g τ G p)
end
section
variable{X:Cx}
def Wl(K:c7):List V->Hp->VK->Prop:=λxs H Q=>∃(p:Addr) (ns:List Int),xs=[.ref p]/\bC K H p (ns.map V.int)/\Q (.int ns.sum) H
theorem FJ(K:c7)(h:X.K=K)(hc:X.calm=true):dA X (.builtin "sum") (Wl K):=by
 subst h
 walk_at"e"
 obtain ⟨p,ns,rfl,hq,q⟩:=h
 obtain ⟨u,rfl,ru⟩:=vals1 r
 cases ru
 obtain ⟨aJ,rv,pl,_⟩:=I.list hq
 have hi:IntsAre aJ ns:=intsAre_of rv
 obtain ⟨ys,e⟩:=hi.allInts.items
 have hl:s.heap.IsList p (intItems ys):=by rw[<-e];exact pl.isList
 refine sum_intListG (I.ok.hd hc) hl λh' tk t' hk=>?_
 have e2:preSum (numAt ys) ys.size=ns.sum:=by
  rw[preSum_eq,Qar (by simp), <-nums_intItems, <-e]
  exact congrArg List.sum hi.numsOf
 rw[e2]
 exact ⟨.int ns.sum,H,I.kept (t':=tk) hk,⟨_,rfl⟩,q⟩
inductive wZ(x:V)(vs:List V)(H:Hp)(Q:VK):Prop
 | mk (l:_) (c:_) (_:x= .str (S l)) (_:vs=[.str (S [c])]) (_:Q (.int (PyProof.Rows.cnt c l)) H):wZ x vs H Q
def ME:V->List V->Hp->VK->Prop:=wZ
theorem w4:DH X "str.count" ME:=by
 walk_at"p"
 obtain ⟨l,c,rfl,rfl,q⟩:=h
 walk_at"g"
 obtain ⟨u,rfl,t',rfl⟩:=vals1 rv
 refine SC.count ⟨.int _,H,I.tok _,⟨_,rfl⟩,?_⟩
 have e:Txt.count (S l) (S [c])=PyProof.Rows.cnt c l:=(PyProof.Rows.count_is (S l) c).trans (by unfold PyProof.Rows.cnt;simp[S])
 rw[e]
 exact q
end
variable{Q:Option Value->Shared->Prop}{vA vB:Hp->List V->Prop}
section
variable{prog:Program}{w:World}{A:Around}{E:Value->Shared->Prop}{s:Shared}
structure ZA(z TI TO i1 i2:Addr)(f1 f2:List Addr):Prop where
 m1:i1∈f1
 m2:i2∈f2
 z1:z∉f1
 z2:z∉f2
 o1:TO∉f1
 o2:TO∉f2
 c1:i1∉f2
 c2:i2∉f1
 tz:TI≠z
 tt:TI≠TO
 t1:TI≠i1
 t2:TI≠i2
 oz:TO≠z
theorem nm{a b:Addr}{f:List Addr}(h:a∈f)(n:b∉f):a≠b:=λz=>n (z▸h)
section
variable{z TI TO i1 i2:Addr}{f1 f2:List Addr}{n1 n2 i:Nat}{P1 P2:Nat->Value->Prop}{S1 S2:Nat->Heap->Prop}{a b:Value}
theorem FK{Q:Value->Shared->Prop}(D1:Draws prog w A i1 f1 n1 P1 S1)(D2:Draws prog w A i2 f2 n2 P2 S2)(Z:ZA z TI TO i1 i2 f1 f2)
  (hz:IsZip s.heap z TI TO .none) (QZ:IsPair s.heap TI (.ref i1) (.ref i2)) (Td:IsPair s.heap TO a b) (h1:S1 i s.heap) (h2:S2 i s.heap) (l1:i<n1) (l2:i<n2)
  (hQ:∀x y h' tk,P1 i x->P2 i y->IsZip h' z TI TO (rawInt s.heap.objs.size)->IsPair h' TO x y->S1 (i+1) h'->S2 (i+1) h'->IsPair h' s.heap.objs.size x y->h'.objs.size=s.heap.objs.size+1->
   (∀c o,c≠z->c≠TO->c≠i1->c≠i2->s.heap.get? c=some o->h'.get? c=some o)->Q (.ref s.heap.objs.size) { s with heap:=h',toks:=tk }):
  wpAny 94 A (Builtin.«zip.__next__» ⟨[.ref z],[]⟩) (λfin s'=>∃v,fin= .done (.ret v)/\Q v s') E s:=by
 obtain ⟨hp,g,d,tk0,os⟩:=s
 have i1z:=nm Z.m1 Z.z1
 have i2z:=nm Z.m2 Z.z2
 have i1o:=nm Z.m1 Z.o1
 have i2o:=nm Z.m2 Z.o2
 have i21:=nm Z.m2 Z.c1
 refine wpAny_bind (m:=field (.ref z) 2) (wpAny_field hz rfl (x:= .bool false) rfl ?_)
 refine wpAny_bind (m:=field (.ref z) 3) (wpAny_field hz rfl (x:= .ref TI) rfl ?_)
 refine wpAny_bind (m:=seqItems? (.ref TI)) (wpAny_seqItems QZ rfl ?_)
 refine wpAny_bind (m:=Builtin.SmallTypes.ownedTupleIsFree (.ref z)) ?_
 (unfold Builtin.SmallTypes.ownedTupleIsFree;refine wpAny_bind (m:=field (.ref z) 0) (wpAny_field hz rfl (x:= .none) rfl (wpAny_pure ?_)))
 simp only[if_true]
 walk_at"W"
 refine wpAny_bind (wpAny_setField_rec hz (by simp) λk1 Q0 G8=>?_)
 replace Q0:IsZip k1 z TI TO .ellipsis:=Q0
 replace G8:Heap.SameBut z hp k1:=G8
 refine wpAny_bind ?_;simp only[Qgq,List.zipIdx_nil,Qdy,List.forIn_nil]
 refine wpAny_bind (wpAny_bind (wpAny_onRaise ?_));refine wpAny_bind (m:=Builtin.SmallTypes.nextOf (.ref i1)) ?_
 refine D1.item i _ _ _ l1 (D1.frame _ _ _ h1 λc hc o e=>G8.extBut _ _ (nm hc Z.z1) e) λx k2 Te px jB LD=>wpAny_pure ?_
 replace LD:Heap.SameBut i1 k1 k2:=LD
 have to2:IsPair k2 TO a b:=LD.extBut _ _ (Ne.symm i1o) (G8.extBut _ _ Z.oz Td)
 refine wpAny_bind (m:=seqItems? (.ref TO)) (wpAny_seqItems to2 rfl ?_)
 refine wpAny_bind (wpAny_updateSeq_pair to2 λk3 to3 LF=>?_)
 replace to3:IsPair k3 TO x b:=to3
 replace LF:Heap.SameBut TO k2 k3:=LF
 refine wpAny_bind (wpAny_letGo (wpAny_pure ?_));refine wpAny_bind (wpAny_bind (wpAny_onRaise ?_))
 refine wpAny_bind (m:=Builtin.SmallTypes.nextOf (.ref i2)) ?_
 refine D2.item i _ _ _ l2 (D2.frame _ _ _ h2 λc hc o e=>LF.extBut _ _ (nm hc Z.o2) (LD.extBut _ _ (nm hc Z.c1) (G8.extBut _ _ (nm hc Z.z2) e))) λy k4 tk4 py tF Q3=>wpAny_pure ?_
 replace Q3:Heap.SameBut i2 k3 k4:=Q3
 have to4:IsPair k4 TO x b:=Q3.extBut _ _ (Ne.symm i2o) to3
 refine wpAny_bind (m:=seqItems? (.ref TO)) (wpAny_seqItems to4 rfl ?_)
 refine wpAny_bind (wpAny_updateSeq_pair to4 λk5 X7 Q5=>?_)
 replace X7:IsPair k5 TO x y:=X7
 replace Q5:Heap.SameBut TO k4 k5:=Q5
 refine wpAny_bind (wpAny_letGo (wpAny_pure (wpAny_pure ?_)));refine wpAny_bind (m:=seqItems? (.ref TO)) (wpAny_seqItems X7 rfl ?_)
 refine wpAny_bind (wpAny_newTuple ?_)
 have sz:k5.objs.size=hp.objs.size:=by rw[Q5.1,Q3.1,LF.1,LD.1,G8.1]
 have z5:IsZip k5 z TI TO .ellipsis:=Q5.extBut _ _ (Ne.symm Z.oz) (Q3.extBut _ _ (Ne.symm i2z) (LF.extBut _ _ (Ne.symm Z.oz) (LD.extBut _ _ (Ne.symm i1z) Q0)))
 have kp:∀c o,c≠z->c≠TO->c≠i1->c≠i2->hp.get? c=some o->k5.get? c=some o:=λc o c1 c2 c3 c4 e=>Q5.extBut _ _ c2 (Q3.extBut _ _ c4 (LF.extBut _ _ c2 (LD.extBut _ _ c3 (G8.extBut _ _ c1 e))))
 have s15:S1 (i+1) k5:=D1.frame _ _ _ jB λc hc o e=>Q5.extBut _ _ (nm hc Z.o1) (Q3.extBut _ _ (nm hc Z.c2) (LF.extBut _ _ (nm hc Z.o1) e))
 have s25:S2 (i+1) k5:=D2.frame _ _ _ tF λc hc o e=>Q5.extBut _ _ (nm hc Z.o2) e
 have zl:z<k5.objs.size:=Qay z5
 refine wpAny_bind (m:=Builtin.SmallTypes.ownedTupleHandOut (.ref z) (.ref k5.objs.size)) ?_
 have z6:IsZip (k5.push { cls:= .type "tuple",data:= .seq #[x,y] }) z TI TO .ellipsis:=Ta _ z5
 (unfold Builtin.SmallTypes.ownedTupleHandOut;refine wpAny_bind (wpAny_setField_rec z6 (by simp) λk7 z7 s7=>?_))
 replace z7:IsZip k7 z TI TO (rawInt k5.objs.size):=z7
 refine wpAny_setField_rec z7 (by simp) λk8 z8 s8=>?_
 replace z8:IsZip k8 z TI TO (rawInt k5.objs.size):=z8
 have up:∀c o,c≠z->k5.get? c=some o->k8.get? c=some o:=λc o c1 e=>s8.extBut _ _ c1 (s7.extBut _ _ c1 (Ta _ e))
 have t8:IsPair k8 k5.objs.size x y:=s8.extBut _ _ (Qd3 zl) (s7.extBut _ _ (Qd3 zl) (Qau _ rfl))
 have e8:k8.objs.size=k5.objs.size+1:=by rw[s8.1,s7.1,Qcu]
 rw[sz]at z8 t8 e8
 refine wpAny_pure ⟨_,rfl,?_⟩
 show Q (.ref k5.objs.size) _
 rw[sz]
 exact hQ x y k8 tk4 px py z8 (up _ _ Z.oz X7) (D1.frame _ _ _ s15 λc hc o e=>up c o (nm hc Z.z1) e) (D2.frame _ _ _ s25 λc hc o e=>up c o (nm hc Z.z2) e) t8 e8 λc o c1 c2 c3 c4 e=>up c o c1 (kp c o c1 c2 c3 c4 e)
theorem IG{Q:Fin->Shared->Prop}(D1:Draws prog w A i1 f1 n1 P1 S1)(Z:ZA z TI TO i1 i2 f1 f2)
  (hz:IsZip s.heap z TI TO .none) (QZ:IsPair s.heap TI (.ref i1) (.ref i2)) (Td:IsPair s.heap TO a b) (h1:S1 n1 s.heap)
  (hE:∀h' e,(∀c o,c≠z->c≠TO->c≠i1->c≠i2->s.heap.get? c=some o->h'.get? c=some o)->(∃o,h'.get? e=some o/\o.cls= .type "StopIteration")->E (.ref e) { s with heap:=h' }):
  wpAny 94 A (Builtin.«zip.__next__» ⟨[.ref z],[]⟩) Q E s:=by
 obtain ⟨hp,g,d,tk0,os⟩:=s
 have i1z:=nm Z.m1 Z.z1
 refine wpAny_bind (m:=field (.ref z) 2) (wpAny_field hz rfl (x:= .bool false) rfl ?_)
 refine wpAny_bind (m:=field (.ref z) 3) (wpAny_field hz rfl (x:= .ref TI) rfl ?_)
 refine wpAny_bind (m:=seqItems? (.ref TI)) (wpAny_seqItems QZ rfl ?_)
 refine wpAny_bind (m:=Builtin.SmallTypes.ownedTupleIsFree (.ref z)) ?_
 (unfold Builtin.SmallTypes.ownedTupleIsFree;refine wpAny_bind (m:=field (.ref z) 0) (wpAny_field hz rfl (x:= .none) rfl (wpAny_pure ?_)))
 simp only[if_true]
 walk_at"W"
 refine wpAny_bind (wpAny_setField_rec hz (by simp) λk1 Q0 G8=>?_)
 replace Q0:IsZip k1 z TI TO .ellipsis:=Q0
 replace G8:Heap.SameBut z hp k1:=G8
 refine wpAny_bind ?_;simp only[Qgq,List.zipIdx_nil,Qdy,List.forIn_nil]
 refine wpAny_bind (wpAny_bind (wpAny_onRaise ?_));refine wpAny_bind (m:=Builtin.SmallTypes.nextOf (.ref i1)) ?_
 refine D1.done _ _ _ (D1.frame _ _ _ h1 λc hc o e=>G8.extBut _ _ (nm hc Z.z1) e) λk2 e LD he=>?_
 obtain ⟨oe,ZR,hce⟩:=he
 have z2:IsZip k2 z TI TO .ellipsis:=LD _ _ (Ne.symm i1z) Q0
 have ez:e≠z:=λx=>by subst x;rw[z2]at ZR;cases ZR;simp at hce
 refine wpAny_setField_rec z2 (by simp) λk3 _ LF=>hE k3 e (λc o c1 _ c3 _ x=>LF.extBut _ _ c1 (LD _ _ c3 (G8.extBut _ _ c1 x))) ⟨oe,LF.extBut _ _ ez ZR,hce⟩
theorem Cr(D1:Draws prog w A.in1 i1 f1 n1 P1 S1)(D2:Draws prog w A.in1 i2 f2 n2 P2 S2)(Z:ZA z TI TO i1 i2 f1 f2)
  (hz:IsZip s.heap z TI TO .none) (QZ:IsPair s.heap TI (.ref i1) (.ref i2)) (Td:IsPair s.heap TO a b) (h1:S1 i s.heap) (h2:S2 i s.heap) (l1:i<n1) (l2:i<n2)
  (hQ:∀x y h' tk,P1 i x->P2 i y->IsZip h' z TI TO (rawInt s.heap.objs.size)->IsPair h' TO x y->S1 (i+1) h'->S2 (i+1) h'->IsPair h' s.heap.objs.size x y->h'.objs.size=s.heap.objs.size+1->
   (∀c o,c≠z->c≠TO->c≠i1->c≠i2->s.heap.get? c=some o->h'.get? c=some o)->Q (some (.ref s.heap.objs.size)) { s with heap:=h',toks:=tk }):
  wpAny 94 A (pyNext (.ref z)) Q E s:=by
 have hT:s.TypeIs (.ref z) "zip":=⟨_,hz,rfl⟩
 unfold pyNext
 exact wpAny_bind (wpAny_attempt (wpAny_callSpecial?_slot (name:=Str.ofString "__next__") hT F.slot_zip_next (wpAny_call_entry F.slot_zip_next hT F.entry_zip_next
   (FK D1 D2 Z hz QZ Td h1 h2 l1 l2 λx y h' tk p1 p2 a1 a2 a3 a4 a5 a6 a7=>wpAny_pure (hQ x y h' tk p1 p2 a1 a2 a3 a4 a5 a6 a7)) (F.args_zip_next_1 _))))
theorem FL(D1:Draws prog w A.in1 i1 f1 n1 P1 S1)(Z:ZA z TI TO i1 i2 f1 f2)
  (hz:IsZip s.heap z TI TO .none) (QZ:IsPair s.heap TI (.ref i1) (.ref i2)) (Td:IsPair s.heap TO a b) (h1:S1 n1 s.heap)
  (hQ:∀h',(∀c o,c≠z->c≠TO->c≠i1->c≠i2->s.heap.get? c=some o->h'.get? c=some o)->Q none { s with heap:=h' }):wpAny 94 A (pyNext (.ref z)) Q E s:=by
 have hT:s.TypeIs (.ref z) "zip":=⟨_,hz,rfl⟩
 unfold pyNext
 refine wpAny_bind (wpAny_attempt (wpAny_callSpecial?_slot (name:=Str.ofString "__next__") hT F.slot_zip_next (wpAny_call_entry F.slot_zip_next hT F.entry_zip_next (IG D1 Z hz QZ Td h1 λh' e hk he=>?_) (F.args_zip_next_1 _))))
 obtain ⟨o,ho,hc⟩:=he
 refine wpAny_bind (wpAny_isInstance (T:="StopIteration") (b:=true) ⟨o,ho,hc⟩ isSubtype_stop (wpAny_pure (hQ _ hk)))
end
structure ZS(P:Program)(w:World)(K:c7)(a it:Addr)(Sq:Hp->List V->Prop)(IT:Nat->Heap->Prop):Prop where
 obj:∀i h,IT i h->∃o,h.get? it=some o/\∀v,o.data≠ .cell v
 keep:∀i h h',IT i h->(∀o,h.get? it=some o->h'.get? it=some o)->IT i h'
 inj:∀(X:Cx),X.K=K->∀(pins:List 126) (s:Shared) (σ:St) (H:Hp),Inv X pins σ H s->∀xs ys,Sq H xs->Sq H ys->xs=ys
 draws:∀(X:Cx),X.prog=P->X.w=w->X.K=K->X.calm=true->∀(pins:List 126) (s:Shared) (σ:St) (H:Hp),Inv X pins σ H s->∀xs,Sq H xs->a≠it->
  ∃(aJ:List Value) (SS:Nat->Heap->Prop),Vals xs aJ/\Draws P w X.A.in1 it [it,a] (aJ:) (λi v=>aJ[i]? =some v) SS/\(∀i,IT i s.heap->SS i s.heap)/\∀i h,SS i h->IT i h
theorem IH{P:Program}{w:World}{K:c7}(a it:Addr):ZS P w K a it (λH xs=>bY K H a xs) (λi h=>h.IsTupleIter it a i) where
 obj:=λi h st=>by
  obtain ⟨o,ho,hc,hd⟩:=st
  exact ⟨o,ho,λv z=>by rw[hd]at z;cases z⟩
 keep:=λi h h' st k=>by
  obtain ⟨o,ho,r⟩:=st
  exact ⟨o,k o ho,r⟩
 inj:=λX hK pins s σ H I xs ys h1 h2=>by subst hK;exact I.ph h1 h2
 draws:=λX hP hw hK hc pins s σ H I xs hq ne=>by
  subst hP hw hK
  obtain ⟨aJ,rv,p,_⟩:=I.tuple hq
  have D:=ka (prog:=X.prog) (w:=X.w) (A:=X.A.in1) (I.ok.hd hc) it a ne aJ.toArray
  refine ⟨aJ,λi h=>h.IsTupleIter it a i/\h.IsTuple a aJ.toArray,rv,?_,λi h=>⟨h,p⟩,λi h z=>z.1⟩
  have e:aJ.toArray.size=(aJ:):=Qao
  rw[<-e]
  refine ⟨D.live,D.frame,λi s Q E hi st q=>D.item i s Q E hi st λx h' tk hx=>q x h' tk (by simpa using hx),D.done⟩
noncomputable def Tf(vA vB:Hp->List V->Prop):It:=⟨λi H=>∃xs ys x y,vA H xs/\vB H ys/\xs[i]? =some x/\ys[i]? =some y,λi H x H'=>∃T u v,(∀xs,vA H xs->xs[i]? =some u)/\(∀ys,vB H ys->ys[i]? =some v)/\x= .ref T/\H T=none/\H'=upd H T (.tup [u,v]),λi H=>∃xs,vA H xs/\(∃ys,vB H ys)/\(xs:)=i⟩
theorem II{P:Program}{w:World}{K:c7}{elts:List Expr}{k:Nat}{pos:Pos}{a1 a2 z TI TO i1 i2:Addr}{I1 I2:Nat->Heap->Prop}
  (W1:ZS P w K a1 i1 vA I1) (W2:ZS P w K a2 i2 vB I2) (Z:ZA z TI TO i1 i2 [i1,a1] [i2,a2]) (n1:a1≠i1) (n2:a2≠i2):
  Turn P w K (.Tuple elts k pos) (Tf vA vB) [z,TI,TO,i1,i2] z (λi h=>IsZip h z TI TO .none/\IsPair h TI (.ref i1) (.ref i2)/\(∃a b,IsPair h TO a b)/\I1 i h/\I2 i h) where
 mem:=by simp
 obj:=λi h st b hb=>by
  obtain ⟨q1,q2,⟨a,b',q3⟩,q4,q5⟩:=st
  simp only[Qaq,Qav,or_false]at hb
  rcases hb with g | g | g | g | g<;>rw[g]
  ·exact ⟨_,q1,λv z=>by cases z⟩
  ·exact ⟨_,q2,λv z=>by cases z⟩
  ·exact ⟨_,q3,λv z=>by cases z⟩
  ·exact W1.obj i h q4
  ·exact W2.obj i h q5
 keep:=λi h h' st kp=>by
  obtain ⟨q1,q2,⟨a,b',q3⟩,q4,q5⟩:=st
  exact ⟨kp z (by simp) _ q1,kp TI (by simp) _ q2,⟨a,b',kp TO (by simp) _ q3⟩,W1.keep _ _ _ q4 λo e=>kp i1 (by simp) o e,W2.keep _ _ _ q5 λo e=>kp i2 (by simp) o e⟩
 item:=by
  walk_at"a"
  obtain ⟨q1,q2,⟨a,b',q3⟩,q4,q5⟩:=st
  obtain ⟨xs,ys,x,y,hx,hy,gx,gy⟩:=hg
  obtain ⟨xi,SX,rx,DX,ux,vx⟩:=W1.draws X hP hw hK hc pins s σ H I xs hx n1
  obtain ⟨yi,SY,ry,DY,uy,vy⟩:=W2.draws X hP hw hK hc pins s σ H I ys hy n2
  obtain ⟨u0,hu,ru⟩:=rx.get gx
  obtain ⟨w0,Wm,rw0⟩:=ry.get gy
  have ij1:=W1.inj X hK pins s σ H I
  have ij2:=W2.inj X hK pins s σ H I
  subst hP hw hK
  refine Cr DX DY Z q1 q2 q3 (ux i q4) (uy i q5) (Qz.mp hu).1 (Qz.mp Wm).1 λx2 y2 h' tk p1 p2 e1 e2 e3 e4 e5 e6 e7=>⟨_,rfl,?_⟩
  have ex:x2=u0:=Qal (p1.symm.trans hu)
  have ey:y2=w0:=Qal (p2.symm.trans Wm)
  subst ex
  subst ey
  have lt:∀{c o},s.heap.get? c=some o->s.heap.objs.size≠c:=λe=>Qd3 (Qay e)
  obtain ⟨o1,g1⟩:=DX.live _ _ (ux i q4)
  obtain ⟨o2,g2⟩:=DY.live _ _ (uy i q5)
  have LB:s.heap.objs.size∉[z,TI,TO,i1,i2]:=by
   simp only[Qaq,Qav,or_false,not_or]
   exact ⟨lt q1,lt q2,lt q3,lt g1,lt g2⟩
  refine wpAny_letOwnedTupleGo_zip e1 λh2 z2 sb=>?_
  have kk:∀b o,b∉[z,TI,TO,i1,i2]->s.heap.get? b=some o->h2.get? b=some o:=λb o hb e=>by
   simp only[Qaq,Qav,or_false,not_or]at hb
   exact sb.extBut _ _ hb.1 (e7 b o hb.1 hb.2.2.1 hb.2.2.2.1 hb.2.2.2.2 e)
  have tD:h2.IsTuple s.heap.objs.size #[x2,y2]:=⟨_,sb.extBut _ _ (lt q1) e5,rfl,_,rfl⟩
  refine ⟨.ref s.heap.objs.size,upd H s.heap.objs.size (.tup [x,y]),?_,rfl,⟨s.heap.objs.size,x,y,λzs OT=>by rw[ij1 zs xs OT hx];exact gx,λzs OT=>by rw[ij2 zs ys OT hy];exact gy,rfl,I.cq.fresh (Qad _),rfl⟩,
   ⟨z2,sb.extBut _ _ Z.tz (e7 _ _ Z.tz Z.tt Z.t1 Z.t2 q2),⟨_,_,sb.extBut _ _ Z.oz e2⟩,vx _ _ (DX.frame _ _ _ e3 λc hc o e=>sb.extBut _ _ (nm hc Z.z1) e),vy _ _ (DY.frame _ _ _ e4 λc hc o e=>sb.extBut _ _ (nm hc Z.z2) e)⟩,λb hb=>?_⟩
  ·refine I.nK (t':=tk) (h':=h2) kk hf (Qad _) ?_
   exact ⟨by show 2<=sizeLine;decide,[x2,y2],.cons ru (.cons rw0 .nil),tD⟩
  ·rw[aA (λq:b=s.heap.objs.size=>LB (q▸hb))];exact (hf b hb).1
 done:=by
  walk_at"a"
  obtain ⟨q1,q2,⟨a,b',q3⟩,q4,q5⟩:=st
  obtain ⟨xs,hx,⟨ys,hy⟩,el⟩:=hg
  obtain ⟨xi,SX,rx,DX,ux,vx⟩:=W1.draws X hP hw hK hc pins s σ H I xs hx n1
  have hl:=(rx:)
  subst hP hw hK
  have e0:i=(xi:):=by lia
  subst e0
  refine FL DX Z q1 q2 q3 (ux _ q4) λh' hk=>⟨rfl,I.rK (t':=s.toks) (ch:=[z,TI,TO,i1,i2]) (λb o hb e=>?_) hf⟩
  simp only[Qaq,Qav,or_false,not_or]at hb
  exact hk b o hb.1 hb.2.2.1 hb.2.2.2.1 hb.2.2.2.2 e
 self:=λ_ _ s _ _ st h=>wpAny_pyIter_zip st.1 h
noncomputable abbrev Wn(h:Heap)(c:String)(l:Addr):Heap:=h.push { cls:= .type c,data:= .fields #[.ref l,.int 0 0] }
noncomputable abbrev X8(h:Heap)(c d:String)(l m:Addr):Heap:=Wn (Wn h c l) d m
noncomputable abbrev X9(h:Heap)(c d:String)(l m:Addr):Heap:=(X8 h c d l m).push { cls:= .type "tuple",data:= .seq #[.ref h.objs.size,.ref (Wn h c l).objs.size] }
noncomputable abbrev Wo(h:Heap)(c d:String)(l m:Addr):Heap:=(X9 h c d l m).push { cls:= .type "tuple",data:= .seq #[.none,.none] }
noncomputable abbrev Q6(h:Heap)(c d:String)(l m:Addr):Heap:=(Wo h c d l m).push { cls:= .type "zip",data:= .fields #[.none,.bool false,.bool false,.ref (X8 h c d l m).objs.size,.ref (X9 h c d l m).objs.size] }
theorem As(l m:Addr)(xs ys:Array Value):Meets (Builtin.«zip.__new__» ⟨[.type "zip",.ref l,.ref m],[]⟩) (λ_ R s=>s.heap.IsTuple l xs/\s.heap.IsTuple m ys/\R (.ok (.ret (.ref (Wo s.heap "tuple_iterator" "tuple_iterator" l m).objs.size))) { s with heap:=Q6 s.heap "tuple_iterator" "tuple_iterator" l m }):=
 .of_wp λprog w A R s h=>by
  obtain ⟨hp,g,d,tk,os⟩:=s;obtain ⟨q1,q2,h⟩:=h;have ZN:=sub_zip
  have k1:Heap.IsTuple (Shared.heap ⟨hp,g,d,tk,os⟩) l xs:=q1
  have k2:Heap.IsTuple (Shared.heap ⟨hp.push { cls:= .type "tuple_iterator",data:= .fields #[.ref l,.int 0 0] },g,d,tk,os⟩) m ys:=by
   obtain ⟨o,e,r⟩:=q2
   exact ⟨o,Ta _ e,r⟩
  wp_walk using wpAny_pyIter_tuple k1,wpAny_pyIter_tuple k2
  exact ⟨_,rfl,h⟩
def ZMk(c d:String)(P1 P2:Heap->Prop)(l m:Addr):Prop:=∀(prog:Program) (w:World) (A:Around) (E:Value->Shared->Prop) (s:Shared) (Q:Value->Shared->Prop),P1 s.heap->P2 s.heap->(∀h',IsZip h' (s.heap.objs.size+4) (s.heap.objs.size+2) (s.heap.objs.size+3) .none->IsPair h' (s.heap.objs.size+2) (.ref s.heap.objs.size) (.ref 133)->IsPair h' (s.heap.objs.size+3) .none .none->h'.get? s.heap.objs.size=some { cls:= .type c,data:= .fields #[.ref l,.int 0 0] }->h'.get? 133=some { cls:= .type d,data:= .fields #[.ref m,.int 0 0] }->(∀b o,s.heap.get? b=some o->h'.get? b=some o)->Q (.ref (s.heap.objs.size+4)) { s with heap:=h' })->wpAny 94 A (call (.type "zip") [.ref l,.ref m]) Q E s
theorem Q7{c d:String}{P1 P2:Heap->Prop}{l m:Addr}(M:Meets (Builtin.«zip.__new__» ⟨[.type "zip",.ref l,.ref m],[]⟩) (λ_ R s=>P1 s.heap/\P2 s.heap/\R (.ok (.ret (.ref (Wo s.heap c d l m).objs.size))) { s with heap:=Q6 s.heap c d l m })):ZMk c d P1 P2 l m:=by
 intro prog w A E s Q p1 p2 h
 refine callType_new F.called_zip ∅ (F.typeCall_zip_2 _ _) (F.newCall_zip_2 _ _) (λob=>F.args_object_init_3 ob _ _) F.entry_zip_new M ⟨p1,p2,?_⟩
 have e1:(Wn s.heap c l).objs.size=s.heap.objs.size+1:=Qcu ..
 have e2:(X8 s.heap c d l m).objs.size=s.heap.objs.size+2:=by rw[Qcu,e1]
 have e3:(X9 s.heap c d l m).objs.size=s.heap.objs.size+3:=by rw[Qcu,e2]
 have e4:(Wo s.heap c d l m).objs.size=s.heap.objs.size+4:=by rw[Qcu,e3]
 have g5:(Q6 s.heap c d l m).get? (Wo s.heap c d l m).objs.size=some _:=Qau _ rfl
 have g4:(Q6 s.heap c d l m).get? (X9 s.heap c d l m).objs.size=some _:=Ta _ (Qau _ rfl)
 have g3:(Q6 s.heap c d l m).get? (X8 s.heap c d l m).objs.size=some _:=Ta _ (Ta _ (Qau _ rfl))
 have g2:(Q6 s.heap c d l m).get? (Wn s.heap c l).objs.size=some _:=Ta _ (Ta _ (Ta _ (Qau _ rfl)))
 have g1:(Q6 s.heap c d l m).get? s.heap.objs.size=some _:=Ta _ (Ta _ (Ta _ (Ta _ (Qau _ rfl))))
 show _/\_
 rw[e2,e3,e4]at g5
 rw[e1,e2]at g3
 rw[e3]at g4
 rw[e1]at g2
 rw[e4]
 exact ⟨⟨_,g5,rfl⟩,h _ g5 g3 g4 g1 g2 λb o x=>Ta _ (Ta _ (Ta _ (Ta _ (Ta _ x))))⟩
theorem Tg{a b c:Nat}(h1:a≠b)(h2:a≠c):(a:Addr)∉([b,c]:List Addr):=λh=>by
 rcases Qaq.mp h with e | e
 ·exact h1 e
 ·exact h2 (Qab.mp e)
theorem Wq{a b:Nat}(h:a≠b):(a:Addr)≠(b:Addr):=h
theorem Q8{n l m:Nat}(h1:l<n)(h2:m<n):ZA (n+4:Nat) (n+2:Nat) (n+3:Nat) n (n+1:Nat) [n,l] [(n+1:Nat),m]:=
 ⟨Qak,Qak,Tg (a:=n+4) (b:=n) (c:=l) () (),Tg (a:=n+4) (b:=n+1) (c:=m) () (),Tg (a:=n+3) (b:=n) (c:=l) () (),Tg (a:=n+3) (b:=n+1) (c:=m) () (),
  Tg (a:=n) (b:=n+1) (c:=m) () (),Tg (a:=n+1) (b:=n) (c:=l) () (),Wq (a:=n+2) (b:=n+4) (),Wq (a:=n+2) (b:=n+3) (),Wq (a:=n+2) (b:=n) (),Wq (a:=n+2) (b:=n+1) (),Wq (a:=n+3) (b:=n+4) ()⟩
end
def Wr(vA vB:Addr->Hp->List V->Prop)(ta:TA):TI:=λσ H R=>ta σ H λvs H1=>∃a b,vs=[.ref a,.ref b]/\(∃xs,vA a H1 xs)/\(∃ys,vB b H1 ys)/\R (Tf (vA a) (vB b)) H1
abbrev Ws(K:c7):Addr->Hp->List V->Prop:=λa H xs=>bY K H a xs
section
variable{X:Cx}{elts:List Expr}{k:Nat}{pos':Pos}{a b:Expr}{ta:TA}{p pos:Pos}
theorem MF{vA vB:Addr->Hp->List V->Prop}(hg:Gl X "zip")(hm:X.mg "zip"=none)(ha:PA X [a,b] ta)(hs:starEach [a,b] X.env=[(false,eval a X.env),(false,eval b X.env)])(Lv:starEach [b] X.env=[(false,eval b X.env)])
  (hk:∀(pins:List 126) (s:Shared) (σ:St) (H:Hp),Inv X pins σ H s->∀u v xs ys,vA u H xs->vB v H ys->u<s.heap.objs.size/\v<s.heap.objs.size/\∃(c d:String) (P1 P2:Heap->Prop) (I1 I2:Nat->Heap->Prop),ZMk c d P1 P2 u v/\P1 s.heap/\P2 s.heap/\
   ZS X.prog X.w X.K u s.heap.objs.size (vA u) I1/\ZS X.prog X.w X.K v (s.heap.objs.size+1) (vB v) I2/\(∀h':Heap,h'.get? s.heap.objs.size=some { cls:= .type c,data:= .fields #[.ref u,.int 0 0] }->I1 0 h')/\∀h':Heap,h'.get? (s.heap.objs.size+1)=some { cls:= .type d,data:= .fields #[.ref v,.int 0 0] }->I2 0 h'):
  PI X (.Tuple elts k pos') (.Call (.Name "zip" p) [a,b] [] pos) (Wr vA vB ta):=by
 walk_at"K"
 refine Call_ (iA I hg hm boot_zip (Qcc (cA (ha pos pins s σ H _ I h) λus s1 ⟨vs,H1,I1,r1,q1⟩=>?_) (by rw[hs,Lv]) (by rw[Lv];rfl)))
 obtain ⟨u,v,rfl,⟨xs,hx⟩,⟨ys,hy⟩,q⟩:=q1
 obtain ⟨u',v',rfl,ru,rv⟩:=vals2 r1
 cases ru
 cases rv
 obtain ⟨lu,lv,c,d,P1,P2,J1,J2,M,p1,p2,W1,W2,j1,j2⟩:=hk pins s1 σ H1 I1 u v xs ys hx hy
 refine M X.prog X.w X.A X.xe s1 _ p1 p2 λh' z1 z2 z3 z4 z5 kk=>wpAny_pyIter_zip z1 ?_
 refine ⟨s1.heap.objs.size+4,[s1.heap.objs.size+4,s1.heap.objs.size+2,s1.heap.objs.size+3,s1.heap.objs.size,s1.heap.objs.size+1],_,_,H1,rfl,I1.kept (t':=s1.toks) kk,II W1 W2 (Q8 lu lv) (Qa6 lu) (Qa6 (Qcv lv)),⟨z1,z2,⟨_,_,z3⟩,j1 h' z4,j2 h' z5⟩,λe he=>?_,q⟩
 have Wt:s1.heap.objs.size<=e:=by
  simp only[Qaq,Qav,or_false]at he
  rcases he with g | g | g | g | g<;>rw[g]<;>lia
 exact I1.sG Wt (I1.cq.fresh Wt)
theorem tG(K:c7)(hK:X.K=K)(hg:Gl X "zip")(hm:X.mg "zip"=none)(ha:PA X [a,b] ta)(hs:starEach [a,b] X.env=[(false,eval a X.env),(false,eval b X.env)]:=by rfl)(Lv:starEach [b] X.env=[(false,eval b X.env)]:=by rfl):PI X (.Tuple elts k pos') (.Call (.Name "zip" p) [a,b] [] pos) (Wr (Ws K) (Ws K) ta):=by
 subst hK
 refine MF hg hm ha hs Lv λpins s σ H I u v xs ys hx hy=>?_
 obtain ⟨xi,_,px,_⟩:=I.tuple hx
 obtain ⟨yi,_,py,_⟩:=I.tuple hy
 obtain ⟨ox,ex,_⟩:=id px
 obtain ⟨oy,ey,_⟩:=id py
 exact ⟨Qay ex,Qay ey,_,_,(λh=>h.IsTuple u xi.toArray),(λh=>h.IsTuple v yi.toArray),_,_,Q7 (As u v xi.toArray yi.toArray),px,py,IH u _,IH v _,λh' e=>⟨_,e,rfl,rfl⟩,λh' e=>⟨_,e,rfl,rfl⟩⟩
end
variable{xs ys:List V}
theorem MG{g:TG}{tb:TS}{D:Ends}{σ:St}{H:Hp}(Pv:Nat->St->Hp->Prop)(hlen:(xs:)=(ys:))(h0:Pv 0 σ H)(hl:∀i σ H,i<=(xs:)->Pv i σ H->vA H xs/\vB H ys)
  (hs:∀i x y σ H T,xs[i]? =some x->ys[i]? =some y->Pv i σ H->H T=none->g (.ref T) σ (upd H T (.tup [x,y])) λσ2 H2=>tb { D with nx:=Pv (i+1),ct:=Pv (i+1),bk:=D.nx } σ2 H2) (hd:∀σ H,Pv (xs:) σ H->D.nx σ H):
  ∃W:Nat->Nat->St->Hp->Prop,(∃m,W 0 m σ H)/\∀i m σ H,W i m σ H->
   ((Tf vA vB).stop i H/\D.nx σ H)\/((Tf vA vB).go i H/\∃N:St->Hp->Prop,135/\∀x H',(Tf vA vB).G3 i H x H'->g x σ H' λσ2 H2=>tb { D with nx:=N,ct:=N,bk:=D.nx } σ2 H2):=by
 walk_at"d"
 rintro i m σ H ⟨rfl,hi,p⟩
 obtain ⟨q1,q2⟩:=hl i σ H hi p
 by_cases cH:i<(xs:)
 ·have Q9:i<(ys:):=by lia
  refine .inr ⟨⟨xs,ys,xs[i],ys[i],q1,q2,by simp[cH],by simp[Q9]⟩,Pv (i+1),λσ' H' p'=>⟨(xs:) - (i+1),(),rfl,cH,p'⟩,λx H' y=>?_⟩
  obtain ⟨T,u,v,hu,hv,rfl,hn,rfl⟩:=y
  exact hs i u v σ _ T (hu xs q1) (hv ys q2) p hn
 ·have e:i=(xs:):=by lia
  subst e
  exact .inl ⟨⟨xs,q1,⟨ys,q2⟩,rfl⟩,hd σ H p⟩
theorem Au{σc:St}{g:TG}{tc:TT}{te:TE}{Q:VK}{H1:Hp}(Pv:Nat->List V->Hp->Prop)(hlen:(xs:)=(ys:))(hn:(xs:)<sizeLine)(hl:∀i acc H,Pv i acc H->vA H xs/\vB H ys)(h0:Pv 0 [] H1)
  (hs:∀(i:Nat) (x y:V) (acc:List V) (H:Hp) (T:Addr) (Nx:List V->Hp->Prop),xs[i]? =some x->ys[i]? =some y->(acc:)<=i->Pv i acc H->H T=none->(∀dD H',(dD:)<=i+1->Pv (i+1) dD H'->Nx dD H')->
   g (.ref T) σc (upd H T (.tup [x,y])) λσ2 H2=>Wk σc σ2/\tc σ2 H2 λb H3=>if b=true then te σ2 H3 λv H4=>Nx (acc++[v]) H4 else Nx acc H3)
  (hd:∀acc H D,(acc:)<=(xs:)->Pv (xs:) acc H->H D=none->Q (.ref D) (upd H D (.lst acc))):sQ (Tf vA vB) σc g tc te Q H1:=by
 refine ⟨λi m acc H=>m=(xs:) - i/\i<=(xs:)/\(acc:)<=i/\Pv i acc H,⟨(xs:),by simp,Qax _,Qad _,h0⟩,?_⟩
 rintro i m acc H ⟨rfl,hi,lF,p⟩
 obtain ⟨q1,q2⟩:=hl i acc H p
 refine ⟨(),?_⟩
 by_cases cH:i<(xs:)
 ·have Q9:i<(ys:):=by lia
  refine .inr ⟨⟨xs,ys,xs[i],ys[i],q1,q2,by simp[cH],by simp[Q9]⟩,λx H' y=>?_⟩
  obtain ⟨T,u,v,hu,hv,rfl,hT,rfl⟩:=y
  exact hs i u v acc _ T (λdD H'=>∃m',m'<(xs:) - i/\(m'=(xs:) - (i+1)/\i+1<=(xs:)/\(dD:)<=i+1/\Pv (i+1) dD H')) (hu xs q1) (hv ys q2) lF p hT λdD H' h1 h2=>⟨(xs:) - (i+1),(),rfl,cH,h1,h2⟩
 ·have e:i=(xs:):=by lia
  subst e
  exact .inl ⟨⟨xs,q1,⟨ys,q2⟩,rfl⟩,λD hD=>hd acc H D lF p hD⟩
end L2
namespace L2
open PySem PySem.Spec PyProof.Rows PySem.MeetsSeq PySem.SeqAt
end L2
namespace XL
open PySem PySem.Spec PySem.Calls PyProof.Rows PySem.W Builtin Builtin.ObjectAttr
end XL
namespace XL
open PySem PySem.Spec PySem.Calls PyProof.Rows PySem.W
end XL
namespace L2
open PySem PySem.Spec PyProof.Rows XL
noncomputable def inC(s:Stmt)(j:Nat):Stmt:=match s with
 | .ClassDef _ _ _ b _ _ _ _ _ _ _=>b.getD j (.Pass ⟨0,0,0,0⟩)
 | _=> .Pass ⟨0,0,0,0⟩
def Wu(_ j:Int):Prop:=0<j/\j<18446744073709551616
theorem fO{X:Cx}:jY X (binaryOp .FloorDiv) (rI Wu λi j=> .int (i / j)):=X0 λi j _ _ _ _ _ hc q=>by
 have h1:(0:Int)<j:=hc.1
 have h2:j<18446744073709551616:=hc.2
 have h3:j.natAbs<2 ^ 64:=by lia
 exact floordiv_int () (by rw[Int.fdiv_eq_ediv_of_nonneg i ()];exact q) (.inl (PyProof.noPylong_of_log2 (Qd5 ((Nat.log2_lt ()).mpr h3) ∅)))
end L2
namespace PySem
end PySem
namespace L2
open PySem PySem.Spec PyProof.Rows
end L2
namespace L2.F3
open PySem PySem.Spec PyProof.Rows
end L2.F3
namespace L2
open PySem PySem.Spec PyProof.Rows
section
variable{X:Cx}
noncomputable def dg(n:Nat):c0:=((toString (n:Int):String):Str).cps.toList
theorem ZT(n:Nat):((toString (n:Int):String):Str)=S (dg n):=V0 _
theorem FN{n:Nat}(h:n<2 ^ 60):((n:Int)).natAbs.log2<1920:=by
 rw[Int.natAbs_natCast]
 by_cases z:n=0
 ·subst z;decide
 ·exact (Nat.log2_lt z).mpr (Qbd h (Nat.pow_le_pow_right ∅ ∅))
theorem FO:dA X (.type "str") (λxs H Q=>∃n:Nat,xs=[.int n]/\n<2 ^ 60/\Q (.str (S (dg n))) H):=by
 walk_at"e"
 obtain ⟨n,rfl,hz,q⟩:=h
 refine xY pins s σ H _ us Q I r ⟨n,rfl,FN hz,?_⟩
 rw[ZT]
 exact q
end
theorem Av:typeLookup (.type "dict") "__len__"=pure (some (.builtin "dict.__len__")):=PySem.F.slot_dict_len.lookup
section
variable{prog:Program}{w:World}{A:Around}{E:Value->Shared->Prop}{s:Shared}{KK:Type}[DecidableEq KK]{knd:PySem.KeyKind prog w KK}
theorem yn{Q:List Value->Shared->Prop}(hh:A.handled=none)(d:Addr)(aN:List (KK×Value))(ep:Nat)(hd:(d==sysModules)=false)(hm:s.heap.DictAt knd d aN ep)(hn:(aN:)<=sizeLine)
  (hQ:∀s' acc,(∀b o,s.heap.get? b=some o->s'.heap.get? b=some o)->s'.gens=s.gens->s'.drawn=s.drawn->s'.os=s.os->ItemsOf (λi v=>∃k x,aN[i]? =some (k,x)/\knd.is k v=true) acc (aN:)->Q acc.toList s'):
  wpAny 94 A (collect (.ref d)) Q E s:=by
 have hT:s.TypeIs (.ref d) "dict":=hm.dictOf.typeIs
 obtain ⟨od,Wv,aaL⟩:=id hT
 have Ww:=Qay Wv
 unfold collect
 refine wpAny_bind (wpAny_runValue (codeAny_builtin PySem.F.entry_proto_collect ?_))
 rw[Around.under_plainId PySem.F.plain_proto_collect _]
 show wpAny _ A.in1 (newList [] >>= λl=>again (.builtin "list.__iadd__" ⟨[l,.ref d],[]⟩)) _ _ s
 refine wpAny_bind (wpAny_newObj_type ?_)
 refine wpAny_pure ⟨plainId_quiet PySem.F.plain_list_iadd _,codeAny_builtin PySem.F.entry_list_iadd ?_⟩
 rw[Around.under_plainId PySem.F.plain_list_iadd _]
 show wpAny _ A.in1 (Builtin.List.listExtendWith (.ref s.heap.objs.size) (.ref d) (.ref s.heap.objs.size)) _ _ _
 generalize hH:s.heap.push { cls:= .type "list",data:= .seq ([]:List Value).toArray }=H
 have ZU:H.objs.size=s.heap.objs.size+1:=by rw[<-hH,Qcu]
 have G9:H.DictAt knd d aN ep:=hm.at' λo e=>by rw[<-hH];exact Ta _ e
 have hT1:Shared.TypeIs { s with heap:=H } (.ref d) "dict":=G9.dictOf.typeIs
 have ZV:s.heap.objs.size≠d:=Qd3 Ww
 unfold Builtin.List.listExtendWith
 refine wpAny_bind (wpAny_typeOf hT1 ?_)
 have h1:Builtin.List.listSameRef (.ref s.heap.objs.size) (.ref d)=false:=by simp[Builtin.List.listSameRef,ZV]
 rw[if_neg (by rw[h1];decide)]
 refine wpAny_bind (wpAny_pyIter_dict (s:={ s with heap:=H }) hd G9 ?_)
 show wpAny _ A.in1 _ _ _ { s with heap:=H.push { cls:= .type "dict_keyiterator",data:= .fields #[.ref d,.int 0 0,.int (aN:) 0,.int ep 0] } }
 generalize OJ:H.push { cls:= .type "dict_keyiterator",data:= .fields #[.ref d,.int 0 0,.int (aN:) 0,.int ep 0] }=H2
 have tH:H2.DictAt knd d aN ep:=G9.at' λo e=>by rw[<-OJ];exact Ta _ e
 have ZW:Shared.TypeIs { s with heap:=H2 } (.ref d) "dict":=tH.dictOf.typeIs
 refine wpAny_bind (wpAny_holding ?_)
 unfold Builtin.List.listLengthHint
 refine wpAny_bind (wpAny_specialOf ZW Av ?_)
 wp_delta
 refine wpAny_bind (wpAny_isInstance (T:="dict") (b:=true) ZW (by rw[isSubtype_type];kernel_rfl) ?_)
 show wpAny _ A.in1 (typeOf (Value.ref d) >>= _) _ _ _
 refine wpAny_bind (wpAny_typeOf ZW ?_)
 refine wpAny_pure ?_
 rw[if_pos ⋯]
 refine wpAny_bind (wpAny_rule ?_)
 refine wpAny_bind ?_
 unfold Builtin.List.listTouch
 have hS:H2.get? s.heap.objs.size=some { cls:= .type "list",data:= .seq ([]:List Value).toArray }:=by
  rw[<-OJ];exact Ta _ (by rw[<-hH];exact Qau _ rfl)
 refine wpAny_bind (wpAny_updateSeq hS rfl ?_ (Qax _) (Qdg (Qax _)))
 have hS2:=Qc1 (Obj.mapSeq (λl:Array Value=>l.push .none)) hS rfl
 refine wpAny_updateSeq hS2 rfl ?_ (by show 1<=sizeLine;decide) (Qax _)
 have hS3:=Qc1 (Obj.mapSeq (λl:Array Value=>l.pop)) hS2 rfl
 have ZX:∀b o,b≠s.heap.objs.size->H2.get? b=some o->((H2.update s.heap.objs.size (Obj.mapSeq (λl:Array Value=>l.push .none))).update s.heap.objs.size (Obj.mapSeq (λl:Array Value=>l.pop))).get? b=some o:=λb o hb e=>
  (Qby _ _ (Ne.symm hb)).trans ((Qby _ _ (Ne.symm hb)).trans e)
 have hit:H2.get? H.objs.size=some { cls:= .type "dict_keyiterator",data:= .fields #[.ref d,.int 0 0,.int (aN:) 0,.int ep 0] }:=by rw[<-OJ];exact Qau _ rfl
 have hIS:H.objs.size≠s.heap.objs.size:=by rw[ZU];exact Qfj _
 have hdI:d≠H.objs.size:=by rw[ZU];exact Qa6 (Qcv Ww)
 have hSf:s.heap.objs.size∉[H.objs.size,d]:=λhmm=>by
  rcases Qaq.mp hmm with z | z
  ·exact hIS z.symm
  ·exact ZV (Qab.mp z)
 refine wpAny_pure ⟨plainId_quiet PySem.F.plain_extend_loop _,codeAny_extend_loopS (Walks.dictKeys (knd:=knd) (A:=A.in1) hh H.objs.size d hdI aN ep).toS hn _ hSf _ (aN:) 0 _ _ _ rfl (Qax _)
  ⟨⟨_,ZX _ _ hIS hit,rfl,rfl⟩,tH.at' λo e=>ZX d o (Ne.symm ZV) e⟩ hS3 (ItemsOf.nil _) λs' dD c' X_ hS' Ca=>?_⟩
 show wpAny _ A (load s.heap.objs.size >>= _) _ _ s'
 refine wpAny_bind (wpAny_load hS' ?_)
 refine wpAny_pure (hQ s' dD (λb ob e=>X_.heap b ob (λhb=>?_) (ZX b ob (Qa6 (Qay e)) (by rw[<-OJ];exact Ta _ (by rw[<-hH];exact Ta _ e)))) X_.gens X_.drawn X_.os Ca)
 have cH:=Qay e
 rcases Qaq.mp hb with h | h
 ·exact absurd cH (h▸Qbw _)
 ·rw[Qab.mp h,ZU]at cH;exact absurd cH (Nat.not_lt.mpr (Qdo _))
end
section
variable{X:Cx}
theorem DU{aN:List (Key×V)}{vs:List (Key×Value)}(h:KV aN vs):vs.map (·.1)=aN.map (·.1):=by
 induction h with
 | nil=>rfl
 | cons r _ ih=>rw[Qas,Qas,ih,r.1]
end
end L2
namespace XL
open PySem PySem.Spec PySem.Calls PyProof.Rows PySem.W
end XL
namespace L2
open PySem PySem.Spec PyProof.Rows XL
end L2
namespace PySem
open Sem (wp)
namespace F
end F
end PySem
namespace L2
open PySem PySem.Spec PyProof.Rows
end L2
namespace L2.F2
open PySem PySem.Spec PyProof.Rows
end L2.F2
namespace L2
open PySem PySem.Spec PyProof.Rows
section
variable{X:Cx}
theorem IJ{i:Nat}(h:(i:Int)<2 ^ 63):Builtin.List.listFitsIndex (i:Int)=true:=by
 unfold Builtin.List.listFitsIndex
 rw[Qct]
 exact ⟨decide_eq_true (),decide_eq_true ()⟩
inductive w5(x:V)(vs:List V)(H:Hp)(Q:VK):Prop
 | mk (l:Addr) (xs:List V) (i:Nat) (y:V) (_:x= .ref l) (_:vs=[.int i,y]) (_:H l=some (.lst xs)) (_:i<=(xs:)) (_:(xs:)<sizeLine) (_:Q .g7 (upd H l (.lst (xs.take i++y::xs.drop i)))):w5 x vs H Q
def MH:V->List V->Hp->VK->Prop:=w5
theorem FP:S_ X "list.insert" MH:=by
 walk_at"z"
 obtain ⟨l,xs,i,y,rfl,rfl,hH,hi,hz,q⟩:=h
 cases rx
 obtain ⟨a,b,rfl,⟨t,rfl⟩,rb⟩:=vals2 rv
 walk_at"v"
 have hn:=gH
 have hf: ¬(!Builtin.List.listFitsIndex (i:Int))=true:=by rw[IJ ()];decide
 have hsz:aJ.toArray.size<=sizeLine:=by rw[Qao];lia
 generalize hI:(i:Int)=I' at hf
 have hm:=PySem.AutoSeq1.list_insert_list_int_val_1 l aJ.toArray n I' t b hf hsz
 refine call_meets F.slot_list_insert ⟨_,e,rfl⟩ F.entry_list_insert (F.args_list_insert_3 _ _ _) hm ⟨e,?_⟩
 clear hm
 refine ⟨.g7,_,I.Fv (its':=aJ.take i++b::aJ.drop i) hH e ?_ ?_ ?_,rfl,q⟩
 ·have e1:(if I'<0 then (I'+(aJ.toArray.size:Int)).toNat else min I'.toNat aJ.toArray.size)=i:=by rw[<-hI,if_neg (),Qap,Qao];lia
  show ((aJ.toArray.extract 0 (if I'<0 then (I'+(aJ.toArray.size:Int)).toNat else min I'.toNat aJ.toArray.size)).push b++aJ.toArray.extract (if I'<0 then (I'+(aJ.toArray.size:Int)).toNat else min I'.toNat aJ.toArray.size))=_
  rw[e1]
  apply Qeo.mp
  simp
  exact Qar (by rw[Qaz];exact Qad _)
 ·have h1:Vals (xs.take i) (aJ.take i):=r.take i
  exact h1.append (.cons rb (r.drop i))
 ·rw[X4,Qa9,Qai,Qaz];lia
end
end L2
namespace L2
open PySem PySem.Spec PyProof.Rows PySem.W
end L2
namespace L2
open PySem PySem.Spec PyProof.Rows PySem.MeetsSeq PySem.SeqAt
end L2
namespace L2
open PySem PySem.Spec PyProof.Rows HT
noncomputable def gal:Bool->Keyed->Array Keyed->Nat->Nat->Nat->StateT SortSt Sem (Option Nat):=sortPriv%PySem.Builtin.gallop
noncomputable def mLo:Array Keyed->Array Keyed->StateT SortSt Sem (Array Keyed):=sortPriv%PySem.Builtin.mergeLo
noncomputable def mHi:Array Keyed->Array Keyed->StateT SortSt Sem (Array Keyed):=sortPriv%PySem.Builtin.mergeHi
variable{st:SortSt}{arr:Array Keyed}{i:Nat}
section
variable{prog:Program}{w:World}{A:Around}{E:Value->Shared->Prop}{s:Shared}{κ:KeyKind}{a₀:Array Keyed}
theorem ck{Q:Keyed->SortSt->Prop}(hi:i<arr.size)(h:∀p,p∈arr.toList->arr[i]? =some p->Q p st):wpS 94 A E s (elem' arr i) Q st:=by
 have e:arr[i]? =some arr[i]:=getElem?_pos arr i hi
 rw[elem'_eq,e]
 exact wpS_pure (h _ (by simp) e)
end
variable{M:Model}
theorem aE{A:Around}{E:Value->Shared->Prop}{s:Shared}{σ α:Type}{c:Prop}[Decidable c]{m1 m2:StateT σ Sem α}{Q:α->σ->Prop}{st:σ}(h1:c->wpS M A E s m1 Q st)(h2: ¬c->wpS M A E s m2 Q st):wpS M A E s (if c then m1 else m2) Q st:=by
 by_cases g:c
 ·rw[if_pos g];exact h1 g
 ·rw[if_neg g];exact h2 g
noncomputable def sg(st:SortSt)(g:Nat):SortSt:=SortSt.mk' (kindOf st) (arrOf st) (pendingOf st) g (failedOf st)
def tI(st aT:SortSt):Prop:=∃g,aT=sg st g
theorem tI.refl(st:SortSt):tI st st:=⟨gallopOf st,rfl⟩
variable{aT:SortSt}
theorem tI.set(h:tI st aT)(g:Nat):tI st (sg aT g):=by
 obtain ⟨g0,rfl⟩:=h
 exact ⟨g,rfl⟩
def Mg(a b out:Array Keyed)(ia ib:Nat):Prop:=out.toList.Perm (a.toList.take ia++b.toList.take ib)
theorem fG{α:Type}{l:List α}{p:α}(h:l[i]? =some p):l.take (i+1)=l.take i++[p]:=by
 have:=Qz.mp h
 rw[Qef this.1,this.2]
theorem gn{α:Type}{l:List α}{p:α}(h:l[i]? =some p):l.drop i=p::l.drop (i+1):=by
 have:=Qz.mp h
 rw[Qb8 this.1,this.2]
theorem tJ{α:Type}(l:List α)(i j:Nat)(h:i<=j):l.take j=l.take i++(l.drop i).take (j - i):=by
 have:j=i+(j - i):=by lia
 conv=>lhs;rw[this,List.take_add]
theorem tK{α:Type}(l:List α)(i j:Nat)(h:i<=j):l.drop i=(l.drop i).take (j - i)++l.drop j:=by
 conv=>lhs;rw[<-Qaw (j - i) (l.drop i),List.drop_drop,show i+(j - i)=j by lia]
theorem aR{α:Type}(a:Array α)(i j:Nat):(a.extract i j).toList=(a.toList.drop i).take (j - i):=by simp[List.extract]
variable{a b out:Array Keyed}{ia ib:Nat}
theorem Mg.Ct(h:Mg a b out ia ib):(out++a.extract ia++b.extract ib).toList.Perm (a.toList++b.toList):=by
 rw[Qa1,Qa1,aR,aR,Qar (by simp),Qar (by simp)]
 refine ((h.append_right _).append_right _).trans ?_
 conv=>rhs;rw[<-Qaw ia a.toList, <-Qaw ib b.toList]
 rw[Qac,Qac,Qac]
 refine Qcd _ ?_
 rw[<-Qac, <-Qac]
 exact Qfu _ Qcw
theorem Mg.Q_(h:Mg a b out ia ib):(out++b.extract ib++a.extract ia).toList.Perm (a.toList++b.toList):=by
 refine List.Perm.trans ?_ h.Ct
 simp only[Qa1,Qac]
 exact Qcd _ Qcw
variable{p:Keyed}
theorem Mg.mI(h:Mg a b out ia ib)(hp:b[ib]? =some p):Mg a b (out.push p) ia (ib+1):=by
 unfold Mg
 rw[Qcb,fG (l:=b.toList) (by simpa using hp), <-Qac]
 exact h.append_right _
theorem Mg.mJ(h:Mg a b out ia ib)(hp:a[ia]? =some p):Mg a b (out.push p) (ia+1) ib:=by
 unfold Mg
 rw[Qcb,fG (l:=a.toList) (by simpa using hp),Qac]
 refine (h.append_right _).trans ?_
 rw[Qac]
 exact Qcd _ Qcw
theorem Mg.vC{k:Nat}(h:Mg a b out ia ib):Mg a b (out++b.extract ib (ib+k)) ia (ib+k):=by
 unfold Mg
 rw[Qa1,aR,tJ b.toList ib (ib+k) (), <-Qac]
 exact h.append_right _
theorem Mg.vD{k:Nat}(h:Mg a b out ia ib):Mg a b (out++a.extract ia (ia+k)) (ia+k) ib:=by
 unfold Mg
 rw[Qa1,aR,tJ a.toList ia (ia+k) (),Qac]
 refine (h.append_right _).trans ?_
 rw[Qac]
 exact Qcd _ Qcw
def Mh(a b out:Array Keyed)(na nb:Nat):Prop:=out.toList.Perm (a.toList.drop na++b.toList.drop nb)
variable{na nb:Nat}
theorem Mh.Ct(h:Mh a b out na nb):(a.extract 0 na++b.extract 0 nb++out.reverse).toList.Perm (a.toList++b.toList):=by
 rw[Qa1,Qa1,aR,aR,Qcy,Qcy,Qdn,Qdn,Qc4]
 refine (Qcd _ ((Qe8 _).trans h)).trans ?_
 conv=>rhs;rw[<-Qaw na a.toList, <-Qaw nb b.toList]
 rw[Qac,Qac]
 refine Qcd _ ?_
 rw[<-Qac, <-Qac]
 exact Qfu _ Qcw
theorem Mh.Q_(h:Mh a b out na nb):(b.extract 0 nb++a.extract 0 na++out.reverse).toList.Perm (a.toList++b.toList):=by
 refine List.Perm.trans ?_ h.Ct
 simp only[Qa1]
 exact Qfu _ Qcw
theorem Mh.mJ(h:Mh a b out na nb)(h1:1<=na)(hp:a[na - 1]? =some p):Mh a b (out.push p) (na - 1) nb:=by
 unfold Mh
 rw[Qcb,gn (l:=a.toList) (i:=na - 1) (by simpa using hp),show na - 1+1=na by lia,Qen]
 exact (h.append_right _).trans (Qe3 _ _)
theorem Mh.mI(h:Mh a b out na nb)(h1:1<=nb)(hp:b[nb - 1]? =some p):Mh a b (out.push p) na (nb - 1):=by
 unfold Mh
 rw[Qcb,gn (l:=b.toList) (i:=nb - 1) (by simpa using hp),show nb - 1+1=nb by lia]
 exact ((h.append_right _).trans (Qe3 _ _)).trans List.perm_middle.symm
theorem Mh.vD{k:Nat}(h:Mh a b out na nb)(hk:k<=na):Mh a b (out++(a.extract k na).reverse) k nb:=by
 unfold Mh
 have e:a.toList.drop k++b.toList.drop nb=(a.toList.drop k).take (na - k)++(a.toList.drop na++b.toList.drop nb):=by rw[<-Qac, <-tK a.toList k na hk]
 rw[Qa1,Qc4,aR,e]
 exact (h.append (Qe8 _)).trans Qcw
theorem Mh.vC{k:Nat}(h:Mh a b out na nb)(hk:k<=nb):Mh a b (out++(b.extract k nb).reverse) na k:=by
 unfold Mh
 have e:b.toList.drop k=(b.toList.drop k).take (nb - k)++b.toList.drop nb:=tK b.toList k nb hk
 rw[Qa1,Qc4,aR]
 refine (h.append (Qe8 _)).trans ?_
 conv=>rhs;rw[e]
 rw[Qac]
 exact Qcd _ Qcw
variable{n:Nat}
theorem FQ{k:Nat}(h:k<=n - ia)(h1:ia+1<n)(z1: ¬ia+k+1=n)(z2: ¬ia+k=n):ia+k+1<n:=()
theorem FR{k:Nat}(h:k<=n - (ib+1))(h1:ib<n)(z: ¬ib+1+k=n):ib+1+k<n:=()
variable{z:Nat}
theorem OU{x y:Nat}(h:i+2<=x+y)(g:y<=z):i+2<=x+1+z:=()
theorem DV{x:Nat}(h1:1<=x)(h2:x<=n):x - 1<n:=()
theorem DW{x:Nat}(h2:x<=n):x - 1<=n:=()
theorem Ra{x:Nat}(h: ¬x=0):1<=x:=()
theorem IK{x y:Nat}(h:x+y+i+2<=n)(g:z<=y):x - 1+z+i+2<=n:=()
theorem tL{α:Type}(sa:Nat):∀(l:List α) (n:Nat) (arr:Array α),sa+n+(l:)<=arr.size->
  ((l.zipIdx n).foldl (λa x=>match x with | (p,j)=>a.setIfInBounds (sa+j) p) arr).toList=arr.toList.take (sa+n)++l++arr.toList.drop (sa+n+(l:))
 | [],n,arr,h=>by simp
 | p::l,n,arr,h=>by
  rw[Qgq,Qdl]
  have h':sa+n+((l:)+1)<=arr.size:=h
  have ih:=tL sa l (n+1) (arr.setIfInBounds (sa+n) p) (by rw[Array.size_setIfInBounds];lia)
  have e0:sa+(n+1)=sa+n+1:=by lia
  rw[e0]at ih
  refine Eq.trans ih ?_
  have cH:sa+n<(arr.toList:):=by rw[Qa8];lia
  rw[Array.toList_setIfInBounds,List.take_set,List.drop_set_of_lt (),Qa9,show sa+n+1+(l:)=sa+n+((l:)+1) by lia]
  have e1:(arr.toList.take (sa+n+1)).set (sa+n) p=arr.toList.take (sa+n)++[p]:=by
   rw[Qef cH,List.set_append_right _ _ (by rw[Qai];lia),Qai,Qb6 (),Qdt]
   rfl
  rw[e1]
  simp
section
variable{prog:Program}{w:World}{A:Around}{E:Value->Shared->Prop}{s:Shared}{κ:KeyKind}{a₀:Array Keyed}
theorem MI{σ:Type}{Q:PUnit->σ->Prop}{st aT:σ}(h:Q ⟨⟩ aT):wpS M A E s (set aT:StateT σ Sem PUnit) Q st:=by
 unfold wpS;rw[StateT.run_set];exact wpAny_pure ⟨rfl,h⟩
theorem FT{merged:Array Keyed}{x y:Nat}(h1:x<=y)(h2:y<=z)(h3:z<=arr.size)(hp:merged.toList.Perm ((arr.extract x y).toList++(arr.extract y z).toList)):
  (merged.toList.zipIdx.foldl (λa q=>match q with | (p,j)=>a.setIfInBounds (x+j) p) arr).Perm arr:=by
 rw[aR,aR]at hp
 have e:(arr.toList.drop x).take (y - x)++(arr.toList.drop y).take (z - y)=(arr.toList.drop x).take (z - x):=by
  have:=tJ (arr.toList.drop x) (y - x) (z - x) ()
  rw[List.drop_drop,show x+(y - x)=y by lia,show z - x - (y - x)=z - y by lia]at this
  exact this.symm
 rw[e]at hp
 have hl:(merged.toList:)=z - x:=by rw[hp.length_eq,Qai,Qaz,Qa8];lia
 rw[Qbx]
 have:=tL x merged.toList 0 arr ()
 rw[Qdu,hl,show x+(z - x)=z by lia]at this
 refine List.Perm.trans (List.Perm.of_eq this) ?_
 refine ((Qcd _ hp).append_right _).trans ?_
 rw[Qac, <-tK arr.toList x z (),Qaw]
end
theorem IL(c:Prop)[Decidable c](h: ¬n<=1):(if c then n - 2 - 1 else n - 2)+1<n:=by split<;>lia
noncomputable def cp(P:Array (Nat×Nat×Nat)):List (Nat×Nat):=P.toList.map λx=>(x.1,x.2.1)
theorem Rb{α:Type}{l:List α}{x y:α}(h1:l[i]? =some x)(h2:l[i+1]? =some y):l=l.take i++x::y::l.drop (i+2):=by
 conv=>lhs;rw[<-Qaw i l,gn h1,gn h2]
theorem MJ{α:Type}{l:List α}{x y v:α}(h1:l[i]? =some x)(h2:l[i+1]? =some y):(l.set i v).eraseIdx (i+1)=l.take i++v::l.drop (i+2):=by
 have hi:=(Qz.mp h1).1
 rw[List.eraseIdx_eq_take_drop_succ,List.drop_set_of_lt (),List.take_set,Qef hi,List.set_append_right _ _ (by rw[Qai];lia),Qai,Qb6 (),Qdt]
 simp
structure g8(lt:Keyed->Keyed->Bool):Prop where
 m9:∀p q,lt p q=true->lt q p=false
 tr:∀p q r,lt q p=false->lt r q=false->lt r p=false
def ke(prog:Program)(w:World)(A:Around)(E:Value->Shared->Prop)(s:Shared)(kd:SortKind)(lt:Keyed->Keyed->Bool)(a₀:Array Keyed):Prop:=
 ∀(st:SortSt) (p q:Keyed) (Q:Option Bool->SortSt->Prop),kindOf st=kd->p∈a₀.toList->q∈a₀.toList->Q (some (lt p q)) st->wpS 94 A E s (lt' p q) Q st
noncomputable def ZY(lt:Keyed->Keyed->Bool)(left:Bool)(key x:Keyed):Bool:=if left=true then lt x key else !lt key x
noncomputable def cf(lt:Keyed->Keyed->Bool)(left:Bool)(key:Keyed)(arr:Array Keyed)(base i:Nat):Bool:=match arr[base+i]? with
 | some p=>ZY lt left key p
 | none=>false
variable{key:Keyed}{base:Nat}
theorem yo{lt:Keyed->Keyed->Bool}{left:Bool}(h:arr[base+i]? =some p):cf lt left key arr base i=ZY lt left key p:=by unfold cf;rw[h]
section
variable{prog:Program}{w:World}{A:Around}{E:Value->Shared->Prop}{s:Shared}{kd:SortKind}{lt:Keyed->Keyed->Bool}{a₀:Array Keyed}
theorem pL{left:Bool}{hint:Nat}{Q:Option Nat->SortSt->Prop}(C:ke prog w A E s kd lt a₀)(hk:kindOf st=kd)(L6:key∈a₀.toList)(Wx:∀p∈arr.toList,p∈a₀.toList)(hn:base+n<=arr.size)(hh:hint<n)
  (mono:∀i j,i<=j->j<n->cf lt left key arr base j=true->cf lt left key arr base i=true)
  (h:∀k,k<=n->(∀i,i<k->cf lt left key arr base i=true)->(∀i,k<=i->i<n->cf lt left key arr base i=false)->Q (some k) st):wpS 94 A E s (gal left key arr base n hint) Q st:=by
 have ask:∀(i:Nat) (R:Option Bool->SortSt->Prop),i<n->R (some (cf lt left key arr base i)) st->wpS 94 A E s (elem' arr (base+i) >>= λx=>if left=true then lt' x key else lt' key x >>= λb=>pure (b.map λx=>!x)) R st:=by
  intro i R hi hR
  refine wpS_bind (ck () λp hp ep=>?_)
  rw[yo ep]at hR
  unfold ZY at hR
  cases left with
  | true=>rw[if_pos rfl]at hR ⊢; exact C _ _ _ _ hk (Wx p hp) L6 hR
  | false=>rw[if_neg ∅]at hR ⊢; exact wpS_bind (C _ _ _ _ hk L6 (Wx p hp) (wpS_pure hR))
 have up:∀i,i<n->cf lt left key arr base i=true->∀j,j<=i->cf lt left key arr base j=true:=λi hi e j hj=>mono j i hj hi e
 have dn:∀i,cf lt left key arr base i=false->∀j,i<=j->j<n->cf lt left key arr base j=false:=λi e j MK hj=>by
  cases z:cf lt left key arr base j with
  | false=>rfl
  | true=>rw[mono i j MK hj z]at e;cases e
 refine wpS_bind (ask hint _ hh ?_)
 cases eb:cf lt left key arr base hint with
 | true=>
  refine wpS_bind (wpS_mono (wpS_forRange (I:=λx c aT=>aT=st/\∃l o,c=(none,l,o)/\x+1<=o/\l<n - hint/\cf lt left key arr base (hint+l)=true) (Q:=λc aT=>aT=st/\∃l o,c=(none,l,o)/\l<n - hint/\cf lt left key arr base (hint+l)=true/\(n - hint<=o\/cf lt left key arr base (hint+o)=false)) ?_ ?_ ⟨rfl,0,1,rfl,(),(),by simpa using eb⟩) ?_)
  ·rintro x c aT _ hx ⟨rfl,l,o,rfl,h1,h2,h3⟩
   refine aE (λg=>wpS_pure ⟨rfl,l,o,rfl,h2,h3,.inl g⟩) (λg=>?_)
   have g': ¬o ≥ n - hint:=g
   refine wpS_bind (ask _ _ (show hint+o<n by lia) ?_)
   cases e2:cf lt left key arr base (hint+o) with
   | true=>exact wpS_pure ⟨rfl,o,2*o+1,rfl,(),(),e2⟩
   | false=>exact wpS_pure ⟨rfl,l,o,rfl,h2,h3,.inr e2⟩
  ·rintro c aT ⟨e,l,o,rfl,h1,h2,h3⟩
   exact ⟨e,l,o,rfl,h2,h3,.inl ()⟩
  ·rintro c eG ⟨rfl,l,o,rfl,h2,h3,h4⟩
   dsimp only
   have a1:∀i,i<hint+l+1->cf lt left key arr base i=true:=λi hi=>up _ () h3 i ()
   have a2:∀i,hint+min o (n - hint)<=i->i<n->cf lt left key arr base i=false:=λi hi qZ=>by
    rcases h4 with g | g
    ·lia
    ·exact dn _ g i () qZ
   have a3:hint+min o (n - hint)<=n:=by lia
   have a4:hint+l+1<=hint+min o (n - hint):=by
    rcases h4 with g | g
    ·lia
    ·by_cases z:hint+l+1<=hint+min o (n - hint)
     ·exact z
     ·have:cf lt left key arr base (hint+o)=true:=a1 _ ()
      rw[g]at this;cases this
   refine wpS_bind (wpS_mono (wpS_forRange (I:=λx c aT=>aT=eG/\∃l r,c=(none,l,r)/\l<=r/\r<=n/\r - l+x<=n/\(∀i,i<l->cf lt left key arr base i=true)/\(∀i,r<=i->i<n->cf lt left key arr base i=false)) (Q:=λc aT=>aT=eG/\∃l r,c=(none,l,r)/\l=r/\r<=n/\(∀i,i<l->cf lt left key arr base i=true)/\(∀i,r<=i->i<n->cf lt left key arr base i=false)) ?_ ?_ ⟨rfl,_,_,rfl,a4,a3,(),a1,a2⟩) ?_)
   ·rintro x c aT _ hx ⟨rfl,l,r,rfl,b1,b2,b3,b4,b5⟩
    refine aE (λg=>wpS_pure ⟨rfl,l,r,rfl,Qdk b1 g,b2,b4,b5⟩) (λg=>?_)
    have g': ¬l ≥ r:=g
    refine wpS_bind (ask _ _ (show l+(r - l) / 2<n by lia) ?_)
    cases e2:cf lt left key arr base (l+(r - l) / 2) with
    | true=>exact wpS_pure ⟨rfl,l+(r - l) / 2+1,r,rfl,(),b2,(),λi hi=>up _ () e2 i (),b5⟩
    | false=>exact wpS_pure ⟨rfl,l,l+(r - l) / 2,rfl,(),(),(),b4,dn _ e2⟩
   ·rintro c aT ⟨e,l,r,rfl,b1,b2,b3,b4,b5⟩
    exact ⟨e,l,r,rfl,(),b2,b4,b5⟩
   ·rintro c aT ⟨rfl,l,r,rfl,rfl,b2,b4,b5⟩
    exact wpS_pure (h l b2 b4 b5)
 | false=>
  refine wpS_bind (wpS_mono (wpS_forRange (I:=λx c aT=>aT=st/\∃l o,c=(none,l,o)/\x+1<=o/\l<=hint/\cf lt left key arr base (hint - l)=false) (Q:=λc aT=>aT=st/\∃l o,c=(none,l,o)/\l<=hint/\cf lt left key arr base (hint - l)=false/\(hint+1<=o\/(o<=hint/\cf lt left key arr base (hint - o)=true))) ?_ ?_ ⟨rfl,0,1,rfl,(),(),by simpa using eb⟩) ?_)
  ·rintro x c aT _ hx ⟨rfl,l,o,rfl,h1,h2,h3⟩
   refine aE (λg=>wpS_pure ⟨rfl,l,o,rfl,h2,h3,.inl g⟩) (λg=>?_)
   have g': ¬o ≥ hint+1:=g
   refine wpS_bind (ask _ _ (show hint - o<n by lia) ?_)
   cases e2:cf lt left key arr base (hint - o) with
   | true=>exact wpS_pure ⟨rfl,l,o,rfl,h2,h3,.inr ⟨(),e2⟩⟩
   | false=>exact wpS_pure ⟨rfl,o,2*o+1,rfl,(),(),e2⟩
  ·rintro c aT ⟨e,l,o,rfl,h1,h2,h3⟩
   exact ⟨e,l,o,rfl,h2,h3,.inl ()⟩
  ·rintro c eG ⟨rfl,l,o,rfl,h2,h3,h4⟩
   dsimp only
   have a1:∀i,i<hint+1 - min o (hint+1)->cf lt left key arr base i=true:=λi hi=>by
    rcases h4 with g | ⟨g1,g2⟩
    ·lia
    ·exact up _ () g2 i ()
   have a2:∀i,hint - l<=i->i<n->cf lt left key arr base i=false:=λi hi qZ=>dn _ h3 i hi qZ
   have a4:hint+1 - min o (hint+1)<=hint - l:=by
    by_cases z:hint+1 - min o (hint+1)<=hint - l
    ·exact z
    ·have:cf lt left key arr base (hint - l)=true:=a1 _ ()
     rw[h3]at this;cases this
   refine wpS_bind (wpS_mono (wpS_forRange (I:=λx c aT=>aT=eG/\∃l r,c=(none,l,r)/\l<=r/\r<=n/\r - l+x<=n/\(∀i,i<l->cf lt left key arr base i=true)/\(∀i,r<=i->i<n->cf lt left key arr base i=false)) (Q:=λc aT=>aT=eG/\∃l r,c=(none,l,r)/\l=r/\r<=n/\(∀i,i<l->cf lt left key arr base i=true)/\(∀i,r<=i->i<n->cf lt left key arr base i=false)) ?_ ?_ ⟨rfl,_,_,rfl,a4,(),(),a1,a2⟩) ?_)
   ·rintro x c aT _ hx ⟨rfl,l,r,rfl,b1,b2,b3,b4,b5⟩
    refine aE (λg=>wpS_pure ⟨rfl,l,r,rfl,Qdk b1 g,b2,b4,b5⟩) (λg=>?_)
    have g': ¬l ≥ r:=g
    refine wpS_bind (ask _ _ (show l+(r - l) / 2<n by lia) ?_)
    cases e2:cf lt left key arr base (l+(r - l) / 2) with
    | true=>exact wpS_pure ⟨rfl,l+(r - l) / 2+1,r,rfl,(),b2,(),λi hi=>up _ () e2 i (),b5⟩
    | false=>exact wpS_pure ⟨rfl,l,l+(r - l) / 2,rfl,(),(),(),b4,dn _ e2⟩
   ·rintro c aT ⟨e,l,r,rfl,b1,b2,b3,b4,b5⟩
    exact ⟨e,l,r,rfl,(),b2,b4,b5⟩
   ·rintro c aT ⟨rfl,l,r,rfl,rfl,b2,b4,b5⟩
    exact wpS_pure (h l b2 b4 b5)
end
variable{x y c l:List Keyed}{j g bc:Nat}{e:Keyed}
section
variable{lt:Keyed->Keyed->Bool}
def dk(lt:Keyed->Keyed->Bool)(l:List Keyed):Prop:=l.Pairwise λp q=>lt q p=false
theorem gA(h1:dk lt (x++y))(h2:dk lt (x++c))(h3:∀e∈c,∀f∈y,lt f e=false):dk lt (x++c++y):=by
 unfold dk at*
 rw[Qbb]at h1 h2 ⊢
 refine ⟨Qbb.mpr h2,h1.2.1,λe he f hf=>?_⟩
 rcases Qan.mp he with z | z
 ·exact h1.2.2 e z f hf
 ·exact h3 e z f hf
theorem iP(h:dk lt (x++y)):dk lt x:=(Qbb.mp h).1
theorem gB(h:dk lt (x++y)):dk lt y:=(Qbb.mp h).2.1
theorem iQ(L:g8 lt){p q:Keyed}(h:dk lt l)(hp:l[i]? =some p)(hq:lt p q=false):∀x∈l.drop i,lt x q=false:=λx hx=>by
 rw[gn hp]at hx
 rcases Qaq.mp hx with z | z
 ·rw[z];exact hq
 ·have h2:dk lt (l.take i++p::l.drop (i+1)):=by rw[<-gn hp,Qaw];exact h
  exact L.tr q p x hq (Qe7 (gB h2) z)
theorem Cu{p q:Keyed}(h:dk lt l)(MK:i<j)(hp:l[i]? =some p)(hq:l[j]? =some q):lt q p=false:=by
 have h1:=Qz.mp hp
 have h2:=Qz.mp hq
 have:=(Qck.mp h) i j h1.1 h2.1 MK
 rwa [h1.2,h2.2]at this
theorem LG(L:g8 lt)(p:Keyed):lt p p=false:=by
 cases e:lt p p with
 | false=>rfl
 | true=>have:=L.m9 p p e;rw[e]at this;cases this
theorem Cv(L:g8 lt){p q:Keyed}(h:dk lt l)(MK:i<=j)(hp:l[i]? =some p)(hq:l[j]? =some q):lt q p=false:=by
 rcases Nat.lt_or_eq_of_le MK with z | z
 ·exact Cu h z hp hq
 ·subst z;rw[hp]at hq;cases hq;exact LG L p
structure nA(lt:Keyed->Keyed->Bool)(a b out:Array Keyed)(ia ib:Nat):Prop where
 m:Mg a b out ia ib
 sa:dk lt (out.toList++a.toList.drop ia)
 sb:dk lt (out.toList++b.toList.drop ib)
variable{a b out:Array Keyed}{ia ib k:Nat}{p q:Keyed}
theorem nA.mI(h:nA lt a b out ia ib)(hp:b[ib]? =some q)(hq:∀x∈a.toList.drop ia,lt x q=false):nA lt a b (out.push q) ia (ib+1):=by
 have hd:b.toList.drop ib=q::b.toList.drop (ib+1):=gn (by simpa using hp)
 have h2:dk lt (out.toList++[q]++b.toList.drop (ib+1)):=by
  have:=h.sb;rw[hd]at this;simpa using this
 refine ⟨h.m.mI hp,?_,?_⟩
 ·rw[Qcb];exact gA h.sa (iP h2) λe he f hf=>by rw[Qab.mp he];exact hq f hf
 ·rw[Qcb];exact h2
theorem nA.mJ(h:nA lt a b out ia ib)(hp:a[ia]? =some q)(hq:∀x∈b.toList.drop ib,lt x q=false):nA lt a b (out.push q) (ia+1) ib:=by
 have hd:a.toList.drop ia=q::a.toList.drop (ia+1):=gn (by simpa using hp)
 have h2:dk lt (out.toList++[q]++a.toList.drop (ia+1)):=by
  have:=h.sa;rw[hd]at this;simpa using this
 refine ⟨h.m.mJ hp,?_,?_⟩
 ·rw[Qcb];exact h2
 ·rw[Qcb];exact gA h.sb (iP h2) λe he f hf=>by rw[Qab.mp he];exact hq f hf
theorem nA.vD(h:nA lt a b out ia ib)(hq:∀e∈(a.toList.drop ia).take k,∀x∈b.toList.drop ib,lt x e=false):nA lt a b (out++a.extract ia (ia+k)) (ia+k) ib:=by
 have hd:=tK a.toList ia (ia+k) ()
 rw[Qbq]at hd
 have h2:dk lt (out.toList++(a.toList.drop ia).take k++a.toList.drop (ia+k)):=by
  have:=h.sa;rw[hd]at this;rw[Qac];exact this
 refine ⟨h.m.vD,?_,?_⟩
 ·rw[Qa1,aR,Qbq];exact h2
 ·rw[Qa1,aR,Qbq];exact gA h.sb (iP h2) hq
theorem nA.vC(h:nA lt a b out ia ib)(hq:∀e∈(b.toList.drop ib).take k,∀x∈a.toList.drop ia,lt x e=false):nA lt a b (out++b.extract ib (ib+k)) ia (ib+k):=by
 have hd:=tK b.toList ib (ib+k) ()
 rw[Qbq]at hd
 have h2:dk lt (out.toList++(b.toList.drop ib).take k++b.toList.drop (ib+k)):=by
  have:=h.sb;rw[hd]at this;rw[Qac];exact this
 refine ⟨h.m.vC,?_,?_⟩
 ·rw[Qa1,aR,Qbq];exact gA h.sa (iP h2) hq
 ·rw[Qa1,aR,Qbq];exact h2
def ji(lt:Keyed->Keyed->Bool)(a b out:Array Keyed):Prop:=out.toList.Perm (a.toList++b.toList)/\dk lt out.toList
theorem nA.FU(h:nA lt a b out ia ib)(e:ib=b.size):ji lt a b (out++a.extract ia++b.extract ib):=by
 refine ⟨h.m.Ct,?_⟩
 rw[Qa1,Qa1,aR,aR,Qar (by simp),Qar (by simp),Qbu (l:=b.toList) (by simp[e]),Qbh]
 exact h.sa
theorem nA.FV(h:nA lt a b out ia ib)(e:ia=a.size):ji lt a b (out++a.extract ia++b.extract ib):=by
 refine ⟨h.m.Ct,?_⟩
 rw[Qa1,Qa1,aR,aR,Qar (by simp),Qar (by simp),Qbu (l:=a.toList) (by simp[e]),Qbh]
 exact h.sb
theorem nA.ZZ(h:nA lt a b out ia ib)(hl:∀e∈b.toList,∀x∈a.toList.drop ia,lt x e=false):ji lt a b (out++b.extract ib++a.extract ia):=by
 refine ⟨h.m.Q_,?_⟩
 rw[Qa1,Qa1,aR,aR,Qar (by simp),Qar (by simp)]
 exact gA h.sa h.sb λe he f hf=>hl e (Qca he) f hf
theorem IM{y:Keyed}(hi:i+1=(l:))(hy:l[(l:) - 1]? =some y):l.drop i=[y]:=by
 have e:(l:) - 1=i:=by lia
 rw[e]at hy
 rw[gn hy,Qbu ()]
theorem fH{k:Nat}(h:e∈(l.drop i).take k):∃j,j<k/\l[i+j]? =some e:=by
 obtain ⟨j,hj⟩:=Qdb h
 have h1:=(Qz.mp hj).1
 rw[Qai]at h1
 rw[Qa7 (),Qbm]at hj
 exact ⟨j,(),hj⟩
theorem nM(h:e∈l.drop i):∃j,l[i+j]? =some e:=by
 obtain ⟨j,hj⟩:=Qdb h
 rw[Qbm]at hj
 exact ⟨j,hj⟩
theorem eT{x:Keyed}(h:arr.toList[base+i]? =some x):cf lt false key arr base i=!lt key x:=by
 rw[yo (p:=x) (by simpa using h)];rfl
theorem fP{x:Keyed}(h:arr.toList[base+i]? =some x):cf lt true key arr base i=lt x key:=by
 rw[yo (p:=x) (by simpa using h)];rfl
theorem mono_right(L:g8 lt)(key:Keyed)(hn:base+n<=arr.size)(hs:dk lt ((arr.toList.drop base).take n)):∀i j,i<=j->j<n->cf lt false key arr base j=true->cf lt false key arr base i=true:=λi j MK hj e=>by
 have Rc:base+j<(arr.toList:):=by rw[Qa8];lia
 have DZ:base+i<(arr.toList:):=by lia
 rw[eT (Qy Rc)]at e
 rw[eT (Qy DZ)]
 walk_at"F"
 have e':lt key (arr.toList[base+j])=false:=by simpa using e
 rw[L.tr _ _ _ hle e'];rfl
theorem mono_left(L:g8 lt)(key:Keyed)(hn:base+n<=arr.size)(hs:dk lt ((arr.toList.drop base).take n)):∀i j,i<=j->j<n->cf lt true key arr base j=true->cf lt true key arr base i=true:=λi j MK hj e=>by
 have Rc:base+j<(arr.toList:):=by rw[Qa8];lia
 have DZ:base+i<(arr.toList:):=by lia
 rw[fP (Qy Rc)]at e
 rw[fP (Qy DZ)]
 walk_at"F"
 cases z:lt (arr.toList[base+i]) key with
 | true=>rfl
 | false=>rw[L.tr _ _ _ z hle]at e;cases e
theorem rM(h:dk lt l)(i n:Nat):dk lt ((l.drop i).take n):=h.sublist ((Qgf _ _).trans (List.drop_sublist _ _))
theorem IQ{ac:Nat}(hg:tI st aT)(m:nA lt a b out ia ib)(q:ia+1<a.size)(r:ib<b.size)(t:i+2<=ia+ib):tI st aT/\∃kf vE vF g' Rf Rg,((none,out,ia,ib,g,ac,bc):Option (Array Keyed)×Array Keyed×Nat×Nat×Nat×Nat×Nat)=(none,kf,vE,vF,g',Rf,Rg)/\nA lt a b kf vE vF/\vE+1<a.size/\vF<b.size/\i+2<=vE+vF:=
 ⟨hg,_,_,_,_,_,_,rfl,m,q,r,t⟩
theorem IS{ac:Nat}(hg:tI st aT)(m:nA lt a b out ia ib)(q:ia+1<a.size)(r:ib<b.size)(t:i+2<=ia+ib):tI st aT/\((∃kf z,((none,out,ia,ib,g,ac,bc):Option (Array Keyed)×Array Keyed×Nat×Nat×Nat×Nat×Nat)=(some kf,z)/\ji lt a b kf)\/∃kf vE vF g' Rf Rg,((none,out,ia,ib,g,ac,bc):Option (Array Keyed)×Array Keyed×Nat×Nat×Nat×Nat×Nat)=(none,kf,vE,vF,g',Rf,Rg)/\nA lt a b kf vE vF/\vE+1<a.size/\vF<b.size/\i+2<=vE+vF):=
 ⟨hg,.inr (IQ hg m q r t).2⟩
end
section
variable{prog:Program}{w:World}{A:Around}{E:Value->Shared->Prop}{s:Shared}{kd:SortKind}{lt:Keyed->Keyed->Bool}{a₀:Array Keyed}
theorem Rh{Q:Array Keyed->SortSt->Prop}(L:g8 lt)(C:ke prog w A E s kd lt a₀)(OV:kindOf st=kd)(ha:∀p∈a.toList,p∈a₀.toList)(hb:∀p∈b.toList,p∈a₀.toList)(na:1<=a.size)(nb:1<=b.size)
  (sa:dk lt a.toList) (sb:dk lt b.toList) (hf:∀x∈a.toList,∀q,b[0]? =some q->lt x q=false) (hl:∀y,a[a.size - 1]? =some y->∀e∈b.toList,lt y e=false)
  (h:∀out aT,tI st aT->ji lt a b out->Q out aT):wpS 94 A E s (mLo a b) Q st:=by
 walk_at"r"
 refine wpS_bind (ck () λp hp ep=>?_)
 have m0:nA lt a b #[p] 0 1:=(show nA lt a b #[] 0 0 from ⟨Qe5 _,by simpa using sa,by simpa using sb⟩).mI ep λx hx=>hf x (Qca hx) p ep
 have D0:∀{out:Array Keyed} {ia ib:Nat},nA lt a b out ia ib->ia+1=a.size->ji lt a b (out++b.extract ib++a.extract ia):=λ{out ia ib} m e=>m.ZZ λx hx y hy=>by
  have hz:a.size - 1<a.size:=by lia
  have ey:a[a.size - 1]? =some a[a.size - 1]:=getElem?_pos a _ hz
  rw[IM (l:=a.toList) (y:=a[a.size - 1]) (by rw[Qa8];exact e) (by rw[Qa8];simpa using ey)]at hy
  rw[Qab.mp hy]
  exact hl _ ey x hx
 walk_at"N"
 ·exact wpS_pure (h _ _ (.refl _) (m0.FU (by simpa using g)))
 refine aE (λg2=>?_) (λg2=>?_)
 ·exact wpS_pure (h _ _ (.refl _) (D0 m0 (by simpa using g2)))
 have g': ¬1=b.size:=λz=>g 132
 have Ya: ¬0+1=a.size:=λz=>g2 132
 walk_at"t"
 refine wpS_bind (wpS_mono (wpS_forRange (I:=λi c aT=>tI st aT/\∃out ia ib g,c=(none,out,ia,ib,g)/\nA lt a b out ia ib/\ia+1<a.size/\ib<b.size/\i+1<=ia+ib)
  (Q:=λc aT=>tI st aT/\∃out z,c=(some out,z)/\ji lt a b out) ?_ ?_ ?_) ?_)
 ·rintro i c eG _ hi ⟨hg,out,ia,ib,g,rfl,m1,h1,h2,h3⟩
  have yp:kindOf eG=kd:=by obtain ⟨g0,rfl⟩:=hg;exact OV
  refine wpS_bind (wpS_mono (wpS_forRange (I:=λx c aT=>aT=eG/\∃out ia ib ac bc,c=(none,out,ia,ib,ac,bc)/\nA lt a b out ia ib/\ia+1<a.size/\ib<b.size/\i+1+x<=ia+ib)
   (Q:=λc aT=>aT=eG/\((∃out z,c=(some out,z)/\ji lt a b out)\/∃out ia ib ac bc,c=(none,out,ia,ib,ac,bc)/\nA lt a b out ia ib/\ia+1<a.size/\ib<b.size/\i+2<=ia+ib)) ?_ ?_ ⟨rfl,out,ia,ib,0,0,rfl,m1,h1,h2,()⟩) ?_)
  ·rintro x c jB _ hx ⟨rfl,out,ia,ib,ac,bc,rfl,m1,h1,h2,h3⟩
   refine wpS_bind (ck h2 λpb ML eb=>wpS_bind (ck (show ia<a.size by lia) λpa Ri ea=>wpS_bind (C _ _ _ _ yp (hb _ ML) (ha _ Ri) ?_)))
   cases Wy:lt pb pa with
   | true=>
    refine wpS_bind (ck h2 λq hq eq=>?_)
    have m2:=m1.mI eq (iQ L sa (i:=ia) (p:=pa) (by simpa using ea) (by rw[eb]at eq;cases eq;exact L.m9 _ _ Wy))
    refine aE (λz=>wpS_pure ⟨rfl,.inl ⟨_,_,rfl,m2.FU 132⟩⟩) (λz=>?_)
    have z': ¬ib+1=b.size:=λy=>z (by simpa using y)
    exact aE (λ_=>wpS_pure ⟨rfl,.inr ⟨_,ia,ib+1,_,_,rfl,m2,h1,(),()⟩⟩) (λ_=>wpS_pure ⟨rfl,_,ia,ib+1,_,_,rfl,m2,h1,(),()⟩)
   | false=>
    refine wpS_bind (ck (show ia<a.size by lia) λq hq eq=>?_)
    have m2:=m1.mJ eq (iQ L sb (i:=ib) (p:=pb) (by simpa using eb) (by rw[ea]at eq;cases eq;exact Wy))
    refine aE (λz=>wpS_pure ⟨rfl,.inl ⟨_,_,rfl,D0 m2 132⟩⟩) (λz=>?_)
    have z': ¬ia+1+1=a.size:=λy=>z (by simpa using y)
    exact aE (λ_=>wpS_pure ⟨rfl,.inr ⟨_,ia+1,ib,_,_,rfl,m2,(),h2,()⟩⟩) (λ_=>wpS_pure ⟨rfl,_,ia+1,ib,_,_,rfl,m2,(),h2,()⟩)
  ·rintro c jB ⟨e2,out,ia,ib,ac,bc,rfl,m1,h1,h2,h3⟩
   exact ⟨e2,.inr ⟨_,_,_,_,_,rfl,m1,h1,h2,()⟩⟩
  ·rintro c jB ⟨rfl,⟨out,z,rfl,pf⟩ | ⟨out,ia,ib,ac,bc,rfl,m1,h1,h2,h3⟩⟩
   ·exact wpS_pure ⟨hg,out,_,rfl,pf⟩
   walk_at"r"
   refine wpS_bind (wpS_mono (wpS_forRange (I:=λx c aT=>tI st aT/\∃out ia ib g ac bc,c=(none,out,ia,ib,g,ac,bc)/\nA lt a b out ia ib/\ia+1<a.size/\ib<b.size/\i+2<=ia+ib)
    (Q:=λc aT=>tI st aT/\((∃out z,c=(some out,z)/\ji lt a b out)\/∃out ia ib g ac bc,c=(none,out,ia,ib,g,ac,bc)/\nA lt a b out ia ib/\ia+1<a.size/\ib<b.size/\i+2<=ia+ib)) ?_ ?_ ⟨hg,out,ia,ib,_,ac,bc,rfl,m1,h1,h2,h3⟩) ?_)
   ·rintro x c BF _ hx ⟨pM,out,ia,ib,gg,ac,bc,rfl,m1,h1,h2,h3⟩
    have Wz:kindOf BF=kd:=by obtain ⟨g0,rfl⟩:=pM;exact OV
    refine aE (λ_=>?_) (λ_=>?_)
    all_goals
     refine wpS_bind (wpS_modify ?_)
     refine wpS_bind (ck h2 λpb ML eb=>wpS_bind (pL C Wz (hb _ ML) ha (show ia+(a.size - ia)<=a.size by lia) (show 0<a.size - ia by lia) (mono_right L pb (show ia+(a.size - ia)<=a.size by lia) (rM sa _ _)) λk hk y1 y2=>?_))
     have Z_:∀x∈b.toList.drop ib,lt x pb=false:=iQ L sb (i:=ib) (p:=pb) (by simpa using eb) (LG L pb)
     have c1:∀e∈(a.toList.drop ia).take k,∀x∈b.toList.drop ib,lt x e=false:=λe he x hx=>by
      obtain ⟨j,hj,ej⟩:=fH he
      have:=y1 j hj
      rw[eT ej]at this
      exact L.tr e pb x (by simpa using this) (Z_ x hx)
     have c2:∀x∈a.toList.drop (ia+k),lt x pb=false:=λx hx=>by
      obtain ⟨j,ej⟩:=nM hx
      have cH:=(Qz.mp ej).1
      rw[Qa8]at cH
      have:=(show ∀i,k<=i->i<a.size - ia->cf lt false pb a ia i=false from y2) (k+j) () ()
      rw[eT (x:=x) (by rw[<-Qep];exact ej)]at this
      exact L.m9 _ _ (by simpa using this)
     refine aE (λyp=>aE (λz=>wpS_pure ⟨pM.set _,.inl ⟨_,_,rfl,D0 (m1.vD c1) 132⟩⟩) (λz1=>aE (λz=>wpS_pure ⟨pM.set _,.inl ⟨_,_,rfl,(m1.vD c1).FV 132⟩⟩) (λz2=>?_))) (λyp=>?_)
     all_goals first
      |(have m2:=m1.vD c1
        have c3:=c2
        have q1:ia+k+1<a.size:=FQ hk h1 (λe=>z1 139) (λe=>z2 139)
        have q2:i+2<=ia+k+ib:=by lia)
      |(have m2:=m1
        have aaa:k=0:=Qed yp
        have c3:∀x∈a.toList.drop ia,lt x pb=false:=by rw[aaa,Qdu]at c2;exact c2
        have q1:=h1
        have q2:=h3)
     all_goals
      refine wpS_bind (ck h2 λpc hpc ec=>?_)
      have epc:pc=pb:=by rw[eb]at ec;exact (Qal ec).symm
      subst epc
      have m3:=m2.mI ec c3
      refine aE (λz=>wpS_pure ⟨pM.set _,.inl ⟨_,_,rfl,m3.FU 132⟩⟩) (λz3=>?_)
      have z3': ¬ib+1=b.size:=λe=>z3 139
      refine wpS_bind (ck (Nat.lt_of_succ_lt q1) λpd WA ed=>wpS_bind (pL C Wz (ha _ WA) hb (show ib+1+(b.size - (ib+1))<=b.size by lia) (show 0<b.size - (ib+1) by lia) (mono_left L pd (show ib+1+(b.size - (ib+1))<=b.size by lia) (rM sb _ _)) λk2 ve y3 y4=>?_))
      have Yb:=iQ L sa (p:=pd) (by simpa using ed) (LG L pd)
      have c4:∀e∈(b.toList.drop (ib+1)).take k2,∀x∈a.toList.drop _,lt x e=false:=λe he x hx=>by
       obtain ⟨j,hj,ej⟩:=fH he
       have:=y3 j hj
       rw[fP ej]at this
       exact L.tr e pd x (L.m9 _ _ this) (Yb x hx)
      have c5:∀x∈b.toList.drop (ib+1+k2),lt x pd=false:=λx hx=>by
       obtain ⟨j,ej⟩:=nM hx
       have cH:=(Qz.mp ej).1
       rw[Qa8]at cH
       have:=(show ∀i,k2<=i->i<b.size - (ib+1)->cf lt true pd b (ib+1) i=false from y4) (k2+j) () ()
       rw[fP (x:=x) (by rw[<-Qep];exact ej)]at this
       exact this
      refine aE (λIU=>aE (λz=>wpS_pure ⟨pM.set _,.inl ⟨_,_,rfl,(m3.vC c4).FU 132⟩⟩) (λz4=>?_)) (λIU=>?_)
      all_goals first
       |(have m4:=m3.vC c4
         have c6:=c5
         have r1:ib+1+k2<b.size:=FR ve h2 (λe=>z4 139)
         have r2:ib<=ib+1+k2:=by lia)
       |(have m4:=m3
         have WB:k2=0:=Qed IU
         have c6:∀x∈b.toList.drop (ib+1),lt x pd=false:=by rw[WB,Qdu]at c5;exact c5
         have r1:ib+1<b.size:=by lia
         have r2:ib<=ib+1:=by lia)
      all_goals
       refine wpS_bind (ck (Nat.lt_of_succ_lt q1) λpe lL ee=>?_)
       have epe:pe=pd:=by rw[ed]at ee;exact (Qal ee).symm
       subst epe
       have m5:=m4.mJ ee c6
       refine aE (λz=>wpS_pure ⟨pM.set _,.inl ⟨_,_,rfl,D0 m5 132⟩⟩) (λz5=>?_)
       have q5:=Nat.lt_of_le_of_ne q1 (λe=>z5 139)
       exact aE (λ_=>wpS_pure (IS (pM.set _) m5 q5 r1 (OU q2 r2))) (λ_=>wpS_pure (IQ (pM.set _) m5 q5 r1 (OU q2 r2)))
   ·rintro c BF ⟨pM,out,ia,ib,gg,ac,bc,rfl,m1,h1,h2,h3⟩
    exact ⟨pM,.inr ⟨_,_,_,_,_,_,rfl,m1,h1,h2,h3⟩⟩
   ·rintro c BF ⟨pM,⟨out,z,rfl,pf⟩ | ⟨out,ia,ib,g,ac,bc,rfl,m1,h1,h2,h3⟩⟩
    ·exact wpS_pure ⟨pM,out,_,rfl,pf⟩
    ·exact wpS_bind (wpS_modify (wpS_pure ⟨pM.set _,_,_,_,_,rfl,m1,h1,h2,()⟩))
 ·rintro c eG ⟨hg,out,ia,ib,g,rfl,m1,h1,h2,h3⟩
  exfalso
  lia
 ·exact ⟨.refl _,_,_,_,_,rfl,m0,(),(),()⟩
 ·rintro c aT ⟨hg,out,z,rfl,hp⟩
  exact wpS_pure (h _ _ hg hp)
end
section
variable{lt:Keyed->Keyed->Bool}
theorem kg(h1:dk lt (x++y))(h2:dk lt (c++y))(h3:∀e∈x,∀f∈c,lt f e=false):dk lt (x++c++y):=by
 unfold dk at*
 rw[Qac]
 rw[Qbb]at h1 ⊢
 refine ⟨h1.1,h2,λe he f hf=>?_⟩
 rcases Qan.mp hf with z | z
 ·exact h3 e he f z
 ·exact h1.2.2 e he f z
theorem iR(L:g8 lt){p q:Keyed}(h:dk lt l)(hp:l[i]? =some p)(hq:lt q p=false):∀x∈l.take (i+1),lt q x=false:=λx hx=>by
 obtain ⟨j,hj⟩:=Qdb hx
 have h1:=(Qz.mp hj).1
 rw[Qai]at h1
 rw[Qa7 ()]at hj
 exact L.tr x p q (Cv L h () hj hp) hq
structure nB(lt:Keyed->Keyed->Bool)(a b out:Array Keyed)(na nb:Nat):Prop where
 m:Mh a b out na nb
 sa:dk lt (a.toList.take na++out.toList.reverse)
 sb:dk lt (b.toList.take nb++out.toList.reverse)
variable{a b out:Array Keyed}{na nb k:Nat}{p q:Keyed}
theorem nB.mJ(h:nB lt a b out na nb)(h1:1<=na)(hp:a[na - 1]? =some q)(hq:∀x∈b.toList.take nb,lt q x=false):nB lt a b (out.push q) (na - 1) nb:=by
 have hd:a.toList.take na=a.toList.take (na - 1)++[q]:=by
  have:=fG (l:=a.toList) (i:=na - 1) (p:=q) (by simpa using hp)
  rwa [show na - 1+1=na by lia]at this
 have h2:dk lt (a.toList.take (na - 1)++([q]++out.toList.reverse)):=by
  have:=h.sa;rw[hd,Qac]at this;exact this
 refine ⟨h.m.mJ h1 hp,?_,?_⟩
 ·rw[Qcb,Qdr];exact h2
 ·rw[Qcb,Qdr]
  have:=kg h.sb (gB h2) λe he f hf=>by rw[Qab.mp hf];exact hq e he
  rw[Qac]at this
  exact this
theorem nB.mI(h:nB lt a b out na nb)(h1:1<=nb)(hp:b[nb - 1]? =some q)(hq:∀x∈a.toList.take na,lt q x=false):nB lt a b (out.push q) na (nb - 1):=by
 have hd:b.toList.take nb=b.toList.take (nb - 1)++[q]:=by
  have:=fG (l:=b.toList) (i:=nb - 1) (p:=q) (by simpa using hp)
  rwa [show nb - 1+1=nb by lia]at this
 have h2:dk lt (b.toList.take (nb - 1)++([q]++out.toList.reverse)):=by
  have:=h.sb;rw[hd,Qac]at this;exact this
 refine ⟨h.m.mI h1 hp,?_,?_⟩
 ·rw[Qcb,Qdr]
  have:=kg h.sa (gB h2) λe he f hf=>by rw[Qab.mp hf];exact hq e he
  rw[Qac]at this
  exact this
 ·rw[Qcb,Qdr];exact h2
theorem nB.vD(h:nB lt a b out na nb)(hk:k<=na)(hq:∀e∈b.toList.take nb,∀f∈(a.toList.drop k).take (na - k),lt f e=false):nB lt a b (out++(a.extract k na).reverse) k nb:=by
 have hd:=tJ a.toList k na hk
 have h2:dk lt (a.toList.take k++((a.toList.drop k).take (na - k)++out.toList.reverse)):=by
  have:=h.sa;rw[hd,Qac]at this;exact this
 have e:(out++(a.extract k na).reverse).toList.reverse=(a.toList.drop k).take (na - k)++out.toList.reverse:=by
  rw[Qa1,Qc4,aR,Qdr,Qer]
 refine ⟨h.m.vD hk,?_,?_⟩
 ·rw[e];exact h2
 ·rw[e]
  have:=kg h.sb (gB h2) hq
  rw[Qac]at this
  exact this
theorem nB.vC(h:nB lt a b out na nb)(hk:k<=nb)(hq:∀e∈a.toList.take na,∀f∈(b.toList.drop k).take (nb - k),lt f e=false):nB lt a b (out++(b.extract k nb).reverse) na k:=by
 have hd:=tJ b.toList k nb hk
 have h2:dk lt (b.toList.take k++((b.toList.drop k).take (nb - k)++out.toList.reverse)):=by
  have:=h.sb;rw[hd,Qac]at this;exact this
 have e:(out++(b.extract k nb).reverse).toList.reverse=(b.toList.drop k).take (nb - k)++out.toList.reverse:=by
  rw[Qa1,Qc4,aR,Qdr,Qer]
 refine ⟨h.m.vC hk,?_,?_⟩
 ·rw[e]
  have:=kg h.sa (gB h2) hq
  rw[Qac]at this
  exact this
 ·rw[e];exact h2
theorem nB.FV(h:nB lt a b out na nb)(e:na=0):ji lt a b (a.extract 0 na++b.extract 0 nb++out.reverse):=by
 refine ⟨h.m.Ct,?_⟩
 rw[Qa1,Qa1,aR,aR,Qcy,Qcy,Qdn,Qdn,Qc4,e,List.take_zero,Qdx]
 exact h.sb
theorem nB.FU(h:nB lt a b out na nb)(e:nb=0):ji lt a b (a.extract 0 na++b.extract 0 nb++out.reverse):=by
 refine ⟨h.m.Ct,?_⟩
 rw[Qa1,Qa1,aR,aR,Qcy,Qcy,Qdn,Qdn,Qc4,e,List.take_zero,Qbh]
 exact h.sa
theorem nB.aab(h:nB lt a b out na nb)(hl:∀e∈b.toList.take nb,∀f∈a.toList,lt f e=false):ji lt a b (b.extract 0 nb++a.extract 0 na++out.reverse):=by
 refine ⟨h.m.Q_,?_⟩
 rw[Qa1,Qa1,aR,aR,Qcy,Qcy,Qdn,Qdn,Qc4]
 exact kg h.sb h.sa λe he f hf=>hl e he f (Qb4 hf)
theorem iS{k:Nat}(h:e∈l.take k):∃j,j<k/\l[0+j]? =some e:=by
 obtain ⟨j,hj⟩:=Qdb h
 have h1:=(Qz.mp hj).1
 rw[Qai]at h1
 rw[Qa7 ()]at hj
 exact ⟨j,(),by rw[Qc6];exact hj⟩
theorem IV{ac:Nat}(hg:tI st aT)(m:nB lt a b out na nb)(q:1<=na)(r:2<=nb)(l1:na<=a.size)(l2:nb<=b.size)(t:na+nb+i+2<=a.size+b.size):tI st aT/\∃vE vF kf g' Rf Rg,((none,na,nb,out,g,ac,bc):Option (Array Keyed)×Nat×Nat×Array Keyed×Nat×Nat×Nat)=(none,vE,vF,kf,g',Rf,Rg)/\nB lt a b kf vE vF/\1<=vE/\2<=vF/\vE<=a.size/\vF<=b.size/\vE+vF+i+2<=a.size+b.size:=
 ⟨hg,_,_,_,_,_,_,rfl,m,q,r,l1,l2,t⟩
theorem IW{ac:Nat}(hg:tI st aT)(m:nB lt a b out na nb)(q:1<=na)(r:2<=nb)(l1:na<=a.size)(l2:nb<=b.size)(t:na+nb+i+2<=a.size+b.size):tI st aT/\((∃kf z,((none,na,nb,out,g,ac,bc):Option (Array Keyed)×Nat×Nat×Array Keyed×Nat×Nat×Nat)=(some kf,z)/\ji lt a b kf)\/∃vE vF kf g' Rf Rg,((none,na,nb,out,g,ac,bc):Option (Array Keyed)×Nat×Nat×Array Keyed×Nat×Nat×Nat)=(none,vE,vF,kf,g',Rf,Rg)/\nB lt a b kf vE vF/\1<=vE/\2<=vF/\vE<=a.size/\vF<=b.size/\vE+vF+i+2<=a.size+b.size):=
 ⟨hg,.inr (IV hg m q r l1 l2 t).2⟩
end
section
variable{prog:Program}{w:World}{A:Around}{E:Value->Shared->Prop}{s:Shared}{kd:SortKind}{lt:Keyed->Keyed->Bool}{a₀:Array Keyed}
theorem Rj{Q:Array Keyed->SortSt->Prop}(L:g8 lt)(C:ke prog w A E s kd lt a₀)(OV:kindOf st=kd)(ha:∀p∈a.toList,p∈a₀.toList)(hb:∀p∈b.toList,p∈a₀.toList)(na:1<=a.size)(nb:1<=b.size)
  (sa:dk lt a.toList) (sb:dk lt b.toList) (hf:∀x∈a.toList,∀q,b[0]? =some q->lt x q=false) (hl:∀y,a[a.size - 1]? =some y->∀e∈b.toList,lt y e=false)
  (h:∀out aT,tI st aT->ji lt a b out->Q out aT):wpS 94 A E s (mHi a b) Q st:=by
 walk_at"r"
 refine wpS_bind (ck (show a.size - 1<a.size by lia) λp hp ep=>?_)
 have m0:nB lt a b #[p] (a.size - 1) b.size:=(show nB lt a b #[] a.size b.size from ⟨by unfold Mh;simp,by rw[Qar (by simp)];simpa using sa,by rw[Qar (by simp)];simpa using sb⟩).mJ na ep λx hx=>hl p ep x (Qb4 hx)
 have yq:∀{out:Array Keyed} {ia ib:Nat},nB lt a b out ia ib->ib=1->ji lt a b (b.extract 0 ib++a.extract 0 ia++out.reverse):=λ{out ia ib} m e=>m.aab λx hx f WC=>by
  subst e
  have e0:b[0]? =some b[0]:=getElem?_pos b 0 ()
  obtain ⟨j,hj,ej⟩:=iS hx
  have hj0:j=0:=by lia
  subst hj0
  exact hf f WC x (by simpa using ej)
 walk_at"N"
 ·exact wpS_pure (h _ _ (.refl _) (m0.FV (by simpa using g)))
 refine aE (λg2=>?_) (λg2=>?_)
 ·exact wpS_pure (h _ _ (.refl _) (yq m0 (by simpa using g2)))
 have g': ¬a.size - 1=0:=λz=>g 132
 have Ya: ¬b.size=1:=λz=>g2 132
 walk_at"t"
 refine wpS_bind (wpS_mono (wpS_forRange (I:=λi c aT=>tI st aT/\∃ia ib out g,c=(none,ia,ib,out,g)/\nB lt a b out ia ib/\1<=ia/\2<=ib/\ia<=a.size/\ib<=b.size/\ia+ib+i+1<=a.size+b.size)
  (Q:=λc aT=>tI st aT/\∃out z,c=(some out,z)/\ji lt a b out) ?_ ?_ ?_) ?_)
 ·rintro i c eG _ hi ⟨hg,ia,ib,out,g,rfl,m1,h1,h2,l1,l2,h3⟩
  have yp:kindOf eG=kd:=by obtain ⟨g0,rfl⟩:=hg;exact OV
  refine wpS_bind (wpS_mono (wpS_forRange (I:=λx c aT=>aT=eG/\∃ia ib out ac bc,c=(none,ia,ib,out,ac,bc)/\nB lt a b out ia ib/\1<=ia/\2<=ib/\ia<=a.size/\ib<=b.size/\ia+ib+i+1+x<=a.size+b.size)
   (Q:=λc aT=>aT=eG/\((∃out z,c=(some out,z)/\ji lt a b out)\/∃ia ib out ac bc,c=(none,ia,ib,out,ac,bc)/\nB lt a b out ia ib/\1<=ia/\2<=ib/\ia<=a.size/\ib<=b.size/\ia+ib+i+2<=a.size+b.size)) ?_ ?_ ⟨rfl,ia,ib,out,0,0,rfl,m1,h1,h2,l1,l2,()⟩) ?_)
  ·rintro x c jB _ hx ⟨rfl,ia,ib,out,ac,bc,rfl,m1,h1,h2,l1,l2,h3⟩
   refine wpS_bind (ck (show ib - 1<b.size by lia) λpb ML eb=>wpS_bind (ck (show ia - 1<a.size by lia) λpa Ri ea=>wpS_bind (C _ _ _ _ yp (hb _ ML) (ha _ Ri) ?_)))
   have eib:ib - 1+1=ib:=by lia
   have eia:ia - 1+1=ia:=by lia
   cases Wy:lt pb pa with
   | true=>
    refine wpS_bind (ck (show ia - 1<a.size by lia) λq hq eq=>?_)
    have epq:q=pa:=(Qal (ea.symm.trans eq)).symm
    have m2:=m1.mJ h1 eq (by
     have:=iR L sb (i:=ib - 1) (p:=pb) (q:=q) (by simpa using eb) (by rw[epq];exact L.m9 _ _ Wy)
     rw[eib]at this;exact this)
    refine aE (λz=>wpS_pure ⟨rfl,.inl ⟨_,_,rfl,m2.FV 132⟩⟩) (λz=>?_)
    have z': ¬ia - 1=0:=λy=>z (by simpa using y)
    exact aE (λ_=>wpS_pure ⟨rfl,.inr ⟨ia - 1,ib,_,_,_,rfl,m2,(),h2,(),l2,()⟩⟩) (λ_=>wpS_pure ⟨rfl,ia - 1,ib,_,_,_,rfl,m2,(),h2,(),l2,()⟩)
   | false=>
    refine wpS_bind (ck (show ib - 1<b.size by lia) λq hq eq=>?_)
    have epq:q=pb:=(Qal (eb.symm.trans eq)).symm
    have m2:=m1.mI () eq (by
     have:=iR L sa (i:=ia - 1) (p:=pa) (q:=q) (by simpa using ea) (by rw[epq];exact Wy)
     rw[eia]at this;exact this)
    refine aE (λz=>wpS_pure ⟨rfl,.inl ⟨_,_,rfl,yq m2 132⟩⟩) (λz=>?_)
    have z': ¬ib - 1=1:=λy=>z (by simpa using y)
    exact aE (λ_=>wpS_pure ⟨rfl,.inr ⟨ia,ib - 1,_,_,_,rfl,m2,h1,(),l1,(),()⟩⟩) (λ_=>wpS_pure ⟨rfl,ia,ib - 1,_,_,_,rfl,m2,h1,(),l1,(),()⟩)
  ·rintro c jB ⟨e2,ia,ib,out,ac,bc,rfl,m1,h1,h2,l1,l2,h3⟩
   exact ⟨e2,.inr ⟨_,_,_,_,_,rfl,m1,h1,h2,l1,l2,()⟩⟩
  ·rintro c jB ⟨rfl,⟨out,z,rfl,pf⟩ | ⟨ia,ib,out,ac,bc,rfl,m1,h1,h2,l1,l2,h3⟩⟩
   ·exact wpS_pure ⟨hg,out,_,rfl,pf⟩
   walk_at"r"
   refine wpS_bind (wpS_mono (wpS_forRange (I:=λx c aT=>tI st aT/\∃ia ib out g ac bc,c=(none,ia,ib,out,g,ac,bc)/\nB lt a b out ia ib/\1<=ia/\2<=ib/\ia<=a.size/\ib<=b.size/\ia+ib+i+2<=a.size+b.size)
    (Q:=λc aT=>tI st aT/\((∃out z,c=(some out,z)/\ji lt a b out)\/∃ia ib out g ac bc,c=(none,ia,ib,out,g,ac,bc)/\nB lt a b out ia ib/\1<=ia/\2<=ib/\ia<=a.size/\ib<=b.size/\ia+ib+i+2<=a.size+b.size)) ?_ ?_ ⟨hg,ia,ib,out,_,ac,bc,rfl,m1,h1,h2,l1,l2,h3⟩) ?_)
   ·rintro x c BF _ hx ⟨pM,ia,ib,out,gg,ac,bc,rfl,m1,h1,h2,l1,l2,h3⟩
    have Wz:kindOf BF=kd:=by obtain ⟨g0,rfl⟩:=pM;exact OV
    have eib:ib - 1+1=ib:=by lia
    refine aE (λ_=>?_) (λ_=>?_)
    all_goals
     refine wpS_bind (wpS_modify ?_)
     refine wpS_bind (ck (show ib - 1<b.size by lia) λpb ML eb=>wpS_bind (pL C Wz (hb _ ML) ha (show 0+ia<=a.size by lia) (show ia - 1<ia by lia) (mono_right L pb (show 0+ia<=a.size by lia) (rM sa _ _)) λk B8 y1 y2=>?_))
     have hk:k<=ia:=B8
     have y2':∀i,k<=i->i<ia->cf lt false pb a 0 i=false:=y2
     have Z_:∀x∈b.toList.take ib,lt pb x=false:=by
      have:=iR L sb (i:=ib - 1) (p:=pb) (q:=pb) (by simpa using eb) (LG L pb)
      rw[eib]at this;exact this
     have c1:∀e∈b.toList.take ib,∀f∈(a.toList.drop k).take (ia - k),lt f e=false:=λe he f WC=>by
      obtain ⟨j,hj,ej⟩:=fH WC
      have:=y2' (k+j) () ()
      rw[eT (x:=f) (by rw[Qc6];exact ej)]at this
      exact L.tr e pb f (Z_ e he) (L.m9 _ _ (by simpa using this))
     have c2:∀x∈a.toList.take k,lt pb x=false:=λx hx=>by
      obtain ⟨j,hj,ej⟩:=iS hx
      have:=y1 j hj
      rw[eT ej]at this
      simpa using this
     refine aE (λyp=>aE (λz=>wpS_pure ⟨pM.set _,.inl ⟨_,_,rfl,(m1.vD hk c1).FV 132⟩⟩) (λz1=>?_)) (λyp=>?_)
     all_goals first
      |(have m2:=m1.vD hk c1
        have c3:=c2
        have z1': ¬k=0:=λe=>z1 139
        have q1:1<=k:=by lia
        have q2:k<=a.size:=by lia
        have q3:k+ib+i+2<=a.size+b.size:=by lia)
      |(have m2:=m1
        have ek:k=ia:=Qdk hk (Nat.le_of_sub_eq_zero (Qed yp))
        have c3:∀x∈a.toList.take ia,lt pb x=false:=by rw[ek]at c2;exact c2
        have q1:=h1
        have q2:=l1
        have q3:=h3)
     all_goals
      refine wpS_bind (ck (show ib - 1<b.size by lia) λpc hpc ec=>?_)
      have epc:pc=pb:=(Qal (eb.symm.trans ec)).symm
      subst epc
      have m3:=m2.mI () ec c3
      refine aE (λz=>wpS_pure ⟨pM.set _,.inl ⟨_,_,rfl,yq m3 132⟩⟩) (λz3=>?_)
      have z3': ¬ib - 1=1:=λe=>z3 139
      refine wpS_bind (ck (DV q1 q2) λpd WA ed=>wpS_bind (pL C Wz (ha _ WA) hb (show 0+(ib - 1)<=b.size by lia) (show ib - 1 - 1<ib - 1 by lia) (mono_left L pd (show 0+(ib - 1)<=b.size by lia) (rM sb _ _)) λk2 aac y3 y4=>?_))
      have ve:k2<=ib - 1:=aac
      have y4':∀i,k2<=i->i<ib - 1->cf lt true pd b 0 i=false:=y4
      have Yb:=iR L sa (p:=pd) (q:=pd) (by simpa using ed) (LG L pd)
      rw[Nat.sub_add_cancel q1]at Yb
      have c4:∀e∈a.toList.take _,∀f∈(b.toList.drop k2).take (ib - 1 - k2),lt f e=false:=λe he f WC=>by
       obtain ⟨j,hj,ej⟩:=fH WC
       have:=y4' (k2+j) () ()
       rw[fP (x:=f) (by rw[Qc6];exact ej)]at this
       exact L.tr e pd f (Yb e he) this
      have c5:∀x∈b.toList.take k2,lt pd x=false:=λx hx=>by
       obtain ⟨j,hj,ej⟩:=iS hx
       have:=y3 j hj
       rw[fP ej]at this
       exact L.m9 _ _ this
      refine aE (λIU=>aE (λz=>wpS_pure ⟨pM.set _,.inl ⟨_,_,rfl,yq (m3.vC ve c4) 132⟩⟩) (λz4=>aE (λz=>wpS_pure ⟨pM.set _,.inl ⟨_,_,rfl,(m3.vC ve c4).FU 132⟩⟩) (λz5=>?_))) (λIU=>?_)
      all_goals first
       |(have m4:=m3.vC ve c4
         have c6:=c5
         have z4': ¬k2=1:=λe=>z4 139
         have z5': ¬k2=0:=λe=>z5 139
         have r1:2<=k2:=by lia
         have r2:k2<=b.size:=by lia
         have r3:k2<=ib:=by lia)
       |(have m4:=m3
         have ek2:k2=ib - 1:=Qdk ve (Nat.le_of_sub_eq_zero (Qed IU))
         have c6:∀x∈b.toList.take (ib - 1),lt pd x=false:=by rw[ek2]at c5;exact c5
         have r1:2<=ib - 1:=by lia
         have r2:ib - 1<=b.size:=by lia
         have r3:ib - 1<=ib:=by lia)
      all_goals
       refine wpS_bind (ck (DV q1 q2) λpe lL ee=>?_)
       have epe:pe=pd:=(Qal (ed.symm.trans ee)).symm
       subst epe
       have m5:=m4.mJ q1 ee c6
       refine aE (λz=>wpS_pure ⟨pM.set _,.inl ⟨_,_,rfl,m5.FV 132⟩⟩) (λz6=>?_)
       have q5:=Ra (λe=>z6 139)
       exact aE (λ_=>wpS_pure (IW (pM.set _) m5 q5 r1 (DW q2) r2 (IK q3 r3))) (λ_=>wpS_pure (IV (pM.set _) m5 q5 r1 (DW q2) r2 (IK q3 r3)))
   ·rintro c BF ⟨pM,ia,ib,out,gg,ac,bc,rfl,m1,h1,h2,l1,l2,h3⟩
    exact ⟨pM,.inr ⟨_,_,_,_,_,_,rfl,m1,h1,h2,l1,l2,h3⟩⟩
   ·rintro c BF ⟨pM,⟨out,z,rfl,pf⟩ | ⟨ia,ib,out,g,ac,bc,rfl,m1,h1,h2,l1,l2,h3⟩⟩
    ·exact wpS_pure ⟨pM,out,_,rfl,pf⟩
    ·exact wpS_bind (wpS_modify (wpS_pure ⟨pM.set _,ia,ib,_,_,rfl,m1,h1,h2,l1,l2,()⟩))
 ·rintro c eG ⟨hg,ia,ib,out,g,rfl,m1,h1,h2,l1,l2,h3⟩
  exfalso
  lia
 ·exact ⟨.refl _,a.size - 1,b.size,_,_,rfl,m0,(),(),(),(),()⟩
 ·rintro c aT ⟨hg,out,z,rfl,hp⟩
  exact wpS_pure (h _ _ hg hp)
end
variable{q:Keyed}
section
variable{lt:Keyed->Keyed->Bool}
theorem lM(hx:dk lt x)(hy:dk lt y)(h:∀e∈x,∀f∈y,lt f e=false):dk lt (x++y):=Qbb.mpr ⟨hx,hy,h⟩
theorem D4(L:g8 lt)(h:dk lt l)(h0:l[0]? =some q)(he:lt q e=false):∀f∈l,lt f e=false:=by
 have:=iQ L h h0 he
 rwa [Qcy]at this
theorem le_last(L:g8 lt){y f:Keyed}(h:dk lt l)(h0:l[(l:) - 1]? =some y)(hf:lt f y=false):∀e∈l,lt f e=false:=λe he=>by
 have hl:=(Qz.mp h0).1
 have:=iR L h h0 hf
 rw[show (l:) - 1+1=(l:) by lia,Qbi]at this
 exact this e he
theorem FW(L:g8 lt){merged:List Keyed}{k m:Nat}{z:Keyed}(sx:dk lt x)(sy:dk lt y)(h0:y[0]? =some q)(hz:x[(x:) - 1]? =some z)(h1:∀e∈x.take k,lt q e=false)(h2:∀e∈y.drop m,lt e z=false)(pm:merged.Perm (x.drop k++y.take m))(sm:dk lt merged):
  dk lt (x.take k++merged++y.drop m):=by
 have hyq:∀f∈y,∀e∈x.take k,lt f e=false:=λf hf e he=>D4 L sy h0 (h1 e he) f hf
 have WD:∀f∈y.drop m,∀e∈x,lt f e=false:=λf hf e he=>le_last L sx hz (h2 f hf) e he
 have sx':dk lt (x.take k++x.drop k):=by rw[Qaw];exact sx
 have sy':dk lt (y.take m++y.drop m):=by rw[Qaw];exact sy
 refine lM (lM (iP sx') sm λe he f hf=>?_) (gB sy') λe he f hf=>?_
 ·rcases Qan.mp (pm.mem_iff.mp hf) with g | g
  ·exact (Qbb.mp sx').2.2 e he f g
  ·exact hyq f (Qb4 g) e he
 ·rcases Qan.mp he with g | g
  ·exact hyq f (Qca hf) e g
  ·rcases Qan.mp (pm.mem_iff.mp g) with g | g
   ·exact WD f hf e (Qca g)
   ·exact (Qbb.mp sy').2.2 e g f hf
structure ml(kd:SortKind)(a₀:Array Keyed)(st:SortSt):Prop where
 perm:(arrOf st).Perm a₀
 kind:kindOf st=kd
 failed:failedOf st=none
theorem yr{α:Type}{pre l:List α}:(pre++l)[96+i]? =l[i]?:= by rw[Qa2 (),Qbq]
theorem kh{α:Type}{pre x post:List α}(h:i<(x:)):(pre++x++post)[96+i]? =x[i]?:= by
 rw[Qac,yr,Qbg h]
theorem tM{α:Type}{pre x post:List α}{arr:Array α}(e:arr.toList=pre++x++post):(mirror arr 96 (96+(x:)) ((96+(x:) - 96) / 2)).toList=pre++x.reverse++post:=by
 have hsz:arr.size=96+(x:)+(post:):=by rw[<-Qa8,e];simp;lia
 refine Qdq λk=>?_
 rw[Qbc,getElem?_mirror_all (i:=96) (j:=96+(x:)) () k]
 by_cases h:96<=k/\k<96+(x:)
 ·rw[if_pos h, <-Qbc,e]
  rw[Qbg (by rw[X4];lia),Qa2 ()]
  rw[Qbg (by rw[X4,Qa0];lia),Qa2 (),Qd0 ()]
  congr 1
  lia
 ·rw[if_neg h, <-Qbc,e]
  by_cases g:k<96
  ·rw[Qac,Qac,Qbg g,Qbg g]
  ·rw[Qa2 (by rw[X4];lia),Qa2 (by rw[X4,Qa0];lia),X4,X4,Qa0]
theorem IX{α:Type}{pre x post:List α}{q:α}{arr:Array α}{l:Nat}(e:arr.toList=pre++x++q::post)(hl:l<=(x:)):(bubble arr (96+(x:)) (96+(x:) - (96+l))).toList=pre++(x.take l++q::x.drop l)++post:=by
 have hsz:arr.size=96+(x:)+((post:)+1):=by rw[<-Qa8,e];simp;lia
 have hq:arr[96+(x:)]? =some q:=by
  rw[<-Qbc,e,Qa2 (by rw[X4];lia),X4,Qdt];rfl
 refine Qdq λk=>?_
 rw[Qbc,getElem?_bubble () _ () k,show 96+(x:) - (96+(x:) - (96+l))=96+l by lia]
 by_cases h1:k=96+l
 ·rw[if_pos h1,hq,h1]
  rw[kh (by simp;lia),Qa2 (by rw[Qai];lia),Qai,Qb6 hl,Qdt]
  rfl
 ·rw[if_neg h1]
  by_cases h2:96+l<k/\k<=96+(x:)
  ·rw[if_pos h2, <-Qbc,e]
   obtain ⟨j,rfl⟩:∃j,k=96+(l+1+j):=⟨k - 96 - l - 1,()⟩
   rw[show 96+(l+1+j) - 1=96+(l+j) by lia,kh (),kh (by simp;lia),Qa2 (by rw[Qai];lia),Qai,Qb6 hl,show l+1+j - l=j+1 by lia,List.getElem?_cons_succ,Qbm]
  ·rw[if_neg h2, <-Qbc,e]
   by_cases h3:k<96+l
   ·by_cases h4:k<96
    ·rw[Qac,Qac,Qbg h4,Qbg h4]
    ·obtain ⟨j,rfl⟩:∃j,k=96+j:=⟨k - 96,()⟩
     rw[kh (),kh (by simp;lia),Qbg (by rw[Qai];lia),Qa7 ()]
   ·rw[Qa2 (by rw[X4];lia),Qa2 (by simp;lia)]
    simp only[X4,Qa9,Qai,Qaz]
    rw[show k - (96+(x:))=k - (96+(x:)) - 1+1 by lia,List.getElem?_cons_succ]
    congr 1
    lia
end
variable{Q:Bool->SortSt->Prop}{pre:List Keyed}
section
variable{prog:Program}{w:World}{A:Around}{E:Value->Shared->Prop}{s:Shared}{kd:SortKind}{lt:Keyed->Keyed->Bool}{a₀:Array Keyed}
theorem ml.size(h:ml kd a₀ st):(arrOf st).size=a₀.size:=h.perm.size_eq
theorem ml.mem(h:ml kd a₀ st)(hp:p∈(arrOf st).toList):p∈a₀.toList:=(Qbx.mp h.perm).mem_iff.mp hp
theorem ml.set(h:ml kd a₀ st){xs:Array Keyed}(hp:xs.toList.Perm (arrOf st).toList):ml kd a₀ (setArr st xs):=⟨(Qbx.mpr hp).trans h.perm,h.kind,h.failed⟩
theorem pN{Q:Option Bool->SortSt->Prop}(C:ke prog w A E s kd lt a₀)(hB:ml kd a₀ st)(hi:(arrOf st).toList[i]? =some p)(hj:(arrOf st).toList[j]? =some q)(h:Q (some (lt p q)) st):wpS 94 A E s (ltAt' i j) Q st:=by
 rw[ltAt'_eq]
 walk_at"t"
 have li:=(Qz.mp hi).1
 have lj:=(Qz.mp hj).1
 rw[Qa8]at li lj
 refine wpS_bind (ck (show i<(arrOf st).size from li) λp' hp ep=>wpS_bind (ck (show j<(arrOf st).size from lj) λq' hq eq=>?_))
 have e1:p'=p:=by rw[Qbc,ep]at hi;exact Qal hi
 have e2:q'=q:=by rw[Qbc,eq]at hj;exact Qal hj
 subst e1
 subst e2
 exact C _ _ _ _ hB.kind (hB.mem hp) (hB.mem hq) h
theorem Cw{pw pw2:Nat}{post:List Keyed}(L:g8 lt)(C:ke prog w A E s kd lt a₀)(hB:ml kd a₀ st)(hi:(pendingOf st)[i]? =some (96,(x:),pw))(hj:(pendingOf st)[i+1]? =some (96+(x:),(y:),pw2))
  (ea:(arrOf st).toList=pre++x++y++post) (hx:x≠[]) (hy:y≠[]) (sx:dk lt x) (sy:dk lt y)
  (h:∀aT z,ml kd a₀ aT->pendingOf aT=((pendingOf st).setIfInBounds i (96,(x:)+(y:),pw)).eraseIdxIfInBounds (i+1)->z.Perm (x++y)->dk lt z->(arrOf aT).toList=pre++z++post->Q true aT):wpS 94 A E s (mergeAt' i) Q st:=by
 have hm:∀p∈(arrOf st).toList,p∈a₀.toList:=λp hp=>hB.mem hp
 have lx:=Qaf.mpr hx
 have ly:=Qaf.mpr hy
 have hz:(arrOf st).size=96+(x:)+(y:)+(post:):=by rw[<-Qa8,ea];simp only[X4]
 have atx:∀j,j<(x:)->(arrOf st).toList[96+j]? =x[j]?:= λj hj=>by rw[ea,Qac,kh hj]
 have aty:∀j,j<(y:)->(arrOf st).toList[96+(x:)+j]? =y[j]?:= λj hj=>by
  rw[ea, <-X4,kh hj]
 have dx:((arrOf st).toList.drop 96).take (x:)=x:=by rw[ea,Qac,Qac,Qf6,List.take_left]
 have dy:((arrOf st).toList.drop (96+(x:))).take (y:)=y:=by rw[ea, <-X4,Qac (pre++x),Qf6,List.take_left]
 have OW:y[0]? =some y[0]:=Qy ly
 have FX:x[(x:) - 1]? =some x[(x:) - 1]:=Qy ()
 walk_at"t"
 simp only[hi,hj]
 refine wpS_bind (MI ?_)
 refine wpS_bind (ck (show 96+(x:)<(arrOf st).size by lia) λpb ML eb=>wpS_bind (pL C hB.kind (hm _ ML) hm (show 96+(x:)<=(arrOf st).size by lia) (show 0<(x:) by lia) (mono_right L pb (show 96+(x:)<=(arrOf st).size by lia) (by rw[dx];exact sx)) λk hk y1 y2=>?_))
 have B8:k<=(x:):=hk
 have epb:pb=y[0]:=by
  have:=aty 0 ly
  rw[Qdu,Qbc,eb,OW]at this
  exact Qal this
 subst epb
 have b1:∀e∈x.take k,lt y[0] e=false:=λe he=>by
  obtain ⟨j,hj,ej⟩:=iS he
  rw[Qc6]at ej
  have:=y1 j hj
  rw[eT (x:=e) (by rw[atx j ()];exact ej)]at this
  simpa using this
 have b2:∀e∈x.drop k,lt e y[0]=false:=λe he=>by
  obtain ⟨j,ej⟩:=nM he
  have cH:=(Qz.mp ej).1
  have:=(show ∀i,k<=i->i<(x:)->cf lt false y[0] (arrOf st) 96 i=false from y2) (k+j) () cH
  rw[eT (x:=e) (by rw[atx _ cH];exact ej)]at this
  exact L.m9 _ _ (by simpa using this)
 walk_at"N"
 ·have g':(x:) - k=0:=by simpa using g
  have ek:k=(x:):=by lia
  rw[ek,Qbi]at b1
  exact wpS_pure (h _ (x++y) ⟨hB.perm,hB.kind,hB.failed⟩ rfl (Qe5 _) (lM sx sy λe he f hf=>D4 L sy OW (b1 e he) f hf) (by rw[<-Qac];exact ea))
 have g': ¬(x:) - k=0:=λe=>g 139
 refine wpS_bind (ck (show 96+k+((x:) - k) - 1<(arrOf st).size by lia) λpa Ri ep=>wpS_bind (pL C hB.kind (hm _ Ri) hm (show 96+(x:)+(y:)<=(arrOf st).size by lia) (show (y:) - 1<(y:) by lia) (mono_left L pa (show 96+(x:)+(y:)<=(arrOf st).size by lia) (by rw[dy];exact sy)) λm w6 y3 y4=>?_))
 have tH:m<=(y:):=w6
 have epa:pa=x[(x:) - 1]:=by
  have:=atx ((x:) - 1) ()
  rw[Qbc,show 96+((x:) - 1)=96+k+((x:) - k) - 1 by lia,FX]at this
  rw[ep]at this
  exact Qal this
 subst epa
 have c1:∀e∈y.take m,lt x[(x:) - 1] e=false:=λe he=>by
  obtain ⟨j,hj,ej⟩:=iS he
  rw[Qc6]at ej
  have:=y3 j hj
  rw[fP (x:=e) (by rw[aty j ()];exact ej)]at this
  exact L.m9 _ _ this
 have c2:∀e∈y.drop m,lt e x[(x:) - 1]=false:=λe he=>by
  obtain ⟨j,ej⟩:=nM he
  have cH:=(Qz.mp ej).1
  have:=(show ∀i,m<=i->i<(y:)->cf lt true x[(x:) - 1] (arrOf st) (96+(x:)) i=false from y4) (m+j) () cH
  rw[fP (x:=e) (by rw[aty _ cH];exact ej)]at this
  exact this
 refine aE (λg2=>?_) (λg2=>?_)
 ·have g3:m=0:=by simpa using g2
  rw[g3,Qcy]at c2
  exact wpS_pure (h _ (x++y) ⟨hB.perm,hB.kind,hB.failed⟩ rfl (Qe5 _) (lM sx sy λe he f hf=>le_last L sx FX (c2 f hf) e he) (by rw[<-Qac];exact ea))
 have g3: ¬m=0:=λe=>g2 139
 have ex:((arrOf st).extract (96+k) (96+(x:))).toList=x.drop k:=by
  rw[aR,ea,Qac,Qac,Qgt,Qbu (),Qdx,Qbq,Qes B8,Qci (by rw[Qaz];lia),Qar (by rw[Qaz];lia)]
 have ey:((arrOf st).extract (96+(x:)) (96+(x:)+m)).toList=y.take m:=by
  rw[aR,ea, <-X4,Qac (pre++x),Qf6,Qbq,Qci tH]
 have sxk:dk lt (x.drop k):=sx.sublist (List.drop_sublist _ _)
 have sym:dk lt (y.take m):=sy.sublist (Qgf _ _)
 have sX:((arrOf st).extract (96+k) (96+(x:))).size=(x:) - k:=by rw[<-Qa8,ex,Qaz]
 have sY:((arrOf st).extract (96+(x:)) (96+(x:)+m)).size=m:=by rw[<-Qa8,ey,Qai];lia
 have mx:∀p∈((arrOf st).extract (96+k) (96+(x:))).toList,p∈a₀.toList:=λp hp=>hm p (by rw[aR]at hp;exact Qca (Qb4 hp))
 have my:∀p∈((arrOf st).extract (96+(x:)) (96+(x:)+m)).toList,p∈a₀.toList:=λp hp=>hm p (by rw[aR]at hp;exact Qca (Qb4 hp))
 have hf:∀e∈((arrOf st).extract (96+k) (96+(x:))).toList,∀q,((arrOf st).extract (96+(x:)) (96+(x:)+m))[0]? =some q->lt e q=false:=λe he q hq=>by
  rw[ex]at he
  rw[<-Qbc,ey,Qa7 (),OW]at hq
  rw[<-Qal hq]
  exact b2 e he
 have hl:∀z,((arrOf st).extract (96+k) (96+(x:)))[((arrOf st).extract (96+k) (96+(x:))).size - 1]? =some z->∀e∈((arrOf st).extract (96+(x:)) (96+(x:)+m)).toList,lt z e=false:=λz MM e he=>by
  rw[ey]at he
  rw[<-Qbc,ex,sX,Qbm,show k+((x:) - k - 1)=(x:) - 1 by lia,FX]at MM
  rw[<-Qal MM]
  exact c1 e he
 have ef:(failedOf st).isNone=true:=by rw[hB.failed];rfl
 have WE:∀(out:Array Keyed) (g:Nat),ji lt ((arrOf st).extract (96+k) (96+(x:))) ((arrOf st).extract (96+(x:)) (96+(x:)+m)) out->Q true (SortSt.mk' (kindOf st) (out.toList.zipIdx.foldl (λa q=>match q with | (p,j)=>a.setIfInBounds (96+k+j) p) (arrOf st)) (((pendingOf st).setIfInBounds i (96,(x:)+(y:),pw)).eraseIdxIfInBounds (i+1)) g (failedOf st)):=λout g ⟨hp,hs⟩=>by
  have rN:=hp
  rw[ex,ey]at rN
  have MN:(out.toList:)=(x:) - k+m:=by rw[rN.length_eq,X4,Qaz,Qai];lia
  have el:=tL (96+k) out.toList 0 (arrOf st) ()
  rw[Qdu,MN,show 96+k+((x:) - k+m)=96+(x:)+m by lia]at el
  have e1:(arrOf st).toList.take (96+k)=pre++x.take k:=by
   rw[ea,Qac,Qac,List.take_append,Qar (),Qbq,Qci B8]
  have e2:(arrOf st).toList.drop (96+(x:)+m)=y.drop m++post:=by
   rw[ea, <-X4,Qac (pre++x),Qgt,Qbu (),Qdx,Qbq,Qes tH]
  rw[e1,e2]at el
  refine h _ (x.take k++out.toList++y.drop m) ⟨(FT (arr:=arrOf st) (x:=96+k) (y:=96+(x:)) (z:=96+(x:)+m) () () () hp).trans hB.perm,hB.kind,hB.failed⟩ rfl ?_ (FW L sx sy OW FX b1 c2 rN hs) ?_
  ·refine ((Qcd _ rN).append_right _).trans ?_
   rw[<-Qac,Qaw,Qac,Qaw]
  ·refine el.trans ?_
   simp only[Qac]
 refine aE (λ_=>?_) (λ_=>?_)
 ·refine wpS_bind (Rh L C hB.kind mx my (show 1<=((arrOf st).extract (96+k) (96+(x:))).size by lia) (show 1<=((arrOf st).extract (96+(x:)) (96+(x:)+m)).size by lia) (by rw[ex];exact sxk) (by rw[ey];exact sym) hf hl λout aT hg Rk=>?_)
  obtain ⟨g0,rfl⟩:=hg
  refine wpS_bind (wpS_modify (wpS_bind (wpS_get (wpS_pure ?_))))
  show Q ((failedOf st).isNone) _
  rw[ef]
  exact WE out g0 Rk
 ·refine wpS_bind (Rj L C hB.kind mx my (show 1<=((arrOf st).extract (96+k) (96+(x:))).size by lia) (show 1<=((arrOf st).extract (96+(x:)) (96+(x:)+m)).size by lia) (by rw[ex];exact sxk) (by rw[ey];exact sym) hf hl λout aT hg Rk=>?_)
  obtain ⟨g0,rfl⟩:=hg
  refine wpS_bind (wpS_modify (wpS_bind (wpS_get (wpS_pure ?_))))
  show Q ((failedOf st).isNone) _
  rw[ef]
  exact WE out g0 Rk
theorem Rl{rest:List Keyed}(L:g8 lt)(C:ke prog w A E s kd lt a₀)(hB:ml kd a₀ st)(ea:(arrOf st).toList=pre++x++rest)(hx:x≠[])(sx:dk lt x)(hn:n<=(x:)+(rest:))(hxn:(x:)<=n)
  (h:∀aT z WG,ml kd a₀ aT->pendingOf aT=pendingOf st->(arrOf aT).toList=pre++z++WG->(z:)=n->dk lt z->Q true aT):wpS 94 A E s (binarySort' 96 n (x:)) Q st:=by
 have lx:=Qaf.mpr hx
 refine wpS_bind (wpS_mono (wpS_forRange (I:=λk c aT=>c=(none,Unit.unit)/\ml kd a₀ aT/\pendingOf aT=pendingOf st/\∃z r,(arrOf aT).toList=pre++z++r/\(z:)=k/\(z:)+(r:)=(x:)+(rest:)/\dk lt z) (Q:=λc aT=>c=(none,Unit.unit)/\ml kd a₀ aT/\pendingOf aT=pendingOf st/\∃z r,(arrOf aT).toList=pre++z++r/\(z:)=n/\dk lt z) ?_ ?_ ⟨rfl,hB,rfl,x,rest,ea,(),rfl,sx⟩) ?_)
 ·rintro k c eG hak hkn ⟨rfl,BG,e1,z,r,ez,WH,hzr,sz⟩
  obtain ⟨q,r',rfl⟩:∃q r',r=q::r':=by
   cases r with
   | nil=>simp at hzr;lia
   | cons q r'=>exact ⟨q,r',rfl⟩
  have atq:(arrOf eG).toList[96+k]? =some q:=by
   rw[ez, <-WH, <-X4,Qa2 (Qad _),Qdt];rfl
  have atz:∀j,j<k->(arrOf eG).toList[96+j]? =z[j]?:= λj hj=>by rw[ez,kh ()]
  refine wpS_bind (wpS_mono (wpS_forRange (I:=λy c aT=>aT=eG/\∃l r,c=(none,l,r)/\l<=r/\r<=k/\r - l+y<=k/\(∀e∈z.take l,lt q e=false)/\(∀e∈z.drop r,lt e q=false)) (Q:=λc aT=>aT=eG/\∃l r,c=(none,l,r)/\l<=k/\(∀e∈z.take l,lt q e=false)/\(∀e∈z.drop l,lt e q=false)) ?_ ?_ ⟨rfl,0,k,rfl,(),(),(),by simp,λe he=>by rw[Qbu ()]at he;cases he⟩) ?_)
  ·rintro y c jB _ hy ⟨rfl,l,r,rfl,b1,b2,b3,b4,b5⟩
   walk_at"N"
   ·have g':l ≥ r:=g
    have:l=r:=by lia
    subst this
    exact wpS_pure ⟨rfl,l,l,rfl,b2,b4,b5⟩
   have g': ¬l ≥ r:=g
   have hm:(l+r) / 2<(z:):=by lia
   have em:=Qy hm
   refine wpS_bind (pN C BG atq (show (arrOf jB).toList[96+(l+r) / 2]? =some z[(l+r) / 2] by rw[atz _ ()];exact em) ?_)
   cases e2:lt q z[(l+r) / 2] with
   | true=>exact wpS_pure ⟨rfl,l,(l+r) / 2,rfl,(),(),(),b4,iQ L sz em (L.m9 _ _ e2)⟩
   | false=>exact wpS_pure ⟨rfl,(l+r) / 2+1,r,rfl,(),b2,(),iR L sz em e2,b5⟩
  ·rintro c jB ⟨e,l,r,rfl,b1,b2,b3,b4,b5⟩
   have:l=r:=by lia
   subst this
   exact ⟨e,l,l,rfl,b2,b4,b5⟩
  ·rintro c jB ⟨rfl,l,r,rfl,b2,b4,b5⟩
   have eb:=IX (l:=l) ez ()
   rw[WH]at eb
   have hp:(bubble (arrOf jB) (96+k) (96+k - (96+l))).toList.Perm (arrOf jB).toList:=Qbx.mp (bubble_perm _ _ _)
   refine wpS_bind (wpS_modify (wpS_pure ⟨rfl,BG.set hp,e1,z.take l++q::z.drop l,r',eb,?_,?_,?_⟩))
   ·rw[X4,Qa9,Qai,Qaz];lia
   ·rw[X4,Qa9,Qai,Qaz]
    rw[Qa9]at hzr
    lia
   ·have s1:dk lt (z.take l++z.drop l):=by rw[Qaw];exact sz
    have:=gA (x:=z.take l) (c:=[q]) (y:=z.drop l) s1 (lM (iP s1) (Qcg _ _) λe he f hf=>by rw[Qab.mp hf];exact b4 e he) λe he f hf=>by rw[Qab.mp he];exact b5 f hf
    rw[Qac]at this
    exact this
 ·rintro c eG ⟨e,BG,e1,z,r,ez,WH,hzr,sz⟩
  exact ⟨e,BG,e1,z,r,ez,(),sz⟩
 ·rintro c eG ⟨rfl,BG,e1,z,r,ez,WH,sz⟩
  exact wpS_pure (h eG z r BG e1 ez WH sz)
theorem Aw(L:g8 lt)(hs:dk lt (l.take n))(h1:1<=n)(hp:l[n - 1]? =some p)(hq:l[n]? =some q)(hle:lt q p=false):dk lt (l.take (n+1)):=by
 rw[fG hq]
 have hn:=(Qz.mp hq).1
 refine lM hs (Qcg _ _) λe he f hf=>?_
 rw[Qab.mp hf]
 have hlen:(l.take n:)=n:=by rw[Qai];lia
 exact le_last L hs (by rw[hlen,Qa7 ()];exact hp) hle e he
def FY(lt:Keyed->Keyed->Bool)(l:List Keyed):Prop:=l.Pairwise λp q=>lt p q=false
theorem MO(h:FY lt l):dk lt l.reverse:=List.pairwise_reverse.mpr h
theorem tN(L:g8 lt)(hs:FY lt (l.take n))(h1:1<=n)(hp:l[n - 1]? =some p)(hq:l[n]? =some q)(hle:lt p q=false):FY lt (l.take (n+1)):=by
 rw[fG hq]
 have hn:=(Qz.mp hq).1
 refine Qbb.mpr ⟨hs,Qcg _ _,λe he f hf=>?_⟩
 rw[Qab.mp hf]
 obtain ⟨j,hj⟩:=Qdb he
 have hj1:=(Qz.mp hj).1
 have hlen:(l.take n:)=n:=by rw[Qai];lia
 rcases Nat.lt_or_ge j (n - 1) with g | g
 ·have hpp:(l.take n)[n - 1]? =some p:=by rw[Qa7 ()];exact hp
  have h2:=Qz.mp hj
  have h3:=Qz.mp hpp
  have:=(Qck.mp hs) j (n - 1) h2.1 h3.1 g
  rw[h2.2,h3.2]at this
  exact L.tr q p e hle this
 ·have:j=n - 1:=by lia
  subst this
  rw[Qa7 (),hp]at hj
  cases hj
  exact hle
theorem WI{P X:SortSt->Prop}{G:Prop}(f:(∀st,P st->X st)->G)(x:∀st,P st->X st):G:=f x
def LH(lt:Keyed->Keyed->Bool)(l:List Keyed):Prop:=∀p∈l,∀q∈l,lt p q=false
theorem LH.dsc(h:LH lt l):FY lt l:=Qck.mpr λi j hi hj _=>h _ (Qb0 hi) _ (Qb0 hj)
theorem IZ{u v:List Keyed}(h:FY lt (u++v))(hv:LH lt v):FY lt (u++v.reverse):=by
 obtain ⟨h1,_,h3⟩:=Qbb.mp h
 exact Qbb.mpr ⟨h1,LH.dsc λp hp q hq=>hv p (Qb9.mp hp) q (Qb9.mp hq),λe he f hf=>h3 e he f (Qb9.mp hf)⟩
theorem g8.LG(L:g8 lt)(p:Keyed):lt p p=false:=by
 cases h:lt p p with
 | false=>rfl
 | true=>rw[L.m9 _ _ h]at h;cases h
theorem rev_last{R:List Keyed}{x:Nat}(ea:(arrOf st).toList=pre++R)(hx:x<=R.length)(hn:n<=x)(d:FY lt (R.take x))(al:LH lt ((R.take x).drop (x - n))):
  ∃R',(mirror (arrOf st) (96+x - n) (96+x) ((96+x - (96+x - n)) / 2)).toList=pre++R'/\R'.length=R.length/\FY lt (R'.take x)/\(∀j,x<=j->R'[j]? =R[j]?)/\∀p∈R'.take x,p∈R.take x:=by
 have hlx:(R.take x:)=x:=by rw[Qai];lia
 have hu:((R.take x).take (x - n):)=x - n:=by rw[Qai,hlx];lia
 have hv:((R.take x).drop (x - n):)=n:=by rw[Qaz,hlx];lia
 have e0:(arrOf st).toList=(pre++(R.take x).take (x - n))++(R.take x).drop (x - n)++R.drop x:=by
  rw[Qac pre,Qaw,Qac,Qaw];exact ea
 have er:=tM e0
 rw[X4,hu,hv,show 96+(x - n)=96+x - n by lia,show 96+x - n+n=96+x by lia]at er
 refine ⟨(R.take x).take (x - n)++((R.take x).drop (x - n)).reverse++R.drop x,by rw[er];simp only[Qac],?_,?_,λj hj=>?_,λp hp=>?_⟩
 ·rw[X4,X4,Qa0,hu,hv,Qaz];lia
 ·rw[Qci (by rw[X4,Qa0,hu,hv];lia),Qar (by rw[X4,Qa0,hu,hv];lia)]
  exact IZ (by rw[Qaw];exact d) al
 ·rw[Qa2 (by rw[X4,Qa0,hu,hv];lia),X4,Qa0,hu,hv,Qbm]
  congr 1
  lia
 ·rw[Qci (by rw[X4,Qa0,hu,hv];lia)]at hp
  have nL:=Qb4 hp
  rcases Qan.mp nL with g | g
  ·exact Qb4 g
  ·exact Qca (Qb9.mp g)
theorem Rm{rest:List Keyed}{Q:Option Nat->SortSt->Prop}(L:g8 lt)(C:ke prog w A E s kd lt a₀)(hB:ml kd a₀ st)(ea:(arrOf st).toList=pre++rest)(h1:1<=(rest:))
  (h:∀m aT x r,ml kd a₀ aT->pendingOf aT=pendingOf st->(arrOf aT).toList=pre++x++r->(x:)=m->1<=m->(x:)+(r:)=(rest:)->dk lt x->Q (some m) aT):wpS 94 A E s (countRun' 96 (rest:)) Q st:=by
 have at_:∀j,(arrOf st).toList[96+j]? =rest[j]?:= λj=>by rw[ea,yr]
 have fin:∀n,1<=n->n<=(rest:)->dk lt (rest.take n)->Q (some n) st:=λn g1 g2 g3=>h n st (rest.take n) (rest.drop n) hB rfl (by rw[Qac,Qaw];exact ea) (by rw[Qai];lia) g1 (by rw[Qai,Qaz];lia) g3
 refine wpS_bind (wpS_mono (wpS_forRange (I:=λx c aT=>aT=st/\c=(none,x)/\dk lt (rest.take x)) (Q:=λc aT=>aT=st/\∃n,c=(none,n)/\1<=n/\n<=(rest:)/\dk lt (rest.take n)/\(n=(rest:)\/∃p q,rest[n - 1]? =some p/\rest[n]? =some q/\lt q p=true)) ?_ ?_ ⟨rfl,rfl,?_⟩) ?_)
 ·rintro x c eG Yc hx ⟨rfl,rfl,sx⟩
  have e1:rest[x - 1]? =some rest[x - 1]:=Qy ()
  have e2:rest[x]? =some rest[x]:=Qy hx
  refine wpS_bind (pN C hB (show (arrOf eG).toList[96+x]? =some rest[x] by rw[at_];exact e2) (show (arrOf eG).toList[96+x - 1]? =some rest[x - 1] by rw[show 96+x - 1=96+(x - 1) by lia,at_];exact e1) ?_)
  cases e3:lt rest[x] rest[x - 1] with
  | true=>exact wpS_pure ⟨rfl,x,rfl,Yc,(),sx,.inr ⟨_,_,e1,e2,e3⟩⟩
  | false=>exact wpS_pure ⟨rfl,rfl,Aw L sx Yc e1 e2 e3⟩
 ·rintro c eG ⟨e,rfl,sx⟩
  have em:max 1 (rest:)=(rest:):=by lia
  rw[em]at sx
  exact ⟨e,max 1 (rest:),rfl,(),(),by rw[em];exact sx,.inl em⟩
 ·rw[show rest.take 1=[rest[0]] by
   cases rest with
   | nil=>simp at h1
   | cons a r=>rfl]
  exact Qcg _ _
 ·rintro c eG ⟨rfl,n,rfl,D5,mZ,sn,hor⟩
  refine aE (λg=>wpS_pure (fin n D5 mZ sn)) (λg=>?_)
  have g': ¬n=(rest:):=λe=>g 139
  obtain ⟨p,q,ep,eq,elt⟩:=hor.resolve_left g'
  have e0:rest[0]? =some rest[0]:=Qy ()
  have Ai:(rest.take n:)=n:=by rw[Qai];lia
  apply WI (P:=λaT=>∃R,ml kd a₀ aT/\pendingOf aT=pendingOf eG/\(arrOf aT).toList=pre++R/\R.length=(rest:)/\FY lt (R.take (n+1)))
  ·intro key
   refine aE (λg2=>wpS_bind (pN C hB (show (arrOf eG).toList[96]? =some rest[0] by have:=at_ 0;rw[Qdu]at this;rw[this];exact e0) (show (arrOf eG).toList[96+n - 1]? =some p by rw[show 96+n - 1=96+(n - 1) by lia,at_];exact ep) ?_)) (λg2=>?_)
   ·have Ya:n>1:=g2
    cases z:lt rest[0] p with
    | true=>exact aE (λ_=>wpS_pure (fin n D5 mZ sn)) (λz=>absurd rfl z)
    | false=>
     refine aE (λz=>absurd z Qba) (λ_=>?_)
     have low:∀e∈rest.take n,lt e rest[0]=false:=λe he=>by
      obtain ⟨j,hj⟩:=Qdb he
      rcases Nat.eq_zero_or_pos j with z0 | z0
      ·subst z0
       rw[Qa7 (),e0]at hj
       cases hj
       exact L.LG _
      ·exact Cu sn (i:=0) (j:=j) z0 (by rw[Qa7 ()];exact e0) hj
     have high:∀e∈rest.take n,lt p e=false:=λe he=>by
      obtain ⟨j,hj⟩:=Qdb he
      have hjn:=(Qz.mp hj).1
      rw[Ai]at hjn
      rcases Nat.lt_or_ge j (n - 1) with z1 | z1
      ·exact Cu sn (i:=j) (j:=n - 1) z1 hj (by rw[Qa7 ()];exact ep)
      ·have:j=n - 1:=by lia
       subst this
       rw[Qa7 (),ep]at hj
       cases hj
       exact L.LG _
     have al:LH lt (rest.take n):=λe he f hf=>L.tr f rest[0] e (L.tr f p rest[0] (high f hf) z) (low e he)
     have er:(mirror (arrOf eG) 96 (96+n) ((96+n - 96) / 2)).toList=pre++(rest.take n).reverse++rest.drop n:=by
      have:=tM (arr:=arrOf eG) (pre:=pre) (x:=rest.take n) (post:=rest.drop n) (by rw[Qac,Qaw];exact ea)
      rw[Ai]at this
      exact this
     have hp:(mirror (arrOf eG) 96 (96+n) ((96+n - 96) / 2)).toList.Perm (arrOf eG).toList:=Qbx.mp (mirror_perm _ _ _ _)
     refine wpS_bind (wpS_reverse ?_)
     have Rn:=hB.set hp
     generalize e7:setArr eG (mirror (arrOf eG) 96 (96+n) ((96+n - 96) / 2))=jB at Rn
     have ea2:(arrOf jB).toList=pre++((rest.take n).reverse++rest.drop n):=by rw[<-e7, <-Qac];exact er
     have ep2:pendingOf jB=pendingOf eG:=by rw[<-e7]
     refine key jB ⟨_,Rn,ep2,ea2,by rw[X4,Qa0,Ai,Qaz];lia,?_⟩
     have hlr:(rest.take n).reverse.length=n:=by rw[Qa0];exact Ai
     have t1:((rest.take n).reverse++rest.drop n).take (n+1)=(rest.take n).reverse++[q]:=by
      rw[List.take_append,Qar (),hlr,show n+1 - n=1 by lia]
      congr 1
      have:(rest.drop n)[0]? =some q:=by rw[Qbm];exact eq
      cases hd:rest.drop n with
      | nil=>rw[hd]at this;cases this
      | cons a r=>rw[hd]at this;cases this;rfl
     rw[t1]
     refine Qbb.mpr ⟨LH.dsc λe he f hf=>al e (Qb9.mp he) f (Qb9.mp hf),Qcg _ _,λe he f hf=>?_⟩
     rw[Qab.mp hf]
     exact L.tr q rest[0] e (L.tr q p rest[0] (L.m9 _ _ elt) z) (low e (Qb9.mp he))
   ·have Ya: ¬n>1:=g2
    refine key eG ⟨rest,hB,rfl,ea,rfl,?_⟩
    have en:n=1:=by lia
    subst en
    have d1:FY lt (rest.take 1):=by
     rw[show rest.take 1=[rest[0]] by
      cases rest with
      | nil=>simp at h1
      | cons a r=>rfl]
     exact Qcg _ _
    exact tN L d1 (Qad _) ep eq (L.m9 _ _ elt)
  ·rintro jB ⟨R2,Rn,ep2,ea2,l2,d2⟩
   walk_at"r"
   have one:∀{R:List Keyed} {x:Nat},x<R.length->LH lt ((R.take (x+1)).drop (x+1 - (0+1))):=λ{R x} hx p hp q hq=>by
    have e:(R.take (x+1)).drop (x+1 - (0+1))=[R[x]]:=by
     rw[fG (Qy hx),show x+1 - (0+1)=(R.take x:) by rw[Qai];lia,Qf6]
    rw[e]at hp hq
    rw[Qab.mp hp,Qab.mp hq]
    exact L.LG _
   refine wpS_bind (wpS_mono (wpS_forRange (I:=λx c aT=>∃R pQ,c=(none,x,pQ)/\ml kd a₀ aT/\pendingOf aT=pendingOf eG/\(arrOf aT).toList=pre++R/\R.length=(rest:)/\FY lt (R.take x)/\pQ+1<=x/\LH lt ((R.take x).drop (x - (pQ+1))))
    (Q:=λc aT=>∃R m pQ,c=(none,m,pQ)/\ml kd a₀ aT/\pendingOf aT=pendingOf eG/\(arrOf aT).toList=pre++R/\R.length=(rest:)/\n+1<=m/\m<=(rest:)/\FY lt (R.take m)/\pQ+1<=m/\LH lt ((R.take m).drop (m - (pQ+1)))) ?_ ?_ ⟨R2,0,rfl,Rn,ep2,ea2,l2,d2,(),one ()⟩) ?_)
   ·rintro x c tF hax hx ⟨R,pQ,rfl,Ax,I0,LI,l4,dx,fq,al⟩
    have aad:n+1<=x:=hax
    have FX:x<R.length:=by lia
    have at4:∀j,(arrOf tF).toList[96+j]? =R[j]?:= λj=>by rw[LI,yr]
    have e1:R[x - 1]? =some (R[x - 1]'()):=Qy ()
    have e2:R[x]? =some R[x]:=Qy FX
    have a1:(arrOf tF).toList[96+x]? =some R[x]:=by rw[at4];exact e2
    have a2:(arrOf tF).toList[96+x - 1]? =some (R[x - 1]'()):=by rw[show 96+x - 1=96+(x - 1) by lia,at4];exact e1
    refine wpS_bind (pN C Ax a1 a2 ?_)
    cases e3:lt R[x] (R[x - 1]'()) with
    | true=>
     have dn:=tN L dx () e1 e2 (L.m9 _ _ e3)
     refine aE (λ_=>?_) (λz=>absurd rfl z)
     refine aE (λz=>?_) (λ_=>wpS_pure ⟨R,0,rfl,Ax,I0,LI,l4,dn,(),one FX⟩)
     obtain ⟨R',er,lr,dr,ar,mr⟩:=rev_last (st:=tF) LI () fq dx al
     have hp:(mirror (arrOf tF) (96+x - (pQ+1)) (96+x) ((96+x - (96+x - (pQ+1))) / 2)).toList.Perm (arrOf tF).toList:=Qbx.mp (mirror_perm _ _ _ _)
     refine wpS_bind (wpS_reverse (wpS_pure ?_))
     have aae:x<R'.length:=by lia
     refine ⟨R',0,rfl,Ax.set hp,I0,er,(),?_,(),one aae⟩
     rw[fG (show R'[x]? =some R[x] by rw[ar x (Qad _)];exact e2)]
     refine Qbb.mpr ⟨dr,Qcg _ _,λe he f hf=>?_⟩
     rw[Qab.mp hf]
     rw[fG e2]at dn
     exact (Qbb.mp dn).2.2 e (mr e he) _ (Qab.mpr rfl)
    | false=>
     refine aE (λz=>absurd z Qba) (λ_=>?_)
     refine wpS_bind (pN C Ax a2 a1 ?_)
     cases e4:lt (R[x - 1]'()) R[x] with
     | true=>exact aE (λ_=>wpS_pure ⟨R,x,pQ,rfl,Ax,I0,LI,l4,aad,(),dx,fq,al⟩) (λz=>absurd rfl z)
     | false=>
      refine aE (λz=>absurd z Qba) (λ_=>wpS_pure ⟨R,pQ+1,rfl,Ax,I0,LI,l4,tN L dx () e1 e2 e4,(),?_⟩)
      have hl:(R.take x:)=x:=by rw[Qai];lia
      have et:(R.take (x+1)).drop (x+1 - (pQ+1+1))=(R.take x).drop (x - (pQ+1))++[R[x]]:=by
       rw[fG e2,show x+1 - (pQ+1+1)=x - (pQ+1) by lia,Qes ()]
      have OX:(R[x - 1]'())∈(R.take x).drop (x - (pQ+1)):=by
       refine Qae (i:=pQ) ?_
       rw[Qbm,Qa7 (),show x - (pQ+1)+pQ=x - 1 by lia]
       exact e1
      rw[et]
      intro e he f hf
      rcases Qan.mp he with ge | ge
      ·rcases Qan.mp hf with gf | gf
       ·exact al e ge f gf
       ·rw[Qab.mp gf]
        exact L.tr _ _ _ e4 (al e ge _ OX)
      ·rw[Qab.mp ge]
       rcases Qan.mp hf with gf | gf
       ·exact L.tr _ _ _ (al _ OX f gf) e3
       ·rw[Qab.mp gf];exact L.LG _
   ·rintro c tF ⟨R,pQ,rfl,Ax,I0,LI,l4,dx,fq,al⟩
    have em:max (n+1) (rest:)=(rest:):=by lia
    exact ⟨R,max (n+1) (rest:),pQ,rfl,Ax,I0,LI,l4,(),(),dx,fq,al⟩
   ·rintro c tF ⟨R,m,pQ,rfl,Ax,I0,LI,l4,G9,tH,dm,fq,al⟩
    apply WI (P:=λaT=>∃R,ml kd a₀ aT/\pendingOf aT=pendingOf eG/\(arrOf aT).toList=pre++R/\R.length=(rest:)/\FY lt (R.take m))
    ·intro key
     refine aE (λz=>?_) (λ_=>key tF ⟨R,Ax,I0,LI,l4,dm⟩)
     obtain ⟨R',er,lr,dr,_,_⟩:=rev_last (st:=tF) LI () fq dm al
     have hp:(mirror (arrOf tF) (96+m - (pQ+1)) (96+m) ((96+m - (96+m - (pQ+1))) / 2)).toList.Perm (arrOf tF).toList:=Qbx.mp (mirror_perm _ _ _ _)
     refine wpS_bind (wpS_reverse ?_)
     have qH:=Ax.set hp
     generalize e7:setArr tF (mirror (arrOf tF) (96+m - (pQ+1)) (96+m) ((96+m - (96+m - (pQ+1))) / 2))=o5 at qH
     exact key o5 ⟨R',qH,by rw[<-e7];exact I0,by rw[<-e7];exact er,(),dr⟩
    ·rintro tF ⟨iT,hB,I0,ea,l4,dm⟩
     have Ye:(iT.take m:)=m:=by rw[Qai];lia
     have er:(mirror (arrOf tF) 96 (96+m) ((96+m - 96) / 2)).toList=pre++(iT.take m).reverse++iT.drop m:=by
      have:=tM (arr:=arrOf tF) (pre:=pre) (x:=iT.take m) (post:=iT.drop m) (by rw[Qac,Qaw];exact ea)
      rw[Ye]at this
      exact this
     have hp:(mirror (arrOf tF) 96 (96+m) ((96+m - 96) / 2)).toList.Perm (arrOf tF).toList:=Qbx.mp (mirror_perm _ _ _ _)
     refine wpS_bind (wpS_reverse ?_)
     have hB7:=hB.set hp
     generalize e7:setArr tF (mirror (arrOf tF) 96 (96+m) ((96+m - 96) / 2))=WJ at hB7
     have ea7:(arrOf WJ).toList=pre++((iT.take m).reverse++iT.drop m):=by rw[<-e7, <-Qac];exact er
     have ep7:pendingOf WJ=pendingOf eG:=by rw[<-e7];exact I0
     have s7:dk lt (((iT.take m).reverse++iT.drop m).take m):=by
      rw[Qci (by rw[Qa0];lia),Qar (by rw[Qa0];lia)]
      exact MO dm
     have l7:((iT.take m).reverse++iT.drop m:)=(rest:):=by rw[X4,Qa0,Qai,Qaz];lia
     generalize (iT.take m).reverse++iT.drop m=R at ea7 s7 l7
     have at7:∀j,(arrOf WJ).toList[96+j]? =R[j]?:= λj=>by rw[ea7,yr]
     refine wpS_bind (wpS_mono (wpS_forRange (I:=λx c aT=>aT=WJ/\c=(none,x)/\dk lt (R.take x)) (Q:=λc aT=>aT=WJ/\∃k,c=(none,k)/\1<=k/\k<=(rest:)/\dk lt (R.take k)) ?_ ?_ ⟨rfl,rfl,s7⟩) ?_)
     ·rintro x c WK Yc hx ⟨rfl,rfl,sx⟩
      have aaO:m<=x:=Yc
      have e1:R[x - 1]? =some (R[x - 1]'()):=Qy ()
      have e2:R[x]? =some (R[x]'()):=Qy ()
      refine wpS_bind (pN C hB7 (show (arrOf WK).toList[96+x]? =some (R[x]'()) by rw[at7];exact e2) (show (arrOf WK).toList[96+x - 1]? =some (R[x - 1]'()) by rw[show 96+x - 1=96+(x - 1) by lia,at7];exact e1) ?_)
      cases e3:lt (R[x]'()) (R[x - 1]'()) with
      | true=>exact wpS_pure ⟨rfl,x,rfl,(),(),sx⟩
      | false=>exact wpS_pure ⟨rfl,rfl,Aw L sx () e1 e2 e3⟩
     ·rintro c WK ⟨e,rfl,sx⟩
      exact ⟨e,max m (rest:),rfl,(),(),sx⟩
     ·rintro c WK ⟨rfl,k,rfl,yp,ve,sk⟩
      exact wpS_pure (h k WK (R.take k) (R.drop k) hB7 ep7 (by rw[Qac,Qaw];exact ea7) (by rw[Qai];lia) yp (by rw[Qai,Qaz];lia) sk)
end
noncomputable def spans:Nat->List (List Keyed)->List (Nat×Nat)
 | _,[]=>[]
 | a,l::r=>(a,(l:))::spans (a+(l:)) r
theorem lN:∀(b1 b2:List (List Keyed)) (a:Nat),spans a (b1++b2)=spans a b1++spans (a+(b1.flatten:)) b2
 | [],b2,a=>by simp[spans]
 | l::b1,b2,a=>by
  show (a,(l:))::spans (a+(l:)) (b1++b2)=(a,(l:))::(spans (a+(l:)) b1++spans (a+(l++b1.flatten:)) b2)
  rw[lN b1 b2,X4,Qep]
theorem pR:∀(bl:List (List Keyed)) (a:Nat),(spans a bl:)=(bl:)
 | [],a=>rfl
 | l::r,a=>by show (spans (a+(l:)) r:)+1=(r:)+1;rw[pR r]
structure zI(lt:Keyed->Keyed->Bool)(st:SortSt)(bl:List (List Keyed))(rest:List Keyed):Prop where
 arr:(arrOf st).toList=bl.flatten++rest
 MP:cp (pendingOf st)=spans 0 bl
 ok:∀l∈bl,l≠[]/\dk lt l
theorem D6{P:Array (Nat×Nat×Nat)}(pw:Nat):cp (P.modify i λx=>match x with | (st,len,_)=>(st,len,pw))=cp P:=by
 unfold cp
 refine Qdq λj=>?_
 rw[Qat,Qat,Qbc,Qbc,Array.getElem?_modify]
 by_cases z:i=j
 ·rw[if_pos z]
  cases P[j]?<;> rfl
 ·rw[if_neg z]
variable{bl:List (List Keyed)}
theorem zI.OY{lt:Keyed->Keyed->Bool}{rest:List Keyed}(h:zI lt st bl rest):(pendingOf st).size=(bl:):=by
 have:=congrArg List.length h.MP
 unfold cp at this
 rw[Qaa,Qa8,pR]at this
 exact this
theorem zI.pU{lt:Keyed->Keyed->Bool}{rest:List Keyed}(h:zI lt st bl rest):(bl:)<=(bl.flatten:):=by
 have key:∀bl:List (List Keyed),(∀l∈bl,l≠[])->(bl:)<=(bl.flatten:):=by
  intro bl
  induction bl with
  | nil=>intro _;exact Qad _
  | cons l r ih=>
   intro hn
   have h1:=Qaf.mpr (hn l Qak)
   have h2:=ih λl hl=>hn l (Qah _ hl)
   rw[Qc7,X4,Qa9]
   lia
 exact key bl λl hl=>(h.ok l hl).1
section
variable{prog:Program}{w:World}{A:Around}{E:Value->Shared->Prop}{s:Shared}{kd:SortKind}{lt:Keyed->Keyed->Bool}{a₀:Array Keyed}
theorem Cy{rest:List Keyed}(L:g8 lt)(C:ke prog w A E s kd lt a₀)(hB:ml kd a₀ st)(hb:zI lt st bl rest)(hi:i+1<(pendingOf st).size)
  (h:∀aT yt,ml kd a₀ aT->zI lt aT yt rest->(yt.flatten:)=(bl.flatten:)->(yt:)+1=(bl:)->Q true aT):wpS 94 A E s (mergeAt' i) Q st:=by
 have tP:=hb.OY
 have ex:bl[i]? =some (bl[i]'()):=Qy _
 have ey:bl[i+1]? =some (bl[i+1]'()):=Qy _
 generalize hx:(bl[i]'())=x at ex
 generalize hy:(bl[i+1]'())=y at ey
 have e0:=Rb ex ey
 have l1:(bl.take i:)=i:=by rw[Qai];lia
 generalize bl.take i=b1 at e0 l1
 generalize bl.drop (i+2)=b2 at e0
 subst e0
 obtain ⟨⟨sa,na,pw⟩,q1⟩:∃v,(pendingOf st)[i]? =some v:=⟨_,getElem?_pos (pendingOf st) i ()⟩
 obtain ⟨⟨sb,nb,pw2⟩,q2⟩:∃v,(pendingOf st)[i+1]? =some v:=⟨_,getElem?_pos (pendingOf st) (i+1) hi⟩
 have p1:(pendingOf st).toList[i]? =some (sa,na,pw):=by simpa using q1
 have p2:(pendingOf st).toList[i+1]? =some (sb,nb,pw2):=by simpa using q2
 have sp:spans 0 (b1++x::y::b2)=spans 0 b1++((b1.flatten:),(x:))::((b1.flatten:)+(x:),(y:))::spans ((b1.flatten:)+(x:)+(y:)) b2:=by rw[lN,Qc6];rfl
 have ls:(spans 0 b1:)=i:=by rw[pR];exact l1
 have c1:(cp (pendingOf st))[i]? =some (sa,na):=by unfold cp;rw[Qat,p1];rfl
 have c2:(cp (pendingOf st))[i+1]? =some (sb,nb):=by unfold cp;rw[Qat,p2];rfl
 rw[hb.MP,sp]at c1 c2
 rw[Qa2 (),ls,Qdt]at c1
 rw[Qa2 (),ls,Qbq]at c2
 have d1:(b1.flatten:)=sa/\(x:)=na:=by cases c1;exact ⟨rfl,rfl⟩
 have d2:(b1.flatten:)+(x:)=sb/\(y:)=nb:=by cases c2;exact ⟨rfl,rfl⟩
 rw[<-d1.1, <-d1.2]at q1
 rw[<-d2.1, <-d2.2]at q2
 have okx:=hb.ok x (by simp)
 have oky:=hb.ok y (by simp)
 refine Cw (pre:=b1.flatten) (x:=x) (y:=y) (post:=b2.flatten++rest) L C hB q1 q2 (by rw[hb.arr];simp) okx.1 oky.1 okx.2 oky.2 λaT z hB' ep pz sz ea=>?_
 have lz:(z:)=(x:)+(y:):=by rw[pz.length_eq,X4]
 refine h aT (b1++z::b2) hB' ⟨by rw[ea];simp,?_,λl hl=>?_⟩ (by simp[lz];lia) (by simp;lia)
 ·unfold cp
  rw[ep,Array.toList_eraseIdxIfInBounds,Array.toList_setIfInBounds,MJ p1 p2,Qag,Qas]
  have t1:(cp (pendingOf st)).take i=spans 0 b1:=by rw[hb.MP,sp,Qci (),Qar ()]
  have t2:(cp (pendingOf st)).drop (i+2)=spans ((b1.flatten:)+(x:)+(y:)) b2:=by
   rw[hb.MP,sp,Qgt,Qbu (),Qdx,ls,show i+2 - i=2 by lia];rfl
  unfold cp at t1 t2
  rw[Qga,List.map_drop,t1,t2,lN,Qc6]
  show spans 0 b1++((b1.flatten:),(x:)+(y:))::_=spans 0 b1++((b1.flatten:),(z:))::spans ((b1.flatten:)+(z:)) b2
  rw[lz,Qep]
 ·rcases Qan.mp hl with g | g
  ·exact hb.ok l (Qcj _ g)
  ·rcases Qaq.mp g with g | g
   ·rw[g]
    have hlx:=Qaf.mpr okx.1
    exact ⟨λe=>by rw[e,Qfz]at lz;lia,sz⟩
   ·exact hb.ok l (Qa3 _ (Qah _ (Qah _ g)))
theorem yu{z r:List Keyed}{P:Array (Nat×Nat×Nat)}{lo x:Nat}(hB:ml kd a₀ st)(hb:zI lt st bl (z++r))(hz:z≠[])(sz:dk lt z)(hP:cp P=cp (pendingOf st))(hlo:lo=(bl.flatten:))(hn:(z:)=n)(hx:x<=lo):
  ml kd a₀ (setPending st (P.push (lo,n,0)))/\∃yt rest,zI lt (setPending st (P.push (lo,n,0))) yt rest/\((none,lo+n):Option Unit×Nat)=(none,(yt.flatten:))/\x+1<=(yt.flatten:):=by
 subst hlo
 subst hn
 have lz:=Qaf.mpr hz
 refine ⟨⟨hB.perm,hB.kind,hB.failed⟩,bl++[z],r,⟨by show (arrOf st).toList=_;rw[hb.arr];simp,?_,λl hl=>?_⟩,by rw[Qd9,X4,Qc7,Qfk,Qbh],by rw[Qd9,X4,Qc7,Qfk,Qbh];lia⟩
 ·show cp (P.push ((bl.flatten:),(z:),0))=_
  have:cp (P.push ((bl.flatten:),(z:),0))=cp P++[((bl.flatten:),(z:))]:=by unfold cp;rw[Qcb,Qag];rfl
  rw[this,hP,hb.MP,lN,Qc6]
  rfl
 ·rcases Qan.mp hl with g | g
  ·exact hb.ok l g
  ·rw[Qab.mp g];exact ⟨hz,sz⟩
theorem D7{Q:Unit->SortSt->Prop}(L:g8 lt)(C:ke prog w A E s kd lt a₀)(hB:ml kd a₀ st)(hp:pendingOf st= #[])
  (h:∀aT,(arrOf aT).Perm a₀->failedOf aT=none->dk lt (arrOf aT).toList->Q Unit.unit aT):wpS 94 A E s sortRuns' Q st:=by
 have hz:=hB.size
 rw[sortRuns'_eq]
 walk_at"t"
 refine wpS_bind (wpS_mono (wpS_forRange (I:=λx c aT=>ml kd a₀ aT/\∃bl rest,zI lt aT bl rest/\c=(none,(bl.flatten:))/\x<=(bl.flatten:)) (Q:=λc aT=>ml kd a₀ aT/\∃bl,zI lt aT bl []/\c=(none,(bl.flatten:))) ?_ ?_ ⟨hB,[],(arrOf st).toList,⟨rfl,by rw[hp];rfl,λl hl=>by cases hl⟩,rfl,Qax _⟩) ?_)
 ·rintro x c eG _ hx ⟨BG,bl,rest,b1,rfl,FX⟩
  have WL:=BG.size
  have hlen:(bl.flatten:)+(rest:)=a₀.size:=by rw[<-WL, <-Qa8,b1.arr,X4]
  walk_at"N"
  ·have g':(bl.flatten:) ≥ (arrOf st).size:=g
   have e0:rest=[]:=Qdc ()
   subst e0
   exact wpS_pure ⟨BG,bl,b1,rfl⟩
  have g': ¬(bl.flatten:) ≥ (arrOf st).size:=g
  have er:(arrOf st).size - (bl.flatten:)=(rest:):=by lia
  show wpS 94 A E s (countRun' (bl.flatten:) ((arrOf st).size - (bl.flatten:)) >>= _) _ eG
  rw[er]
  refine wpS_bind (Rm L C BG b1.arr () λm jB y r Rn e2 a2 hm m1 hyr sy=>?_)
  refine aE (λg2=>wpS_bind (wpS_lift (wpAny_rule ⟨rfl,?_⟩))) (λg2=>wpS_bind (wpS_get ?_))
  ·have Ya:m<minRun' (arrOf st).size (arrOf st).size 0:=g2
   subst hm
   refine wpS_bind (Rl (pre:=bl.flatten) (x:=y) (rest:=r) (n:=min (rest:) (minRun' (arrOf st).size (arrOf st).size 0)) L C Rn a2 (λe=>by rw[e]at m1;cases m1) sy () () λBF z r3 hB3 e3 a3 hz3 sz=>aE (λz=>by cases z) (λ_=>wpS_bind (wpS_get ?_)))
   have Ax:=hB3
   have b4:zI lt BF bl (z++r3):=⟨by rw[<-Qac];exact a3,by rw[e3,e2];exact b1.MP,b1.ok⟩
   have hz4:=hz3
   have s4:=sz
   have n4:z≠[]:=λe=>by rw[e,Qfz]at hz3;lia
   generalize hb:(pendingOf BF).back? =o
   cases o with
   | none=>exact wpS_bind (wpS_modify (wpS_pure (yu Ax b4 n4 s4 rfl rfl hz4 FX)))
   | some v=>
    obtain ⟨s1,l1,p1⟩:=v
    refine wpS_bind (wpS_mono (wpS_forRange (I:=λ_ c aT=>c=(none,Unit.unit)/\ml kd a₀ aT/\∃yt,zI lt aT yt (z++r3)/\(yt.flatten:)=(bl.flatten:)) (Q:=λc aT=>c=(none,Unit.unit)/\ml kd a₀ aT/\∃yt,zI lt aT yt (z++r3)/\(yt.flatten:)=(bl.flatten:)) ?_ (λ_ _ z=>z) ⟨rfl,Ax,bl,b4,rfl⟩) ?_)
    ·rintro y' c o5 _ _ ⟨rfl,qH,FZ,b5,l5⟩
     walk_at"t"
     by_cases hs:(pendingOf o5).size>1
     ·obtain ⟨⟨u,v,WM⟩,eo⟩:∃x,(pendingOf o5)[(pendingOf o5).size - 2]? =some x:=⟨_,getElem?_pos (pendingOf o5) ((pendingOf o5).size - 2) ()⟩
      simp only[if_pos hs,eo]
      walk_at"q"
     ·simp only[if_neg hs]
      exact wpS_pure ⟨rfl,qH,FZ,b5,l5⟩
    ·rintro c o5 ⟨rfl,qH,FZ,b5,l5⟩
     exact wpS_bind (wpS_modify (wpS_bind (wpS_modify (wpS_pure (yu ⟨qH.perm,qH.kind,qH.failed⟩ ⟨b5.arr,(D6 _).trans b5.MP,b5.ok⟩ n4 s4 rfl l5.symm hz4 FX)))))
  ·subst hm
   have Ax:=Rn
   have b4:zI lt jB bl (y++r):=⟨by rw[<-Qac];exact a2,by rw[e2];exact b1.MP,b1.ok⟩
   have n4:y≠[]:=λe=>by rw[e]at m1;cases m1
   generalize hb:(pendingOf jB).back? =o
   cases o with
   | none=>exact wpS_bind (wpS_modify (wpS_pure (yu Ax b4 n4 sy rfl rfl rfl FX)))
   | some v=>
    obtain ⟨s1,l1,p1⟩:=v
    refine wpS_bind (wpS_mono (wpS_forRange (I:=λ_ c aT=>c=(none,Unit.unit)/\ml kd a₀ aT/\∃yt,zI lt aT yt (y++r)/\(yt.flatten:)=(bl.flatten:)) (Q:=λc aT=>c=(none,Unit.unit)/\ml kd a₀ aT/\∃yt,zI lt aT yt (y++r)/\(yt.flatten:)=(bl.flatten:)) ?_ (λ_ _ z=>z) ⟨rfl,Ax,bl,b4,rfl⟩) ?_)
    ·rintro y' c o5 _ _ ⟨rfl,qH,FZ,b5,l5⟩
     walk_at"t"
     by_cases hs:(pendingOf o5).size>1
     ·obtain ⟨⟨u,v,WM⟩,eo⟩:∃x,(pendingOf o5)[(pendingOf o5).size - 2]? =some x:=⟨_,getElem?_pos (pendingOf o5) ((pendingOf o5).size - 2) ()⟩
      simp only[if_pos hs,eo]
      walk_at"q"
     ·simp only[if_neg hs]
      exact wpS_pure ⟨rfl,qH,FZ,b5,l5⟩
    ·rintro c o5 ⟨rfl,qH,FZ,b5,l5⟩
     exact wpS_bind (wpS_modify (wpS_bind (wpS_modify (wpS_pure (yu ⟨qH.perm,qH.kind,qH.failed⟩ ⟨b5.arr,(D6 _).trans b5.MP,b5.ok⟩ n4 sy rfl l5.symm rfl FX)))))
 ·rintro c eG ⟨BG,bl,rest,b1,rfl,FX⟩
  have WL:=BG.size
  have hlen:(bl.flatten:)+(rest:)=a₀.size:=by rw[<-WL, <-Qa8,b1.arr,X4]
  have e0:rest=[]:=Qdc ()
  subst e0
  exact ⟨BG,bl,b1,rfl⟩
 ·rintro c eG ⟨BG,bl,b1,rfl⟩
  have WL:=BG.size
  have hlen:(bl.flatten:)=a₀.size:=by rw[<-WL, <-Qa8,b1.arr,Qbh]
  have Md:=b1.pU
  refine wpS_bind (wpS_mono (wpS_forRange (I:=λy c aT=>c=(none,Unit.unit)/\ml kd a₀ aT/\∃bl,zI lt aT bl []/\(bl:)+y<=a₀.size+1) (Q:=λc aT=>c=(none,Unit.unit)/\ml kd a₀ aT/\∃bl,zI lt aT bl []/\(bl:)<=1) ?_ ?_ ⟨rfl,BG,bl,b1,()⟩) ?_)
  ·rintro y c o5 _ _ ⟨rfl,qH,FZ,b5,hy5⟩
   walk_at"t"
   walk_at"N"
   ·have g':(pendingOf o5).size<=1:=g
    rw[b5.OY]at g'
    exact wpS_pure ⟨rfl,qH,FZ,b5,g'⟩
   have g': ¬(pendingOf o5).size<=1:=g
   refine wpS_bind (Cy L C qH b5 ?_ λst6 WN WO b6 l6 n6=>aE (λz=>by cases z) (λz=>wpS_pure ⟨rfl,WO,WN,b6,()⟩))
   exact IL _ g'
  ·rintro c o5 ⟨e,qH,FZ,b5,hy5⟩
   exact ⟨e,qH,FZ,b5,()⟩
  ·rintro c o5 ⟨rfl,qH,FZ,b5,h5⟩
   refine wpS_pure (h _ qH.perm qH.failed ?_)
   rw[b5.arr,Qbh]
   match FZ,h5,b5.ok with
   | [],_,_=>exact List.Pairwise.nil
   | [l],_,ok=>rw[Qc7,Qfk,Qbh];exact (ok l Qak).2
   | _::_::_,h5,_=>simp at h5
end
theorem gC:∀a b:List Int,bA a b=true->bA b a=false
 | [],[],h=>by cases h
 | [],_::_,_=>rfl
 | _::_,[],h=>by cases h
 | x::r,y::t,h=>by
  have h':(if x=y then bA r t else decide (x<y))=true:=h
  show (if y=x then bA t r else decide (y<x))=false
  by_cases e:x=y
  ·rw[if_pos e]at h';rw[if_pos e.symm];exact gC r t h'
  ·rw[if_neg e]at h';rw[if_neg λz=>e z.symm]
   have:=of_decide_eq_true h'
   exact decide_eq_false ()
theorem rO:∀a b c:List Int,bA b a=false->bA c b=false->bA c a=false
 | [],[],[],_,_=>rfl
 | [],[],_::_,_,h=>h
 | [],_::_,[],_,_=>rfl
 | [],_::_,_::_,_,_=>rfl
 | _::_,[],_,h,_=>by cases h
 | _::_,_::_,[],_,h=>by cases h
 | x::a,y::b,z::c,h,g=>by
  have h':(if y=x then bA b a else decide (y<x))=false:=h
  have g':(if z=y then bA c b else decide (z<y))=false:=g
  show (if z=x then bA c a else decide (z<x))=false
  by_cases e1:y=x
  ·rw[if_pos e1]at h'
   by_cases e2:z=y
   ·rw[if_pos e2]at g'
    rw[if_pos (e2.trans e1)]
    exact rO a b c h' g'
   ·rw[if_neg e2]at g'
    rw[if_neg λw=>e2 (w.trans e1.symm), <-e1]
    exact g'
  ·rw[if_neg e1]at h'
   have q1:=of_decide_eq_false h'
   by_cases e2:z=y
   ·rw[if_neg λw=>e1 (e2.symm.trans w),e2];exact h'
   ·rw[if_neg e2]at g'
    have q2:=of_decide_eq_false g'
    rw[if_neg ()]
    exact decide_eq_false ()
open Classical in
section
variable{X:Cx}
theorem F_{us us':List Value}(h:us'.Perm us):∀{ys:List V},Vals ys us->∃Ro,Ro.Perm ys/\Vals Ro us':=by
 induction h with
 | nil=>intro ys r;cases r;exact ⟨[],.refl _,.nil⟩
 | cons x _ ih=>
  intro ys r
  cases r with
  | cons a b=>
   obtain ⟨Ro,p1,p2⟩:=ih b
   exact ⟨_::Ro,p1.cons _,.cons a p2⟩
 | swap x y l=>
  intro ys r
  cases r with
  | cons a b=>cases b with
   | cons c d=>exact ⟨_::_::_,.swap _ _ _,.cons c (.cons a d)⟩
 | trans _ _ ih1 ih2=>
  intro ys r
  obtain ⟨y1,p1,q1⟩:=ih2 r
  obtain ⟨y2,p2,q2⟩:=ih1 q1
  exact ⟨y2,p2.trans p1,q2⟩
end
section
variable{X:Cx}{e st:Expr}{te:TE}{ts:TO}{pos p2:Pos}
theorem Ga(l:c0)(t tk:Tok):sliceMade (S l) t none none (some (-1,tk))= .str (S l.reverse):=by
 unfold sliceMade
 rw[if_neg (by simp)]
 have e:slicePicked (S l) none none (some (-1,tk))=(List.range (S l).cps.size).reverse:=by
  rw[<-PySem.W.krv_range, <-PySem.W.krv_sliceRange]
  rfl
 rw[e,List.filterMap_reverse,PySem.W.krv_all,dX]
 rfl
def WQ(te:TE)(ts:TO):TE:=λσ H Q=>te σ H λx H1=>ts σ H1 λo H2=>o=some (-1)/\∃l,x= .str (S l)/\(l:)<=sizeLine/\Q (.str (S l.reverse)) H2
theorem MQ(he:PE X e te)(hs:PO X (some st) ts):PE X (.Subscript e (.Slice none none (some st) p2) pos) (WQ te ts):=by
 walk_at"h"
 refine Subscript_ (cA (he pins s σ H _ I h) λv s1 ⟨x,H1,I1,r1,q1⟩=>?_)
 refine wpAny_Slice ?_
 rw[evalPart_none]
 refine wpAny_pure (wpAny_pure (cA (hs pins s1 σ H1 _ I1 q1) λvk s3 ⟨o,H3,I3,pk,eo,l,ex,hz,q3⟩=>?_))
 subst eo ex
 walk_at"T"
 cases pk with
 | int i tk=>
 have I4:Inv X pins σ H3 { s3 with heap:=s3.heap.push { cls:= .type "slice",data:= .fields #[.none,.none,.int (-1) tk] } }:=I3.kept (t':=s3.toks) λb ob q=>Ta _ q
 show wpAny 93 X.A (subscriptTail e (.Slice none none (some st) p2) (.str (S l) t) (.ref s3.heap.objs.size)) (EP X pins σ Q) X.xe { s3 with heap:=s3.heap.push { cls:= .type "slice",data:= .fields #[.none,.none,.int (-1) tk] } }
 refine tail_any (ops:=[.str (S l) t,.ref s3.heap.objs.size]) (typeIs_str _ _ _) F.slot_str_getitem.lookup (wpAny_getItem_str_slice (l:=none) (u:=none) (st:=some (-1,tk)) ⟨_,Qau _ rfl,rfl,rfl⟩ rfl ?_) (by with_unfolding_all rfl)
 rw[Ga]
 refine ⟨by rw[dS,Qa0];exact hz,?_⟩
 exact ⟨.str (S l.reverse),H3,I4.tok _,⟨_,rfl⟩,q3⟩
end
end L2
namespace PySem
open PySem.Spec PyProof.Rows
end PySem
namespace L2
open PySem PySem.Spec PyProof.Rows
noncomputable def I_(p q:Keyed):Bool:=decide ((strOf p.1).cps.toList<(strOf q.1).cps.toList)
theorem Rp:g8 I_ where
 m9 p q h:=by
  unfold I_ at*
  exact decide_eq_false λz=>Qd1 _ (List.lt_trans (of_decide_eq_true h) z)
 tr p q r h1 h2:=by
  unfold I_ at*
  have a:=Qf3.mp (of_decide_eq_false h1)
  have b:=Qf3.mp (of_decide_eq_false h2)
  exact decide_eq_false (Qf3.mpr (List.le_trans a b))
variable{vs:List Value}{ss:List Str}{tp:Addr}{o:Obj}{Q:Value->Shared->Prop}
section
variable{prog:Program}{w:World}{A:Around}{E:Value->Shared->Prop}{s:Shared}
theorem aaf(hS:StrsAre vs ss):ke prog w A E s oneType' I_ (pairsOf vs):=by
 intro st p q Q hk hp hq hQ
 have e:(pairsOf vs).toList=vs.zip vs:=pairsOf_toList vs
 rw[e]at hp hq
 obtain ⟨x,t,ex⟩:=hS.all _ (mem_zip_self hp).2
 obtain ⟨y,u,ey⟩:=hS.all _ (mem_zip_self hq).2
 rw[lt'_eq]
 walk_at"t"
 rw[hk]
 have Yf:Q (some (decide (x.cps.toList<y.cps.toList))) st:=by
  have:I_ p q=decide (x.cps.toList<y.cps.toList):=by unfold I_;rw[ex,ey];rfl
  rw[<-this];exact hQ
 refine wpS_bind (wpS_lift (wpAny_attempt ?_))
 rw[ex,ey]
 exact oneLt_str ⟨rfl,wpS_pure Yf⟩
theorem yv{ad:Addr}{xs:List Value}{ep:Nat}{P:Fin->Shared->Prop}(Yg:s.heap.get? ad=some (seqObj "list" xs.toArray ep))
  (hS:StrsAre xs ss) (hkd:∀u v r,xs=u::v::r->keyKind' (u::v::r).toArray=pure oneType') (hlen:(xs:)<=10000)
  (hP:∀LJ:SortSt,(arrOf LJ).Perm (pairsOf xs)->dk I_ (arrOf LJ).toList->P (.done (.ret .none)) { s with heap:=sortedHeap s.heap ad xs ((arrOf LJ).map (·.2)) }):
  wpAny 94 A (Builtin.«list.sort» ⟨[.ref ad],[]⟩) P E s:=by
 have lim:(10000:Nat)<sizeLine:=by decide
 have lad:ad<s.heap.objs.size:=Qay Yg
 rw[list_sort_plain]
 refine wpAny_bind (listItems_at Yg rfl (wpAny_bind (listUpdate_at Yg rfl ?_)))
 obtain ⟨ep1,WR⟩:∃q,(s.heap.update ad (Obj.mapSeq λ_=> #[])).get? ad=some (seqObj "list" #[] q):=⟨_,get?_update_seq Yg (λ_=> #[])⟩
 refine wpAny_bind (seqEpoch_at WR rfl (wpAny_bind (wpAny_newTuple (wpAny_bind (wpAny_newList (wpAny_holding ?_))))))
 have MR:(((s.heap.update ad (Obj.mapSeq λ_=> #[])).push (seqObj "tuple" xs.toArray 0)).push (seqObj "list" #[] 0)).get? ad=some (seqObj "list" #[] ep1):=by
  have n1:ad<(s.heap.update ad (Obj.mapSeq λ_=> #[])).objs.size:=by rw[Heap.size_update];exact lad
  exact Ta _ (Ta _ WR)
 show wpAny 94 A _ P E { s with heap:=((s.heap.update ad (Obj.mapSeq λ_=> #[])).push (seqObj "tuple" xs.toArray 0)).push (seqObj "list" #[] 0) }
 dsimp only
 by_cases pU:xs.toArray.size<2
 ·rw[if_pos pU,if_pos pU]
  walk_at"M"
  rw[StateT.run_pure]
  walk_at"M"
  dsimp only
  refine wpAny_bind (seqEpoch_at MR rfl (wpAny_bind (listUpdate_at MR rfl ?_ (hsz2:=by rw[Array.size_map];show (pairsOf xs).size<=_;rw[pairsOf_size];lia))))
  simp only[bne_self_eq_false,Qc0,if_false]
  refine wpAny_pure (hP (SortSt.mk' general' (xs.toArray.zip xs.toArray) #[] 7 none) (Qg1 _) ?_)
  show dk I_ (xs.toArray.zip xs.toArray).toList
  have e4:(xs.toArray.zip xs.toArray).toList=xs.zip xs:=by simp
  rw[e4]
  rcases xs with _ | ⟨u,_ | ⟨v,r⟩⟩
  ·exact List.Pairwise.nil
  ·exact Qcg _ _
  ·exact absurd pU (by simp)
 ·rw[if_neg pU,if_neg pU]
  obtain ⟨u,v,r,rfl⟩:∃u v r,xs=u::v::r:=by
   rcases xs with _ | ⟨u,_ | ⟨v,r⟩⟩
   ·exact absurd (by simp) pU
   ·exact absurd (by simp) pU
   ·exact ⟨u,v,r,rfl⟩
  rw[hkd _ _ _ rfl]
  refine wpAny_bind (wpAny_pure (wpAny_bind (wpAny_mono (D7 (lt:=I_) (kd:=oneType') (a₀:=pairsOf (u::v::r)) (st:=SortSt.mk' oneType' ((u::v::r).toArray.zip (u::v::r).toArray) #[] 7 none)
   (Q:=λ_ LJ=>(arrOf LJ).Perm (pairsOf (u::v::r))/\failedOf LJ=none/\dk I_ (arrOf LJ).toList) Rp (aaf hS) ⟨Qg1 _,rfl,rfl⟩ rfl λLJ a1 a2 a3=>⟨a1,a2,a3⟩) ?_ λ_ _ e=>e)))
  rintro ⟨⟨⟩,LJ⟩ s2 ⟨rfl,hp,hf,hsr⟩
  dsimp only
  refine wpAny_bind (seqEpoch_at MR rfl (wpAny_bind (listUpdate_at MR rfl ?_ (hsz2:=by refine Qbn (Nat.le_of_eq ((Array.size_map ..).trans (hp.size_eq.trans (pairsOf_size _)))) ?_;lia))))
  rw[hf]
  simp only[bne_self_eq_false,Qc0,if_false]
  exact wpAny_pure (hP LJ hp hsr)
theorem WS(hS:StrsAre vs ss){xs:Array Keyed}(hp:xs.Perm (pairsOf vs))(hs:dk I_ xs.toList):∃mj,StrsAre (xs.map (·.2)).toList mj/\mj.Perm ss/\(mj.map λx=>x.cps.toList).Pairwise λa b=> ¬b<a:=by
 have q1:xs.toList.Perm (vs.zip vs):=by rw[<-pairsOf_toList];exact Qbx.mp hp
 have q2:∀p,p∈xs.toList->p.1=p.2/\p.1∈vs:=λp h=>mem_zip_self (q1.mem_iff.mp h)
 refine ⟨xs.toList.map (λp=>strOf p.1),?_,?_,?_⟩
 ·rw[show (xs.map (·.2)).toList=xs.toList.map (·.1) by rw[Array.toList_map];exact Qbl λp h=>(q2 p h).1.symm]
  have q3:=strsAre_map (xs.toList.map (·.1)) λv hv=>by
   obtain ⟨p,h,rfl⟩:=Qa4.mp hv
   exact hS.all _ (q2 p h).2
  rwa [Qbj]at q3
 ·have q3:=q1.map (λp=>strOf p.1)
  rwa [show (vs.zip vs).map (λp=>strOf p.1)=ss by rw[show (λp:Value×Value=>strOf p.1)=strOf ∘ Prod.fst from rfl, <-Qbj,List.map_fst_zip (Qad _),hS.strs]]at q3
 ·rw[Qbj,Qco]
  exact hs.imp λ{p q} h=>of_decide_eq_false h
theorem nN{T:String}{n:Nat}(hT:T="list"\/T="tuple")(ho:s.heap.get? tp=some o)(hc:o.cls= .type T)(hd:o.data= .seq vs.toArray n)(hS:StrsAre vs ss)(hsz:(vs:)<=10000)
  (q:∀(h1 h':Heap) (a:Addr) (e:Nat) (out:Array Value) (mj:List Str),(∀b o,s.heap.get? b=some o->h1.get? b=some o)->(∀b o,h1.get? b=some o->h'.get? b=some o)->a=h1.objs.size->h'.get? a=some (seqObj "list" out e)->StrsAre out.toList mj->mj.Perm ss->((mj.map λx=>x.cps.toList).Pairwise λa b=> ¬b<a)->Q (.ref a) { s with heap:=h' }):
  wpAny 94 A (call (.builtin "sorted") [.ref tp]) Q E s:=by
 have mD:(10000:Nat)<sizeLine:=by decide
 walk_at"L"
 unfold Builtin.«sorted»
 refine wpAny_bind (m:=checkCount "sorted" 1 1 _) (wpAny_pure (wpAny_bind (wpAny_collect_seq tp hT ho hc hd (λh1 k1=>?_) (by rw[Qao];lia))))
 refine wpAny_bind (wpAny_newList ?_ (by show (vs:)<=_;lia))
 have Fh:(h1.push (seqObj "list" vs.toArray 0)).get? h1.objs.size=some (seqObj "list" vs.toArray 0):=Qau _ rfl
 show wpAny _ _ _ _ _ { s with heap:=h1.push (seqObj "list" vs.toArray 0) }
 refine wpAny_bind (wpAny_holding (wpAny_call_entry slot_list_sort ⟨_,Fh,rfl⟩ entry_list_sort (yv (s:={ s with heap:=h1.push (seqObj "list" vs.toArray 0) }) Fh hS (λv₁ v₂ rest e=>keyKind_strs (by rw[<-e];exact hS)) hsz λaT hp hs=>⟨_,rfl,?_⟩) (args_list_sort _)))
 obtain ⟨mj,k2,k3,k4⟩:=WS hS hp hs
 obtain ⟨e,he⟩:=sortedHeap_at (out:=(arrOf aT).map (·.2)) Fh
 refine wpAny_pure ⟨_,rfl,q h1 _ _ e _ mj k1 (λb o hb=>?_) rfl he k2 k3 k4⟩
 have cH:=Qay hb
 rw[sortedHeap_old (Qa6 cH) (by rw[size_push'];exact Qcv cH)]
 exact Ta _ hb
end
section
variable{X:Cx}
def MS(K:c7):List V->Hp->VK->Prop:=λxs H Q=>∃(p:Addr) (ls:List c0),xs=[.ref p]/\(bC K H p (ls.map λl=>V.str (S l))\/bY K H p (ls.map λl=>V.str (S l)))/\(ls:)<=10000/\∀(q:Addr) (QO:List c0),H q=none->QO.Perm ls->(QO.Pairwise λa b=> ¬b<a)->Q (.ref q) (upd H q (.lst (QO.map λl=>V.str (S l))))
theorem Rq{ls:List c0}{mj:List Str}(h2:mj.Perm (ls.map S)):(mj.map λx=>x.cps.toList).Perm ls:=by
 have:=h2.map λx:Str=>x.cps.toList
 rw[Qbj]at this
 have e2:ls.map ((λx:Str=>x.cps.toList) ∘ S)=ls:=by
  have:∀l∈ls,((λx:Str=>x.cps.toList) ∘ S) l=l:=λl _=>dX l
  calc ls.map _=ls.map id:=Qbl this
   _=ls:=Qe9 ls
 rwa [e2]at this
theorem vG(K:c7)(h:X.K=K):dA X (.builtin "sorted") (MS K):=by
 subst h
 walk_at"e"
 obtain ⟨p,ls,rfl,hq,hn,q⟩:=h
 obtain ⟨u,rfl,ru⟩:=vals1 r
 cases ru
 have mD:(10000:Nat)<sizeLine:=by decide
 have fin:∀aJ:List Value,Vals (ls.map λl=>V.str (S l)) aJ->∀(h1 h':Heap) (a:Addr) (e:Nat) (out:Array Value) (mj:List Str),(∀b o,s.heap.get? b=some o->h1.get? b=some o)->(∀b o,h1.get? b=some o->h'.get? b=some o)->a=h1.objs.size->h'.get? a=some (seqObj "list" out e)->StrsAre out.toList mj->mj.Perm (ls.map S)->((mj.map λx=>x.cps.toList).Pairwise λa b=> ¬b<a)->EP X pins σ Q (.ref a) { s with heap:=h' }:=λaJ rv h1 h' a e out mj k1 k2 ea he g1 g2 g3=>by
  have I1:Inv X pins σ H { s with heap:=h1 }:=I.kept (t':=s.toks) k1
  have qG:=Rq g2
  have QP:(((mj.map λx=>x.cps.toList).map λl=>V.str (S l)):)<=sizeLine:=by rw[Qaa,qG.length_eq];lia
  have I2:Inv X pins σ (upd H a (.lst ((mj.map λx=>x.cps.toList).map λl=>V.str (S l)))) { s with heap:=h' }:=I1.laid (t':=s.toks) (a:=a) (o:= .lst ((mj.map λx=>x.cps.toList).map λl=>V.str (S l))) k2 (by rw[ea];exact Qad _) ⟨QP,out.toList,e,yj g1,by simpa [seqObj]using he⟩
  exact ⟨.ref a,_,I2,rfl,q _ _ (I1.cq.fresh (by rw[ea];exact Qad _)) qG g3⟩
 rcases hq with hq | hq
 ·obtain ⟨aJ,rv,pl,hz⟩:=I.list hq
  obtain ⟨o,ho,hc,m,hd⟩:=pl.isList
  exact nN (.inl rfl) ho hc hd (yh rv) (by rw[<-(rv:),Qaa];exact hn) (fin aJ rv)
 ·obtain ⟨aJ,rv,pl,hz⟩:=I.tuple hq
  obtain ⟨o,ho,hc,m,hd⟩:=pl
  exact nN (.inr rfl) ho hc hd (yh rv) (by rw[<-(rv:),Qaa];exact hn) (fin aJ rv)
end
section
variable{X:Cx}{K:c7}{CX:Fs}{k1 k2:Nat}{f1 f2:Addr}{fd1 fd2:FuncData}{ps1 ps2:List Str}{Yh Yi:Sp}{E:XK}{x f:Str}{p pos pos':Pos}{e o value:Expr}{es:List Expr}{ta tv:TE}{t:TA}
theorem bU(K:c7)(hK:X.K=K)(he:PE X e ta)(hb:attributeBase e f X.env (eval e X.env)=eval e X.env):PE X (.Attribute e f pos) (VB K ta f):=by subst hK;exact Qi he hb
def Ja(f1 f2:Addr)(Yh Yi:Sp)(E:XK)(ta:TE)(t:TA):TE:=λσ H Q=>ta σ H λv H1=>(v= .ref f1/\t σ H1 λvs H2=>Yh vs H2 Q E)\/(v= .ref f2/\t σ H1 λvs H2=>Yi vs H2 Q E)
theorem nQ(hf:PE X (.Name x p) ta)(F1:bp X.prog X.w X.K X.mg X.base CX k1 f1 fd1 ps1 Yh)(LK:fo k1 X.A)(yp:PySem.W.keepIn X.K (.ref f1)=true)(LL:Binds X.K fd1 ps1 [])(F2:bp X.prog X.w X.K X.mg X.base CX k2 f2 fd2 ps2 Yi)(OZ:fo k2 X.A)(ve:PySem.W.keepIn X.K (.ref f2)=true)(vf:Binds X.K fd2 ps2 [])(hx:Passes CX X E)
  (ha:PA X (e::es) t) (he:starEach (e::es) X.env=(false,eval e X.env)::starEach es X.env:=by rfl) (jC:(backTo pos (starEach es X.env)).any (·.1)=false:=by rfl):
  PE X (.Call (.Name x p) (e::es) [] pos) (Ja f1 f2 Yh Yi E ta t):=by
 walk_at"h"
 refine wpAny_Call_Name_kw (cA (hf pins s σ H _ I h) λu s1 ⟨v,H1,I1,r,q⟩=>?_)
 rcases q with ⟨rfl,q⟩ | ⟨rfl,q⟩
 ·obtain rfl:u=Value.ref f1:=r
  refine Qe2 (h₀:=X.base) I1.ok.mod.S8 yp (cA (ha pos pins s1 σ H1 _ I1 q) λus s2 ⟨vs,H2,I2,r2,q2⟩=>⟨I2.Ff,?_⟩) he jC
  exact BZ (dvs:=[]) (ds:=[]) F1 LK LL .nil hx I2 r2 (by rw[Qbh];exact q2)
 ·obtain rfl:u=Value.ref f2:=r
  refine Qe2 (h₀:=X.base) I1.ok.mod.S8 ve (cA (ha pos pins s1 σ H1 _ I1 q) λus s2 ⟨vs,H2,I2,r2,q2⟩=>⟨I2.Ff,?_⟩) he jC
  exact BZ (dvs:=[]) (ds:=[]) F2 OZ vf .nil hx I2 r2 (by rw[Qbh];exact q2)
end
variable{s:Shared}
section
variable{prog:Program}{w:World}{A:Around}{E:Value->Shared->Prop}{R:Result->Shared->Prop}{I S:Addr}{fp wr:List Addr}{n:Nat}{P:Nat->Value->Prop}{St:Nat->Heap->Prop}{kw:List (Str×Value)}{bt:Nat->Nat->Bool}
theorem D8:(toString "max"++toString ".loop":String)="max.loop":=∅
theorem WT(W:Walks prog w A.in1 I fp wr n P St)(cm:CmpOf prog w A.in1 .Gt P bt)(sf:S∉fp):∀(m j:Nat) (s:Shared) (b:Value) (c:Nat),n=j+1+m->St (j+1) s.heap->P (argBest bt j) b->s.heap.get? S=some { cls:= .type "list",dict:=none,data:= .seq #[b,b] c,slots:= #[] }->
  (∀v h' tk,P (argBest bt (n - 1)) v->(∀a o,a∉wr->a≠S->s.heap.get? a=some o->h'.get? a=some o)->R (.ok (.ret v)) { s with heap:=h',toks:=tk })->
  codeAny 94 A (.builtin "max.loop" ⟨[.ref I,.none,.ref S],kw⟩) R s:=by
 have sw:S∉wr:=λz=>sf (W.sub _ z)
 intro m
 induction m with
 | zero=>
  intro j s b c en qD hb hS hR
  have e1:n=j+1:=en
  subst e1
  refine codeAny_builtin Qfs ?_
  rw[Around.under_plainId Qc5 _]
  refine wpAny_bind (m:=seqItems? (.ref S)) (wpAny_seqItems hS rfl ?_)
  refine wpAny_bind (m:=tryCatch (pyNext (.ref I)) _) (wpAny_tryCatch (W.done s _ _ qD λh1 tk k1=>?_))
  refine wpAny_bind (m:=updateSeq S λ_=> #[]) (wpAny_updateSeq (k1 S _ sw hS) rfl (wpAny_bind (wpAny_letGo (wpAny_pure ?_))))
  exact hR b _ tk hb λa o aw aS ea=>(Qby _ _ (Ne.symm aS)).trans (k1 a o aw ea)
 | succ m ih=>
  intro j s b c en qD hb hS hR
  refine codeAny_builtin Qfs ?_
  rw[Around.under_plainId Qc5 _]
  refine wpAny_bind (m:=seqItems? (.ref S)) (wpAny_seqItems hS rfl ?_)
  refine wpAny_bind (m:=tryCatch (pyNext (.ref I)) _) (wpAny_tryCatch (W.item (j+1) s _ _ () qD λv h1 tk pv eG k1=>?_))
  have Th:=k1 S _ sw hS
  refine wpAny_bind (m:=tryCatch (holding [v,v] (richCompare .Gt v b >>= _)) _) (wpAny_tryCatch (wpAny_holding (wpAny_bind (cm (j+1) (argBest bt j) v b _ _ _ pv hb (wpAny_bind (wpAny_holding (wpAny_truthy_bool (wpAny_bind (wpAny_letGo (wpAny_pure ?_))))))))))
  cases q:bt (j+1) (argBest bt j)
  ·rw[if_neg ∅]
   refine wpAny_bind (wpAny_letGo ?_)
   rw[D8]
   refine wpAny_pure ⟨plainId_quiet Qc5 _,ih (j+1) _ b c () eG (by rw[argBest,q];exact hb) Th λv' h2 Te p2 k2=>?_⟩
   exact hR v' h2 Te p2 λa o aw aS ea=>k2 a o aw aS (k1 a o aw ea)
  ·rw[if_pos rfl]
   refine wpAny_bind (wpAny_updateSeq Th rfl (wpAny_bind (wpAny_letGo ?_)))
   rw[D8]
   refine wpAny_pure ⟨plainId_quiet Qc5 _,ih (j+1) _ v _ () (W.frame _ _ _ eG λa af o ea=>?_) (by rw[argBest,q];exact pv) (Qc1 _ Th rfl) λv' h2 Te p2 k2=>?_⟩
   ·exact (Qby _ _ (λz:S=a=>sf (z▸af))).trans ea
   ·exact hR v' h2 Te p2 λa o aw aS ea=>k2 a o aw aS ((Qby _ _ (Ne.symm aS)).trans (k1 a o aw ea))
theorem WU(a d:Value):argsOk "max" ⟨[a],[(Str.ofString "default",d)]⟩:=by unfold argsOk;kernel_rfl
theorem MT{x d:Value}
  (h:wpAny 94 A.in1 (pyIter x) (λit s₂=>∃I fp wr n P St bt,it= .ref I/\Walks prog w A.in1 I fp wr n P St/\St 0 s₂.heap/\(∀b∈fp,b<s₂.heap.objs.size)/\CmpOf prog w A.in1 .Gt P bt/\
   ∀v h' tk,(n=0->v=d)->(0<n->P (argBest bt (n - 1)) v)->(∀b o,b∉wr->s₂.heap.get? b=some o->h'.get? b=some o)->Q v { s₂ with heap:=h',toks:=tk }) E s):
  wpAny 94 A (call (.builtin "max") [x] [(Str.ofString "default",d)]) Q E s:=by
 refine kmk_tree PySem.F.kind_max PySem.F.plain_max PySem.F.entry_max (WU x d) ?_
 refine wpAny_bind (m:=Builtin.Builtins.bindParams "max" ["key","default"] 0 ⟨[],[(Str.ofString "default",d)]⟩) (wpAny_of_eq (a:=[none,some d]) rfl ?_)
 refine wpAny_bind (wpAny_pure (wpAny_bind (wpAny_mono h (λit s2 h2=>?_) λ_ _ e=>e)))
 obtain ⟨I,fp,wr,n,P,St,bt,rfl,W,qD,hfp,cm,hQ⟩:=h2
 refine wpAny_bind (wpAny_newObj_type ?_)
 have sf:s2.heap.objs.size∉fp:=λz=>Qbw _ (hfp _ z)
 have sw:s2.heap.objs.size∉wr:=λz=>sf (W.sub _ z)
 have hS:(s2.heap.push { cls:= .type "list",data:= .seq #[] }).get? s2.heap.objs.size=some { cls:= .type "list",dict:=none,data:= .seq #[] 0,slots:= #[] }:=Qau _ rfl
 have WV:=W.frame _ _ (s2.heap.push { cls:= .type "list",data:= .seq #[] }) qD λb _ o e=>Ta _ e
 have lo:∀{b o},s2.heap.get? b=some o->b≠s2.heap.objs.size:=λe=>Qa6 (Qay e)
 rw[D8]
 refine wpAny_pure ⟨plainId_quiet Qc5 _,codeAny_builtin Qfs ?_⟩
 rw[Around.under_plainId Qc5 _]
 refine wpAny_bind (m:=seqItems? (.ref s2.heap.objs.size)) (wpAny_seqItems hS rfl ?_)
 cases n with
 | zero=>
  refine wpAny_bind (m:=tryCatch (pyNext (.ref I)) _) (wpAny_tryCatch (W.done _ _ _ WV λh1 tk k1=>?_))
  refine wpAny_bind (wpAny_rule ?_)
  refine wpAny_pure (hQ d h1 tk (λ_=>rfl) (λz=>absurd z (Qbw _)) λb o bw e=>k1 b o bw (Ta _ e))
 | succ m=>
  refine wpAny_bind (m:=tryCatch (pyNext (.ref I)) _) (wpAny_tryCatch (W.item 0 _ _ _ (Nat.succ_pos _) WV λv h1 tk pv eG k1=>?_))
  have Th:=k1 _ _ sw hS
  refine wpAny_bind (m:=updateSeq s2.heap.objs.size λ_=> #[v,v]) (wpAny_updateSeq Th rfl ?_)
  rw[D8]
  refine wpAny_pure ⟨plainId_quiet Qc5 _,WT W cm sf m 0 _ v _ () (W.frame _ _ _ eG λa af o ea=>?_) pv (Qc1 _ Th rfl) λv' h2 Te p2 k2=>?_⟩
  ·exact (Qby _ _ (λz:s2.heap.objs.size=a=>sf (z▸af))).trans ea
  ·exact hQ v' h2 Te (λz=>by lia) (λ_=>p2) λb o bw e=>k2 b o bw (lo e) ((Qby _ _ (Ne.symm (lo e))).trans (k1 b o bw (Ta _ e)))
end
noncomputable def Rr(d:Int):List Int->Int
 | []=>d
 | a::r=>r.foldl (λx y=>if y>x then y else x) a
noncomputable def fQ(l:List Int)(i j:Nat):Bool:=decide (l.getD i 0>l.getD j 0)
theorem nR(l:List Int):∀n:Nat,n<(l:)->l.getD (argBest (fQ l) n) 0=((l.drop 1).take n).foldl (λx y=>if y>x then y else x) (l.getD 0 0)
 | 0,_=>by simp[argBest]
 | n+1,h=>by
  have ih:=nR l n ()
  have e:(l.drop 1).take (n+1)=(l.drop 1).take n++[l.getD (n+1) 0]:=by
   rw[Qgg,Qbm,show 1+n=n+1 by lia,Qam,Qy h]
   rfl
  rw[e,List.foldl_append, <-ih]
  show l.getD (if fQ l (n+1) (argBest (fQ l) n)=true then n+1 else argBest (fQ l) n) 0=if l.getD (n+1) 0>l.getD (argBest (fQ l) n) 0 then l.getD (n+1) 0 else l.getD (argBest (fQ l) n) 0
  by_cases z:l.getD (n+1) 0>l.getD (argBest (fQ l) n) 0
  ·rw[if_pos (show fQ l (n+1) (argBest (fQ l) n)=true from decide_eq_true z),if_pos z]
  ·rw[if_neg (show ¬fQ l (n+1) (argBest (fQ l) n)=true from λw=>z (of_decide_eq_true w)),if_neg z]
section
variable{X:Cx}
theorem Jb{prog:Program}{w:World}{A:Around}{l:List Int}{aJ:List Value}(r:Vals (l.map V.int) aJ):CmpOf prog w A .Gt (λi v=>aJ.toArray[i]? =some v) (fQ l):=by
 intro i j vi vj s Q E hi hj hQ
 have get:∀{i:Nat} {v:Value},aJ.toArray[i]? =some v->∃t,v= .int (l.getD i 0) t:=by
  intro i v h
  have h':aJ[i]? =some v:=by simpa using h
  have hl:i<(l:):=by have:=(Qz.mp h').1;rw[<-(r:),Qaa]at this;exact this
  obtain ⟨u,hu,ru⟩:=r.get (i:=i) (x:=V.int (l.getD i 0)) (by rw[Qat,Qam,Qy hl];rfl)
  rw[h']at hu;cases hu
  exact ru
 obtain ⟨t,rfl⟩:=get hi
 obtain ⟨u,rfl⟩:=get hj
 exact gt_int hQ
def WW(K:c7)(d:Int)(t:TA):TE:=λσ H Q=>t σ H λvs H1=>∃(p:Addr) (l:List Int),vs=[.ref p]/\bC K H1 p (l.map V.int)/\Q (.int (Rr d l)) H1
theorem MU{e:Expr}{t:TA}{d:Int}{j:Nat}{kp cp p pos:Pos}(K:c7)(hK:X.K=K)(hc:X.calm=true)(hg:Gl X "max")(hm:X.mg "max"=none)(ha:PA X [e] t)
  (he:backTo pos (starEach [e] X.env)=[(false,eval e X.env)]:=by rfl):PE X (.Call (.Name "max" p) [e] [⟨some "default", .Constant (.int d) j cp,kp⟩] pos) (WW K d t):=by
 subst hK
 walk_at"h"
 refine wpAny_Call_Name_kw (iA I hg hm boot_max ?_)
 refine callWith_kw (cA (ha pos pins s σ H _ I h) λus s1 ⟨vs,H1,I1,r1,q1⟩=>?_) he (by rw[he];rfl)
 obtain ⟨a,l,rfl,hq,q⟩:=q1
 obtain ⟨u,rfl,ru⟩:=vals1 r1
 cases ru
 refine kws_cons (wpAny_Constant_int (kws_nil ?_))
 obtain ⟨aJ,rv,pl,hz⟩:=I1.list hq
 have hlen:(aJ:)=(l:):=by rw[<-(rv:),Qaa]
 have hp:a<s1.heap.objs.size:=by
  obtain ⟨o,n,e,_⟩:=pl
  exact Qay e
 refine MT (wpAny_pyIter_list pl.isList ?_)
 refine ⟨_,_,_,_,_,_,fQ l,rfl,Walks.list (A:=X.A.in1) (I1.ok.hd hc) s1.heap.objs.size a (Qa6 hp) aJ.toArray,⟨⟨_,Qau _ rfl,rfl,rfl⟩,?_⟩,λb hb=>?_,Jb rv,λv h' tk h0 h1 hk=>?_⟩
 ·obtain ⟨o,ho,hr⟩:=pl.isList
  exact ⟨o,Ta _ ho,hr⟩
 ·show b<(s1.heap.push _).objs.size
  rw[Qcu]
  exact (Qaq.mp hb).elim (λz=>z▸Qcs _) λz=>(Qab.mp z)▸Qcv hp
 ·have ru:RelV (.int (Rr d l)) v:=by
   cases l with
   | nil=>
    have:=h0 (by rw[Qao,hlen];rfl)
    subst this
    exact ⟨_,rfl⟩
   | cons b l=>
    have hn:aJ.toArray.size - 1=(l:):=by rw[Qao,hlen];rfl
    have hP:=h1 (by rw[Qao,hlen];exact Nat.succ_pos _)
    rw[hn]at hP
    have hP':aJ[argBest (fQ (b::l)) (l:)]? =some v:=by simpa using hP
    have hl:argBest (fQ (b::l)) (l:)<((b::l):):=Nat.lt_succ_of_le (argBest_lt _ _)
    have e:=nR (b::l) (l:) (Qcs _)
    rw[show ((b::l).drop 1).take (l:)=l from Qar (Qad _),Qam,Qy hl]at e
    have e':(b::l)[argBest (fQ (b::l)) (l:)]=Rr d (b::l):=e
    obtain ⟨u,hu,ru⟩:=rv.get (i:=argBest (fQ (b::l)) (l:)) (x:=V.int (Rr d (b::l))) (by rw[Qat,Qy hl,e'];rfl)
    rw[hP']at hu;cases hu
    exact ru
  refine ⟨.int (Rr d l),H1,?_,ru,q⟩
  have I2:Inv X pins σ H1 { s1 with heap:=s1.heap.push { cls:= .type "list_iterator",data:= .fields #[.ref a,.int 0 0] },toks:=s1.toks+1 }:=I1.kept (t':=s1.toks+1) λb o e=>Ta _ e
  have f:=I1.sG (H':=H1) (b:=s1.heap.objs.size) (Qad _) I1.fresh
  exact I2.turned (h':=h') (t':=tk) (it:=s1.heap.objs.size) (λb o hb e=>hk b o (by simpa using hb) e) f.1 f.2.1 f.2.2.2.1 f.2.2.2.2.1 f.2.2.2.2.2
theorem Rt:Vp X .Mult (λx y H Q=>∃i j,x= .int i/\y= .int j/\BQ i j/\Q (.int (i*j)) H):=by
 intro pins s σ H x y v u Q I r1 r2 h
 obtain ⟨i,j,rfl,rfl,c,q⟩:=h
 walk_at"T"
 obtain ⟨t',rfl⟩:=r2
 exact imul_int ⟨.int _,H,I.tok _,⟨_,rfl⟩,q⟩ c.ok
theorem MV:Vp X .FloorDiv (λx y H Q=>∃i j,x= .int i/\y= .int j/\Zh i j/\Q (.int (i / j)) H):=by
 intro pins s σ H x y v u Q I r1 r2 h
 obtain ⟨i,j,rfl,rfl,hc,q⟩:=h
 walk_at"T"
 obtain ⟨t',rfl⟩:=r2
 have h1:(0:Int)<j:=hc.1
 have h2:j<1073741824:=hc.2
 exact ifloordiv_int () (by rw[Int.fdiv_eq_ediv_of_nonneg i ()];exact ⟨.int _,H,I.tok _,⟨_,rfl⟩,q⟩) (.inl (PyProof.noPylong_small ()))
end
theorem Ay:∀{ls:List Int} {aJ:List Value},Vals (ls.map V.int) aJ->IntsAre aJ ls
 | [],_,.nil=> .nil
 | _::_,_,.cons ⟨t,e⟩ h=>e▸ .cons _ t (Ay h)
theorem Az:∀{ls:List Int} {aJ:List Value},IntsAre aJ ls->Vals (ls.map V.int) aJ
 | _,_,.nil=> .nil
 | _,_,.cons n t h=> .cons ⟨t,rfl⟩ (Az h)
section
variable{prog:Program}{w:World}{A:Around}{E:Value->Shared->Prop}{s:Shared}
theorem yx(hh:A.handled=none)(d:Addr)(aN:List (Key×Value))(ep:Nat)(ls:List Int)(hk:aN.map (·.1)=ls.map λl=>Sum.inl l)(hd:(d==sysModules)=false)(hm:s.heap.DictAt (cV prog w) d aN ep)(h64:(aN:)<64)
  (h:∀(h1 h':Heap) (tk:Nat) (a:Addr) (out:Array Value) (mj:List Int) (e:Nat),(∀b o,s.heap.get? b=some o->h1.get? b=some o)->(∀b o,h1.get? b=some o->h'.get? b=some o)->a=h1.objs.size->h'.get? a=some (seqObj "list" out e)->IntsAre out.toList mj->mj.Perm ls->(mj.Pairwise λa b=> ¬b<a)->Q (.ref a) { s with heap:=h',toks:=tk }):
  wpAny 94 A (call (.builtin "sorted") [.ref d]) Q E s:=by
 walk_at"L"
 unfold Builtin.«sorted»
 refine wpAny_bind (m:=checkCount "sorted" 1 1 _) (wpAny_pure ?_)
 have mD:(10000:Nat)<sizeLine:=by decide
 refine wpAny_bind (yn (A:=A.in1) (show A.in1.handled=none from hh) d aN ep hd hm () (λs' acc hkk hg Ru ho Ca=>?_))
 obtain ⟨h1,h2⟩:=Ca
 have hlen:(aN:)=(ls:):=by have:=congrArg List.length hk;simpa using this
 have rv:Vals (ls.map V.int) acc.toList:=by
  have key:∀(ls:List Int) (vs:List Value),(vs:)=(ls:)->(∀(j:Nat) (v:Value),vs[j]? =some v->∃l t,ls[j]? =some l/\v=Value.int l t)->Vals (ls.map V.int) vs:=by
   intro ls
   induction ls with
   | nil=>intro vs hl _;have:vs=[]:=Qdc hl;subst this;exact .nil
   | cons l ls ih=>
    intro vs hl hv
    cases vs with
    | nil=>simp at hl
    | cons v vs=>
     obtain ⟨l',t,e1,e2⟩:=hv 0 v rfl
     have Ci:l=l':=by simpa using e1
     subst Ci
     refine .cons ⟨t,e2⟩ (ih vs (by simpa using hl) λj v' e=>?_)
     obtain ⟨l',t',g1,g2⟩:=hv (j+1) v' 139
     exact ⟨l',t',by simpa using g1,g2⟩
  refine key ls acc.toList (by simpa [<-hlen]using h1) λj v e=>?_
  obtain ⟨k,x,e1,e2⟩:=h2 j v 139
  have e3:(aN.map (·.1))[j]? =some k:=by rw[Qat,e1];rfl
  rw[hk,Qat]at e3
  cases e4:ls[j]? with
  | none=>rw[e4]at e3;cases e3
  | some l=>
   rw[e4]at e3
   have e5:k=Sum.inl l:=(Qal e3).symm
   subst e5
   obtain ⟨t,e6⟩:=Value.isInt_shape (k:=l) (v:=v) e2
   exact ⟨l,t,rfl,e6⟩
 have hS:=Ay rv
 have hn:(acc.toList:)=(ls:):=by rw[<-(rv:),Qaa]
 refine wpAny_bind (wpAny_newList ?_)
 have Fh:(s'.heap.push (seqObj "list" acc.toList.toArray 0)).get? s'.heap.objs.size=some (seqObj "list" acc.toList.toArray 0):=Qau _ rfl
 show wpAny _ _ _ _ _ { s' with heap:=s'.heap.push (seqObj "list" acc.toList.toArray 0) }
 refine wpAny_bind (wpAny_holding (wpAny_call_entry slot_list_sort ⟨_,Fh,rfl⟩ entry_list_sort (list_sort_tree Fh hS () λout mj k1 k2 k3=>⟨_,rfl,?_⟩) (args_list_sort _)))
 obtain ⟨e,he⟩:=sortedHeap_at (out:=out) Fh
 refine wpAny_pure ⟨_,rfl,?_⟩
 have es:∀hh:Heap,({ s' with heap:=hh }:Shared)={ s with heap:=hh,toks:=s'.toks }:=λhh=>by
  cases s;cases s'
  simp only at hg Ru ho
  subst hg Ru ho
  rfl
 show Q (.ref s'.heap.objs.size) { s' with heap:=sortedHeap (s'.heap.push (seqObj "list" acc.toList.toArray 0)) s'.heap.objs.size acc.toList (out) }
 rw[es]
 refine h s'.heap _ _ _ _ mj e hkk (λb o hb=>?_) rfl he k1 k2 (k3.imp λh=>Int.not_lt.mpr h)
 have cH:=Qay hb
 rw[sortedHeap_old (Qa6 cH) (by rw[size_push'];exact Qcv cH)]
 exact Ta _ hb
end
section
variable{X:Cx}
def MW:List V->Hp->VK->Prop:=λxs H Q=>∃(d:Addr) (aN:List (Key×V)) (ls:List Int),xs=[.ref d]/\H d=some (.dK aN)/\aN.map (·.1)=(ls.map λl=>Sum.inl l)/\(ls:)<64/\∀(q:Addr) (ms:List Int),H q=none->ms.Perm ls->(ms.Pairwise λa b=> ¬b<a)->Q (.ref q) (upd H q (.lst (ms.map V.int)))
theorem vH(hc:X.calm=true):dA X (.builtin "sorted") MW:=by
 walk_at"e"
 obtain ⟨d,aN,ls,rfl,hd,hk,hn,q⟩:=h
 obtain ⟨u,rfl,ru⟩:=vals1 r
 cases ru
 obtain ⟨hz,aag,vs,kv,o,es,ep,e1,e2,e3,e4,e5,e6⟩:=I.cq d _ hd
 have hlen:(vs:)=(ls:):=by
  have a1:=congrArg List.length (DU kv)
  have a2:=congrArg List.length hk
  simp only[Qaa]at a1 a2
  lia
 refine yx (s:=s) (I.ok.hd hc) d vs ep ls ((DU kv).trans hk) aag ⟨o,es,e1,e2,e3,e4,e5,e6⟩ () λh1 h' tk a out mj e k1 k2 ea he g1 g2 g3=>?_
 have qG:=g2
 have hv:=Az g1
 have pw:=g3
 have I1:Inv X pins σ H { s with heap:=h1,toks:=tk }:=I.kept k1
 have hsz:(10000:Nat)<sizeLine:=by decide
 have I2:Inv X pins σ (upd H a (.lst (mj.map V.int))) { s with heap:=h',toks:=tk }:=
  I1.laid (t':=tk) (a:=a) (o:= .lst (mj.map V.int)) k2 (by rw[ea];exact Qad _) ⟨by rw[Qaa,qG.length_eq];lia,out.toList,e,hv,by simpa [seqObj]using he⟩
 exact ⟨.ref a,_,I2,rfl,q _ _ (I1.cq.fresh (by rw[ea];exact Qad _)) qG pw⟩
end
noncomputable abbrev NB:=Int×Int×Bool
def iC(h:Heap)(v:Value)(n:NB):Prop:=∃x ox us m t u,v= .ref x/\h.get? x=some ox/\ox.cls= .type "tuple"/\ox.data= .seq us m/\us.toList=[Value.int n.1 t,.int n.2.1 u,.bool n.2.2]
variable{n:NB}{h:Heap}{v:Value}
theorem iC.Rv{m:NB}(p:iC h v n)(q:iC h v m):n=m:=by
 obtain ⟨x,ox,us,j,_,_,rfl,e1,_,d1,i1⟩:=p
 obtain ⟨y,oy,vs,l,_,_,e,e2,_,d2,i2⟩:=q
 cases e
 rw[e1]at e2
 cases e2
 rw[d1]at d2
 cases d2
 rw[i1]at i2
 obtain ⟨a,b,c⟩:=n
 obtain ⟨a',b',c'⟩:=m
 simp only[List.cons.injEq,Value.int.injEq,Value.bool.injEq,and_true]at i2
 obtain ⟨⟨g1,_⟩,⟨g2,_⟩,g3⟩:=i2
 subst g1 g2 g3
 rfl
theorem iC.keep{h':Heap}(p:iC h v n)(kp:∀x o,v= .ref x->h.get? x=some o->h'.get? x=some o):iC h' v n:=by
 obtain ⟨x,ox,us,m,t,u,e,g,r⟩:=p
 exact ⟨x,ox,us,m,t,u,e,kp x ox e g,r⟩
def D9(h:Heap)(vs:List Value):Prop:=(∀v∈vs,∃n,iC h v n)/\∀u∈vs,∀v∈vs,∀n m,iC h u n->iC h v m->n.1=m.1->n.2.1=m.2.1->n=m
open Classical in
noncomputable def vI(h:Heap)(p:Keyed):NB:=if e:∃n,iC h p.1 n then Classical.choose e else (0,0,false)
theorem D_{p:Keyed}(q:iC h p.1 n):vI h p=n:=by
 unfold vI
 rw[dif_pos ⟨n,q⟩]
 exact (Classical.choose_spec (⟨n,q⟩:∃n,iC h p.1 n)).Rv q
noncomputable def ltB(h:Heap)(p q:Keyed):Bool:=bA [(vI h p).1,(vI h p).2.1] [(vI h q).1,(vI h q).2.1]
theorem Rw(h:Heap):g8 (ltB h):=⟨λ_ _ e=>gC _ _ e,λ_ _ _ e g=>rO _ _ _ e g⟩
variable{u:Value}
section
variable{prog:Program}{w:World}{A:Around}{E:Value->Shared->Prop}{s:Shared}
theorem AA{b:Bool}{Q:Bool->Shared->Prop}(h:Q true s):wpAny 94 A (eqBool (.bool b) (.bool b)) Q E s:=by
 unfold eqBool
 show wpAny _ _ (if (Value.bool b==Value.bool b)=true then _ else _) Q E s
 rw[if_pos (by simp)]
 exact wpAny_bind (wpAny_rule (wpAny_pure h))
theorem tb_lt{a c:NB}{Q:Bool->Shared->Prop}(hx:iC s.heap u a)(hy:iC s.heap v c)(hn:a.1=c.1->a.2.1=c.2.1->a=c)(q:Q (bA [a.1,a.2.1] [c.1,c.2.1]) s):wpAny 94 A (keyLt' (tuples' true) u v) Q E s:=by
 obtain ⟨x,ox,us,n,t1,t2,rfl,gx,_,dx,ix⟩:=hx
 obtain ⟨y,oy,vs,m,t3,t4,rfl,gy,_,dy,iy⟩:=hy
 refine PySem.W.kat_lt gx dx gy dy ?_
 rw[show decide (us.size<vs.size)=false from decide_eq_false (by rw[<-Qa8, <-Qa8,ix,iy];exact Qbw _),ix,iy]
 refine Qgp (wpAny_eqBool_int ?_)
 by_cases e:a.1=c.1
 ·rw[show (a.1==c.1)=true by simp[e]]
  refine Qgy (Qgp (wpAny_eqBool_int ?_))
  by_cases g:a.2.1=c.2.1
  ·rw[show (a.2.1==c.2.1)=true by simp[g],hn e g]
   rw[hn e g,show bA [c.1,c.2.1] [c.1,c.2.1]=false by simp[bA]]at q
   exact Qgy (Qgp (AA (Qgy (PySem.W.kat_nil q))))
  ·rw[show (a.2.1==c.2.1)=false by simp[g]]
   rw[show bA [a.1,a.2.1] [c.1,c.2.1]=decide (a.2.1<c.2.1) by simp[bA,e,g]]at q
   exact PySem.W.kat_no (PySem.W.kat_one _ _ (lt_int q))
 ·rw[show (a.1==c.1)=false by simp[e]]
  rw[show bA [a.1,a.2.1] [c.1,c.2.1]=decide (a.1<c.1) by simp[bA,e]]at q
  exact PySem.W.kat_no (PySem.W.kat_lt_int (E:=λ_ _=>False) q)
theorem AB{h:Heap}:∀{vs:List Value},(∀v∈vs,∃n,iC h v n)->∃fs,PySem.W.KatTups h vs fs/\(fs:)=(vs:)/\∀v∈fs,∃i t,v=Value.int i t
 | [],_=>⟨[],trivial,rfl,λ_ h=>absurd h Qav⟩
 | v::vs,hv=>by
  obtain ⟨fs,k1,k2,k3⟩:=AB λu hu=>hv u (Qah _ hu)
  obtain ⟨n,x,ox,us,m,t,u,rfl,e2,e3,e4,e5⟩:=hv v Qak
  exact ⟨.int n.1 t::fs,⟨⟨x,ox,us,m,rfl,e2,e3,e4,by rw[<-Qbc,e5];rfl⟩,k1⟩,by rw[Qa9,k2];rfl,λz hz=>(Qaq.mp hz).elim (λe=>⟨_,_,e⟩) (k3 z)⟩
theorem AD{a:Addr}{n:Nat}{P:PySem.Fin->Shared->Prop}(ho:s.heap.get? a=some (seqObj "list" vs.toArray n))(hp:D9 s.heap vs)(hna:∀v∈vs,v≠ .ref a)(hsz:(vs:)<=sizeLine)
  (q:∀(out:List Value),out.Perm vs->P (.done (.ret .none)) { s with heap:=sortedHeap s.heap a vs out.toArray }):wpAny 94 A (Builtin.«list.sort» ⟨[.ref a],[]⟩) P E s:=by
 rw[list_sort_plain]
 refine wpAny_bind (listItems_at ho rfl (wpAny_bind (listUpdate_at ho rfl ?_ (by rw[Qao];lia) (Qax _))))
 obtain ⟨e1,ho1⟩:∃e1,(s.heap.update a (Obj.mapSeq λ_=> #[])).get? a=some (seqObj "list" #[] e1):=⟨_,get?_update_seq ho (λ_=> #[])⟩
 refine wpAny_bind (seqEpoch_at ho1 rfl (wpAny_bind (wpAny_newTuple (wpAny_bind (wpAny_newList (wpAny_holding ?_) (Qax _))) (by show (vs:)<=_;lia))))
 generalize hH:((s.heap.update a (Obj.mapSeq λ_=>(#[]:Array Value))).push (seqObj "tuple" vs.toArray 0)).push (seqObj "list" #[] 0)=H2
 have ho6:H2.get? a=some (seqObj "list" #[] e1):=by
  rw[<-hH]
  exact Ta _ (Ta _ ho1)
 have keep:∀b o,b≠a->s.heap.get? b=some o->H2.get? b=some o:=λb o hb e=>by
  rw[<-hH]
  exact Ta _ (Ta _ ((Qby s.heap _ (Ne.symm hb)).trans e))
 have kp1:∀v∈vs,∀n,iC s.heap v n->iC H2 v n:=λv hv n h=>h.keep λx o e g=>keep x o (λz=>hna v hv (by rw[e,z])) g
 have nL:D9 H2 vs:=⟨λv hv=>by obtain ⟨n,h⟩:=hp.1 v hv;exact ⟨n,kp1 v hv n h⟩,λu hu v hv n m g1 g2=>by
  obtain ⟨n',h1⟩:=hp.1 u hu
  obtain ⟨m',h2⟩:=hp.1 v hv
  rw[g1.Rv (kp1 u hu _ h1),g2.Rv (kp1 v hv _ h2)]
  exact hp.2 u hu v hv n' m' h1 h2⟩
 have fin:∀st:SortSt,(arrOf st).toList.Perm (vs.zip vs)->failedOf st=none->wpAny 94 A (do { let touched:=(<-seqEpoch a) != e1;Builtin.List.listUpdate (.ref a) (λ_=>(arrOf st).map (·.2));if let some e:=failedOf st then { rule "list.sort.comparison-raised";throw e };if touched then { rule "list.sort.modified";raiseError "ValueError" "list modified during sort" };ret .none }) P E { s with heap:=H2 }:=λst e0 e2=>by
  rw[e2]
  have hlen:(arrOf st).size=(vs:):=by rw[<-Qa8,e0.length_eq,List.length_zip,Nat.min_self]
  refine wpAny_bind (seqEpoch_at ho6 rfl (wpAny_bind (listUpdate_at ho6 rfl ?_ (Qax _) (by rw[Array.size_map,hlen];lia))))
  simp only[bne_self_eq_false,Qc0,if_false]
  refine wpAny_pure ?_
  have g3:((arrOf st).toList.map (·.2)).Perm vs:=by
   have:=e0.map (·.2)
   rwa [DR]at this
  have:=q _ g3
  have e3:sortedHeap s.heap a vs ((arrOf st).toList.map (·.2)).toArray=H2.update a (Obj.mapSeq λ_=>(arrOf st).map (·.2)):=by
   unfold sortedHeap
   rw[hH]
   have:((arrOf st).toList.map (·.2)).toArray=(arrOf st).map (·.2):=by apply Qeo.mp;simp
   rw[this]
  rw[e3]at this
  exact this
 show wpAny 94 A _ P E { s with heap:=H2 }
 dsimp only
 by_cases h2:vs.toArray.size<2
 ·rw[if_pos h2,if_pos h2]
  walk_at"M"
  rw[StateT.run_pure]
  walk_at"M"
  exact fin (SortSt.mk' general' (vs.toArray.zip vs.toArray) #[] 7 none) (by show (vs.toArray.zip vs.toArray).toList.Perm _;simp) rfl
 ·have h2':2<=(vs:):=by rw[Qao]at h2;lia
  rw[if_neg h2,if_neg h2]
  obtain ⟨fs,k1,k2,k3⟩:=AB nL.1
  refine wpAny_bind (PySem.W.kat_kind (s:={ s with heap:=H2 }) (T:= .type "int") k1 () (λv hv=>by obtain ⟨i,t,rfl⟩:=k3 v hv;exact PySem.W.Looks.of_pure rfl) (by rfl) ?_)
  have ez:(vs.toArray.zip vs.toArray).toList=vs.zip vs:=by simp
  have C:ke prog w A E { s with heap:=H2 } (tuples' true) (ltB H2) (vs.toArray.zip vs.toArray):=by
   intro st p q' Q hk rN L9 hQ
   rw[ez]at rN L9
   obtain ⟨m1,t1⟩:=nL.1 _ (mem_zip_self rN).2
   obtain ⟨m2,t2⟩:=nL.1 _ (mem_zip_self L9).2
   have Yf:Q (some (bA [(vI H2 p).1,(vI H2 p).2.1] [(vI H2 q').1,(vI H2 q').2.1])) st:=hQ
   rw[D_ t1,D_ t2]at Yf
   rw[lt'_eq]
   walk_at"t"
   rw[hk]
   refine wpS_bind (wpS_lift (wpAny_attempt (tb_lt (s:={ s with heap:=H2 }) t1 t2 (nL.2 _ (mem_zip_self rN).2 _ (mem_zip_self L9).2 _ _ t1 t2) ⟨rfl,?_⟩)))
   exact wpS_pure Yf
  have run:=D7 (a₀:=vs.toArray.zip vs.toArray) (st:=SortSt.mk' (tuples' (Value.type "int" != Value.type "tuple")) (vs.toArray.zip vs.toArray) #[] 7 none) (Q:=λ_ aT=>(arrOf aT).toList.Perm (vs.zip vs)/\failedOf aT=none) (Rw H2) C ⟨Qg1 _,rfl,rfl⟩ rfl λaT a1 a2 a3=>⟨by rw[<-ez];exact Qbx.mp a1,a2⟩
  refine wpAny_bind (wpAny_mono run ?_ λ_ _ e=>e)
  rintro ⟨⟨⟩,aT⟩ s' ⟨rfl,g1,g3⟩
  exact fin aT g1 g3
theorem Jc{n:Nat}(ho:s.heap.get? tp=some o)(hc:o.cls= .type "list")(hd:o.data= .seq vs.toArray n)(hp:D9 s.heap vs)(hsz:(vs:)<=sizeLine)
  (q:∀(h1 h':Heap) (a:Addr) (e:Nat) (out:List Value),(∀b o,s.heap.get? b=some o->h1.get? b=some o)->(∀b o,h1.get? b=some o->h'.get? b=some o)->a=h1.objs.size->h'.get? a=some (seqObj "list" out.toArray e)->out.Perm vs->Q (.ref a) { s with heap:=h' }):
  wpAny 94 A (call (.builtin "sorted") [.ref tp]) Q E s:=by
 walk_at"L"
 unfold Builtin.«sorted»
 refine wpAny_bind (m:=checkCount "sorted" 1 1 _) (wpAny_pure (wpAny_bind (wpAny_collect_seq tp (.inl rfl) ho hc hd (λh1 k1=>?_) (by rw[Qao];lia))))
 refine wpAny_bind (wpAny_newList ?_ (by show (vs:)<=_;lia))
 have Fh:(h1.push (seqObj "list" vs.toArray 0)).get? h1.objs.size=some (seqObj "list" vs.toArray 0):=Qau _ rfl
 show wpAny _ _ _ _ _ { s with heap:=h1.push (seqObj "list" vs.toArray 0) }
 have kp:∀v∈vs,∀n,iC s.heap v n->iC (h1.push (seqObj "list" vs.toArray 0)) v n:=λv hv n h=>h.keep λx o _ g=>Ta _ (k1 x o g)
 have nL:D9 (h1.push (seqObj "list" vs.toArray 0)) vs:=⟨λv hv=>by obtain ⟨n,h⟩:=hp.1 v hv;exact ⟨n,kp v hv n h⟩,λu hu v hv n m g1 g2=>by
  obtain ⟨n',h1⟩:=hp.1 u hu
  obtain ⟨m',h2⟩:=hp.1 v hv
  rw[g1.Rv (kp u hu _ h1),g2.Rv (kp v hv _ h2)]
  exact hp.2 u hu v hv n' m' h1 h2⟩
 refine wpAny_bind (wpAny_holding (wpAny_call_entry slot_list_sort ⟨_,Fh,rfl⟩ entry_list_sort (AD (s:={ s with heap:=h1.push (seqObj "list" vs.toArray 0) }) Fh nL (λv hv z=>by
  obtain ⟨n,x,ox,_,_,_,_,e,g,_⟩:=hp.1 v hv
  have cH:=Qay (k1 x ox g)
  rw[e]at z
  cases z
  exact Qbw _ cH) hsz λout po=>⟨_,rfl,?_⟩) (args_list_sort _)))
 obtain ⟨e,he⟩:=sortedHeap_at (out:=out.toArray) Fh
 refine wpAny_pure ⟨_,rfl,q h1 _ _ e out k1 (λb o hb=>?_) rfl he po⟩
 have cH:=Qay hb
 rw[sortedHeap_old (Qa6 cH) (by rw[size_push'];exact Qcv cH)]
 exact Ta _ hb
end
section
variable{X:Cx}
theorem Rx:jY X (compareOp .LtE) (V7 λa b=>!decide (b<a)):=by
 walk_at"b"
 walk_at"O"
 walk_at"g"
 walk_at"Y"
 exact P.le_str (bz I (by rw[dX,dX];exact q) rfl)
noncomputable def BH(ts:List (Addr×NB)):List V:=ts.map λx=>V.ref x.1
def Jd(H:Hp)(ts:List (Addr×NB)):Prop:=∀x∈ts,H x.1=some (.tup [.int x.2.1,.int x.2.2.1,.bl x.2.2.2])
inductive w_(K:c7)(xs:List V)(H:Hp)(Q:VK):Prop
 | mk (p:Addr) (ts:List (Addr×NB)) (_:xs=[.ref p]) (_:bC K H p (BH ts)) (_:Jd H ts) (_:∀x∈ts,∀z∈ts,x.2.1=z.2.1->x.2.2.1=z.2.2.1->x.2=z.2) (_:∀q xa,H q=none->xa.Perm ts->Q (.ref q) (upd H q (.lst (BH xa)))):w_ K xs H Q
def MX(K:c7):List V->Hp->VK->Prop:=w_ K
theorem MY{pins:List 126}{σ:St}{H:Hp}(I:Inv X pins σ H s){t:Addr}(r:RelV (.ref t) u)(h:H t=some (.tup [.int n.1,.int n.2.1,.bl n.2.2])):iC s.heap u n:=by
 cases r
 obtain ⟨xs,MD,px,_⟩:=I.tuple (bY.of (K:=X.K) h)
 obtain ⟨ox,Tc,G6,mx,Wi⟩:=px
 cases MD with
 | cons r1 MD=>cases MD with
  | cons r2 MD=>cases MD with
   | cons r3 MD=>
    cases MD
    obtain ⟨t1,rfl⟩:=r1
    obtain ⟨t2,rfl⟩:=r2
    cases r3
    exact ⟨_,ox,_,mx,t1,t2,rfl,Tc,G6,Wi,by simp⟩
theorem AE:∀{ys:List V} {us:List Value},Vals ys us->∀u∈us,∃v∈ys,RelV v u
 | _,_,.nil,u,hu=>absurd hu Qav
 | _,_,.cons r rs,u,hu=>by
  rcases Qaq.mp hu with e | e
  ·rw[e];exact ⟨_,Qak,r⟩
  ·obtain ⟨v,hv,h⟩:=AE rs u e
   exact ⟨v,Qah _ hv,h⟩
theorem Je{l l2:List V}(h:l.Perm l2):∀ts,l2=BH ts->∃xa:List (Addr×NB),l=BH xa/\xa.Perm ts:=by
 induction h with
 | nil=>intro ts e;exact ⟨ts,e,.refl _⟩
 | cons x _ ih=>
  intro ts e
  cases ts with
  | nil=>cases e
  | cons t ts=>
   injection e with e1 e2
   obtain ⟨us,g1,g2⟩:=ih ts e2
   exact ⟨t::us,by rw[e1,g1];rfl,g2.cons _⟩
 | swap x y l=>
  intro ts e
  cases ts with
  | nil=>cases e
  | cons t ts=>cases ts with
   | nil=>injection e with e1 e2;cases e2
   | cons t2 ts=>
    injection e with e1 e2
    injection e2 with e2 e3
    exact ⟨t2::t::ts,by rw[e1,e2,e3];rfl,.swap _ _ _⟩
 | trans _ _ a b=>
  intro ts e
  obtain ⟨us,g1,g2⟩:=b ts e
  obtain ⟨vs,g3,g4⟩:=a us g1
  exact ⟨vs,g3,g4.trans g2⟩
theorem vJ(K:c7)(h:X.K=K):dA X (.builtin "sorted") (MX K):=by
 subst h
 walk_at"e"
 obtain ⟨p,ts,rfl,hq,hv,hn,q⟩:=h
 obtain ⟨u,rfl,ru⟩:=vals1 r
 cases ru
 obtain ⟨aJ,rv,pl,hz⟩:=I.list hq
 obtain ⟨o,ho,hc,m,hd⟩:=pl.isList
 have at_:∀u∈aJ,∃x∈ts,iC s.heap u x.2:=λu hu=>by
  obtain ⟨v,hvm,rl⟩:=AE rv u hu
  obtain ⟨x,hx,rfl⟩:=Qa4.mp hvm
  exact ⟨x,hx,MY I rl (hv x hx)⟩
 refine Jc ho hc hd ⟨λu hu=>by obtain ⟨x,_,h⟩:=at_ u hu;exact ⟨_,h⟩,λa ha b hb n m g1 g2 e1 e2=>?_⟩ (by rw[<-(rv:)];exact hz) λh1 h' a e out k1 k2 ea he po=>?_
 ·obtain ⟨x,hx,h1⟩:=at_ a ha
  obtain ⟨z,hz,h2⟩:=at_ b hb
  rw[g1.Rv h1,g2.Rv h2]at e1 e2 ⊢
  exact hn x hx z hz e1 e2
 ·obtain ⟨Ro,py,ry⟩:=F_ po rv
  have I1:Inv X pins σ H { s with heap:=h1 }:=I.kept (t':=s.toks) k1
  have I2:Inv X pins σ (upd H a (.lst Ro)) { s with heap:=h' }:=I1.laid (t':=s.toks) (a:=a) (o:= .lst Ro) k2 (by rw[ea];exact Qad _) ⟨by rw[py.length_eq];exact hz,out,e,ry,by simpa [seqObj]using he⟩
  obtain ⟨xa,rfl,pt⟩:=Je py ts rfl
  exact ⟨.ref a,_,I2,rfl,q _ xa (I1.cq.fresh (by rw[ea];exact Qad _)) pt⟩
end
end L2
namespace My
open PySem PySem.Spec PyProof.Rows L2 XL
theorem Zs1:(100000:Nat)<sizeLine:=∅
noncomputable def aY:c0:=[97,98,99,100,101,102,103,104,105,106,107,108,109,110,111,112,113,114,115,116,117,118,119,120,121,122]
noncomputable def ki:c0:=[65,66,67,68,69,70,71,72,73,74,75,76,77,78,79,80,81,82,83,84,85,86,87,88,89,90]
def Lt(c:Nat):Prop:=c∈aY\/c∈ki
noncomputable instance (c:Nat):Decidable (Lt c):=by unfold Lt;infer_instance
noncomputable def az(c:Nat):Nat:=if aB c=true then PyProof.Rows.up1 c else PyProof.Rows.lo1 c
theorem yy:∀c∈aY++ki,c<128/\az c∈aY++ki/\az (az c)=c/\az c≠c:=⋯
variable{c:Nat}
theorem Lt.mem(h:Lt c):c∈aY++ki:=Qan.mpr h
theorem Lt.lt(h:Lt c):c<128:=(yy c h.mem).1
theorem Lt.az{c:Nat}(h:Lt c):Lt (az c):=Qan.mp (yy c h.mem).2.1
theorem aF(h:Lt c):az (az c)=c:=(yy c h.mem).2.2.1
theorem eM(h:Lt c):az c≠c:=(yy c h.mem).2.2.2
variable{a b:Nat}
theorem dM(ha:Lt a)(hb:Lt b)(e:My.az a=My.az b):a=b:=by rw[<-aF ha,e,aF hb]
theorem AF:∀c∈aY,vp ki ((aY.idxOf c:Nat):Int)=some (az c):=⋯
theorem Gb:∀c∈ki,vp aY ((ki.idxOf c:Nat):Int)=some (az c):=⋯
noncomputable def di(l:c0):c0:=(l.map az).reverse
def aV(b:Addr)(H H':Hp):Prop:=∀c o,H c=some o->c≠b->H' c=some o
theorem aV.refl(b:Addr)(H:Hp):aV b H H:=λ_ _ h _=>h
variable{H H2:Hp}
theorem aV.trans{b:Addr}{H1:Hp}(x:aV b H H1)(y:aV b H1 H2):aV b H H2:=λc o h n=>y c o (x c o h n) n
variable{H':Hp}
theorem aV.of{b:Addr}(x:aq H H'):aV b H H':=λc o h _=>x c o h
theorem aV.upd(b:Addr)(H:Hp)(o:HO):aV b H (upd H b o):=λc o h n=>by rw[aA n];exact h
variable{o:HO}
theorem aq.upd{p:Addr}(h:H p=none):aq H (L2.upd H p o):=λc u e=>by rw[aA (au e h)];exact e
def dW(H:Hp)(b:Addr):Prop:=∃x y:Int,H b=some (.lst [.int x,.int y])
theorem dW.same{b:Addr}(h:dW H b)(s:aq H H'):dW H' b:=let ⟨x,y,e⟩:=h;⟨x,y,s _ _ e⟩
structure Yd(y:c0):Prop where
 nd:y.Nodup
 lt:∀c∈y,Lt c
 cl:∀c∈y,az c∈y
def qI(_:c7):Sp:=λvs H Q _=>∃c,vs=[.str (S [c])]/\c<128/\Q (.str (S [az c])) H
variable{K:c7}{vs:List V}{Q:VK}{E:XK}
theorem yz(h:qI K vs H Q E):(vs:)=1:=by obtain ⟨c,rfl,_⟩:=h;rfl
def xb(_:c7):Sp:=λvs H Q _=>∃c,vs=[.str (S [c])]/\Lt c/\Q (.str (S [az c])) H
theorem Cz(h:xb K vs H Q E):(vs:)=1:=by obtain ⟨c,rfl,_⟩:=h;rfl
def xc(_:c7):Sp:=λvs H Q _=>∃l:c0,vs=[.str (S l)]/\(∀c∈l,c<128)/\(l:)<=1000/\∀H',aq H H'->Q (.str (S (di l))) H'
theorem CA(h:xc K vs H Q E):(vs:)=1:=by obtain ⟨c,rfl,_⟩:=h;rfl
inductive xf(K:c7)(vs:List V)(H:Hp)(Q:VK)(cy:XK):Prop
 | mk (a:Addr) (ns:List Int) (k:Nat) (_:vs=[.ref a,.int k]) (_:bC K H a (ns.map V.int)) (_:k<=1000) (_:∀b H',H b=none->dW H' b->aq H H'->Q (.ref b) H'):xf K vs H Q cy
def Ea(K:c7):Sp:=xf K
theorem Jf(h:Ea K vs H Q E):(vs:)=2:=by obtain ⟨a,ns,k,rfl,_⟩:=h;rfl
inductive tQ(p_:c7)(vs:List V)(H:Hp)(Q:VK)(cy:XK):Prop
 | mk (b:Addr) (m:Int) (_:vs=[.ref b,.int m]) (_:dW H b) (_:1<=m) (_:m<1000000) (_:∀(r:Nat) H',(r:Int)<m->dW H' b->aV b H H'->Q (.int r) H'):tQ p_ vs H Q cy
def AG(p_:c7):Sp:=tQ p_
theorem Gd(h:AG K vs H Q E):(vs:)=2:=by obtain ⟨b,m,rfl,_⟩:=h;rfl
inductive tR(p_:c7)(vs:List V)(H:Hp)(Q:VK)(cy:XK):Prop
 | mk (b:Addr) (pU top:Nat) (_:vs=[.ref b,.int pU,.int top]) (_:dW H b) (_:1<=pU) (_:pU<=top) (_:top<=8) (_:∀(y:c0) H',Yd y->2*pU<=(y:)->(y:)<=2*top->dW H' b->aV b H H'->Q (.str (S y)) H'):tR p_ vs H Q cy
def AH(p_:c7):Sp:=tR p_
theorem Ge(h:AH K vs H Q E):(vs:)=3:=by obtain ⟨b,m,t,rfl,_⟩:=h;rfl
inductive tT(p_:c7)(vs:List V)(H:Hp)(Q:VK)(cy:XK):Prop
 | mk (b:Addr) (y:c0) (top:Nat) (_:vs=[.ref b,.str (S y),.int top]) (_:dW H b) (_:y≠[]) (_:(y:)<=1000) (_:top<=1000) (_:∀(l:c0) H',(∀c∈l,c∈y)->(l:)<=top->dW H' b->aV b H H'->Q (.str (S l)) H'):tT p_ vs H Q cy
def AI(p_:c7):Sp:=tT p_
theorem Gf(h:AI K vs H Q E):(vs:)=3:=by obtain ⟨b,m,t,rfl,_⟩:=h;rfl
inductive AJ(K:c7)(vs:List V)(H:Hp)(Q:VK)(cy:XK):Prop
 | mk (a:Addr) (ns:List Int) (_:vs=[.ref a]) (_:bC K H a (ns.map V.int)) (_:(ns:)<=63) (_:∀H',Q (.bl true) H'):AJ K vs H Q cy
def pB(K:c7):Sp:=AJ K
theorem MZ(h:pB K vs H Q E):(vs:)=1:=by obtain ⟨b,m,rfl,_⟩:=h;rfl
theorem tU:∀l:c0,(l.map λc=>[c]).flatten=l
 | []=>rfl
 | c::l=>by rw[Qas,Qc7,tU l];rfl
theorem CB:∀l:c0,((l.map λc=>[c]).map List.length).sum=(l:)
 | []=>rfl
 | c::l=>by
  rw[Qas,Qas,Qbs,CB l]
  show 1+(l:)=(l:)+1
  lia
theorem gD(l:c0):dU l=(l.map λc=>[c]).map λl=>V.str (S l):=by unfold dU;rw[Qbj];rfl
theorem Eb(l:c0):(dU l).reverse=dU l.reverse:=by unfold dU;rw[Qd6]
theorem e_(l:c0)(c:Nat):dU l++[V.str (S [c])]=dU (l++[c]):=by unfold dU;rw[Qag];rfl
variable{i:Nat}
theorem take_snoc{α:Type}{l:List α}{x:α}(h:l[i]? =some x):l.take i++[x]=l.take (i+1):=by rw[Qgg,h];rfl
variable{ns:List Int}
theorem Ec(h:i<(ns:)):∃z,(ns.map V.int)[i]? =some (V.int z):=⟨ns[i],by rw[Qat,Qy h];rfl⟩
variable{σ:L2.St}
theorem dv{A B:Hp->Prop}(h:A H):VV σ H λb H3=>if b=true then A H3 else B H3:=by
 show (if true=true then A H else B H)
 rw[if_pos rfl]
 exact h
theorem CC(b:Bool)(z:Int):∃y,vp [V.int 0,V.int z] (if b=true then 1 else 0)=some (V.int y):=by
 cases b
 ·exact ⟨0,rfl⟩
 ·exact ⟨z,rfl⟩
theorem m_{α:Type}:∀{l:List α} {i:Nat} {x:α},l[i]? =some x->(x::l.eraseIdx i).Perm l
 | [],i,x,h=>by simp at h
 | a::l,0,x,h=>by
  have:a=x:=by simpa using h
  subst this
  exact Qe5 _
 | a::l,i+1,x,h=>by
  have ih:=m_ (l:=l) (i:=i) (x:=x) (by simpa using h)
  rw[Qec]
  exact (List.Perm.swap a x _).trans (List.Perm.cons a ih)
theorem xg(l:c0)(i:Nat):(dU l).eraseIdx i=dU (l.eraseIdx i):=by
 unfold dU
 induction l generalizing i with
 | nil=>rfl
 | cons a l ih=>
  cases i with
  | zero=>rfl
  | succ i=>rw[Qas,Qec,ih,Qec,Qas]
variable{l:c0}
theorem Jg(h:i<(l:)):(dU l)[i]? =some (V.str (S [l[i]])):=by unfold dU;rw[Qat,Qy h];rfl
theorem M0(a b:c0):dU a++dU b=dU (a++b):=by unfold dU;rw[Qag]
theorem lO:∀c∈aY,az c∉aY:=⋯
theorem Gg:aY.Nodup:=⋯
theorem Yd.perm{a b:c0}(h:Yd a)(p:a.Perm b):Yd b:=
 ⟨p.nodup_iff.mp h.nd,λc hc=>h.lt c (p.mem_iff.mpr hc),λc hc=>p.mem_iff.mp (h.cl c (p.mem_iff.mpr hc))⟩
structure Ry(i:Nat)(L E:c0):Prop where
 yd:Yd E
 nd:L.Nodup
 sm:∀c∈L,c∈aY
 ap:∀c∈L,c∉E
 ll:L.length=26 - i
 el:E.length=2*i
theorem Ry.start:Ry 0 aY []:=⟨⟨Qf4,λ_ h=>absurd h Qav,λ_ h=>absurd h Qav⟩,Gg,λ_ h=>h,λ_ _ h=>absurd h Qav,rfl,rfl⟩
variable{r:Nat}
theorem Ry.turn{L E:c0}(w:Ry i L E)(hi:i<26)(hr:r<L.length):Ry (i+1) (L.eraseIdx r) (E++[L[r],az L[r]]):=by
 have hp:=m_ (l:=L) (Qy hr)
 have hm:L[r]∈L:=Qb0 hr
 have hs:=w.sm _ hm
 have hl:Lt L[r]:= .inl hs
 have Yj:=hp.nodup_iff.mpr w.nd
 have sub:∀c∈L.eraseIdx r,c∈L:=λc hc=>hp.mem_iff.mp (Qah _ hc)
 have ap1:=w.ap _ hm
 have ap2:az L[r]∉E:=λz=>ap1 (by have:=w.yd.cl _ z;rwa [aF hl]at this)
 refine ⟨⟨?_,λc hc=>?_,λc hc=>?_⟩,(Qbv.mp Yj).2,λc hc=>w.sm c (sub c hc),λc hc hE=>?_,?_,?_⟩
 ·rw[Qdd]
  refine ⟨w.yd.nd,?_,λa ha b hb z=>?_⟩
  ·rw[Qbv]
   refine ⟨λz=>(eM hl) (Qab.mp z).symm,Qbv.mpr ⟨Qav,Qf4⟩⟩
  ·subst z
   rcases Qaq.mp hb with z | z
   ·exact ap1 (z▸ha)
   ·exact ap2 (Qab.mp z▸ha)
 ·rcases Qan.mp hc with z | z
  ·exact w.yd.lt c z
  ·rcases Qaq.mp z with z | z
   ·rw[z];exact hl
   ·rw[Qab.mp z];exact hl.az
 ·rcases Qan.mp hc with z | z
  ·exact Qcj _ (w.yd.cl c z)
  ·refine Qa3 _ ?_
   rcases Qaq.mp z with z | z
   ·rw[z];exact Qah _ (Qab.mpr rfl)
   ·rw[Qab.mp z,aF hl];exact Qak
 ·rcases Qan.mp hE with z | z
  ·exact w.ap c (sub c hc) z
  ·rcases Qaq.mp z with z | z
   ·exact (Qbv.mp Yj).1 (z▸hc)
   ·have e:c=az L[r]:=Qab.mp z
    exact lO _ hs (e▸w.sm c (sub c hc))
 ·have:=hp.length_eq
  rw[Qa9,w.ll]at this
  lia
 ·rw[X4,w.el]
  show 2*i+2=_
  lia
theorem aV.tV{b p:Addr}(h:aV b H H')(n:H p=none):aV b H (L2.upd H' p o):=λc u e z=>by rw[aA (au e n)];exact h c u e z
theorem dW.tV{b p:Addr}(h:dW H b)(n:p≠b):dW (L2.upd H p o) b:=let ⟨x,y,e⟩:=h;⟨x,y,by rw[aA (Ne.symm n)];exact e⟩
theorem aV.none{b p:Addr}{H H':Hp}(h:aV b H H')(n:H' p=none)(z:p≠b):H p=none:=by
 cases q:H p with
 | none=>rfl
 | some o=>rw[h p o q z]at n;cases n
theorem dW.ne{b p:Addr}(h:dW H b)(n:H p=none):p≠b:=λz=>by obtain ⟨x,y,e⟩:=h;rw[<-z,n]at e;cases e
variable{A B:Prop}
theorem M1{c:Bool}(h:c=false)(hB:B):if c=true then A else B:=by rw[h];exact VT hB
theorem Rz{c:Bool}(h:c=true)(hA:A):if c=true then A else B:=by rw[h];exact Zz hA
theorem bH(l:c0):(di l:)=(l:):=by unfold di;rw[Qa0,Qaa]
theorem RA(h:∀c∈l,Lt c):∀c∈di l,Lt c:=λc hc=>by
 obtain ⟨d,hd,rfl⟩:=Qa4.mp (Qb9.mp hc)
 exact (h d hd).az
theorem Ed(h:∀c∈l,Lt c):di (di l)=l:=by
 unfold di
 rw[Qd6,Qer,Qbj]
 have:∀c∈l,(az ∘ az) c=c:=λc hc=>aF (h c hc)
 calc l.map (az ∘ az)=l.map id:=Qbl this
  _=l:=Qe9 l
theorem qJ(h:∀c∈l,Lt c):∀c∈l,c<128:=λc hc=>(h c hc).lt
theorem nS(a:c0):a.take (dU a:)=a:=by rw[aX];exact Qar (Qad _)
theorem M3{α:Type}{l:List α}{lo hi:Option Int}{c:α}(h:c∈cut l lo hi):c∈l:=Qca (Qb4 h)
theorem aV.same{b:Addr}{H3:Hp}(n:H b=Option.none)(s:aq H H2)(t:aV b H2 H3):aq H H3:=λc o e=>t c o (s c o e) (au e n)
noncomputable def gE(ws:List c0):List V:=ws.map λl=>V.str (S l)
theorem b7(ws:List c0):(gE ws:)=(ws:):=by unfold gE;rw[Qaa]
theorem nU(ws:List c0)(l:c0):gE ws++[V.str (S l)]=gE (ws++[l]):=by unfold gE;rw[Qag];rfl
variable{ws:List c0}
theorem pV(h:i<(ws:)):(gE ws)[i]? =some (V.str (S ws[i])):=by unfold gE;rw[Qat,Qy h];rfl
theorem Jh{s:TS}{D:Ends}(h:∀D':Ends,(∀σ' H',D.nx σ' H'->D'.nx σ' H')->s D' σ H):s D σ H:=h D λ_ _ z=>z
noncomputable def cG(st:c0)(c:Nat):c0:=if st.getLast? =some (az c) then st.dropLast else st++[c]
noncomputable def red(l:c0):c0:=l.foldl cG []
def lQ:c0->Prop
 | []=>True
 | [_]=>True
 | a::b::r=>a≠az b/\lQ (b::r)
theorem lQ.tail:∀{a:Nat} {r:c0},lQ (a::r)->lQ r
 | _,[],_=>trivial
 | _,_::_,h=>h.2
theorem lQ.snoc:∀{l:c0} {c:Nat},lQ l->l.getLast?≠ some (az c)->lQ (l++[c])
 | [],_,_,_=>trivial
 | [a],c,_,h=>⟨λz=>h (by rw[z];rfl),trivial⟩
 | a::b::r,c,h,k=>⟨h.1,lQ.snoc (l:=b::r) h.2 (by simpa using k)⟩
theorem lQ.init:∀{l:c0} {c:Nat},lQ (l++[c])->lQ l/\l.getLast?≠ some (az c)
 | [],_,_=>⟨trivial,by simp⟩
 | [a],c,h=>⟨trivial,λz=>h.1 132⟩
 | a::b::r,c,h=>by
  have ih:=lQ.init (l:=b::r) (c:=c) h.2
  exact ⟨⟨h.1,ih.1⟩,by simpa using ih.2⟩
theorem snoc_cases(l:c0):l=[]\/∃m a,l=m++[a]:=by
 by_cases h:l=[]
 ·exact .inl h
 ·exact .inr ⟨l.dropLast,l.getLast h,(List.dropLast_concat_getLast h).symm⟩
theorem lQ.left:∀{m l:c0},lQ (m++l)->lQ m
 | [],_,_=>trivial
 | [_],_,_=>trivial
 | a::b::r,l,h=>⟨h.1,lQ.left (m:=b::r) (l:=l) h.2⟩
theorem xh(h:l.getLast? =some c):∃m,l=m++[c]:=by
 rcases snoc_cases l with rfl | ⟨m,a,rfl⟩
 ·simp at h
 ·refine ⟨m,?_⟩
  have:a=c:=by simpa using h
  rw[this]
theorem Gh{st:c0}(h:lQ st):lQ (cG st c):=by
 unfold cG
 by_cases e:st.getLast? =some (az c)
 ·rw[if_pos e]
  obtain ⟨m,rfl⟩:=xh e
  rw[Qd2]
  exact h.init.1
 ·rw[if_neg e]
  exact h.snoc e
variable{d:Nat}
theorem xj{st:c0}(h:d∈cG st c):d∈st\/d=c:=by
 unfold cG at h
 by_cases e:st.getLast? =some (az c)
 ·rw[if_pos e]at h
  exact .inl (List.dropLast_subset _ h)
 ·rw[if_neg e]at h
  rcases Qan.mp h with z | z
  ·exact .inl z
  ·exact .inr (Qab.mp z)
theorem AK:∀(l st:c0),lQ st->lQ (l.foldl cG st)
 | [],_,h=>h
 | _::l,_,h=>AK l _ (Gh h)
theorem Ee(l:c0):lQ (red l):=AK l [] trivial
theorem fold_same:∀(l st:c0),lQ (st++l)->l.foldl cG st=st++l
 | [],st,_=>by simp
 | c::l,st,h=>by
  have h':lQ ((st++[c])++l):=by rw[Qac];exact h
  have h2:=(lQ.left h').init.2
  rw[Qdl]
  have:cG st c=st++[c]:=by unfold cG;rw[if_neg h2]
  rw[this,fold_same l (st++[c]) h',Qac]
  rfl
theorem Ji(h:lQ l):red l=l:=by
 exact fold_same l [] h
theorem fold_lt:∀(l st:c0),(∀c∈l,Lt c)->(∀c∈st,Lt c)->∀c∈l.foldl cG st,Lt c
 | [],_,_,h=>h
 | a::l,st,h1,h2=>fold_lt l _ (λc hc=>h1 c (Qah _ hc)) λc hc=>(xj hc).elim (h2 c) λz=>z▸h1 a Qak
theorem RB(h:∀c∈l,Lt c):∀c∈red l,Lt c:=fold_lt l [] h λ_ h=>absurd h Qav
theorem Gi(st:c0)(c:Nat):(cG st c:)<=(st:)+1:=by
 unfold cG
 by_cases e:st.getLast? =some (az c)
 ·rw[if_pos e,Qf5];lia
 ·rw[if_neg e,X4];exact Qad _
theorem tW:∀(l st:c0),(l.foldl cG st:)<=(st:)+(l:)
 | [],_=>Qad _
 | c::l,st=>by
  have:=tW l (cG st c)
  have h2:=Gi st c
  rw[Qdl,Qa9]
  lia
theorem jj(l:c0):(red l:)<=(l:):=by
 have:=tW l []
 rw[Qfz,Qc6]at this
 exact this
theorem Jj(h:l[i]? =some c):red (l.take (i+1))=cG (red (l.take i)) c:=by
 unfold red
 rw[<-take_snoc h,List.foldl_append]
 rfl
theorem Jk:∀{l:c0},(∀k a b,l[k]? =some a->l[k+1]? =some b->a≠az b)->lQ l
 | [],_=>trivial
 | [_],_=>trivial
 | a::b::r,h=>⟨h 0 a b rfl rfl,Jk (l:=b::r) λk x y h1 h2=>h (k+1) x y (by simpa using h1) (by simpa using h2)⟩
noncomputable def G_(l:c0)(s e:Nat):c0:=(l.drop s).take (e - s)
noncomputable def strip:Nat->c0->c0
 | 0,l=>l
 | n+1,l=>match l with
  | []=>[]
  | [a]=>[a]
  | a::b::r=>if a=az ((b::r).getLast (by simp)) then strip n (b::r).dropLast else a::b::r
theorem fR:∀(n:Nat) {l:c0},(l:)<2->strip n l=l
 | 0,_,_=>rfl
 | _+1,[],_=>rfl
 | _+1,[_],_=>rfl
 | _+1,_::_::_,h=>by simp at h;lia
theorem nV(l:c0)(y:Nat):(l++[y]).getLast (by simp)=y:=by simp
theorem strip_go(n:Nat){y:Nat}{m:c0}(h:a=az y):strip (n+1) (a::(m++[y]))=strip n m:=by
 cases m with
 | nil=>
  show (if a=az (([y]:c0).getLast (by simp)) then strip n ([y]:c0).dropLast else _)=strip n []
  rw[if_pos (by simpa using h)]
  rfl
 | cons b r=>
  show (if a=az ((b::(r++[y])).getLast (by simp)) then strip n (b::(r++[y])).dropLast else _)=strip n (b::r)
  have e1:(b::(r++[y])).getLast (by simp)=y:=nV (b::r) y
  have e2:(b::(r++[y])).dropLast=b::r:=by
   have:b::(r++[y])=(b::r)++[y]:=rfl
   rw[this,Qd2]
  rw[if_pos (by rw[e1];exact h),e2]
theorem strip_stop(n:Nat){y:Nat}{m:c0}(h:a≠az y):strip n (a::(m++[y]))=a::(m++[y]):=by
 cases n with
 | zero=>rfl
 | succ n=>
  cases m with
  | nil=>
   show (if a=az (([y]:c0).getLast (by simp)) then _ else _)=_
   rw[if_neg (by simpa using h)]
   rfl
  | cons b r=>
   show (if a=az ((b::(r++[y])).getLast (by simp)) then _ else _)=_
   have e1:(b::(r++[y])).getLast (by simp)=y:=nV (b::r) y
   rw[if_neg (by rw[e1];exact h)]
   rfl
theorem Ef(h:2<=(l:)):∃a m y,l=a::(m++[y]):=by
 cases l with
 | nil=>simp at h
 | cons a r=>
  rcases snoc_cases r with rfl | ⟨m,y,rfl⟩
  ·simp at h
  ·exact ⟨a,m,y,rfl⟩
theorem tX:∀(n:Nat) (l:c0) (k:Nat),(l:)<=n->strip (n+k) l=strip n l
 | 0,l,k,h=>by rw[fR _ (),fR _ ()]
 | n+1,l,k,h=>by
  by_cases h2:(l:)<2
  ·rw[fR _ h2,fR _ h2]
  ·obtain ⟨a,m,y,rfl⟩:=Ef (l:=l) ()
   have hm:(m:)<=n:=by simp at h;lia
   by_cases e:a=az y
   ·have:n+1+k=(n+k)+1:=by lia
    rw[this,strip_go _ e,strip_go _ e,tX n m k hm]
   ·rw[strip_stop _ e,strip_stop _ e]
noncomputable def core(l:c0):c0:=strip (l:) l
theorem yA{y:Nat}{m:c0}(h:a=az y):core (a::(m++[y]))=core m:=by
 unfold core
 have:((a::(m++[y])):)=((m:)+1)+1:=by simp
 rw[this,strip_go _ h,tX _ _ _ (Qad _)]
theorem lR{y:Nat}{m:c0}(h:a≠az y):core (a::(m++[y]))=a::(m++[y]):=strip_stop _ h
theorem gJ(h:(l:)<2):core l=l:=fR _ h
theorem gK{P:c0->c0->Prop}(h1:∀l,(l:)<2->P l l)(h2:∀a m y,a≠az y->P (a::(m++[y])) (a::(m++[y])))(h3:∀a m y r,a=az y->P m r->P (a::(m++[y])) r):∀(n:Nat) (l:c0),(l:)<=n->P l (core l)
 | 0,l,h=>by rw[gJ ()];exact h1 l ()
 | n+1,l,h=>by
  by_cases hl:(l:)<2
  ·rw[gJ hl];exact h1 l hl
  ·obtain ⟨a,m,y,rfl⟩:=Ef (l:=l) ()
   by_cases e:a=az y
   ·rw[yA e]
    exact h3 a m y _ e (gK h1 h2 h3 n m (by simp at h;lia))
   ·rw[lR e];exact h2 a m y e
theorem Gj(l:c0):core (core l)=core l:=
 gK (P:=λ_ r=>core r=r) (λl h=>gJ h) (λa m y h=>lR h) (λ_ _ _ _ _ h=>h) (l:) l (Qad _)
theorem Jl(h:lQ l):lQ (core l):=
 gK (P:=λl r=>lQ l->lQ r) (λ_ _ h=>h) (λ_ _ _ _ h=>h) (λa m y r _ k h=>k (by
  have h':lQ (a::m++[y]):=h
  exact h'.init.1.tail)) (l:) l (Qad _) h
theorem kj:c∈core l->c∈l:=
 gK (P:=λl r=>c∈r->c∈l) (λ_ _ h=>h) (λ_ _ _ _ h=>h) (λa m y r _ k h=>Qah _ (Qcj _ (k h))) (l:) l (Qad _)
theorem km(l:c0):(core l:)<=(l:):=
 gK (P:=λl r=>(r:)<=(l:)) (λ_ _=>Qad _) (λ_ _ _ _=>Qad _) (λa m y r _ k=>by simp;lia) (l:) l (Qad _)
variable{s e:Nat}
theorem RC(h1:s+2<=e)(h2:e<=(l:)):G_ l s e=l[s]::(G_ l (s+1) (e - 1)++[l[e - 1]]):=by
 unfold G_
 rw[Qb8 ()]
 have e1:e - s=(e - 1 - (s+1))+1+1:=by lia
 rw[e1,List.take_succ_cons,Qgg,Qbm]
 have e2:s+1+(e - 1 - (s+1))=e - 1:=by lia
 rw[e2,Qy ()]
 rfl
theorem M4(h2:e<=(l:)):(G_ l s e:)=e - s:=by unfold G_;rw[Qai,Qaz];lia
theorem M5(l:c0):G_ l 0 (l:)=l:=by unfold G_;simp
def nX(_:c7):Sp:=λvs H Q _=>∃l:c0,vs=[.str (S l)]/\(∀c∈l,Lt c)/\(l:)<=1000/\∀H',aq H H'->Q (.str (S (red l))) H'
theorem vK(h:nX K vs H Q E):(vs:)=1:=by obtain ⟨c,rfl,_⟩:=h;rfl
def qK(_:c7):Sp:=λvs H Q _=>∃l:c0,vs=[.str (S l)]/\(∀c∈l,Lt c)/\(l:)<=1000/\∀H',aq H H'->Q (.str (S (core (red l)))) H'
theorem yB(h:qK K vs H Q E):(vs:)=1:=by obtain ⟨c,rfl,_⟩:=h;rfl
theorem ko{α:Type}(l:List α)(k:Nat):cut l none (some (k:Int))=l.take k:=by
 unfold cut
 rw[HT.zW,HT.hJ,Qcy,Qdn]
 by_cases h:k<=(l:)
 ·rw[Qb6 h]
 ·rw[Qcr (),Qar (Qad _),Qar ()]
theorem tY{α:Type}(l:List α)(k:Nat):cut l (some (k:Int)) none=l.drop k:=by
 unfold cut
 rw[HT.zW,HT.hJ]
 by_cases h:k<=(l:)
 ·rw[Qb6 h,Qar (by rw[Qaz];exact Qad _)]
 ·rw[Qcr (),Qbu (Qad _),Qbu ()]
  simp
mutual
theorem eqv_refl:∀d:PyData,d.hasDict=false->PyData.eqv d d=true
 | .none,_=>rfl
 | .bool b,_=>by simp[PyData.eqv]
 | .int i,_=>by simp[PyData.eqv]
 | .str x,_=>by simp[PyData.eqv]
 | .list xs,h=>by show PyData.eqvAll xs xs=true;exact eqvAll_refl xs (by simpa [PyData.hasDict]using h)
 | .tuple xs,h=>by show PyData.eqvAll xs xs=true;exact eqvAll_refl xs (by simpa [PyData.hasDict]using h)
 | .dict aN,h=>by simp[PyData.hasDict]at h
theorem eqvAll_refl:∀ds:List PyData,PyData.hasDictAll ds=false->PyData.eqvAll ds ds=true
 | [],_=>rfl
 | d::ds,h=>by
  simp[PyData.hasDictAll]at h
  show (PyData.eqv d d&&PyData.eqvAll ds ds)=true
  rw[eqv_refl d h.1,eqvAll_refl ds h.2]
  rfl
end
noncomputable def dj(c:c0)(k:Nat):c0:=c.drop k++c.take k
noncomputable def nY(c:c0)(n:Nat):List c0:=(List.range n).map λk=>dj c (k+1)
noncomputable def gj(c:c0):c0:=cF c (nY c ((c:) - 1))
@[irreducible] noncomputable def bL (w:c0):c0:=gj (core (red w))
theorem xk(c:c0)(n:Nat):nY c (n+1)=nY c n++[dj c (n+1)]:=by unfold nY;rw[Qcq,Qag];rfl
theorem jk:∀(r:List c0) (a b:c0),cF a (r++[b])=bI (cF a r) b
 | [],_,_=>rfl
 | _::r,_,_=>jk r _ _
theorem b8(c:c0)(k:Nat):(dj c k:)=(c:):=by unfold dj;rw[X4,Qaz,Qai];lia
variable{x:Nat}
theorem rP{c:c0}{k:Nat}(h:x∈dj c k):x∈c:=(Qan.mp h).elim Qca Qb4
theorem ng:∀(r:List c0) (a:c0),cF a r=a\/cF a r∈r
 | [],a=> .inl rfl
 | b::r,a=>by
  rcases ng r (bI a b) with h | h
  ·have hl:bI a b=a\/bI a b=b:=by unfold bI;split<;>simp
   rcases hl with e | e
   ·left;show cF (bI a b) r=a;rw[h,e]
   ·right;show cF (bI a b) r∈b::r;rw[h,e];exact Qak
  ·right;exact Qah _ h
theorem gF(c:c0):∃k,gj c=dj c k:=by
 rcases ng (nY c ((c:) - 1)) c with h | h
 ·exact ⟨0,by show cF _ _=_;rw[h];unfold dj;simp⟩
 ·unfold nY at h
  obtain ⟨k,_,e⟩:=Qa4.mp h
  exact ⟨k+1,e.symm⟩
theorem pW(w:c0):(bL w:)<=(w:):=by
 obtain ⟨k,e⟩:=gF (core (red w))
 unfold bL
 rw[e,b8]
 exact Qbn (km _) (jj w)
def Eg(_:c7):Sp:=λvs H Q _=>∃l:c0,vs=[.str (S l)]/\(∀c∈l,Lt c)/\(l:)<=1000/\∀H',aq H H'->Q (.str (S (bL l))) H'
theorem Jm(h:Eg K vs H Q E):(vs:)=1:=by obtain ⟨c,rfl,_⟩:=h;rfl
def Eh(_:c7):Sp:=λvs H Q _=>∃l:c0,vs=[.str (S l)]/\(∀c∈l,Lt c)/\(l:)<=1000/\∀H',aq H H'->Q (.str (S (bI (bL l) (bL (di l))))) H'
theorem Jn(h:Eh K vs H Q E):(vs:)=1:=by obtain ⟨c,rfl,_⟩:=h;rfl
def AllLt(l:c0):Prop:=∀c∈l,Lt c
theorem tZ(a b:c0): ¬a<bI a b:=by
 unfold bI
 split
 ·rename_i h;exact λg=>Qd1 a (List.lt_trans g h)
 ·exact Qd1 a
theorem q0(a b:c0): ¬b<bI a b:=by
 unfold bI
 split
 ·exact Qd1 b
 ·rename_i h;exact h
theorem O0{a b c:c0}(h: ¬b<a)(g: ¬c<b): ¬c<a:=List.le_trans (show a<=b from h) (show b<=c from g)
theorem nh:∀(r:List c0) (a:c0),∀x∈a::r, ¬x<cF a r
 | [],a,x,hx=>by rw[Qab.mp hx];exact Qd1 a
 | b::r,a,x,hx=>by
  show ¬x<cF (bI a b) r
  have h0:=nh r (bI a b) (bI a b) Qak
  rcases Qaq.mp hx with e | hx
  ·rw[e];exact O0 h0 (tZ a b)
  ·rcases Qaq.mp hx with e | hx
   ·rw[e];exact O0 h0 (q0 a b)
   ·exact nh r (bI a b) x (Qah _ hx)
theorem AL(c:c0):dj c 0=c:=by unfold dj;simp
theorem nZ(u:c0):∀(m i:Nat),i<m*(u:)->(dJ m u)[i]? =u[i%(u:)]?
 | 0,i,h=>by simp at h
 | m+1,i,h=>by
  rw[eR,List.getElem?_append]
  by_cases z:i<(u:)
  ·rw[if_pos z,Qds z]
  ·rw[if_neg z,nZ u m (i - (u:)) (by rw[Qge]at h;lia), <-Nat.mod_eq_sub_mod ()]
def iU(w:c0)(s:Nat):Prop:=dJ ((w:) / s) (w.take s)=w
def iV(w:c0)(k:Nat):Prop:=dj w k=w
noncomputable instance (w:c0)(s:Nat):Decidable (iU w s):=by unfold iU;infer_instance
noncomputable instance (w:c0)(s:Nat):Decidable (iV w s):=by unfold iV;infer_instance
def bT(w:c0)(s:Nat):Prop:=(w=[]/\s=0)\/(1<=s/\s<=(w:)/\iU w s/\∀j,1<=j->j<s-> ¬iU w j)
def ni(w:c0)(s:Nat):Prop:=(w=[]/\s=0)\/(1<=s/\s<=(w:)/\iV w s/\∀j,1<=j->j<s-> ¬iV w j)
theorem yC{w:c0}(h1:1<=s)(h2:s<=(w:))(h:iU w s):iV w s:=by
 unfold iU at h
 have hm:1<=(w:) / s:=Nat.div_pos h2 h1
 obtain ⟨m,e⟩:∃m,(w:) / s=m+1:=⟨(w:) / s - 1,()⟩
 rw[e]at h
 have hu:(w.take s:)=s:=by rw[Qai];lia
 generalize w.take s=u at h hu
 unfold iV dj
 rw[<-h,eR,List.drop_left' hu,List.take_left' hu, <-Cj,eR]
noncomputable def Fw(w:c0)(i:Nat):Option Nat:=w[i%(w:)]?
theorem rQ{w:c0}{k:Nat}(hk:k<=(w:))(hi:i<(w:)):(dj w k)[i]? =Fw w (i+k):=by
 unfold dj Fw
 rw[List.getElem?_append,Qaz]
 by_cases z:i<(w:) - k
 ·rw[if_pos z,Qbm,Qds (),Nat.add_comm]
 ·rw[if_neg z,Qe4,if_pos (),Nat.mod_eq_sub_mod (),Qds ()]
  congr 1
  lia
def BI(w:c0)(k:Nat):Prop:=∀i,Fw w (i+k)=Fw w i
theorem Jo(w:c0)(i k:Nat):Fw w (i%(w:)+k)=Fw w (i+k):=by unfold Fw;rw[Nat.mod_add_mod]
theorem hZ{w:c0}{k:Nat}(hn:w≠[])(hk:k<=(w:)):iV w k↔BI w k:=by
 have hl:0<(w:):=Qaf.mpr hn
 constructor
 ·intro h i
  have hi:=Qeb i hl
  rw[<-Jo, <-rQ hk hi,h]
  rfl
 ·intro h
  refine Qdq λi=>?_
  by_cases hi:i<(w:)
  ·rw[rQ hk hi,h i]
   unfold Fw
   rw[Qds hi]
  ·have hr:(dj w k:)=(w:):=b8 w k
   rw[Qcx (),Qcx ()]
theorem BI.mul{w:c0}{k:Nat}(h:BI w k):∀j i,Fw w (i+k*j)=Fw w i
 | 0,i=>rfl
 | j+1,i=>by rw[Nat.mul_succ, <-Qep,h,BI.mul h j]
theorem BI.whole(w:c0):BI w (w:):=λi=>by unfold Fw;rw[Nat.add_mod_right]
theorem BI.rest{w:c0}{k:Nat}(h:BI w k):BI w ((w:)%k):=λi=>by
 rw[<-h.mul ((w:) / k) (i+(w:)%k),Qep,Qfy]
 exact BI.whole w i
theorem xl{w:c0}{k:Nat}(hn:w≠[])(h1:1<=k)(h2:k<=(w:))(h:iV w k)(hl:∀j,1<=j->j<k-> ¬iV w j):iU w k:=by
 have hp:=(hZ hn h2).mp h
 have hr:(w:)%k=0:=by
  by_cases z:(w:)%k=0
  ·exact z
  ·have cH:=Qeb (w:) (show k>0 by lia)
   exact absurd ((hZ hn ()).mpr hp.rest) (hl _ () cH)
 have hm:(w:) / k*k=(w:):=by
  have:=Qfy (w:) k
  rw[hr,Qc6,Qdf]at this
  exact this
 have hu:(w.take k:)=k:=by rw[Qai];lia
 unfold iU
 refine Qdq λi=>?_
 by_cases hi:i<(w:)
 ·rw[nZ _ _ _ (by rw[hu,hm];exact hi),hu,Qe4]
  have hik:=Qeb i (show k>0 by lia)
  rw[if_pos hik]
  have e:=hp.mul (i / k) (i%k)
  rw[Qfy]at e
  unfold Fw at e
  rw[Qds hi,Qds ()]at e
  exact e.symm
 ·rw[Qcx (by rw[tw,hu,hm];lia),Qcx ()]
theorem lS{w:c0}{k:Nat}(h:bT w s)(g:ni w k):s=k:=by
 rcases h with ⟨e,e2⟩ | ⟨h1,h2,h3,h4⟩
 ·rcases g with ⟨_,g2⟩ | ⟨g1,g2,_,_⟩
  ·rw[e2,g2]
  ·rw[e]at g2;simp at g2;lia
 ·rcases g with ⟨e,_⟩ | ⟨g1,g2,g3,g4⟩
  ·rw[e]at h2;simp at h2;lia
  ·have hn:w≠[]:=λz=>by rw[z]at h2;simp at h2;lia
   by_cases z:s<k
   ·exact absurd (yC h1 h2 h3) (g4 s h1 z)
   ·by_cases z2:k<s
    ·exact absurd (xl hn g1 g2 g3 g4) (h4 k g1 z2)
    ·lia
theorem Gk(w:c0)(h:w≠[]):iU w (w:):=by
 have hl:0<(w:):=Qaf.mpr h
 unfold iU
 rw[Nat.div_self hl,Qar (Qad _)]
 show dJ (0+1) w=w
 rw[eR]
 simp[dJ]
theorem Gm(w:c0):iV w (w:):=by
 unfold iV dj
 rw[Qbu (Qad _),Qar (Qad _)]
 rfl
noncomputable def M6(c:c0)(n:Nat):c0:=((List.range n).map (· +1)).filter λk=>decide (iV c k)
variable{n:Nat}
theorem yD{c:c0}{k:Nat}:k∈M6 c n↔(1<=k/\k<=n)/\iV c k:=by
 unfold M6
 rw[Qbr,Qa4]
 constructor
 ·rintro ⟨⟨j,hj,rfl⟩,h⟩
  have:=Qcp.mp hj
  exact ⟨(),of_decide_eq_true h⟩
 ·rintro ⟨h1,h2⟩
  exact ⟨⟨k - 1,Qcp.mpr (),()⟩,decide_eq_true h2⟩
theorem CD(c:c0)(n:Nat):(M6 c n).Pairwise (· < ·):=by
 unfold M6
 refine List.Pairwise.filter _ ?_
 rw[Qco]
 exact (List.pairwise_lt_range (n:=n)).imp λh=>Nat.succ_lt_succ h
theorem t5{c:c0}(h:c≠[]):∃k r,M6 c (c:)=k::r/\ni c k:=by
 have hl:0<(c:):=Qaf.mpr h
 have hm:(c:)∈M6 c (c:):=yD.mpr ⟨(),Gm c⟩
 rcases e:M6 c (c:) with _ | ⟨k,r⟩
 ·rw[e]at hm;exact absurd hm Qav
 ·refine ⟨k,r,rfl,.inr ?_⟩
  have hk:k∈M6 c (c:):=by rw[e];exact Qak
  obtain ⟨⟨h1,h2⟩,h3⟩:=yD.mp hk
  refine ⟨h1,h2,h3,λj j1 j2 z=>?_⟩
  have hj:j∈M6 c (c:):=yD.mpr ⟨(),z⟩
  have hs:=CD c (c:)
  rw[e]at hj hs
  rcases Qaq.mp hj with w | w
  ·lia
  ·have:=Qe7 hs w
   lia
noncomputable def O1(w:c0)(s:Nat):List V:=[.str (S (w.take s)),.int (((w:) / s:Nat):Int)]
def Ei(_:c7):Sp:=λvs H Q _=>∃l:c0,vs=[.str (S l)]/\(∀c∈l,Lt c)/\(l:)<=1000/\∀p s H',H p=none->H' p=some (.tup (O1 (bL l) s))->bT (bL l) s->aq H H'->Q (.ref p) H'
theorem Jp(h:Ei K vs H Q E):(vs:)=1:=by obtain ⟨c,rfl,_⟩:=h;rfl
theorem bg:∀c∈aY,aB c=true/\PyProof.Rows.lo1 c=c/\az c∈ki:=⋯
theorem bM:∀c∈ki,aB c=false/\PyProof.Rows.lo1 c=az c/\c∉aY/\az c∈aY:=⋯
theorem xm:∀c∈ki,c∉aY:=⋯
theorem ft(h:Lt c):aB c=decide (c∈aY):=by
 rcases h with h | h
 ·rw[(bg c h).1,decide_eq_true h]
 ·rw[(bM c h).1,decide_eq_false (bM c h).2.2.1]
noncomputable def gr(y:c0)(a b c:Nat):Bool:=decide ((((y.idxOf b:Nat):Int) - ((y.idxOf a:Nat):Int))%((y:):Int)<(((y.idxOf c:Nat):Int) - ((y.idxOf a:Nat):Int))%((y:):Int))
def iN(i j k:Nat):Prop:=(i<j/\j<k)\/(j<k/\k<i)\/(k<i/\i<j)
noncomputable instance (i j k:Nat):Decidable (iN i j k):=by unfold iN;infer_instance
variable{j:Nat}
theorem ku(hi:i<n)(hj:j<n):((j:Int) - (i:Int))%(n:Int)=if i<=j then (j:Int) - i else (j:Int) - i+n:=by
 split
 ·exact Qbf () ()
 ·rw[<-Qdj]
  exact Qbf () ()
variable{y:c0}
theorem dY(hn:y.Nodup)(ha:a∈y)(hb:b∈y)(hc:c∈y)(BJ:a≠b)(O2:a≠c)(O3:b≠c):gr y a b c=decide (iN (y.idxOf a) (y.idxOf b) (y.idxOf c)):=by
 have ia:=Qaj ha
 have ib:=Qaj hb
 have ic:=Qaj hc
 have inj:∀{u v:Nat},u∈y->v∈y->u≠v->y.idxOf u≠y.idxOf v:=λ{u v} hu hv h z=>h (by
  have e1:=Qb3 (Qaj hu)
  have e2:=Qb3 (Qaj hv)
  rw[<-e1, <-e2]
  congr 1)
 have n1:=inj ha hb BJ
 have n2:=inj ha hc O2
 have n3:=inj hb hc O3
 unfold gr
 rw[ku ia ib,ku ia ic]
 generalize y.idxOf a=i at*
 generalize y.idxOf b=j at*
 generalize y.idxOf c=k at*
 refine decide_eq_decide.mpr ?_
 unfold iN
 split<;>split<;>lia
theorem Jq{k:Nat}:iN j k i↔iN i j k:=by unfold iN;lia
theorem M7{k:Nat}(h1:i≠j)(h2:i≠k)(h3:j≠k):iN i k j↔ ¬iN i j k:=by unfold iN;lia
theorem M8(hn:y.Nodup)(ha:a∈y)(hb:b∈y)(hc:c∈y)(BJ:a≠b)(O2:a≠c)(O3:b≠c):gr y b c a=gr y a b c:=by
 rw[dY hn ha hb hc BJ O2 O3,dY hn hb hc ha O3 (Ne.symm BJ) (Ne.symm O2)]
 exact decide_eq_decide.mpr Jq
theorem bj{u v:Nat}(hu:u∈y)(hv:v∈y)(h:u≠v):y.idxOf u≠y.idxOf v:=λz=>h (by
 have e1:=Qb3 (Qaj hu)
 have e2:=Qb3 (Qaj hv)
 rw[<-e1, <-e2]
 congr 1)
theorem RD(hn:y.Nodup)(ha:a∈y)(hb:b∈y)(hc:c∈y)(BJ:a≠b)(O2:a≠c)(O3:b≠c):gr y a c b=!gr y a b c:=by
 rw[dY hn ha hb hc BJ O2 O3,dY hn ha hc hb O2 BJ (Ne.symm O3)]
 rw[<-decide_not]
 exact decide_eq_decide.mpr (M7 (bj ha hb BJ) (bj ha hc O2) (bj hb hc O3))
theorem RE(d:Nat)(t:c0)(a:Nat):(d::t).idxOf a=if d=a then 0 else t.idxOf a+1:=by
 by_cases h:d=a
 ·subst h;rw[if_pos rfl,List.idxOf_cons_self]
 ·rw[if_neg h,List.idxOf_cons,show (d==a)=false by simp[h]];rfl
theorem Gn{a b:c0}(h:a.Perm b)(ha:a.Pairwise (· <= ·))(hb:b.Pairwise (· <= ·)):a=b:=
 List.Perm.eq_of_pairwise (le:=λx y=>x<=y) (λ_ _ _ _ h1 h2=>Qdk h1 h2) ha hb h
def AM(_:c7):Sp:=λvs H Q _=>∃l:c0,vs=[.str (S l)]/\(∀c∈l,c<128)/\(l:)<64/\∀l' H',l'.Perm (l.filter aB)->l'.Pairwise (· <= ·)->aq H H'->Q (.str (S l')) H'
theorem Gp(h:AM K vs H Q E):(vs:)=1:=by obtain ⟨c,rfl,_⟩:=h;rfl
inductive iW(p_:c7)(vs:List V)(H:Hp)(Q:VK)(cy:XK):Prop
 | mk (y:c0) (a b:Nat) (_:vs=[.str (S y),.str (S [a]),.str (S [b])]) (_:a∈y) (_:b∈y) (_:(y:)<=1000) (_:Q (.int ((((y.idxOf b:Nat):Int) - ((y.idxOf a:Nat):Int))%((y:):Int))) H):iW p_ vs H Q cy
def kx(p_:c7):Sp:=iW p_
theorem q8(h:kx K vs H Q E):(vs:)=3:=by obtain ⟨c,_,_,rfl,_⟩:=h;rfl
inductive jF(p_:c7)(vs:List V)(H:Hp)(Q:VK)(cy:XK):Prop
 | mk (y:c0) (a b c:Nat) (_:vs=[.str (S y),.str (S [a]),.str (S [b]),.str (S [c])]) (_:a∈y) (_:b∈y) (_:c∈y) (_:(y:)<=1000) (_:Q (.bl (gr y a b c)) H):jF p_ vs H Q cy
def mK(p_:c7):Sp:=jF p_
theorem t6(h:mK K vs H Q E):(vs:)=4:=by obtain ⟨c,_,_,_,rfl,_⟩:=h;rfl
theorem AN{p:Nat->Bool}(h:l[i]? =some c):(l.take (i+1)).filter p=(l.take i).filter p++if p c=true then [c] else []:=by
 rw[<-take_snoc h,Qcl]
 congr 1
 by_cases z:p c=true
 ·rw[if_pos z,Qb1 z];rfl
 ·rw[if_neg z,Qbk z];rfl
theorem Jr(h:Yd y):2*(y.filter aB:)=(y:):=by
 have key:∀p q:Nat->Bool,(∀c∈y,p c=true->q (az c)=true)->(y.filter p:)<=(y.filter q:):=λp q WX=>by
  have hn:((y.filter p).map az).Nodup:=by
   show ((y.filter p).map az).Pairwise (· ≠ ·)
   rw[Qco]
   refine (h.nd.filter p).imp_of_mem λ{a b} ha hb z e=>z ?_
   exact dM (h.lt a (Qbr.mp ha).1) (h.lt b (Qbr.mp hb).1) e
  have:=hn.length_le_of_subset (l₂:=y.filter q) λc hc=>by
   obtain ⟨d,hd,rfl⟩:=Qa4.mp hc
   obtain ⟨d1,d2⟩:=Qbr.mp hd
   exact Qbr.mpr ⟨h.cl d d1,WX d d1 d2⟩
  rwa [Qaa]at this
 have k1:=key aB (λc=>!aB c) λc hc z=>by
  rw[ft (h.lt c hc)]at z
  have hs:=of_decide_eq_true z
  rw[(bM _ (bg c hs).2.2).1];rfl
 have k2:=key (λc=>!aB c) aB λc hc z=>by
  rcases h.lt c hc with q | q
  ·rw[(bg c q).1]at z;cases z
  ·exact (bg _ (bM c q).2.2.2).1
 have k3:(y.filter aB:)+((y.filter λc=>!aB c):)=(y:):=by
  clear k1 k2 key h
  induction y with
  | nil=>rfl
  | cons a r ih=>
   cases hq:aB a
   ·rw[Qbk (by simp[hq]),Qb1 (by simp[hq]),Qa9,Qa9];lia
   ·rw[Qb1 hq,Qbk (by simp[hq]),Qa9,Qa9];lia
 lia
noncomputable def rd(w:c0)(k:Int):Nat:=w.getD (k%((w:):Int)).toNat 0
theorem WY{w:c0}(h:w≠[])(k:Int):(k%((w:):Int)).toNat<(w:):=by
 have:0<(w:):=Qaf.mpr h
 have h1:=Qc8 k (b:=((w:):Int)) ()
 have h2:=Qcz k (b:=((w:):Int)) ()
 lia
theorem fZ{w:c0}(h:w≠[])(k:Int):w[(k%((w:):Int)).toNat]? =some (rd w k):=by
 unfold rd
 rw[Qam,Qy (WY h k)]
 rfl
theorem CF{w:c0}(h:w≠[])(k:Int):rd w k∈w:=Qae (fZ h k)
theorem gM(w:c0)(k:Int):rd w (k+(w:))=rd w k:=by unfold rd;rw[Qdj]
theorem jl(w:c0)(k:Int):rd w (k%(w:))=rd w k:=by unfold rd;rw[Qeu _ (Qgo _)]
theorem gN{w:c0}{k:Nat}(h:k<(w:)):w[k]? =some (rd w k):=by
 have fq:w≠[]:=λz=>by rw[z]at h;exact absurd h (Qfx _)
 have:=fZ fq (k:Int)
 rwa [Qbf () (),Qap]at this
theorem Ej{w:c0}{k:Int}(hn:n<(w:))(e:k%((w:):Int)=n)(h:w[n]? =some c):rd w k=c:=by
 have:=gN hn
 rw[h]at this
 rw[<-jl,e]
 exact (Qal this).symm
theorem Js{w:c0}{k:Int}(h1: -((w:):Int)<=k)(h2:k<(w:)):vp w k=some (rd w k):=by
 have fq:w≠[]:=λz=>by rw[z]at h1 h2;simp at h1 h2;lia
 unfold vp Lz
 by_cases h0:0<=k
 ·rw[if_pos h0,if_pos h2]
  have:=fZ fq k
  rw[Qbf h0 h2]at this
  exact this
 ·rw[if_neg h0,if_pos h1]
  have:=fZ fq (k+(w:))
  rw[gM,Qbf () ()]at this
  exact this
theorem jm{f:Int->Nat}{p:Nat}(P:∀k,f (k+p)=f k)(k:Int):∀t:Nat,f (k+t*p)=f k
 | 0=>by simp
 | t+1=>by
  have:k+((t+1:Nat):Int)*p=k+t*p+p:=by rw[Qcf,Qfc];simp;lia
  rw[this,P,jm P k t]
variable{p q:Nat}{f g:Int->Nat}
theorem fw(hp:0<p)(hq:0<q)(Pf:∀k,f (k+p)=f k)(Pg:∀k,g (k+q)=g k)(h:∀n:Nat,n<p+q->f n=g n)(k:Int):f k=g k:=by
 have up:∀N n:Nat,n<N->f n=g n:=by
  intro N
  induction N with
  | zero=>intro n hn;lia
  | succ N ih=>
   intro n hn
   by_cases z:n<p+q
   ·exact h n z
   ·have e1:f n=f ((n - p:Nat):Int):=by have:=Pf ((n - p:Nat):Int);rwa [show ((n - p:Nat):Int)+p=n by lia]at this
    have e2:g ((n - p:Nat):Int)=g ((n - p - q:Nat):Int):=by have:=Pg ((n - p - q:Nat):Int);rwa [show ((n - p - q:Nat):Int)+q=((n - p:Nat):Int) by lia]at this
    have e3:f ((n - q:Nat):Int)=f ((n - p - q:Nat):Int):=by have:=Pf ((n - p - q:Nat):Int);rwa [show ((n - p - q:Nat):Int)+p=((n - q:Nat):Int) by lia]at this
    have e4:g n=g ((n - q:Nat):Int):=by have:=Pg ((n - q:Nat):Int);rwa [show ((n - q:Nat):Int)+q=n by lia]at this
    rw[e1,ih (n - p) (),e2, <-ih (n - p - q) (), <-e3,ih (n - q) (), <-e4]
 have Cs:∃m:Nat,k+((k.natAbs*q:Nat):Int)*p=m/\k+((k.natAbs*p:Nat):Int)*q=m:=by
  have e1:((k.natAbs*q:Nat):Int)*p=((k.natAbs*(q*p):Nat):Int):=by rw[Nat.mul_assoc k.natAbs q p |>.symm];simp
  have e2:((k.natAbs*p:Nat):Int)*q=((k.natAbs*(q*p):Nat):Int):=by rw[Qdf q p,Nat.mul_assoc k.natAbs p q |>.symm];simp
  have hle:k.natAbs<=k.natAbs*(q*p):=Nat.le_mul_of_pos_right _ (Nat.mul_pos hq hp)
  generalize k.natAbs*(q*p)=M at e1 e2 hle
  exact ⟨(k+M).toNat,(),()⟩
 obtain ⟨m,h1,h2⟩:=Cs
 rw[<-jm Pf k (k.natAbs*q),h1, <-jm Pg k (k.natAbs*p),h2]
 exact up (m+1) m (Qcs m)
noncomputable def vg(f g:Int->Nat):Nat->Nat->Nat
 | 0,i=>i
 | n+1,i=>if f i=g i then vg f g n (i+1) else i
theorem ky(f g:Int->Nat):∀n i:Nat,i<=vg f g n i/\vg f g n i<=i+n/\(∀j:Nat,i<=j->j<vg f g n i->f j=g j)/\(vg f g n i<i+n->f (vg f g n i)≠g (vg f g n i))
 | 0,i=>⟨Qad _,Qad _,λj h1 h2=>absurd (Qbt h1 h2) (Qbw _),λh=>absurd h (Qbw _)⟩
 | n+1,i=>by
  unfold vg
  by_cases z:f i=g i
  ·rw[if_pos z]
   obtain ⟨h1,h2,h3,h4⟩:=ky f g n (i+1)
   refine ⟨(),(),λj g1 g2=>?_,λg1=>h4 ()⟩
   by_cases e:j=i
   ·rw[e];exact z
   ·exact h3 j () g2
  ·rw[if_neg z]
   exact ⟨Qad _,(),λj g1 g2=>absurd (Qbt g1 g2) (Qbw _),λ_=>z⟩
noncomputable def al(y:c0)(f g:Int->Nat)(n:Nat):Nat:=
 if f 0≠g 0\/f (-1)=g (-1) then 0 else
 if gr y (az (f (-1))) (az (g (-1))) (f 0)=gr y (f (vg f g n 0)) (g (vg f g n 0)) (az (f ((vg f g n 0:Nat) - 1))) then vg f g n 0 else 0
noncomputable def ac(y:c0)(a b p q:Nat):Bool:=if p=a\/p=b\/q=a\/q=b then false else (gr y a p b != gr y a q b)
noncomputable def sq(w:c0)(i:Int):Int->Nat:=λn=>rd w (i+n)
noncomputable def bq(v:c0)(j:Int):Int->Nat:=λn=>az (rd v (j - n))
theorem dE(w:c0)(i k:Int):sq w i (k+(w:))=sq w i k:=by unfold sq;rw[<-Qfi,gM]
theorem CG(w:c0)(k:Int):rd w (k - (w:))=rd w k:=by rw[<-gM w (k - (w:))];congr 1;lia
theorem t9(w:c0)(i k:Int):bq w i (k+(w:))=bq w i k:=by unfold bq;rw[show i - (k+((w:):Int))=i - k - (w:) by lia,CG]
variable{v:c0}
theorem jn(h:v≠[])(k:Int):rd (di v) k=az (rd v (-1 - k)):=by
 have Cs:0<(v:):=Qaf.mpr h
 have h1:=Qc8 k (b:=((v:):Int)) ()
 have h2:=Qcz k (b:=((v:):Int)) ()
 have e:(-1 - k)%((v:):Int)=(v:) - 1 - k%(v:):=by
  have e1:=Qf2 k (v:)
  have: -1 - k=((v:) - 1 - k%(v:))+(v:)*(-(k / (v:)) - 1):=by rw[Int.mul_sub,Qgx];lia
  rw[this,Qe6,Qbf () ()]
 generalize hr:k%((v:):Int)=r at h1 h2 e
 obtain ⟨n,rfl⟩:∃n:Nat,r=n:=⟨r.toNat,()⟩
 have hn:n<(v:):=by lia
 have e2:rd v (-1 - k)=v[(v:) - 1 - n]'():=Ej (n:=(v:) - 1 - n) () (by rw[e];lia) (Qy ())
 rw[e2]
 refine Ej (n:=n) (by rw[bH];exact hn) (by rw[bH];exact hr) ?_
 unfold di
 rw[Qd0 (by rw[Qaa];exact hn),Qaa,Qat,Qy ()]
 rfl
theorem RF(h:v≠[])(j:Nat):sq (di v) (((v:):Int) - 1 - j)=bq v j:=by
 funext n
 unfold sq bq
 rw[jn h,show -1 - (((v:):Int) - 1 - j+n)=j - n - (v:) by lia,CG]
structure SW(y w:c0):Prop where
 ne:w≠[]
 cn:∀c∈w,c∈y
 red:∀k:Int,rd w k≠az (rd w (k - 1))
theorem SW.rd{y w:c0}(h:SW y w)(k:Int):rd w k∈y:=h.cn _ (CF h.ne k)
theorem lT{w:c0}(hw:w≠[])(hv:v≠[])(pf:∀k,f (k+(w:))=f k)(pg:∀k,g (k+(v:))=g k)(h:f (-1)≠g (-1)):vg f g ((w:)+(v:)) 0<(w:)+(v:)/\f (vg f g ((w:)+(v:)) 0)≠g (vg f g ((w:)+(v:)) 0):=by
 obtain ⟨_,b,c,d⟩:=ky f g ((w:)+(v:)) 0
 by_cases z:vg f g ((w:)+(v:)) 0<(w:)+(v:)
 ·exact ⟨z,d ()⟩
 ·exact absurd (fw (Qaf.mpr hw) (Qaf.mpr hv) pf pg (λn hn=>c n (Qax _) ()) (-1)) h
noncomputable def AO(ws:List c0):Nat->List (Nat×Nat)
 | 0=>[]
 | n+1=>AO ws n++(List.range ((ws|||n):)).map λi=>(n,i)
noncomputable def places(ws:List c0):List (Nat×Nat):=AO ws (ws:)
theorem yE{ws:List c0}:∀{n:Nat} {o:Nat×Nat},o∈AO ws n↔o.1<n/\o.2<(ws.getD o.1 []:)
 | 0,o=>by simp[AO]
 | n+1,o=>by
  unfold AO
  rw[Qan,yE (n:=n),Qa4]
  constructor
  ·rintro (⟨h1,h2⟩ | ⟨i,hi,rfl⟩)
   ·exact ⟨(),h2⟩
   ·exact ⟨by simp,Qcp.mp hi⟩
  ·rintro ⟨h1,h2⟩
   by_cases z:o.1<n
   ·exact .inl ⟨z,h2⟩
   ·have e:o.1=n:=by lia
    exact .inr ⟨o.2,Qcp.mpr (by rw[<-e];exact h2),by rw[<-e]⟩
theorem Ek{ws:List c0}:∀n:Nat,(AO ws n).Pairwise λa b=>LC a.1 a.2 b.1 b.2=true
 | 0=>List.Pairwise.nil
 | n+1=>by
  unfold AO
  rw[Qbb]
  refine ⟨Ek n,?_,λa ha b hb=>?_⟩
  ·rw[Qco]
   refine List.pairwise_lt_range.imp λ{a b} h=>?_
   unfold LC
   rw[if_pos rfl]
   exact decide_eq_true (by show (a:Int)<b;lia)
  ·obtain ⟨i,hi,rfl⟩:=Qa4.mp hb
   have:=(yE.mp ha).1
   unfold LC
   rw[if_neg (by show ¬((a.1:Nat):Int)=(n:Nat);lia)]
   exact decide_eq_true (by show ((a.1:Nat):Int)<(n:Nat);lia)
theorem gC:∀{a b:List Int},bA a b=true->bA b a=false/\a≠b
 | [],[],h=>by simp[bA]at h
 | [],_::_,h=>⟨rfl,by simp⟩
 | _::_,[],h=>by simp[bA]at h
 | x::r,z::t,h=>by
  simp only[bA]at h ⊢
  split at h
  ·rename_i e
   obtain ⟨h1,h2⟩:=gC h
   rw[if_pos e.symm]
   exact ⟨h1,λq=>h2 (List.cons.inj q).2⟩
  ·rename_i e
   have h':=of_decide_eq_true h
   rw[if_neg (λq=>e q.symm)]
   exact ⟨decide_eq_false (),λq=>e (List.cons.inj q).1⟩
def Adj(w:c0):Prop:=∀(k a b:Nat),w[k]? =some a->w[k+1]? =some b->b≠az a
theorem SW.of{w:c0}(ne:w≠[])(cn:∀c∈w,c∈y)(adj:Adj w)(hd:∀a b,w.head? =some a->w.getLast? =some b->a≠az b):SW y w:=by
 refine ⟨ne,cn,λk=>?_⟩
 have Cs:0<(w:):=Qaf.mpr ne
 have h1:=Qc8 k (b:=((w:):Int)) ()
 have h2:=Qcz k (b:=((w:):Int)) ()
 have hk:=fZ ne k
 have yp:=fZ ne (k - 1)
 by_cases z:k%((w:):Int)=0
 ·have e:(k - 1)%((w:):Int)=(w:) - 1:=by
   rw[<-Int.emod_sub_emod,z]
   have:(0:Int) - 1=((w:) - 1)+(w:)*(-1):=by lia
   rw[this,Qe6,Qbf () ()]
  rw[z]at hk
  rw[e]at yp
  refine hd _ _ ?_ ?_
  ·rw[Qft];exact hk
  ·rw[List.getLast?_eq_getElem?, show (w:) - 1=(((w:):Int) - 1).toNat by lia];exact yp
 ·have e:(k - 1)%((w:):Int)=k%(w:) - 1:=by
   rw[<-Int.emod_sub_emod,Qbf () ()]
  rw[e]at yp
  refine adj _ _ _ yp ?_
  rw[show (k%((w:):Int) - 1).toNat+1=(k%((w:):Int)).toNat by lia]
  exact hk
theorem SW.adj{w:c0}(h:SW y w):Adj w:=λk a b h1 h2=>by
 have hk:=(Qz.mp h2).1
 have e1:=gN (w:=w) (k:=k) ()
 have e2:=gN (w:=w) (k:=k+1) hk
 rw[h1]at e1
 rw[h2]at e2
 rw[Qal e1,Qal e2]
 have:=h.red ((k+1:Nat):Int)
 rwa [show (((k+1:Nat):Int) - 1)=(k:Int) by lia]at this
theorem yF{w:c0}(h:w≠[])(hn:n<=(w:))(k:Int):rd (w.drop n++w.take n) k=rd w (k+n):=by
 have Cs:0<(w:):=Qaf.mpr h
 have hl:(w.drop n++w.take n:)=(w:):=by rw[X4,Qaz,Qai];lia
 have h1:=Qc8 k (b:=((w:):Int)) ()
 have h2:=Qcz k (b:=((w:):Int)) ()
 have e:(k+n)%((w:):Int)=(k%(w:)+n)%(w:):=by rw[Qgn]
 generalize hr:k%((w:):Int)=r at h1 h2 e
 obtain ⟨m,rfl⟩:∃m:Nat,r=m:=⟨r.toNat,()⟩
 have hm:m<(w:):=by lia
 by_cases z:m+n<(w:)
 ·have hg:w[m+n]? =some (rd w (k+n)):=by
   have:=fZ h (k+n)
   rwa [e,Qbf () (),show ((m:Int)+n).toNat=m+n by lia]at this
  refine Ej (n:=m) (by rw[hl];exact hm) (by rw[hl];exact hr) ?_
  rw[Qbg (by rw[Qaz];lia),Qbm,Nat.add_comm]
  exact hg
 ·have hg:w[m+n - (w:)]? =some (rd w (k+n)):=by
   have:=fZ h (k+n)
   have e2:((m:Int)+n)%(w:)=((m+n - (w:):Nat):Int):=by
    have:(m:Int)+n=((m+n - (w:):Nat):Int)+(w:):=by lia
    rw[this,Qdj,Qbf () ()]
   rwa [e,e2,Qap]at this
  refine Ej (n:=m) (by rw[hl];exact hm) (by rw[hl];exact hr) ?_
  rw[Qa2 (by rw[Qaz];lia),Qaz,Qe4,if_pos (),show m - ((w:) - n)=m+n - (w:) by lia]
  exact hg
theorem SW.dj{w:c0}(h:SW y w)(hn:n<=(w:)):SW y (w.drop n++w.take n):=by
 refine ⟨λz=>h.ne ?_,λc hc=>?_,λk=>?_⟩
 ·have l0:(w.drop n++w.take n:)=0:=by rw[z];rfl
  rw[X4,Qaz,Qai]at l0
  exact Qch.mp ()
 ·exact h.cn c ((Qan.mp hc).elim Qca Qb4)
 ·rw[yF h.ne hn,yF h.ne hn,show k - 1+n=k+n - 1 by lia]
  exact h.red _
theorem SW.di{y w:c0}(hy:Yd y)(h:SW y w):SW y (di w):=by
 refine ⟨λz=>h.ne ?_,λc hc=>?_,λk=>?_⟩
 ·have:=bH w
  rw[z]at this
  exact Qch.mp this.symm
 ·obtain ⟨d,hd,rfl⟩:=Qa4.mp (Qb9.mp hc)
  exact hy.cl d (h.cn d hd)
 ·rw[jn h.ne,jn h.ne,show -1 - (k - 1)= -1 - k+1 by lia]
  intro q
  have l1:=hy.lt _ (h.rd (-1 - k))
  have l2:=hy.lt _ (h.rd (-1 - k+1))
  rw[aF l2]at q
  have:=h.red (-1 - k+1)
  rw[show -1 - k+1 - 1= -1 - k by lia]at this
  exact this q.symm
theorem M9{w:c0}(h:w≠[]):w.getLast? =some (rd w (-1)):=by
 have Cs:0<(w:):=Qaf.mpr h
 have:=fZ h (-1)
 have e:(-1:Int)%((w:):Int)=(w:) - 1:=by
  have e2:(-1:Int)=(((w:):Int) - 1)+(w:)*(-1):=by lia
  rw[e2,Qe6,Qbf () ()]
 rw[e]at this
 rw[List.getLast?_eq_getElem?, show (w:) - 1=(((w:):Int) - 1).toNat by lia]
 exact this
theorem M_{w:c0}(h:w≠[]):w.head? =some (rd w 0):=by
 have:=fZ h 0
 rw[Qft]
 simpa using this
theorem Gq(w:c0):∃k,ni w k:=by
 by_cases h:w=[]
 ·exact ⟨0,.inl ⟨h,rfl⟩⟩
 ·obtain ⟨k,_,_,t⟩:=t5 h
  exact ⟨k,t⟩
theorem bT.turn{w:c0}(h:bT w s):ni w s:=by
 obtain ⟨k,t⟩:=Gq w
 rw[lS h t];exact t
theorem bT.least{w:c0}(h:bT w s)(j1:1<=j)(j2:j<s)(hp:BI w j):False:=by
 rcases h.turn with ⟨_,e⟩ | ⟨h1,h2,h3,h4⟩
 ·lia
 ·have hn:w≠[]:=λz=>by rw[z]at h2;simp at h2;lia
  exact h4 j j1 j2 ((hZ hn ()).mpr hp)
theorem SW.rdd{w:c0}(hy:Yd y)(h:SW y w):lQ w:=Jk λk a b ha hb e=>by
 have O4:b∈y:=h.cn b (Qae hb)
 have:=h.adj k a b ha hb
 rw[e,aF (hy.lt b O4)]at this
 exact this rfl
theorem SW.core{w:c0}(hy:Yd y)(h:SW y w):My.core (My.red w)=w:=by
 rw[Ji (h.rdd hy)]
 by_cases z:(w:)<2
 ·exact gJ z
 ·obtain ⟨a,m,e,hw⟩:=Ef (l:=w) ()
  have h0:=M_ h.ne
  have h1:=M9 h.ne
  have hr:=h.red 0
  rw[show (0:Int) - 1= -1 by lia]at hr
  rw[hw]at h0 h1 hr ⊢
  have e0:a=My.rd (a::(m++[e])) 0:=Qal h0
  have e1:e=My.rd (a::(m++[e])) (-1):=by
   have:(a::(m++[e])).getLast? =some e:=by rw[<-Qen,List.getLast?_append];rfl
   exact Qal (this.symm.trans h1)
  exact lR (by rw[<-e0, <-e1]at hr;exact hr)
theorem yG{w:c0}{k:Nat}(hk:k<=(w:))(i:Nat):Fw (dj w k) i=Fw w (i+k):=by
 by_cases z:w=[]
 ·subst z
  unfold Fw dj
  simp
 ·have hp:0<(w:):=Qaf.mpr z
  have e:Fw (dj w k) i=(dj w k)[i%(w:)]?:= by unfold Fw;rw[b8]
  rw[e,rQ hk (Qeb _ hp),Jo]
theorem El{w:c0}{k:Nat}(hk:k<=(w:))(hn:w≠[]):BI (dj w k) s↔BI w s:=by
 constructor
 ·intro h i
  have h1:=h (i+((w:) - k))
  rw[yG hk,yG hk]at h1
  have e1:i+((w:) - k)+s+k=i+s+(w:):=by lia
  have e2:i+((w:) - k)+k=i+(w:):=by lia
  rw[e1,e2,BI.whole w,BI.whole w]at h1
  exact h1
 ·intro h i
  rw[yG hk,yG hk,show i+s+k=i+k+s by lia]
  exact h _
theorem xn{w:c0}(hn:w≠[])(h:bT w s):ni w s:=by
 obtain ⟨k,r,_,g⟩:=t5 hn
 rw[lS h g]
 exact g
theorem Jt{w:c0}{k:Nat}(hk:k<=(w:))(hn:w≠[])(h:ni (dj w k) s):ni w s:=by
 have mZ:dj w k≠[]:=λz=>hn (Qch.mp (by have:=b8 w k;rw[z]at this;exact this.symm))
 rcases h with ⟨z,_⟩ | ⟨h1,h2,h3,h4⟩
 ·exact absurd z mZ
 ·rw[b8]at h2
  refine .inr ⟨h1,h2,(hZ hn h2).mpr ((El hk hn).mp ((hZ mZ (by rw[b8];exact h2)).mp h3)),λj j1 j2 j3=>h4 j j1 j2 ?_⟩
  exact (hZ mZ (by rw[b8];lia)).mpr ((El hk hn).mpr ((hZ hn ()).mp j3))
theorem Gr{w:c0}{t:Nat}(hy:Yd y)(h:SW y w)(hr:bT (bL w) s)(hw:bT w t):s=t/\(bL w:)=(w:):=by
 have e:bL w=gj w:=by unfold bL;rw[h.core hy]
 obtain ⟨k,ek⟩:=gF w
 have ve:∃k,k<=(w:)/\gj w=dj w k:=by
  by_cases z:k<=(w:)
  ·exact ⟨k,z,ek⟩
  ·refine ⟨(w:),Qad _,?_⟩
   rw[ek]
   unfold dj
   rw[Qbu (),Qar (),List.drop_length,Qbi]
 obtain ⟨k,hk,ek⟩:=ve
 rw[e,ek]at hr ⊢
 have mZ:dj w k≠[]:=λz=>h.ne (Qch.mp (by have:=b8 w k;rw[z]at this;exact this.symm))
 refine ⟨?_,b8 w k⟩
 exact (lS hw (Jt hk h.ne (xn mZ hr))).symm
theorem Em{w:c0}(hn:w≠[]):∃s,bT w s:=by
 obtain ⟨k,r,_,g⟩:=t5 hn
 rcases g with ⟨z,_⟩ | ⟨h1,h2,h3,h4⟩
 ·exact absurd z hn
 ·exact ⟨k,.inr ⟨h1,h2,xl hn h1 h2 h3 h4,λj j1 j2 j3=>h4 j j1 j2 (yC j1 () j3)⟩⟩
theorem Ju{w:c0}{t:Nat}(hn:w≠[])(h:bT w s)(g:bT w t):s=t:=lS h (xn hn g)
structure Ti(y:c0)(ws:List c0):Prop where
 sw:∀w∈ws,SW y w/\(w:)<=12
 pU:(ws:)<=4
 all:(places ws:)<=24
theorem getD_at(h:c<(ws:)):(gE ws)[c]? =some (V.str (S 92)):=by
 rw[pV h,Qam,Qy h];rfl
theorem getD_in(h:c<(ws:)):92∈ws:=by
 rw[Qam,Qy h];exact Qb0 h
inductive iX(p_:c7)(vs:List V)(H:Hp)(Q:VK)(cy:XK):Prop
 | mk (w:c0) (i:Nat) (_:vs=[.str (S w),.int i]) (_:(∀c∈w,Lt c)) (_:(w:)<=1000) (_:i<(w:)) (_:∀q H',H q=none->H' q=some (.tup [.str (S [az (rd w ((i:Int) - 1))]),.str (S [rd w i])])->aq H H'->Q (.ref q) H'):iX p_ vs H Q cy
def kz(p_:c7):Sp:=iX p_
theorem q9(h:kz K vs H Q E):(vs:)=2:=by obtain ⟨_,_,rfl,_⟩:=h;rfl
theorem yH{ws:List c0}{m:Nat}(h:∀w∈ws,(w:)<=m):∀n:Nat,n<=(ws:)->(AO ws n:)<=n*m
 | 0,_=>Qax _
 | n+1,hn=>by
  unfold AO
  have:=yH h n ()
  have h2:=h _ (getD_in (ws:=ws) (c:=n) ())
  rw[X4,Qaa,Qdp,Qge]
  lia
variable{u:c0}
theorem Na{w:c0}(hw:SW y w)(hu:SW y u)(lw:(w:)<=12)(lu:(u:)<=12):Ti y [w,u]:=by
 refine ⟨λx hx=>?_,by show 2<=4;decide,?_⟩
 ·rcases Qaq.mp hx with g | g
  ·rw[g];exact ⟨hw,lw⟩
  ·rw[Qab.mp g];exact ⟨hu,lu⟩
 ·have:=yH (ws:=[w,u]) (m:=12) (λx hx=>by
   rcases Qaq.mp hx with g | g
   ·rw[g];exact lw
   ·rw[Qab.mp g];exact lu) 2 (Qad _)
  exact this
noncomputable def AQ(y:c0)(a b:Nat):Int:=((y.idxOf b:Int) - (y.idxOf a:Int))%((y:):Int)
noncomputable def fu(y:c0)(f:Int->Nat)(k:Int):Int:=AQ y (az (f (k - 1))) (f k)
structure jG(y:c0)(f:Int->Nat):Prop where
 cn:∀k,f k∈y
 red:∀k,f k≠az (f (k - 1))
structure Run(f g:Int->Nat)(a b:Nat):Prop where
 rR:∀k:Int, -(b:Int)<=k->k<=a->f k=g k
 hi:f (a+1)≠g (a+1)
 lo:f (-(b:Int) - 1)≠g (-(b:Int) - 1)
noncomputable def mm(f:Int->Nat):Int->Nat:=λk=>az (f (-k))
noncomputable def dZ(f:Int->Nat):Int->Nat:=λk=>f (k - 1)
noncomputable def iY(y:c0)(f g:Int->Nat)(a:Nat):Bool:=decide (fu y f (a+1)<fu y g (a+1))
noncomputable def jf(y:c0)(f g:Int->Nat)(b:Nat):Bool:=decide (fu y f (-(b:Int))<fu y g (-(b:Int)))
noncomputable def zJ(x a b:Nat):Bool:=decide (b<a\/(a=b/\aB x=false))
noncomputable def CH(y:c0)(f g:Int->Nat)(a b:Nat):Bool:=if zJ (f 0) a b=true then jf y f g b else iY y f g a
variable{a' b':Nat}
theorem Run.one(h:Run f g a b)(h':Run f g a' b'):a=a'/\b=b':=by
 constructor
 ·by_cases z:a<a'
  ·exact absurd (h'.rR (a+1) () ()) h.hi
  ·by_cases z2:a'<a
   ·exact absurd (h.rR (a'+1) () ()) h'.hi
   ·lia
 ·by_cases z:b<b'
  ·exact absurd (h'.rR (-(b:Int) - 1) () ()) h.lo
  ·by_cases z2:b'<b
   ·exact absurd (h.rR (-(b':Int) - 1) () ()) h'.lo
   ·lia
theorem Run.bk(h:Run f g a (b+1)):Run (dZ f) (dZ g) (a+1) b:=
 ⟨λk h1 h2=>h.rR (k - 1) () (),λz=>h.hi (by
  unfold dZ at z
  rwa [show ((a+1:Nat):Int)+1 - 1=a+1 by lia]at z),λz=>h.lo (by
  unfold dZ at z
  rwa [show -(b:Int) - 1 - 1= -((b+1:Nat):Int) - 1 by lia]at z)⟩
theorem Run.fd(h:Run (dZ f) (dZ g) (a+1) b):Run f g a (b+1):=
 ⟨λk h1 h2=>by
  have:=h.rR (k+1) () ()
  unfold dZ at this
  rwa [show k+1 - 1=k by lia]at this,λz=>h.hi (by
  unfold dZ
  rwa [show ((a+1:Nat):Int)+1 - 1=a+1 by lia]),λz=>h.lo (by
  unfold dZ
  rwa [show -(b:Int) - 1 - 1= -((b+1:Nat):Int) - 1 by lia])⟩
theorem rS(y:c0)(f:Int->Nat)(k:Int):fu y (dZ f) k=fu y f (k - 1):=rfl
theorem n_(y:c0)(f g:Int->Nat)(a:Nat):iY y (dZ f) (dZ g) (a+1)=iY y f g a:=by
 unfold iY
 rw[rS,rS,show ((a+1:Nat):Int)+1 - 1=a+1 by lia]
theorem oa(y:c0)(f g:Int->Nat)(b:Nat):jf y (dZ f) (dZ g) b=jf y f g (b+1):=by
 unfold jf
 rw[rS,rS,show -(b:Int) - 1= -((b+1:Nat):Int) by lia]
theorem Jv{x z a b:Nat}(h:zJ x a (b+1)=true):zJ z (a+1) b=true:=by
 unfold zJ at h ⊢
 have:=of_decide_eq_true h
 exact decide_eq_true ()
theorem fy(ha:a∈y)(hb:b∈y)(h:a≠b):0<AQ y a b/\AQ y a b<(y:)/\AQ y b a=(y:) - AQ y a b:=by
 have ia:=Qaj ha
 have ib:=Qaj hb
 have n:=bj ha hb h
 unfold AQ
 rw[ku ia ib,ku ib ia]
 generalize y.idxOf a=i at*
 generalize y.idxOf b=j at*
 split<;>split<;>lia
theorem og(ha:a∈y)(hb:b∈y)(hc:c∈y)(h:AQ y a b=AQ y a c):b=c:=by
 have ia:=Qaj ha
 have ib:=Qaj hb
 have ic:=Qaj hc
 refine Classical.byContradiction λz=>bj hb hc z ?_
 unfold AQ at h
 rw[ku ia ib,ku ia ic]at h
 split at h<;>split at h<;>lia
theorem jG.rv(hy:Yd y)(h:jG y f):jG y (mm f):=⟨λk=>hy.cl _ (h.cn _),λk z=>by
 unfold mm at z
 have e:=aF (hy.lt _ (h.cn (-(k - 1))))
 rw[e]at z
 have:=h.red (-(k - 1))
 rw[show -(k - 1) - 1= -k by lia]at this
 exact this z.symm⟩
theorem qL(hy:Yd y)(h:jG y f):mm (mm f)=f:=by
 funext k
 unfold mm
 rw[aF (hy.lt _ (h.cn _)),Int.neg_neg]
theorem kA(hy:Yd y)(h:jG y f)(k:Int):fu y (mm f) (k+1)=(y:) - fu y f (-k):=by
 unfold fu mm
 rw[show k+1 - 1=k by lia,aF (hy.lt _ (h.cn _)),show -(k+1)= -k - 1 by lia]
 exact (fy (hy.cl _ (h.cn _)) (h.cn _) (Ne.symm (h.red _))).2.2
theorem Run.rv(hy:Yd y)(hf:jG y f)(hg:jG y g)(h:Run f g a b):Run (mm f) (mm g) b a:=
 ⟨λk h1 h2=>by unfold mm;rw[h.rR _ () ()],λz=>h.lo (by
  unfold mm at z
  have:=dM (hy.lt _ (hf.cn _)) (hy.lt _ (hg.cn _)) z
  rwa [show -((b:Int)+1)= -(b:Int) - 1 by lia]at this),λz=>h.hi (by
  unfold mm at z
  have:=dM (hy.lt _ (hf.cn _)) (hy.lt _ (hg.cn _)) z
  rwa [show -(-(a:Int) - 1)=a+1 by lia]at this)⟩
theorem dN:∀c∈aY++ki,aB (az c)=!aB c:=⋯
theorem RG(hy:Yd y)(hf:jG y f)(hg:jG y g)(h0:f 0=g 0):CH y (mm g) (mm f) b a=CH y f g a b:=by
 have e1:jf y (mm g) (mm f) a=iY y f g a:=by
  unfold jf iY
  have h1:=kA hy hf (-(a:Int) - 1)
  have h2:=kA hy hg (-(a:Int) - 1)
  rw[show -(a:Int) - 1+1= -a by lia,show -(-(a:Int) - 1)=a+1 by lia]at h1 h2
  rw[h1,h2]
  exact decide_eq_decide.mpr ()
 have e2:iY y (mm g) (mm f) b=jf y f g b:=by
  unfold jf iY
  rw[kA hy hf,kA hy hg]
  exact decide_eq_decide.mpr ()
 unfold CH
 rw[e1,e2]
 have e3:zJ (mm g 0) b a=!zJ (f 0) a b:=by
  unfold zJ mm
  rw[show (-0:Int)=0 from rfl, <-h0,dN _ (hy.lt _ (hf.cn 0)).mem]
  rw[<-decide_not]
  refine decide_eq_decide.mpr ?_
  cases aB (f 0)
  ·simp;lia
  ·simp;lia
 rw[e3]
 cases zJ (f 0) a b<;>rfl
def uB(y:c0)(f g:Int->Nat):Prop:=∃a b,Run f g a b/\zJ (f 0) a b=true/\iY y f g a≠jf y f g b
def iZ(y:c0)(f g:Int->Nat):Prop:=∃a,Run f g a 0/\iY y f g a≠jf y f g 0
open Classical in
noncomputable def one(p:Prop):Int:=if p then 1 else 0
theorem eU{p:Prop}(h:p):one p=1:=by unfold one;rw[if_pos h]
theorem aZ{p:Prop}(h: ¬p):one p=0:=by unfold one;rw[if_neg h]
theorem bD{p q:Prop}(h:p↔q):one p=one q:=by rw[propext h]
theorem Run.zero(h:Run f g a b):f 0=g 0:=h.rR 0 () ()
theorem Jw{e0 e1:Bool}{m:Prop}
  (r0:f 0=g 0->∃a b,Run f g a b) (r1:f (-1)=g (-1)->∃a b,Run (dZ f) (dZ g) a b)
  (h0:∀a b,Run f g a b->e0=CH y f g a b) (h1:∀a b,Run (dZ f) (dZ g) a b->e1=CH y (dZ f) (dZ g) a b)
  (ma:f 0=g 0->f (-1)≠g (-1)->(m↔e0≠jf y f g 0)) (mb:f (-1)=g (-1)->f 0≠g 0->(m↔e1≠iY y (dZ f) (dZ g) 0)) (mc:f (-1)=g (-1)->f 0=g 0->(m↔e1≠e0))
  (t:f 0=g 0\/f (-1)=g (-1)):one m=one (iZ y f g)+one (uB y (dZ f) (dZ g)) - one (uB y f g):=by
 have hb:∀{a b},Run (dZ f) (dZ g) a b->f (-1)=g (-1):=λh=>h.zero
 by_cases z0:f 0=g 0
 ·obtain ⟨a,b,r⟩:=r0 z0
  have e:=h0 a b r
  unfold CH at e
  have hu:uB y f g↔(zJ (f 0) a b=true/\iY y f g a≠jf y f g b):=⟨λ⟨a',b',r',x⟩=>by obtain ⟨rfl,rfl⟩:=r.one r';exact x,λx=>⟨a,b,r,x⟩⟩
  by_cases z1:f (-1)=g (-1)
  ·cases b with
   | zero=>exact absurd z1 r.lo
   | succ b=>
    have r2:=r.bk
    have e2:=h1 _ _ r2
    unfold CH at e2
    have WZ:uB y (dZ f) (dZ g)↔(zJ (dZ f 0) (a+1) b=true/\iY y f g a≠jf y f g (b+1)):=⟨λ⟨a',b',r',x⟩=>by
     obtain ⟨rfl,rfl⟩:=r2.one r'
     rw[n_,oa]at x;exact x,λx=>⟨_,_,r2,by rw[n_,oa];exact x⟩⟩
    rw[n_,oa]at e2
    have W0: ¬iZ y f g:=λ⟨a',r',_⟩=>absurd (r.one r').2 (Qem b)
    rw[aZ W0,bD hu,bD WZ,bD (mc z1 z0),e,e2]
    have mono:= @Jv (f 0) (dZ f 0) a b
    generalize zJ (f 0) a (b+1)=B0 at*
    generalize zJ (dZ f 0) (a+1) b=B1 at*
    generalize iY y f g a=A at*
    generalize jf y f g (b+1)=C at*
    revert mono
    cases B0<;>cases B1<;>cases A<;>cases C<;>simp[one]
  ·have b0:b=0:=by
    cases b with
    | zero=>rfl
    | succ b=>exact absurd (r.rR (-1) () ()) z1
   subst b0
   have WZ: ¬uB y (dZ f) (dZ g):=λ⟨_,_,r',_⟩=>z1 (hb r')
   have W0:iZ y f g↔iY y f g a≠jf y f g 0:=⟨λ⟨a',r',x⟩=>by obtain ⟨rfl,_⟩:=r.one r';exact x,λx=>⟨a,r,x⟩⟩
   rw[aZ WZ,bD W0,bD hu,bD (ma z0 z1),e]
   generalize zJ (f 0) a 0=B0 at*
   generalize iY y f g a=A at*
   generalize jf y f g 0=C at*
   cases B0<;>cases A<;>cases C<;>simp[one]
 ·have z1:=t.resolve_left z0
  obtain ⟨a,b,r⟩:=r1 z1
  have a0:a=0:=by
   cases a with
   | zero=>rfl
   | succ a=>exact absurd (r.fd.zero) z0
  subst a0
  have e:=h1 _ _ r
  unfold CH at e
  have hu0: ¬uB y f g:=λ⟨_,_,r',_⟩=>z0 r'.zero
  have W0: ¬iZ y f g:=λ⟨_,r',_⟩=>z0 r'.zero
  have WZ:uB y (dZ f) (dZ g)↔(zJ (dZ f 0) 0 b=true/\iY y (dZ f) (dZ g) 0≠jf y (dZ f) (dZ g) b):=⟨λ⟨a',b',r',x⟩=>by
   obtain ⟨rfl,rfl⟩:=r.one r';exact x,λx=>⟨_,_,r,x⟩⟩
  rw[aZ hu0,aZ W0,bD WZ,bD (mb z1 z0),e]
  generalize zJ (dZ f 0) 0 b=B0 at*
  generalize iY y (dZ f) (dZ g) 0=A at*
  generalize jf y (dZ f) (dZ g) b=C at*
  cases B0<;>cases A<;>cases C<;>simp[one]
theorem eA(hp:0<p)(hq:0<q)(Pf:∀k,f (k+p)=f k)(Pg:∀k,g (k+q)=g k)(h0:f 0=g 0)(hn:∃k,f k≠g k):∃a b,Run f g a b/\a<p+q/\b<p+q:=by
 obtain ⟨k0,OV⟩:=hn
 have up:∃a:Nat,a<p+q/\(∀j:Nat,j<a->f (j+1)=g (j+1))/\f (a+1)≠g (a+1):=by
  obtain ⟨_,b,c,d⟩:=ky (λk=>f (k+1)) (λk=>g (k+1)) (p+q) 0
  by_cases z:vg (λk=>f (k+1)) (λk=>g (k+1)) (p+q) 0<p+q
  ·exact ⟨_,z,λj hj=>c j (Qax _) hj,d ()⟩
  ·refine absurd ?_ OV
   have:=fw (f:=λk=>f (k+1)) (g:=λk=>g (k+1)) hp hq (λk=>by rw[show k+(p:Int)+1=k+1+p by lia];exact Pf _) (λk=>by rw[show k+(q:Int)+1=k+1+q by lia];exact Pg _) (λn hn=>c n (Qax _) ()) (k0 - 1)
   rwa [show k0 - 1+1=k0 by lia]at this
 have Pf':∀k,f (-(k+p))=f (-k):=λk=>by have:=Pf (-(k+p));rw[<-this];congr 1;lia
 have Pg':∀k,g (-(k+q))=g (-k):=λk=>by have:=Pg (-(k+q));rw[<-this];congr 1;lia
 have dn:∃a:Nat,a<p+q/\(∀j:Nat,j<a->f (-(j:Int) - 1)=g (-(j:Int) - 1))/\f (-(a:Int) - 1)≠g (-(a:Int) - 1):=by
  obtain ⟨_,b,c,d⟩:=ky (λk=>f (-k - 1)) (λk=>g (-k - 1)) (p+q) 0
  by_cases z:vg (λk=>f (-k - 1)) (λk=>g (-k - 1)) (p+q) 0<p+q
  ·exact ⟨_,z,λj hj=>c j (Qax _) hj,d ()⟩
  ·refine absurd ?_ OV
   have:=fw (f:=λk=>f (-k - 1)) (g:=λk=>g (-k - 1)) hp hq (λk=>by have:=Pf' (k+1);rw[show -(k+(p:Int)) - 1= -(k+1+p) by lia,this];congr 1;lia) (λk=>by have:=Pg' (k+1);rw[show -(k+(q:Int)) - 1= -(k+1+q) by lia,this];congr 1;lia) (λn hn=>c n (Qax _) ()) (-k0 - 1)
   rwa [show -(-k0 - 1) - 1=k0 by lia]at this
 obtain ⟨a,ha,a1,a2⟩:=up
 obtain ⟨b,hb,b1,b2⟩:=dn
 refine ⟨a,b,⟨λk h1 h2=>?_,a2,b2⟩,ha,hb⟩
 by_cases z:k=0
 ·rw[z];exact h0
 ·by_cases z2:0<k
  ·obtain ⟨j,rfl⟩:∃j:Nat,k=j+1:=⟨(k - 1).toNat,()⟩
   exact a1 j ()
  ·obtain ⟨j,rfl⟩:∃j:Nat,k= -(j:Int) - 1:=⟨(-k - 1).toNat,()⟩
   exact b1 j ()
theorem Jx{p':Nat}(hy:Yd y)(hp:p∈y)(rN:p'∈y)(hx:x∈y)(h1:p≠p')(h2:p≠x)(h3:p'≠x):decide (AQ y p x<AQ y p' x)=!gr y p p' x:=by
 have ip:=Qaj hp
 have ip':=Qaj rN
 have ix:=Qaj hx
 have n1:=bj hp rN h1
 have n2:=bj hp hx h2
 have n3:=bj rN hx h3
 rw[dY hy.nd hp rN hx h1 h2 h3]
 unfold AQ
 rw[ku ip ix,ku ip' ix, <-decide_not]
 refine decide_eq_decide.mpr ?_
 unfold iN
 split<;>split<;>lia
theorem Jy(hy:Yd y)(hf:jG y f)(hg:jG y g)(h0:f 0=g 0)(h1:f (-1)≠g (-1)):jf y f g 0=!gr y (az (f (-1))) (az (g (-1))) (f 0):=by
 have e:jf y f g 0=decide (AQ y (az (f (-1))) (f 0)<AQ y (az (g (-1))) (g 0)):=rfl
 rw[e, <-h0]
 have r1:=hf.red 0
 have r2:=hg.red 0
 rw[show (0:Int) - 1= -1 by lia]at r1 r2
 exact Jx hy (hy.cl _ (hf.cn _)) (hy.cl _ (hg.cn _)) (hf.cn 0) (λz=>h1 (dM (hy.lt _ (hf.cn _)) (hy.lt _ (hg.cn _)) z)) (Ne.symm r1) (by rw[h0];exact Ne.symm r2)
theorem Jz(h:f a=g a):iY y f g a=gr y (az (f a)) (f (a+1)) (g (a+1)):=by
 unfold iY fu
 rw[show (a:Int)+1 - 1=a by lia, <-h]
 rfl
theorem En(hy:Yd y)(hf:jG y f)(hg:jG y g)(hd:f (-1)≠g (-1)->vg f g n 0<n/\f (vg f g n 0)≠g (vg f g n 0)):iZ y f g↔0<al y f g n:=by
 unfold al
 by_cases z:f 0≠g 0\/f (-1)=g (-1)
 ·rw[if_pos z]
  refine ⟨λ⟨a,r,_⟩=>?_,λh=>absurd h (Qbw _)⟩
  rcases z with z | z
  ·exact absurd r.zero z
  ·exact absurd z r.lo
 ·rw[if_neg z]
  have z0:f 0=g 0:=Classical.byContradiction λq=>z (.inl q)
  have z1:f (-1)≠g (-1):=λq=>z (.inr q)
  obtain ⟨d1,d2⟩:=hd z1
  obtain ⟨_,_,d3,_⟩:=ky f g n 0
  generalize vg f g n 0=D at*
  cases D with
  | zero=>exact absurd z0 d2
  | succ a=>
   have r:Run f g a 0:=⟨λk h1 h2=>by
    obtain ⟨j,rfl⟩:∃j:Nat,k=j:=⟨k.toNat,()⟩
    exact d3 j (Qax _) (),d2,z1⟩
   have e1:((a+1:Nat):Int)=(a:Int)+1:=by lia
   rw[e1,show (a:Int)+1 - 1=a by lia]
   have Yk:=d3 a (Qax _) (Qcs a)
   have rf:=hf.red (a+1)
   have rg:=hg.red (a+1)
   rw[show (a:Int)+1 - 1=a by lia]at rf rg
   have d2':f (a+1)≠g (a+1):=d2
   have eg:=M8 hy.nd (hy.cl _ (hf.cn a)) (hf.cn (a+1)) (hg.cn (a+1)) (Ne.symm rf) (by rw[Yk];exact Ne.symm rg) d2'
   rw[eg, <-Jz Yk]
   have eb:=Jy hy hf hg z0 z1
   have key:iZ y f g↔iY y f g a≠jf y f g 0:=⟨λ⟨a',r',x⟩=>by obtain ⟨rfl,_⟩:=r.one r';exact x,λx=>⟨a,r,x⟩⟩
   rw[key,eb]
   generalize gr y (az (f (-1))) (az (g (-1))) (f 0)=G
   generalize iY y f g a=A
   cases G<;>cases A<;>simp
noncomputable def q_(a b a' b':Nat):Bool:=decide (iN a a' b) != decide (iN a b' b)
theorem kC(a b a' b':Nat):q_ a b a' b'=q_ a b b' a':=by unfold q_;generalize decide (iN a a' b)=p;generalize decide (iN a b' b)=q;cases p<;>cases q<;>rfl
theorem AR(a b:Nat):q_ a b a b=false:=by
 unfold q_
 have h1: ¬iN a a b:=by unfold iN;lia
 have h2: ¬iN a b b:=by unfold iN;lia
 rw[decide_eq_false h1,decide_eq_false h2]
 rfl
theorem lU(h:a≠b):decide (b<a)=!decide (a<b):=by
 rcases Qdh h with q | q
 ·rw[decide_eq_true q,decide_eq_false (Qez q)];rfl
 ·rw[decide_eq_true q,decide_eq_false (Qez q)];rfl
theorem O5(h1:a≠b)(h2:b≠c)(h3:a≠c):decide (iN a b c)=!(decide (a<b) ^^ (decide (b<c) ^^ decide (c<a))):=by
 have e:decide (iN a b c)=((decide (a<b)&&decide (b<c))||((decide (b<c)&&decide (c<a))||(decide (c<a)&&decide (a<b)))):=by
  rw[<-Qex, <-Qex, <-Qex, <-Bool.decide_or, <-Bool.decide_or]
  exact decide_eq_decide.mpr Iff.rfl
 rw[e]
 have k1:decide (a<b)=true->decide (b<c)=true->decide (c<a)=true->False:=λp q r=>Qez (Qd5 (of_decide_eq_true p) (of_decide_eq_true q)) (of_decide_eq_true r)
 have k2:decide (b<a)=true->decide (c<b)=true->decide (a<c)=true->False:=λp q r=>Qez (Qd5 (of_decide_eq_true q) (of_decide_eq_true p)) (of_decide_eq_true r)
 rw[lU h1,lU h2,lU (Ne.symm h3)]at k2
 revert k1 k2
 generalize decide (a<b)=p
 generalize decide (b<c)=q
 generalize decide (c<a)=r
 revert p q r
 decide
theorem JA(h1:a≠b)(h3:a≠a')(h4:a≠b')(h5:b≠a')(h6:b≠b'):q_ a b a' b'=((decide (a<a') ^^ decide (a'<b)) ^^ (decide (a<b') ^^ decide (b'<b))):=by
 unfold q_
 rw[O5 h3 (Ne.symm h5) h1,O5 h4 (Ne.symm h6) h1]
 generalize decide (a<a')=p
 generalize decide (a'<b)=q
 generalize decide (a<b')=r
 generalize decide (b'<b)=s
 generalize decide (b<a)=t
 revert p q r s t
 decide
theorem oh(h1:a≠b)(h2:a'≠b')(h3:a≠a')(h4:a≠b')(h5:b≠a')(h6:b≠b'):q_ a b a' b'=q_ a' b' a b:=by
 rw[JA h1 h3 h4 h5 h6,JA h2 (Ne.symm h3) (Ne.symm h5) (Ne.symm h4) (Ne.symm h6),lU h3,lU (Ne.symm h6)]
 generalize decide (a<a')=p
 generalize decide (a'<b)=q
 generalize decide (a<b')=r
 generalize decide (b'<b)=s
 revert p q r s
 decide
theorem AS(h1:a≠b)(h2:a'≠b')(h3:a≠a')(h4:a≠b')(h5:b≠a')(h6:b≠b'):q_ b a a' b'=q_ a b a' b':=by
 rw[oh (Ne.symm h1) h2 h5 h6 h3 h4,kC,oh h2 h1 (Ne.symm h3) (Ne.symm h5) (Ne.symm h4) (Ne.symm h6)]
theorem Nb{k:Nat}(n1:i≠j)(n2:i≠k)(n3:j≠k)(h1:i<j->a<b)(h2:j<i->b<a)(h3:i<k->a<c)(h4:k<i->c<a)(h5:j<k->b<c)(h6:k<j->c<b):iN a b c↔iN i j k:=by
 have e:∀{i j a b:Nat},i≠j->(i<j->a<b)->(j<i->b<a)->(i<j↔a<b):=λ{i j a b} n f g=>⟨f,λq=>(Qdh n).elim id λr=>absurd (g r) (Qez q)⟩
 unfold iN
 rw[e n1 h1 h2,e n3 h5 h6,e (Ne.symm n2) h4 h3]
def Sep(y:c0)(ps:List (Nat×Nat)):Prop:=∀p∈ps,∀q∈ps,y.idxOf p.1<y.idxOf q.1->p.2<q.2
theorem Sep.iN{ps:List (Nat×Nat)}(h:Sep y ps){a b c:Nat×Nat}(ha:a∈ps)(hb:b∈ps)(hc:c∈ps)(n1:y.idxOf a.1≠y.idxOf b.1)(n2:y.idxOf a.1≠y.idxOf c.1)(n3:y.idxOf b.1≠y.idxOf c.1):My.iN a.2 b.2 c.2↔My.iN (y.idxOf a.1) (y.idxOf b.1) (y.idxOf c.1):=Nb n1 n2 n3 (h a ha b hb) (h b hb a ha) (h a ha c hc) (h c hc a ha) (h b hb c hc) (h c hc b hb)
theorem Sep.gr{ps:List (Nat×Nat)}(h:Sep y ps)(hn:y.Nodup){a b c:Nat×Nat}(ha:a∈ps)(hb:b∈ps)(hc:c∈ps)(ya:a.1∈y)(yb:b.1∈y)(yc:c.1∈y)(n1:a.1≠b.1)(n2:a.1≠c.1)(n3:b.1≠c.1):decide (My.iN a.2 b.2 c.2)=My.gr y a.1 b.1 c.1:=by
 rw[dY hn ya yb yc n1 n2 n3]
 exact decide_eq_decide.mpr (h.iN ha hb hc (bj ya yb n1) (bj ya yc n2) (bj yb yc n3))
theorem Sep.same{ps:List (Nat×Nat)}(h:Sep y ps){a b c:Nat×Nat}(ha:a∈ps)(hb:b∈ps)(hc:c∈ps)(e:b.1=c.1)(n:y.idxOf a.1≠y.idxOf c.1):My.iN a.2 b.2 c.2↔b.2<c.2:=by
 have h1:=h a ha b hb
 have h2:=h b hb a ha
 have h3:=h a ha c hc
 have h4:=h c hc a ha
 rw[e]at h1 h2
 unfold My.iN
 lia
theorem Sep.O6{ps:List (Nat×Nat)}(h:Sep y ps){a b c:Nat×Nat}(ha:a∈ps)(hb:b∈ps)(hc:c∈ps)(e:a.1=b.1)(n:y.idxOf a.1≠y.idxOf c.1):My.iN a.2 b.2 c.2↔a.2<b.2:=by
 have h1:=h b hb c hc
 have h2:=h c hc b hb
 have h3:=h a ha c hc
 have h4:=h c hc a ha
 rw[<-e]at h1 h2
 unfold My.iN
 lia
section
variable{y:c0}{f g:Int->Nat}{a b a' b':Nat}
theorem RH(hy:Yd y)(hf:jG y f)(hg:jG y g)(h:Sep y [(az (f (-1)),a),(f 0,b),(az (g (-1)),a'),(g 0,b')])(hb:b≠b')(z0:f 0=g 0)(z1:f (-1)≠g (-1)):q_ a b a' b'=true↔decide (b<b')≠jf y f g 0:=by
 have r1:=hf.red 0
 have r2:=hg.red 0
 rw[show (0:Int) - 1= -1 by lia]at r1 r2
 have ya:=hy.cl _ (hf.cn (-1))
 have Yl:=hy.cl _ (hg.cn (-1))
 have n1:az (f (-1))≠az (g (-1)):=λz=>z1 (dM (hy.lt _ (hf.cn _)) (hy.lt _ (hg.cn _)) z)
 have e1:=h.gr hy.nd (a:=(az (f (-1)),a)) (b:=(az (g (-1)),a')) (c:=(f 0,b)) (by simp) (by simp) (by simp) ya Yl (hf.cn 0) n1 (Ne.symm r1) (by rw[z0];exact Ne.symm r2)
 walk_at"I"
 unfold q_
 rw[Jy hy hf hg z0 z1]
 simp only at e1 e2
 rw[e1]
 generalize gr y (az (f (-1))) (az (g (-1))) (f 0)=G
 by_cases q:b<b'
 ·rw[decide_eq_true q,decide_eq_false (by rw[e2];lia)]
  cases G<;>simp
 ·rw[decide_eq_false q,decide_eq_true (by rw[e2];lia)]
  cases G<;>simp
theorem RI(hy:Yd y)(hf:jG y f)(hg:jG y g)(h:Sep y [(az (f (-1)),a),(f 0,b),(az (g (-1)),a'),(g 0,b')])(ha:a≠a')(z1:f (-1)=g (-1))(z0:f 0≠g 0):q_ a b a' b'=true↔decide (a'<a)≠iY y (dZ f) (dZ g) 0:=by
 have r1:=hf.red 0
 have r2:=hg.red 0
 rw[show (0:Int) - 1= -1 by lia]at r1 r2
 have ya:=hy.cl _ (hf.cn (-1))
 have Yl:=hy.cl _ (hg.cn (-1))
 walk_at"y"
 have e2:=h.gr hy.nd (a:=(az (f (-1)),a)) (b:=(g 0,b')) (c:=(f 0,b)) (by simp) (by simp) (by simp) ya (hg.cn 0) (hf.cn 0) (by show az _≠_;rw[z1];exact Ne.symm r2) (Ne.symm r1) (Ne.symm z0)
 have e3:iY y (dZ f) (dZ g) 0=gr y (az (f (-1))) (f 0) (g 0):=Jz (f:=dZ f) (g:=dZ g) (a:=0) z1
 have e4:=RD hy.nd ya (hf.cn 0) (hg.cn 0) (Ne.symm r1) (by rw[z1];exact Ne.symm r2) z0
 unfold q_
 simp only at e1 e2
 rw[e3,e2,e4]
 generalize gr y (az (f (-1))) (f 0) (g 0)=G
 by_cases q:a'<a
 ·rw[decide_eq_true q,decide_eq_false (by rw[e1];lia)]
  cases G<;>simp
 ·rw[decide_eq_false q,decide_eq_true (by rw[e1];lia)]
  cases G<;>simp
theorem yI(hy:Yd y)(hf:jG y f)(hg:jG y g)(h:Sep y [(az (f (-1)),a),(f 0,b),(az (g (-1)),a'),(g 0,b')])(ha:a≠a')(hb:b≠b')(z1:f (-1)=g (-1))(z0:f 0=g 0):q_ a b a' b'=true↔decide (a'<a)≠decide (b<b'):=by
 have r1:=hf.red 0
 rw[show (0:Int) - 1= -1 by lia]at r1
 have ya:=hy.cl _ (hf.cn (-1))
 walk_at"y"
 walk_at"I"
 unfold q_
 simp only at e1 e2
 rw[decide_eq_decide.mpr e1,decide_eq_decide.mpr e2]
 by_cases q:a'<a<;>by_cases q2:b<b'
 ·rw[decide_eq_true q,decide_eq_true q2,decide_eq_false (show ¬a<a' by lia),decide_eq_false (show ¬b'<b by lia)];simp
 ·rw[decide_eq_true q,decide_eq_false q2,decide_eq_false (show ¬a<a' by lia),decide_eq_true (show b'<b by lia)];simp
 ·rw[decide_eq_false q,decide_eq_true q2,decide_eq_true (show a<a' by lia),decide_eq_false (show ¬b'<b by lia)];simp
 ·rw[decide_eq_false q,decide_eq_false q2,decide_eq_true (show a<a' by lia),decide_eq_true (show b'<b by lia)];simp
theorem RJ(hy:Yd y)(hf:jG y f)(hg:jG y g)(h:Sep y [(az (f (-1)),a),(f 0,b),(az (g (-1)),a'),(g 0,b')])(z0:f 0≠g 0)(z1:f (-1)≠g (-1))(z2:az (f (-1))≠g 0)(z3:az (g (-1))≠f 0):q_ a b a' b'=ac y (az (f (-1))) (f 0) (az (g (-1))) (g 0):=by
 have r1:=hf.red 0
 have r2:=hg.red 0
 rw[show (0:Int) - 1= -1 by lia]at r1 r2
 have ya:=hy.cl _ (hf.cn (-1))
 have Yl:=hy.cl _ (hg.cn (-1))
 have n1:az (f (-1))≠az (g (-1)):=λz=>z1 (dM (hy.lt _ (hf.cn _)) (hy.lt _ (hg.cn _)) z)
 have e1:=h.gr hy.nd (a:=(az (f (-1)),a)) (b:=(az (g (-1)),a')) (c:=(f 0,b)) (by simp) (by simp) (by simp) ya Yl (hf.cn 0) n1 (Ne.symm r1) z3
 have e2:=h.gr hy.nd (a:=(az (f (-1)),a)) (b:=(g 0,b')) (c:=(f 0,b)) (by simp) (by simp) (by simp) ya (hg.cn 0) (hf.cn 0) z2 (Ne.symm r1) (Ne.symm z0)
 unfold q_ ac
 simp only at e1 e2
 rw[e1,e2,if_neg (λq=>q.elim (λq=>n1 q.symm) λq=>q.elim z3 λq=>q.elim (λq=>z2 q.symm) λq=>z0 q.symm)]
end
noncomputable def sm:Nat->(Int->Int)->Int
 | 0,_=>0
 | n+1,h=>sm n h+h n
theorem aH{h g:Int->Int}:∀{n:Nat},(∀i:Nat,i<n->h i=g i)->sm n h=sm n g
 | 0,_=>rfl
 | n+1,e=>by
  show sm n h+h n=sm n g+g n
  rw[aH λi hi=>e i (),e n ()]
theorem t_(h g:Int->Int):∀n:Nat,sm n (λi=>h i+g i)=sm n h+sm n g
 | 0=>rfl
 | n+1=>by
  show sm n _+(h n+g n)=(sm n h+h n)+(sm n g+g n)
  rw[t_ h g n];lia
theorem CI(h g:Int->Int):∀n:Nat,sm n (λi=>h i - g i)=sm n h - sm n g
 | 0=>rfl
 | n+1=>by
  show sm n _+(h n - g n)=(sm n h+h n) - (sm n g+g n)
  rw[CI h g n];lia
theorem gp:∀n:Nat,sm n (λ_=>0)=0
 | 0=>rfl
 | n+1=>by show sm n _+0=0;rw[gp n];rfl
theorem Eo(h:Int->Int):∀n:Nat,sm n (λi=>h (i - 1))+h ((n:Int) - 1)=sm n h+h (-1)
 | 0=>rfl
 | n+1=>by
  have:=Eo h n
  show sm n _+h ((n:Int) - 1)+h (((n+1:Nat):Int) - 1)=(sm n h+h n)+h (-1)
  rw[show ((n+1:Nat):Int) - 1=n by lia]
  lia
variable{h:Int->Int}
theorem kD(P:∀k,h (k+n)=h k):sm n (λi=>h (i - 1))=sm n h:=by
 have h1:=Eo h n
 have h2:=P (-1)
 rw[show (-1:Int)+n=(n:Int) - 1 by lia]at h2
 lia
theorem Ep(h:Int->Int):∀n:Nat,sm n (λi=>h ((n:Int) - 1 - i))=sm n h
 | 0=>rfl
 | n+1=>by
  have e:∀(m:Nat) (g:Int->Int),sm (m+1) g=g 0+sm m (λi=>g (i+1)):=λm=>by
   induction m with
   | zero=>intro g;show (0:Int)+g 0=g 0+0;lia
   | succ m ih=>intro g;show sm (m+1) g+g ((m+1:Nat):Int)=g 0+(sm m (λi=>g (i+1))+g ((m:Int)+1));rw[ih];rw[show ((m+1:Nat):Int)=(m:Int)+1 by lia];lia
  rw[e]
  have:=Ep h n
  show h (((n+1:Nat):Int) - 1 - 0)+sm n (λi=>h (((n+1:Nat):Int) - 1 - (i+1)))=sm n h+h n
  rw[show ((n+1:Nat):Int) - 1 - 0=n by lia, <-this,Int.add_comm]
  congr 1
  exact aH λi _=>by congr 1;lia
theorem rT(P:∀k,h (k+n)=h k):sm n (λi=>h (i+1))=sm n h:=by
 have:=kD (h:=λi=>h (i+1)) (n:=n) (λk=>by show h (k+n+1)=h (k+1);rw[<-P (k+1)];congr 1;lia)
 rw[<-this]
 exact aH λi _=>by show h ((i:Int) - 1+1)=h i;congr 1;lia
theorem ua(P:∀k,h (k+n)=h k):sm n (λi=>h (-i))=sm n h:=by
 rw[<-Ep (λi=>h (-i)) n, <-rT P]
 exact aH λi _=>by
  show h (-((n:Int) - 1 - i))=h (i+1)
  rw[<-P (-((n:Int) - 1 - i))];congr 1;lia
theorem RK(P:∀k,h (k+n)=h k):sm n (λi=>h (1 - i))=sm n h:=by
 rw[<-rT P, <-ua (h:=λi=>h (i+1)) (λk=>by show h (k+n+1)=h (k+1);rw[<-P (k+1)];congr 1;lia)]
 exact aH λi _=>by show h (1 - (i:Int))=h (-(i:Int)+1);congr 1;lia
noncomputable def bX(n m:Nat)(h:Int->Int->Int):Int:=sm n λi=>sm m λj=>h i j
variable{m:Nat}
theorem br{h g:Int->Int->Int}(e:∀i j:Nat,i<n->j<m->h i j=g i j):bX n m h=bX n m g:=aH λi hi=>aH λj hj=>e i j hi hj
theorem cu(n m:Nat)(h g:Int->Int->Int):bX n m (λi j=>h i j+g i j)=bX n m h+bX n m g:=by
 unfold bX
 rw[<-t_]
 exact aH λi _=>t_ _ _ _
theorem oj(n m:Nat)(h g:Int->Int->Int):bX n m (λi j=>h i j - g i j)=bX n m h - bX n m g:=by
 unfold bX
 rw[<-CI]
 exact aH λi _=>CI _ _ _
theorem xo{h:Int->Int->Int}(P:∀i j,h (i+n) j=h i j)(Q:∀i j,h i (j+m)=h i j):bX n m (λi j=>h (i - 1) (j - 1))=bX n m h:=by
 unfold bX
 have e:∀i:Int,sm m (λj=>h i (j - 1))=sm m (h i):=λi=>kD (Q i)
 rw[<-kD (h:=λi=>sm m λj=>h i j) (n:=n) (λk=>aH λj _=>P k j)]
 exact aH λi _=>e _
structure Tj(y:c0)(n:Nat)(F:Int->Int->Nat)(o i:Int->Nat):Prop where
 pos:0<n
 CJ:∀k,jG y (F k)
 bk:∀k,dZ (F k)=F (k - 1)
 W3:∀k,F (k+n)=F k
 own:∀k x,F k (x+n)=F k x
 op:∀k,o (k+n)=o k
 ip:∀k,i (k+n)=i k
structure O7(y:c0)(F:Int->Int->Nat)(o i:Int->Nat)(G:Int->Int->Nat)(o' i':Int->Nat):Prop where
 sep:∀s t,Sep y [(az (F s (-1)),i (s - 1)),(F s 0,o s),(az (G t (-1)),i' (t - 1)),(G t 0,o' t)]
 on:∀s t a b,Run (F s) (G t) a b->o s≠o' t/\i s≠i' t/\decide (o s<o' t)=CH y (F s) (G t) a b/\decide (i' t<i s)=CH y (F s) (G t) a b
def Ha(F G:Int->Int->Nat)(s t:Int):Prop:=F s 0=G t 0\/F s (-1)=G t (-1)
def par(F G:Int->Int->Nat)(s t:Int):Prop:=∀k,F s k=G t k
noncomputable def LM(o i o' i':Int->Nat)(s t:Int):Bool:=q_ (i (s - 1)) (o s) (i' (t - 1)) (o' t)
variable{F G:Int->Int->Nat}{o' i':Int->Nat}
theorem JB{o i:Int->Nat}(hF:Tj y n F o i)(hG:Tj y m G o' i'){s t:Int}:par F G (s - 1) (t - 1)↔par F G s t:=by
 unfold par
 rw[<-hF.bk, <-hG.bk]
 unfold dZ
 exact ⟨λh k=>by have:=h (k+1);rwa [show k+1 - 1=k by lia]at this,λh k=>h _⟩
theorem Er{o i:Int->Nat}(hy:Yd y)(hF:Tj y n F o i)(hG:Tj y m G o' i')(h:O7 y F o i G o' i'):
  bX n m (λs t=>one (Ha F G s t/\LM o i o' i' s t=true/\ ¬par F G s t))=bX n m λs t=>one (iZ y (F s) (G t)):=by
 have pt:∀s t:Int,one (Ha F G s t/\LM o i o' i' s t=true/\ ¬par F G s t)=one (iZ y (F s) (G t))+one (uB y (F (s - 1)) (G (t - 1))) - one (uB y (F s) (G t)):=λs t=>by
  by_cases hp:par F G s t
  ·have nr:∀{a b}, ¬Run (F s) (G t) a b:=λr=>r.hi (hp _)
   have rN:=(JB hF hG).mpr hp
   have nr':∀{a b}, ¬Run (F (s - 1)) (G (t - 1)) a b:=λr=>r.hi (rN _)
   rw[aZ (λz=>z.2.2 hp),aZ (λ⟨_,r,_⟩=>nr r),aZ (λ⟨_,_,r,_⟩=>nr' r),aZ (λ⟨_,_,r,_⟩=>nr r)]
   rfl
  ·by_cases ht:Ha F G s t
   ·have fq:∃k,F s k≠G t k:=Classical.byContradiction λz=>hp λk=>Classical.byContradiction λq=>z ⟨k,q⟩
    have RL:∃k,F (s - 1) k≠G (t - 1) k:=Classical.byContradiction λz=>hp ((JB hF hG).mp λk=>Classical.byContradiction λq=>z ⟨k,q⟩)
    have e1:∀s,F (s - 1) 0=F s (-1):=λs=>by rw[<-hF.bk];rfl
    have e2:∀t,G (t - 1) 0=G t (-1):=λs=>by rw[<-hG.bk];rfl
    have ei:one (Ha F G s t/\LM o i o' i' s t=true/\ ¬par F G s t)=one (LM o i o' i' s t=true):=bD ⟨λz=>z.2.1,λz=>⟨ht,z,hp⟩⟩
    rw[ei, <-hF.bk, <-hG.bk]
    refine Jw (e0:=decide (o s<o' t)) (e1:=decide (i' (t - 1)<i (s - 1))) (λz=>?_) (λz=>?_) (λa b r=>(h.on s t a b r).2.2.1) (λa b r=>?_) (λz0 z1=>?_) (λz1 z0=>?_) (λz1 z0=>?_) ht
    ·obtain ⟨a,b,r,_⟩:=eA hF.pos hG.pos (hF.own s) (hG.own t) z fq
     exact ⟨a,b,r⟩
    ·obtain ⟨a,b,r,_⟩:=eA hF.pos hG.pos (hF.own (s - 1)) (hG.own (t - 1)) (by rw[e1,e2];exact z) RL
     rw[hF.bk,hG.bk]
     exact ⟨a,b,r⟩
    ·rw[hF.bk,hG.bk]at r ⊢
     exact (h.on _ _ a b r).2.2.2
    ·obtain ⟨a,b,r,_⟩:=eA hF.pos hG.pos (hF.own s) (hG.own t) z0 fq
     exact RH hy (hF.CJ s) (hG.CJ t) (h.sep s t) (h.on s t a b r).1 z0 z1
    ·obtain ⟨a,b,r,_⟩:=eA hF.pos hG.pos (hF.own (s - 1)) (hG.own (t - 1)) (by rw[e1,e2];exact z1) RL
     exact RI hy (hF.CJ s) (hG.CJ t) (h.sep s t) (h.on _ _ a b r).2.1 z1 z0
    ·obtain ⟨a,b,r,_⟩:=eA hF.pos hG.pos (hF.own s) (hG.own t) z0 fq
     obtain ⟨a2,b2,r2,_⟩:=eA hF.pos hG.pos (hF.own (s - 1)) (hG.own (t - 1)) (by rw[e1,e2];exact z1) RL
     exact yI hy (hF.CJ s) (hG.CJ t) (h.sep s t) (h.on _ _ a2 b2 r2).2.1 (h.on s t a b r).1 z1 z0
   ·have t0:F s 0≠G t 0:=λz=>ht (.inl z)
    have t1:F (s - 1) 0≠G (t - 1) 0:=by
     rw[<-hF.bk, <-hG.bk]
     exact λz=>ht (.inr z)
    rw[aZ (λz=>ht z.1),aZ (λ⟨_,r,_⟩=>t0 r.zero),aZ (λ⟨_,_,r,_⟩=>t1 r.zero),aZ (λ⟨_,_,r,_⟩=>t0 r.zero)]
    rfl
 have e:bX n m (λs t=>one (Ha F G s t/\LM o i o' i' s t=true/\ ¬par F G s t))=bX n m (λs t=>(one (iZ y (F s) (G t))+one (uB y (F (s - 1)) (G (t - 1)))) - one (uB y (F s) (G t))):=br λs t _ _=>pt s t
 rw[e,oj,cu,xo (h:=λs t=>one (uB y (F s) (G t))) (λs t=>by rw[hF.W3]) (λs t=>by rw[hG.W3])]
 lia
theorem bE{w:c0}(h:SW y w)(i:Int):jG y (sq w i):=⟨λk=>h.rd _,λk=>by
 unfold sq
 have:=h.red (i+k)
 rwa [show i+k - 1=i+(k - 1) by lia]at this⟩
theorem ff(w:c0)(i:Int):mm (sq w i)=bq w i:=by
 funext k
 unfold mm sq bq
 rw[show i+ -k=i - k by lia]
theorem iD{w:c0}(hy:Yd y)(h:SW y w)(i:Int):jG y (bq w i):=by rw[<-ff];exact (bE h i).rv hy
theorem nj(w:c0)(i:Int):sq w (i+(w:))=sq w i:=by
 funext k
 unfold sq
 rw[show i+((w:):Int)+k=i+k+(w:) by lia,gM]
theorem kE(w:c0)(i:Int):bq w (i+(w:))=bq w i:=by rw[<-ff, <-ff,nj]
theorem RM(w:c0)(i:Int):bq w (i - (w:))=bq w i:=by rw[<-kE w (i - (w:))];congr 1;lia
variable{po pi:Int->Nat}
theorem CK{w:c0}(h:SW y w)(P:∀k,po (k+(w:))=po k)(Q:∀k,pi (k+(w:))=pi k):Tj y (w:) (sq w) po pi:=
 ⟨Qaf.mpr h.ne,bE h,λk=>by funext x;unfold dZ sq;congr 1;lia,nj w,λk x=>dE w k x,P,Q⟩
theorem Es{h:Int->Nat}(P:∀k,h (k+n)=h k)(k:Int):h (-(k+n))=h (-k):=by rw[<-P (-(k+n))];congr 1;lia
theorem RN{w:c0}(hy:Yd y)(h:SW y w)(P:∀k,po (k+(w:))=po k)(Q:∀k,pi (k+(w:))=pi k):Tj y (w:) (λk=>bq w (-k)) (λk=>pi (-k)) (λk=>po (-k)):=
 ⟨Qaf.mpr h.ne,λk=>iD hy h _,λk=>by funext x;unfold dZ bq;congr 2;lia,λk=>by
  show bq w (-(k+(w:)))=bq w (-k)
  rw[<-kE w (-(k+(w:)))];congr 1;lia,λk x=>t9 w _ x,Es Q,Es P⟩
section
variable{y w v:c0}{po pi qo qi:Int->Nat}
noncomputable def jg(po pi qo qi:Int->Nat)(i j:Int):Bool:=q_ (pi (i - 1)) (po i) (qi (j - 1)) (qo j)
def bZ(w v:c0)(i j:Int):Prop:=∀k,sq w i k=sq v j k
def kF(w v:c0)(i j:Int):Prop:=∀k,sq w i k=bq v (j - 1) k
def Tn(w v:c0)(i j:Int):Prop:=rd w i=rd v j\/rd w (i - 1)=rd v (j - 1)
def CL(w v:c0)(i j:Int):Prop:=rd w i=az (rd v (j - 1))\/rd w (i - 1)=az (rd v j)
theorem Nd(w v:c0)(i j:Int):Ha (sq w) (sq v) i j↔Tn w v i j:=by
 unfold Ha Tn sq
 rw[show i+0=i by lia,show j+0=j by lia]
 rfl
theorem Nf(w v:c0)(i k:Int):Ha (sq w) (λk=>bq v (-k)) i k↔CL w v i (1 - k):=by
 unfold Ha CL sq bq
 show rd w (i+0)=az (rd v (-k - 0))\/rd w (i+ -1)=az (rd v (-k - -1))↔_
 rw[show i+0=i by lia,show -k - 0=1 - k - 1 by lia,show -k - -1=1 - k by lia]
 rfl
theorem aah(hy:Yd y)(hw:SW y w)(hv:SW y v){i j:Int}(h:Tn w v i j)(g:CL w v i j):False:=by
 have zZ:=hw.red i
 have rv':=hv.red j
 have l1:=hy.lt _ (hw.rd (i - 1))
 have l2:=hy.lt _ (hv.rd (j - 1))
 have l3:=hy.lt _ (hv.rd j)
 rcases h with h | h<;>rcases g with g | g
 ·exact rv' (h.symm.trans g)
 ·rw[<-h]at g;exact zZ (by rw[g,aF (hy.lt _ (hw.rd i))])
 ·rw[<-h]at g;exact zZ g
 ·rw[h]at g;exact rv' (by rw[g,aF l3])
theorem Ng(hy:Yd y)(hw:SW y w)(hv:SW y v):bX (w:) (v:) (λs t=>one (iZ y (sq w s) (sq v t)))=bX (w:) (v:) (λi j=>one (0<al y (sq w i) (sq v j) ((w:)+(v:)))):=br λi j _ _=>bD (En hy (bE hw _) (bE hv _) λz=>lT hw.ne hv.ne (λk=>dE w i k) (λk=>dE v j k) z)
theorem Nh(hy:Yd y)(hw:SW y w)(hv:SW y v):bX (w:) (v:) (λs t=>one (iZ y (sq w s) (bq v (-t))))=bX (w:) (v:) (λi j=>one (0<al y (sq w i) (bq v j) ((w:)+(v:)))):=by
 have:bX (w:) (v:) (λs t=>one (iZ y (sq w s) (bq v (-t))))=bX (w:) (v:) (λs t=>one (iZ y (sq w s) (bq v t))):=aH λi _=>ua (h:=λt=>one (iZ y (sq w i) (bq v t))) λk=>by rw[kE]
 rw[this]
 exact br λi j _ _=>bD (En hy (bE hw _) (iD hy hv _) λz=>lT hw.ne hv.ne (λk=>dE w i k) (λk=>t9 v j k) z)
theorem Ni(Q1:∀k,qo (k+(v:))=qo k)(Q2:∀k,qi (k+(v:))=qi k):bX (w:) (v:) (λs t=>one (Ha (sq w) (λk=>bq v (-k)) s t/\LM po pi (λk=>qi (-k)) (λk=>qo (-k)) s t=true/\ ¬par (sq w) (λk=>bq v (-k)) s t))=bX (w:) (v:) (λi j=>one (CL w v i j/\jg po pi qo qi i j=true/\ ¬kF w v i j)):=by
 have P:∀i:Int,∀k:Int,(λj=>one (CL w v i j/\jg po pi qo qi i j=true/\ ¬kF w v i j)) (k+(v:))=(λj=>one (CL w v i j/\jg po pi qo qi i j=true/\ ¬kF w v i j)) k:=λi k=>by
  show one (CL w v i (k+(v:))/\jg po pi qo qi i (k+(v:))=true/\ ¬kF w v i (k+(v:)))=_
  unfold CL jg kF
  rw[show k+((v:):Int) - 1=k - 1+(v:) by lia,gM,gM,Q1,Q2,kE]
 refine aH λi _=>(aH λk _=>?_).trans (RK (P i))
 refine bD ?_
 rw[Nf]
 have ec:LM po pi (λk=>qi (-k)) (λk=>qo (-k)) i k=jg po pi qo qi i (1 - k):=by
  unfold LM jg
  rw[kC]
  show q_ (pi ((i:Int) - 1)) (po i) (qi (-(k:Int))) (qo (-((k:Int) - 1)))=_
  rw[show -((k:Int) - 1)=1 - k by lia,show (1:Int) - k - 1= -k by lia]
 have ep:par (sq w) (λk=>bq v (-k)) i k↔kF w v i (1 - k):=by
  unfold par kF
  rw[show (1:Int) - k - 1= -k by lia]
 rw[ec,ep]
theorem CM(hy:Yd y)(hw:SW y w)(hv:SW y v)(sep:∀s t,Sep y [(az (sq w s (-1)),pi (s - 1)),(sq w s 0,po s),(az (sq v t (-1)),qi (t - 1)),(sq v t 0,qo t)]):
  bX (w:) (v:) (λi j=>one (jg po pi qo qi i j=true))=
   bX (w:) (v:) (λi j=>one 130)+bX (w:) (v:) (λi j=>one (Ha (sq w) (sq v) i j/\LM po pi qo qi i j=true/\ ¬par (sq w) (sq v) i j))+bX (w:) (v:) (λi j=>one (CL w v i j/\jg po pi qo qi i j=true/\ ¬kF w v i j))
   +bX (w:) (v:) (λi j=>one (bZ w v i j/\jg po pi qo qi i j=true))+bX (w:) (v:) (λi j=>one (kF w v i j/\jg po pi qo qi i j=true)):=by
 rw[<-cu, <-cu, <-cu, <-cu]
 refine br λi j _ _=>?_
 have hc:LM po pi qo qi i j=jg po pi qo qi i j:=rfl
 have et:=Nd w v i j
 have pS:bZ w v i j->Tn w v i j:=λz=> .inl (by have:=z 0;unfold sq at this;rwa [show (i:Int)+0=i by lia,show (j:Int)+0=j by lia]at this)
 have pO:kF w v i j->CL w v i j:=λz=> .inl (by have:=z 0;unfold sq bq at this;rwa [show (i:Int)+0=i by lia,show (j:Int) - 1 - 0=j - 1 by lia]at this)
 have acS:Tn w v i j-> ¬ac y (az (rd w (i - 1))) (rd w i) (az (rd v (j - 1))) (rd v j)=true:=λz=>by
  unfold ac
  rw[if_pos (z.elim (λz=> .inr (.inr (.inr z.symm))) λz=> .inl (by rw[z]))]
  decide
 have acO:CL w v i j-> ¬ac y (az (rd w (i - 1))) (rd w i) (az (rd v (j - 1))) (rd v j)=true:=λz=>by
  unfold ac
  rw[if_pos (z.elim (λz=> .inr (.inl z.symm)) λz=> .inr (.inr (.inl (by rw[z,aF (hy.lt _ (hv.rd _))]))))]
  decide
 have ep:par (sq w) (sq v) i j↔bZ w v i j:=Iff.rfl
 by_cases tS:Tn w v i j
 ·have nO: ¬CL w v i j:=λz=>aah hy hw hv tS z
  rw[aZ (acS tS),aZ (p:=CL w v i j/\_) (λz=>nO z.1),aZ (p:=kF w v i j/\_) (λz=>nO (pO z.1))]
  by_cases c:jg po pi qo qi i j=true
  ·by_cases q:bZ w v i j
   ·rw[eU c,aZ (λz=>z.2.2 q),eU ⟨q,c⟩];rfl
   ·rw[eU c,eU ⟨et.mpr tS,c,q⟩,aZ (λz=>q z.1)];rfl
  ·rw[aZ c,aZ (λz=>c z.2.1),aZ (λz=>c z.2)];rfl
 ·rw[aZ (p:=Ha _ _ _ _/\_) (λz=>tS (et.mp z.1)),aZ (p:=bZ w v i j/\_) (λz=>tS (pS z.1))]
  by_cases tO:CL w v i j
  ·rw[aZ (acO tO)]
   by_cases c:jg po pi qo qi i j=true
   ·by_cases q:kF w v i j
    ·rw[eU c,aZ (λz=>z.2.2 q),eU ⟨q,c⟩];rfl
    ·rw[eU c,eU ⟨tO,c,q⟩,aZ (λz=>q z.1)];rfl
   ·rw[aZ c,aZ (λz=>c z.2.1),aZ (λz=>c z.2)];rfl
  ·rw[aZ (p:=CL w v i j/\_) (λz=>tO z.1),aZ (p:=kF w v i j/\_) (λz=>tO (pO z.1))]
   have l2:=hy.lt _ (hv.rd (j - 1))
   have l3:=hy.lt _ (hv.rd j)
   have l1:=hy.lt _ (hw.rd (i - 1))
   have f0:∀(u:c0) (i:Int),sq u i 0=rd u i:=λu i=>by unfold sq;rw[show i+0=i by lia]
   have f1:∀(u:c0) (i:Int),sq u i (-1)=rd u (i - 1):=λu i=>rfl
   have e:=RJ hy (bE hw i) (bE hv j) (sep i j) (λz=>tS (.inl (by rw[f0,f0]at z;exact z))) (λz=>tS (.inr z)) (λz=>tO (.inr (by rw[f0,f1]at z;rw[<-z,aF l1]))) (λz=>tO (.inl (by rw[f0,f1]at z;exact z.symm)))
   rw[f0,f0,f1,f1]at e
   have e':jg po pi qo qi i j=ac y (az (rd w (i - 1))) (rd w i) (az (rd v (j - 1))) (rd v j):=e
   rw[e']
   lia
theorem AU(hy:Yd y)(hw:SW y w)(hv:SW y v)(P1:∀k,po (k+(w:))=po k)(P2:∀k,pi (k+(w:))=pi k)(Q1:∀k,qo (k+(v:))=qo k)(Q2:∀k,qi (k+(v:))=qi k)
  (hS:O7 y (sq w) po pi (sq v) qo qi) (hO:O7 y (sq w) po pi (λk=>bq v (-k)) (λk=>qi (-k)) (λk=>qo (-k))):
  bX (w:) (v:) (λi j=>one (jg po pi qo qi i j=true))=
   bX (w:) (v:) (λi j=>one 130)+bX (w:) (v:) (λi j=>one (0<al y (sq w i) (sq v j) ((w:)+(v:))))+bX (w:) (v:) (λi j=>one (0<al y (sq w i) (bq v j) ((w:)+(v:))))
   +bX (w:) (v:) (λi j=>one (bZ w v i j/\jg po pi qo qi i j=true))+bX (w:) (v:) (λi j=>one (kF w v i j/\jg po pi qo qi i j=true)):=by
 have s1:=Er hy (CK hw P1 P2) (CK hv Q1 Q2) hS
 have s2:=Er hy (CK hw P1 P2) (RN hy hv Q1 Q2) hO
 rw[Ng hy hw hv]at s1
 rw[Nh hy hw hv,Ni Q1 Q2]at s2
 rw[CM hy hw hv hS.sep,s1,s2]
theorem Nj(hy:Yd y)(hw:SW y w)(hv:SW y v)(hS:O7 y (sq w) po pi (sq v) qo qi)(D:Bool)
  (h:∀i j,bZ w v i j->po i≠qo j/\pi i≠qi j/\decide (po i<qo j)=D/\decide (qi j<pi i)=D):bX (w:) (v:) (λi j=>one (bZ w v i j/\jg po pi qo qi i j=true))=0:=by
 have:∀i j:Int, ¬(bZ w v i j/\jg po pi qo qi i j=true):=λi j ⟨p,c⟩=>by
  have p1:bZ w v (i - 1) (j - 1):=λk=>by
   have:=p (k - 1)
   unfold sq at this ⊢
   rw[show i - 1+k=i+(k - 1) by lia,show j - 1+k=j+(k - 1) by lia]
   exact this
  have h0:=h i j p
  have h1:=h _ _ p1
  have:=(yI hy (bE hw i) (bE hv j) (hS.sep i j) h1.2.1 h0.1 (p (-1)) (p 0)).mp c
  exact this (h1.2.2.2.trans h0.2.2.1.symm)
 walk_at"D"
 exact br λi j _ _=>aZ (this i j)
theorem Nk(hy:Yd y)(hw:SW y w)(hv:SW y v)(hO:O7 y (sq w) po pi (λk=>bq v (-k)) (λk=>qi (-k)) (λk=>qo (-k)))(D:Bool)
  (h:∀i j,(∀k,sq w i k=bq v j k)->po i≠qi j/\pi i≠qo j/\decide (po i<qi j)=D/\decide (qo j<pi i)=D):bX (w:) (v:) (λi j=>one (kF w v i j/\jg po pi qo qi i j=true))=0:=by
 have:∀i j:Int, ¬(kF w v i j/\jg po pi qo qi i j=true):=λi j ⟨p,c⟩=>by
  have p1:∀k,sq w (i - 1) k=bq v j k:=λk=>by
   have:=p (k - 1)
   unfold sq bq at this ⊢
   rw[show i - 1+k=i+(k - 1) by lia,this]
   congr 2;lia
  have h0:=h i (j - 1) p
  have h1:=h _ _ p1
  have s:=hO.sep i (1 - j)
  simp only[show -(1 - j)=j - 1 by lia,show -(1 - j - 1)=j by lia]at s
  unfold jg at c
  rw[kC]at c
  have:=(yI hy (bE hw i) (iD hy hv (j - 1)) s h1.2.1 h0.1 (p (-1)) (p 0)).mp c
  exact this (h1.2.2.2.trans h0.2.2.1.symm)
 walk_at"D"
 exact br λi j _ _=>aZ (this i j)
theorem yJ(hy:Yd y)(hw:SW y w)(i j:Int): ¬ ∀k,sq w i k=bq w j k:=λh=>by
 unfold sq bq at h
 rcases (show (j - i)%2=0\/(j - i)%2=1 by lia) with z | z
 ·have:=h ((j - i) / 2)
  rw[show i+(j - i) / 2=j - (j - i) / 2 by lia]at this
  exact eM (hy.lt _ (hw.rd _)) this.symm
 ·have:=h ((j - i) / 2+1)
  rw[show j - ((j - i) / 2+1)=i+((j - i) / 2+1) - 1 by lia]at this
  exact hw.red _ this
theorem AV(h:Int->Int)(n:Nat):∀m:Nat,sm (n+m) h=sm n h+sm m (λi=>h (n+i))
 | 0=>by show sm n h=sm n h+0;lia
 | m+1=>by
  show sm (n+m) h+h ((n+m:Nat):Int)=sm n h+(sm m (λi=>h (n+i))+h (n+m))
  rw[AV h n m,show ((n+m:Nat):Int)=(n:Int)+m by lia]
  lia
theorem kG{h:Int->Int}:∀{s:Nat},0<s->(∀i:Nat,0<i->i<s->h i=0)->sm s h=h 0
 | 0,h0,_=>absurd h0 (Qbw _)
 | 1,_,_=>by show (0:Int)+h 0=h 0;lia
 | s+2,_,g=>by
  show sm (s+1) h+h ((s+1:Nat):Int)=h 0
  rw[kG (s:=s+1) () (λi h1 h2=>g i h1 ()),g (s+1) () ()]
  lia
theorem Et{h:Int->Int}{s:Nat}(hs:0<s)(g:∀i:Nat,h i=if i%s=0 then 1 else 0):∀k:Nat,sm (k*s) h=k
 | 0=>by rw[Nat.zero_mul];rfl
 | k+1=>by
  rw[Qge,AV,Et hs g k,kG hs]
  ·have:=g (k*s)
   rw[if_pos (Nat.mul_mod_left k s)]at this
   show (k:Int)+h (((k*s:Nat):Int)+0)=((k+1:Nat):Int)
   rw[Qei,this]
   lia
  ·intro i h1 h2
   have:=g (k*s+i)
   rw[if_neg (by rw[Qdf,Nat.mul_add_mod,Qds h2];lia)]at this
   rw[<-this]
   congr 1
theorem JC(hy:Yd y)(hw:SW y w)(hS:O7 y (sq w) po pi (sq w) po pi){k:Nat}(hs:0<s)(hn:(w:)=k*s)(hk:0<k)(hr:∀j:Nat,j<(w:)->(bZ w w 0 j↔j%s=0))
  (h:∀i j:Int,bZ w w i j->i%(w:)≠j%(w:)->po i≠po j/\pi i≠pi j/\decide (po i<po j)=decide (i%(w:)<j%(w:))/\decide (pi j<pi i)=decide (i%(w:)<j%(w:))):
  bX (w:) (w:) (λi j=>one (bZ w w i j/\jg po pi po pi i j=true))=2*((k:Int) - 1):=by
 have pt:∀i j:Nat,i<(w:)->j<(w:)->one (bZ w w i j/\jg po pi po pi i j=true)=(if i=0 then one (j≠0/\bZ w w 0 j) else 0)+(if j=0 then one (i≠0/\bZ w w 0 i) else 0):=λi j hi hj=>by
  have sym:bZ w w 0 i↔bZ w w i 0:=⟨λq k=>(q k).symm,λq k=>(q k).symm⟩
  by_cases e:i=j
  ·subst e
   rw[aZ (λq=>by have:=q.2;unfold jg at this;rw[AR]at this;cases this)]
   by_cases z:i=0
   ·rw[if_pos z,aZ (λq=>q.1 z)];rfl
   ·rw[if_neg z];rfl
  ·have key:bZ w w i j->(jg po pi po pi i j=true↔(i=0\/j=0)):=λp=>by
    have p1:bZ w w ((i:Int) - 1) ((j:Int) - 1):=λk=>by
     have:=p (k - 1)
     unfold sq at this ⊢
     rw[show (i:Int) - 1+k=i+(k - 1) by lia,show (j:Int) - 1+k=j+(k - 1) by lia]
     exact this
    have m0:∀i:Nat,i<(w:)->(i:Int)%(w:)=i:=λi hi=>Qbf () ()
    have m1:∀i:Nat,i<(w:)->((i:Int) - 1)%(w:)=if i=0 then ((w:):Int) - 1 else i - 1:=λi hi=>by
     split
     ·rename_i z
      rw[<-Qdj,Qbf () ()];lia
     ·exact Qbf () ()
    have h0:=h i j p (by rw[m0 i hi,m0 j hj];lia)
    have h1:=h _ _ p1 (by rw[m1 i hi,m1 j hj];split<;>split<;>lia)
    have c:=yI hy (bE hw i) (bE hw j) (hS.sep i j) h1.2.1 h0.1 (p (-1)) (p 0)
    rw[h0.2.2.1,h1.2.2.2,m0 i hi,m0 j hj,m1 i hi,m1 j hj]at c
    have c':jg po pi po pi i j=true↔_:=c
    rw[c',Ne,decide_eq_decide]
    split<;>split<;>lia
   by_cases z:i=0
   ·have j0:j≠0:=λq=>e (z.trans q.symm)
    rw[if_pos z,if_neg j0]
    rw[z]at key ⊢
    have:one (bZ w w ((0:Nat):Int) j/\jg po pi po pi ((0:Nat):Int) j=true)=one (j≠0/\bZ w w 0 j):=bD ⟨λq=>⟨j0,q.1⟩,λq=>⟨q.2,(key q.2).mpr (.inl rfl)⟩⟩
    rw[this];lia
   ·rw[if_neg z]
    by_cases j0:j=0
    ·rw[if_pos j0]
     rw[j0]at key ⊢
     have:one (bZ w w i ((0:Nat):Int)/\jg po pi po pi i ((0:Nat):Int)=true)=one (i≠0/\bZ w w 0 i):=bD ⟨λq=>⟨z,sym.mpr q.1⟩,λq=>⟨sym.mp q.2,(key (sym.mp q.2)).mpr (.inr rfl)⟩⟩
     rw[this];lia
    ·rw[if_neg j0,aZ (λq=>by rcases (key q.1).mp q.2 with q | q<;>contradiction)];rfl
 have cnt:sm (w:) (λj=>one (j≠0/\bZ w w 0 j))=(k:Int) - 1:=by
  have e1:sm (w:) (λj=>one (bZ w w 0 j))=k:=by
   have:sm (w:) (λj=>one (bZ w w 0 j))=sm (w:) (λj=>if j.toNat%s=0 then 1 else 0):=aH λj hj=>by
    rw[bD (hr j hj),Qap]
    by_cases z:j%s=0
    ·rw[eU z,if_pos z]
    ·rw[aZ z,if_neg z]
   rw[this,hn]
   exact Et hs (λi=>by rw[Qap]) k
  have e2:sm (w:) (λj=>one (bZ w w 0 j))=sm (w:) (λj=>one (j≠0/\bZ w w 0 j))+sm (w:) (λj=>if j=0 then 1 else 0):=by
   rw[<-t_]
   refine aH λj hj=>?_
   by_cases z:j=0
   ·subst z
    rw[eU (show bZ w w 0 ((0:Nat):Int) from λk=>rfl),aZ (λq=>q.1 rfl)];rfl
   ·rw[if_neg (),Qei]
    exact bD ⟨λq=>⟨(),q⟩,λq=>q.2⟩
  have e3:sm (w:) (λj=>if j=0 then (1:Int) else 0)=1:=by
   rw[kG (Qaf.mpr hw.ne) (λi h1 _=>by rw[if_neg ()]),if_pos rfl]
  lia
 have lp:0<(w:):=Qaf.mpr hw.ne
 have e:bX (w:) (w:) (λi j=>one (bZ w w i j/\jg po pi po pi i j=true))=bX (w:) (w:) (λi j=>(if i=0 then one (j≠0/\bZ w w 0 j) else 0)+(if j=0 then one (i≠0/\bZ w w 0 i) else 0)):=br λi j hi hj=>by
  rw[pt i j hi hj]
  congr 1
  ·by_cases z:i=0
   ·rw[if_pos z,if_pos ()]
    exact bD ⟨λq=>⟨(),q.2⟩,λq=>⟨(),q.2⟩⟩
   ·rw[if_neg z,if_neg ()]
  ·by_cases z:j=0
   ·rw[if_pos z,if_pos ()]
    exact bD ⟨λq=>⟨(),q.2⟩,λq=>⟨(),q.2⟩⟩
   ·rw[if_neg z,if_neg ()]
 rw[e,cu]
 have a1:bX (w:) (w:) (λi j=>if i=0 then one (j≠0/\bZ w w 0 j) else 0)=(k:Int) - 1:=by
  unfold bX
  rw[kG lp]
  ·rw[<-cnt]
   exact aH λj _=>if_pos rfl
  ·intro i h1 _
   refine Eq.trans (aH (g:=λ_=>0) λj _=>?_) (gp _)
   have: ¬((i:Int)=0):=by lia
   exact if_neg this
 have a2:bX (w:) (w:) (λi j=>if j=0 then one (i≠0/\bZ w w 0 i) else 0)=(k:Int) - 1:=by
  unfold bX
  rw[<-cnt]
  refine aH λi _=>?_
  have:∀j:Nat,0<j-> ¬((j:Int)=0):=λj h=>by lia
  rw[kG lp (λj h1 _=>if_neg (this j h1))]
  exact if_pos rfl
 lia
end
noncomputable def kk(y:c0)(f:Int->Nat):Nat->Nat->List Int
 | _,0=>[]
 | k,n+1=>fu y f (k+1)::fu y f (-(k:Int))::kk y f (k+1) n
theorem fS:∀(l r t:List Int),bA (l++r) (l++t)=bA r t
 | [],_,_=>rfl
 | a::l,r,t=>by
  show (if a=a then bA (l++r) (l++t) else _)=_
  rw[if_pos rfl,fS l r t]
theorem pX{y:c0}{f g:Int->Nat}{a b:Nat}(hy:Yd y)(hf:jG y f)(hg:jG y g)(h:Run f g a b)(r t:List Int):∀(n k:Nat),k<=a->k<=b->a<k+n->b<k+n->bA (kk y f k n++r) (kk y g k n++t)=if a<=b then iY y f g a else jf y f g b
 | 0,k,h1,_,h3,_=>by lia
 | n+1,k,h1,h2,h3,h4=>by
  show (if fu y f (k+1)=fu y g (k+1) then (if fu y f (-(k:Int))=fu y g (-(k:Int)) then bA (kk y f (k+1) n++r) (kk y g (k+1) n++t) else decide (fu y f (-(k:Int))<fu y g (-(k:Int)))) else decide (fu y f (k+1)<fu y g (k+1)))=_
  have e0:=h.rR k () ()
  have e1:=h.rR (-(k:Int)) () ()
  by_cases z:k=a
  ·subst z
   rw[if_neg (λq=>h.hi (by
    unfold fu at q
    rw[show (k:Int)+1 - 1=k by lia, <-e0]at q
    exact og (hy.cl _ (hf.cn _)) (hf.cn _) (hg.cn _) q)),if_pos h2]
   rfl
  ·have e2:=h.rR (k+1) () ()
   rw[if_pos (by unfold fu;rw[show (k:Int)+1 - 1=k by lia,e0,e2])]
   by_cases z2:k=b
   ·subst z2
    rw[if_neg (λq=>h.lo (by
     unfold fu at q
     rw[<-e1]at q
     have r1:=hf.red (-(k:Int))
     have r2:=hg.red (-(k:Int))
     have c1:=(fy (hy.cl _ (hf.cn (-(k:Int) - 1))) (hf.cn (-(k:Int))) (Ne.symm r1)).2.2
     have c2:=(fy (hy.cl _ (hg.cn (-(k:Int) - 1))) (hf.cn (-(k:Int))) (by rw[e1];exact Ne.symm r2)).2.2
     have:=og (hf.cn (-(k:Int))) (hy.cl _ (hf.cn (-(k:Int) - 1))) (hy.cl _ (hg.cn (-(k:Int) - 1))) (by rw[c1,c2,q])
     exact dM (hy.lt _ (hf.cn _)) (hy.lt _ (hg.cn _)) this)),if_neg ()]
    rfl
   ·have e3:=h.rR (-(k:Int) - 1) () ()
    rw[if_pos (by unfold fu;rw[e1,e3])]
    exact pX hy hf hg h r t n (k+1) () () () ()
noncomputable def o6(w:c0)(i:Int):Int->Nat:=if aB (rd w i)=true then sq w i else bq w i
noncomputable def LN(n r:Nat)(l low:Bool)(c i:Nat):List Int:=if low=l then [(c:Int),(((if low=true then i else n - 1 - i) / r:Nat):Int)] else [-(c:Int), -(((if low=true then n - 1 - i else i) / r:Nat):Int)]
noncomputable def fg(y:c0)(ws:List c0)(L:Nat->Bool)(r:Nat->Nat)(M c i:Nat):List Int:=kk y (o6 92 i) 0 M++LN (92:) (r c) (L c) (aB (rd 92 i)) c i
def Dl(w:c0)(i:Int)(f:Int->Nat):Prop:=f=sq w i\/f=bq w i
theorem yK{w:c0}{i:Int}(hy:Yd y)(hw:SW y w)(h:Dl w i f):o6 w i=if aB (f 0)=true then f else mm f:=by
 have s0:sq w i 0=rd w i:=by unfold sq;rw[show i+0=i by lia]
 have b0:bq w i 0=az (rd w i):=by unfold bq;rw[show i - 0=i by lia]
 have lc:=dN _ (hy.lt _ (hw.rd i)).mem
 unfold o6
 rcases h with rfl | rfl
 ·rw[s0,ff]
 ·rw[b0,lc, <-ff,qL hy (bE hw i)]
  cases aB (rd w i)<;>rfl
theorem Dl.CJ{w:c0}{i:Int}(hy:Yd y)(hw:SW y w)(h:Dl w i f):jG y f:=by
 rcases h with rfl | rfl
 ·exact bE hw i
 ·exact iD hy hw i
theorem Run.sy(h:Run f g a b):Run g f a b:=⟨λk h1 h2=>(h.rR k h1 h2).symm,Ne.symm h.hi,Ne.symm h.lo⟩
section
variable{y:c0}{ws:List c0}{L:Nat->Bool}{r:Nat->Nat}{M:Nat}{N:Nat->Nat->Nat->Nat}
structure gO(y:c0)(ws:List c0)(R:Nat->Nat->Nat->Nat->Bool)(N:Nat->Nat->Nat->Nat):Prop where
 sep:∀c i d j e e',c<(ws:)->d<(ws:)->i<(92:)->j<(131:)->(e=rd 92 i\/e=az (rd 92 i))->(e'=rd 131 j\/e'=az (rd 131 j))->y.idxOf e<y.idxOf e'->N c i e<N d j e'
 low:∀c i d j x,c<(ws:)->d<(ws:)->i<(92:)->j<(131:)->(c,i)≠(d,j)->aB x=true->(rd 92 i=x\/rd 92 i=az x)->(rd 131 j=x\/rd 131 j=az x)->
  N c i x≠N d j x/\N c i (az x)≠N d j (az x)/\decide (N c i x<N d j x)=R c i d j/\decide (N d j (az x)<N c i (az x))=R c i d j
abbrev Lies(y:c0)(ws:List c0)(L:Nat->Bool)(r:Nat->Nat)(M:Nat)(N:Nat->Nat->Nat->Nat):Prop:=gO y ws (λc i d j=>bA (fg y ws L r M c i) (fg y ws L r M d j)) N
theorem gO.at{R:Nat->Nat->Nat->Nat->Bool}(hy:Yd y)(hN:gO y ws R N){c i d j:Nat}{f g:Int->Nat}(hc:c<(ws:))(hd:d<(ws:))(hi:i<(92:))(hj:j<(131:))(hw:SW y 92)(hv:SW y 131)
  (hf:Dl 92 i f) (hg:Dl 131 j g) (h0:f 0=g 0) (fq:(c,i)≠(d,j)):
  N c i (f 0)≠N d j (f 0)/\N c i (az (f 0))≠N d j (az (f 0))/\decide (N c i (f 0)<N d j (f 0))=(if aB (f 0)=true then R c i d j else R d j c i)/\decide (N d j (az (f 0))<N c i (az (f 0)))=(if aB (f 0)=true then R c i d j else R d j c i):=by
 walk_at"c"
 walk_at"i"
 have ly:Lt (f 0):=hy.lt _ ((hf.CJ hy hw).cn 0)
 have OB:=aF ly
 have ef:rd 92 i=f 0\/rd 92 i=az (f 0):=by
  rcases hf with rfl | rfl
  ·exact .inl (s0 _ _).symm
  ·exact .inr (by rw[b0,aF (hy.lt _ (hw.rd _))])
 have eg:rd 131 j=f 0\/rd 131 j=az (f 0):=by
  rw[h0]
  rcases hg with rfl | rfl
  ·exact .inl (s0 _ _).symm
  ·exact .inr (by rw[b0,aF (hy.lt _ (hv.rd _))])
 by_cases z:aB (f 0)=true
 ·rw[if_pos z]
  exact hN.low c i d j (f 0) hc hd hi hj fq z ef eg
 ·rw[if_neg z]
  have z':aB (az (f 0))=true:=by rw[dN _ ly.mem];simpa using z
  have:=hN.low d j c i (az (f 0)) hd hc hj hi (Ne.symm fq) z' (by rw[OB];exact eg.symm) (by rw[OB];exact ef.symm)
  rw[OB]at this
  exact ⟨Ne.symm this.2.1,Ne.symm this.1,this.2.2.2,this.2.2.1⟩
theorem Lies.run(hy:Yd y)(hN:Lies y ws L r M N)(hc:c<(ws:))(hd:d<(ws:))(hi:i<(92:))(hj:j<(131:))(hw:SW y 92)(hv:SW y 131)
  (hf:Dl 92 i f) (hg:Dl 131 j g) (hr:Run f g a b) (ha:a<M) (hb:b<M) (fq:(c,i)≠(d,j)):
  N c i (f 0)≠N d j (g 0)/\N c i (az (f 0))≠N d j (az (g 0))/\decide (N c i (f 0)<N d j (g 0))=CH y f g a b/\decide (N d j (az (g 0))<N c i (az (f 0)))=CH y f g a b:=by
 have h0:=hr.zero
 have lf:=hf.CJ hy hw
 have lg:=hg.CJ hy hv
 have e:(if aB (f 0)=true then bA (fg y ws L r M c i) (fg y ws L r M d j) else bA (fg y ws L r M d j) (fg y ws L r M c i))=CH y f g a b:=by
  unfold fg
  rw[yK hy hw hf,yK hy hv hg, <-h0]
  by_cases z:aB (f 0)=true
  ·rw[if_pos z,if_pos z,if_pos z,pX hy lf lg hr _ _ M 0 (Qax _) (Qax _) () ()]
   unfold CH zJ
   by_cases q:a<=b
   ·rw[if_pos q,if_neg (by simp[z];lia)]
   ·rw[if_neg q,if_pos (by simp;lia)]
  ·rw[if_neg z,if_neg z,if_neg z,pX hy (lg.rv hy) (lf.rv hy) (hr.rv hy lf lg).sy _ _ M 0 (Qax _) (Qax _) () (), <-RG hy lf lg h0]
   unfold CH zJ
   have z':aB (mm g 0)=true:=by
    show aB (az (g 0))=true
    rw[<-h0,dN _ (hy.lt _ (lf.cn 0)).mem];simpa using z
   by_cases q:b<=a
   ·rw[if_pos q,if_neg (by simp[z'];lia)]
   ·rw[if_neg q,if_pos (by simp;lia)]
 have:=hN.at hy hc hd hi hj hw hv hf hg h0 fq
 rw[e]at this
 rw[<-h0]
 exact this
end
noncomputable def kH(n:Nat)(k:Int):Nat:=(k%(n:Int)).toNat
theorem bQ(h:0<n)(k:Int):kH n k<n:=by
 unfold kH
 have h1:=Qc8 k (b:=(n:Int)) ()
 have h2:=Qcz k (b:=(n:Int)) ()
 lia
theorem fh(h:0<n)(k:Int):((kH n k:Nat):Int)=k%n:=by
 unfold kH
 have h1:=Qc8 k (b:=(n:Int)) ()
 lia
theorem Eu(k:Int):kH n (k+n)=kH n k:=by unfold kH;rw[Qdj]
theorem cg{w:c0}(h:w≠[])(k:Int):rd w (kH (w:) k:Nat)=rd w k:=by rw[fh (Qaf.mpr h),jl]
theorem cY{w:c0}(h:w≠[])(k:Int):sq w (kH (w:) k:Nat)=sq w k:=by
 funext x
 unfold sq
 rw[fh (Qaf.mpr h), <-jl w (k%(w:)+x),Qgn,jl]
theorem yL{w:c0}(h:w≠[])(k:Int):bq w (kH (w:) k:Nat)=bq w k:=by rw[<-ff, <-ff,cY h]
noncomputable def pO(ws:List c0)(N:Nat->Nat->Nat->Nat)(c:Nat)(k:Int):Nat:=N c (kH (92:) k) (rd 92 k)
noncomputable def pI(ws:List c0)(N:Nat->Nat->Nat->Nat)(c:Nat)(k:Int):Nat:=N c (kH (92:) k) (az (rd 92 k))
theorem RO{x x' p p':Int}(h:x≠x'):bA [x,p] [x',p']=decide (x<x'):=by
 show (if x=x' then _ else decide (x<x'))=_
 rw[if_neg h]
theorem yM{x p p':Int}(h:p≠p'):bA [x,p] [x,p']=decide (p<p'):=by
 show (if x=x then (if p=p' then bA [] [] else decide (p<p')) else _)=_
 rw[if_pos rfl,if_neg h]
variable{R:Nat->Nat->Nat->Nat->Bool}
section
variable{y:c0}{ws:List c0}{L:Nat->Bool}{r:Nat->Nat}{M:Nat}{N:Nat->Nat->Nat->Nat}
structure eB(y:c0)(ws:List c0)(L:Nat->Bool)(r:Nat->Nat)(M:Nat):Prop where
 yd:Yd y
 sw:∀c,c<(ws:)->SW y 92
 big:∀c d,c<(ws:)->d<(ws:)->(92:)+(131:)<=M
 l1:∀c d i j,c<(ws:)->d<(ws:)->bZ 92 131 i j->L c=L d
 l2:∀c d i j,c<(ws:)->d<(ws:)->(∀k,sq 92 i k=bq 131 j k)->L d=!L c
 rp:∀c,c<(ws:)->0<r c
 rr:∀c,c<(ws:)->∀i j:Int,(bZ 92 92 i j↔(i - j)%(r c:Int)=0)
theorem gO.aai(h:eB y ws L r M)(hN:gO y ws R N)(hc:c<(ws:))(hd:d<(ws:))(s t:Int):Sep y [(az (sq 92 s (-1)),pI ws N c (s - 1)),(sq 92 s 0,pO ws N c s),(az (sq 131 t (-1)),pI ws N d (t - 1)),(sq 131 t 0,pO ws N d t)]:=by
 have hw:=h.sw c hc
 have hv:=h.sw d hd
 have lw:=Qaf.mpr hw.ne
 have lv:=Qaf.mpr hv.ne
 walk_at"c"
 have key:∀p∈[(az (sq 92 s (-1)),pI ws N c (s - 1)),(sq 92 s 0,pO ws N c s),(az (sq 131 t (-1)),pI ws N d (t - 1)),(sq 131 t 0,pO ws N d t)],∃e i:Nat,e<(ws:)/\i<((ws|||e):)/\(p.1=rd (ws|||e) i\/p.1=az (rd (ws|||e) i))/\p.2=N e i p.1:=by
  intro p hp
  simp only[Qaq,Qav,or_false]at hp
  rcases hp with rfl | rfl | rfl | rfl
  ·exact ⟨c,_,hc,bQ lw (s - 1),.inr (by rw[cg hw.ne];rfl),rfl⟩
  ·exact ⟨c,_,hc,bQ lw s,.inl (by rw[cg hw.ne,s0]),by rw[s0];rfl⟩
  ·exact ⟨d,_,hd,bQ lv (t - 1),.inr (by rw[cg hv.ne];rfl),rfl⟩
  ·exact ⟨d,_,hd,bQ lv t,.inl (by rw[cg hv.ne,s0]),by rw[s0];rfl⟩
 intro p hp q hq cH
 obtain ⟨e,i,he,hi,h1,h2⟩:=key p hp
 obtain ⟨e',j,zK,hj,h3,h4⟩:=key q hq
 rw[h2,h4]
 exact hN.sep e i e' j _ _ he zK hi hj h1 h3 cH
theorem gO.aaj(h:eB y ws L r M)(hN:gO y ws R N)(hc:c<(ws:))(hd:d<(ws:))(s t:Int):Sep y [(az (sq 92 s (-1)),pI ws N c (s - 1)),(sq 92 s 0,pO ws N c s),(az (bq 131 (-t) (-1)),pO ws N d (-(t - 1))),(bq 131 (-t) 0,pI ws N d (-t))]:=by
 have hw:=h.sw c hc
 have hv:=h.sw d hd
 have lw:=Qaf.mpr hw.ne
 have lv:=Qaf.mpr hv.ne
 walk_at"c"
 walk_at"i"
 have bb:∀t:Int,az (bq 131 (-t) (-1))=rd 131 (-(t - 1)):=λt=>by
  unfold bq
  rw[aF (h.yd.lt _ (hv.rd _))]
  congr 1;lia
 have key:∀p∈[(az (sq 92 s (-1)),pI ws N c (s - 1)),(sq 92 s 0,pO ws N c s),(az (bq 131 (-t) (-1)),pO ws N d (-(t - 1))),(bq 131 (-t) 0,pI ws N d (-t))],∃e i:Nat,e<(ws:)/\i<((ws|||e):)/\(p.1=rd (ws|||e) i\/p.1=az (rd (ws|||e) i))/\p.2=N e i p.1:=by
  intro p hp
  simp only[Qaq,Qav,or_false]at hp
  rcases hp with rfl | rfl | rfl | rfl
  ·exact ⟨c,_,hc,bQ lw (s - 1),.inr (by rw[cg hw.ne];rfl),rfl⟩
  ·exact ⟨c,_,hc,bQ lw s,.inl (by rw[cg hw.ne,s0]),by rw[s0];rfl⟩
  ·exact ⟨d,_,hd,bQ lv (-(t - 1)),.inl (by rw[cg hv.ne];exact bb t),by rw[bb t];rfl⟩
  ·exact ⟨d,_,hd,bQ lv (-t),.inr (by rw[cg hv.ne,b0]),by rw[b0];rfl⟩
 intro p hp q hq cH
 obtain ⟨e,i,he,hi,h1,h2⟩:=key p hp
 obtain ⟨e',j,zK,hj,h3,h4⟩:=key q hq
 rw[h2,h4]
 exact hN.sep e i e' j _ _ he zK hi hj h1 h3 cH
theorem Lies.two(h:eB y ws L r M)(hN:Lies y ws L r M N)(hc:c<(ws:))(hd:d<(ws:)):O7 y (sq 92) (pO ws N c) (pI ws N c) (sq 131) (pO ws N d) (pI ws N d):=by
 have hw:=h.sw c hc
 have hv:=h.sw d hd
 have lw:=Qaf.mpr hw.ne
 have lv:=Qaf.mpr hv.ne
 walk_at"c"
 refine ⟨gO.aai h hN hc hd,λs t a b rn=>?_⟩
 obtain ⟨a',b',rn',ha,hb⟩:=eA lw lv (λk=>dE _ s k) (λk=>dE _ t k) rn.zero ⟨_,rn.hi⟩
 obtain ⟨rfl,rfl⟩:=rn.one rn'
 have:=h.big c d hc hd
 have key:=hN.run h.yd hc hd (bQ lw s) (bQ lv t) hw hv (.inl (cY hw.ne s).symm) (.inl (cY hv.ne t).symm) rn () () (λz=>rn.hi (by
  obtain ⟨z1,z2⟩:=Prod.mk.inj z
  subst z1
  rw[<-cY hw.ne s, <-cY hw.ne t,z2]))
 rw[s0,s0]at key
 exact key
theorem Lies.opp(h:eB y ws L r M)(hN:Lies y ws L r M N)(hc:c<(ws:))(hd:d<(ws:)):O7 y (sq 92) (pO ws N c) (pI ws N c) (λk=>bq 131 (-k)) (λk=>pI ws N d (-k)) (λk=>pO ws N d (-k)):=by
 have hw:=h.sw c hc
 have hv:=h.sw d hd
 have lw:=Qaf.mpr hw.ne
 have lv:=Qaf.mpr hv.ne
 walk_at"c"
 walk_at"i"
 have bb:∀t:Int,az (bq 131 (-t) (-1))=rd 131 (-(t - 1)):=λt=>by
  unfold bq
  rw[aF (h.yd.lt _ (hv.rd _))]
  congr 1;lia
 refine ⟨gO.aaj h hN hc hd,λs t a b rn=>?_⟩
 obtain ⟨a',b',rn',ha,hb⟩:=eA lw lv (λk=>dE _ s k) (λk=>t9 _ (-t) k) rn.zero ⟨_,rn.hi⟩
 obtain ⟨rfl,rfl⟩:=rn.one rn'
 have:=h.big c d hc hd
 have key:=hN.run h.yd hc hd (bQ lw s) (bQ lv (-t)) hw hv (.inl (cY hw.ne s).symm) (.inr (yL hv.ne (-t)).symm) rn () () (λz=>by
  obtain ⟨z1,z2⟩:=Prod.mk.inj z
  subst z1
  have z0:=rn.zero
  rw[s0,b0, <-cg hw.ne s, <-cg hw.ne (-t),z2]at z0
  exact eM (h.yd.lt _ (hw.rd _)) z0.symm)
 rw[s0,b0,aF (h.yd.lt _ (hv.rd _))]at key
 exact key
theorem yN{n n' r r' c d i j:Nat}{l low RP:Bool}(h:c≠d):bA (LN n r l low c i) (LN n' r' (if RP=low then l else !l) RP d j)=if low=l then decide (c<d) else decide (d<c):=by
 unfold LN
 cases low<;>cases RP<;>cases l<;>simp only[Qgb,Bool.not_false,if_true,if_false,Bool.true_eq_false,Qc0]<;>rw[RO ()]<;>exact decide_eq_decide.mpr ()
theorem Lies.JD(h:eB y ws L r M)(hN:Lies y ws L r M N)(hc:c<(ws:))(hd:d<(ws:))(jV:c≠d)(hi:i<(92:))(hj:j<(131:))(hf:Dl 92 i f)(hg:Dl 131 j g)(hp:∀k,f k=g k)
  (hl:L d=if aB (rd 131 j)=aB (rd 92 i) then L c else !L c) (hs:f=sq 92 i):
  N c i (f 0)≠N d j (g 0)/\N c i (az (f 0))≠N d j (az (g 0))/\decide (N c i (f 0)<N d j (g 0))=(if L c=true then decide (c<d) else decide (d<c))/\decide (N d j (az (g 0))<N c i (az (f 0)))=(if L c=true then decide (c<d) else decide (d<c)):=by
 have hw:=h.sw c hc
 have hv:=h.sw d hd
 have e:(if aB (f 0)=true then bA (fg y ws L r M c i) (fg y ws L r M d j) else bA (fg y ws L r M d j) (fg y ws L r M c i))=if L c=true then decide (c<d) else decide (d<c):=by
  have es:o6 92 i=o6 131 j:=by
   rw[yK h.yd hw hf,yK h.yd hv hg,show f=g from funext hp]
  have f0:f 0=rd 92 i:=by rw[hs];unfold sq;rw[show (i:Int)+0=i by lia]
  unfold fg
  rw[es,fS,fS,f0]
  have lF:L c=if aB (rd 92 i)=aB (rd 131 j) then L d else !L d:=by
   rw[hl]
   cases aB (rd (ws|||d) j)<;>cases aB (rd (ws|||c) i)<;>cases L c<;>rfl
  have e1:= @yN (92:) (131:) (r c) (r d) c d i j (L c) (aB (rd 92 i)) (aB (rd 131 j)) jV
  have e2:= @yN (131:) (92:) (r d) (r c) d c j i (L d) (aB (rd 131 j)) (aB (rd 92 i)) (Ne.symm jV)
  rw[<-hl]at e1
  rw[<-lF]at e2
  rw[e1,e2,hl]
  cases aB (rd (ws|||d) j)<;>cases aB (rd (ws|||c) i)<;>cases L c<;>rfl
 have:=hN.at h.yd hc hd hi hj hw hv hf hg (hp 0) (λz=>jV (Prod.mk.inj z).1)
 rw[e]at this
 rw[<-hp 0]
 exact this
end
theorem AW{k:Nat}(hr:0<r)(hn:n=k*r)(hi:i<n):(n - 1 - i) / r=k - 1 - i / r:=by
 have h1:=Qev i r
 have h2:=Qeb i hr
 have h3:i / r<k:=by
  rw[Qf0 hr];lia
 rw[Nat.div_eq_iff hr]
 obtain ⟨t,rfl⟩:∃t,k=i / r+1+t:=⟨k - 1 - i / r,()⟩
 generalize hq:i / r=q at*
 rw[Nat.add_mul,Nat.add_mul,Nat.one_mul,Qdf q r]at hn
 have e:q+1+t - 1 - q=t:=by lia
 rw[e]
 generalize r*q=A at*
 generalize t*r=B at*
 lia
theorem Gs(hr:0<r)(h:i%r=j%r)(fq:i≠j):(i / r<j / r↔i<j)/\i / r≠j / r:=by
 have h1:=Qev i r
 have h2:=Qev j r
 have yO:i / r≠j / r:=λz=>fq (by rw[<-h1, <-h2,z,h])
 refine ⟨⟨λq=>?_,λq=>?_⟩,yO⟩
 ·have:r*(i / r+1)<=r*(j / r):=Nat.mul_le_mul_left r q
  rw[Nat.mul_add,Nat.mul_one]at this
  lia
 ·refine Classical.byContradiction λz=>?_
  have h3:j / r+1<=i / r:=by lia
  have:r*(j / r+1)<=r*(i / r):=Nat.mul_le_mul_left r h3
  rw[Nat.mul_add,Nat.mul_one]at this
  lia
theorem CN{n k r c i j:Nat}{l low:Bool}(hr:0<r)(hn:n=k*r)(hi:i<n)(hj:j<n)(h:i%r=j%r)(fq:i≠j):(if low=true then bA (LN n r l low c i) (LN n r l low c j) else bA (LN n r l low c j) (LN n r l low c i))=decide (i<j):=by
 obtain ⟨d1,d2⟩:=Gs hr h fq
 have e1:=AW hr hn hi
 have e2:=AW hr hn hj
 have b1:i / r<k:=by rw[Qf0 hr];lia
 have b2:j / r<k:=by rw[Qf0 hr];lia
 unfold LN
 cases low<;>cases l<;>simp only[if_true,if_false,Bool.true_eq_false,Qc0]
 ·rw[e1,e2,yM ()];exact decide_eq_decide.mpr ()
 ·rw[yM ()];exact decide_eq_decide.mpr ()
 ·rw[e1,e2,yM ()];exact decide_eq_decide.mpr ()
 ·rw[yM ()];exact decide_eq_decide.mpr ()
noncomputable def fc(y w v:c0)(i j:Int):Int:=one 130+one (0<al y (sq w i) (sq v j) ((w:)+(v:)))+one (0<al y (sq w i) (bq v j) ((w:)+(v:)))
section
variable{y:c0}{ws:List c0}{L:Nat->Bool}{r:Nat->Nat}{M:Nat}{N:Nat->Nat->Nat->Nat}
theorem yP(ws:List c0)(N:Nat->Nat->Nat->Nat)(c:Nat)(k:Int):pO ws N c (k+(92:))=pO ws N c k:=by unfold pO;rw[Eu,gM]
theorem pY(ws:List c0)(N:Nat->Nat->Nat->Nat)(c:Nat)(k:Int):pI ws N c (k+(92:))=pI ws N c k:=by unfold pI;rw[Eu,gM]
theorem eB.root(h:eB y ws L r M)(hc:c<(ws:)):(92:)=(92:) / r c*r c/\0<(92:) / r c:=by
 have hp:=h.rp c hc
 have hl:=Qaf.mpr (h.sw c hc).ne
 have h1:=(h.rr c hc (92:) 0).mp (λk=>by
  have:=congrFun (nj 92 0) k
  rwa [Qdv]at this)
 rw[Qe1]at h1
 have h2:(92:)%r c=0:=by
  have:((((92:)%r c:Nat)):Int)=0:=by rw[<-h1];rfl
  lia
 have h3:=Qev (92:) (r c)
 rw[h2,Qdu,Qdf]at h3
 refine ⟨h3.symm,Nat.pos_of_ne_zero λz=>?_⟩
 rw[z,Nat.zero_mul]at h3
 lia
theorem Gu(h:eB y ws L r M)(hN:Lies y ws L r M N)(hc:c<(ws:))(hd:d<(ws:))(jV:c≠d):
  bX (92:) (131:) (λi j=>one (jg (pO ws N c) (pI ws N c) (pO ws N d) (pI ws N d) i j=true))=bX (92:) (131:) (fc y 92 131):=by
 have hw:=h.sw c hc
 have hv:=h.sw d hd
 have lw:=Qaf.mpr hw.ne
 have lv:=Qaf.mpr hv.ne
 walk_at"c"
 walk_at"i"
 have hS:=hN.two h hc hd
 have hO:=hN.opp h hc hd
 rw[AU h.yd hw hv (yP ws N c) (pY ws N c) (yP ws N d) (pY ws N d) hS hO,Nj h.yd hw hv hS (if L c=true then decide (c<d) else decide (d<c)),Nk h.yd hw hv hO (if L c=true then decide (c<d) else decide (d<c)), <-cu, <-cu]
 ·unfold fc
  lia
 ·intro i j p
  have p0:=p 0
  rw[s0,b0]at p0
  have lo:=dN _ (h.yd.lt _ (hv.rd j)).mem
  have:=hN.JD h hc hd jV (bQ lw i) (bQ lv j) (f:=sq 92 i) (g:=bq 131 j) (.inl (cY hw.ne i).symm) (.inr (yL hv.ne j).symm) p (by
   rw[cg hw.ne,cg hv.ne,p0,lo,h.l2 c d i j hc hd p]
   cases aB (rd (ws|||d) j)<;>rfl) (cY hw.ne i).symm
  rw[s0,b0,aF (h.yd.lt _ (hv.rd _))]at this
  exact this
 ·intro i j p
  have p0:=p 0
  rw[s0,s0]at p0
  have:=hN.JD h hc hd jV (bQ lw i) (bQ lv j) (f:=sq 92 i) (g:=sq 131 j) (.inl (cY hw.ne i).symm) (.inl (cY hv.ne j).symm) p (by
   rw[cg hw.ne,cg hv.ne,p0,if_pos rfl]
   exact (h.l1 c d i j hc hd p).symm) (cY hw.ne i).symm
  rw[s0,s0]at this
  exact this
theorem CO(h:eB y ws L r M)(hN:Lies y ws L r M N)(hc:c<(ws:)):
  bX (92:) (92:) (λi j=>one (jg (pO ws N c) (pI ws N c) (pO ws N c) (pI ws N c) i j=true))=bX (92:) (92:) (fc y 92 92)+2*(((92:) / r c:Nat) - 1):=by
 have hw:=h.sw c hc
 have lw:=Qaf.mpr hw.ne
 walk_at"c"
 have hS:=hN.two h hc hc
 have hO:=hN.opp h hc hc
 obtain ⟨LK,OZ⟩:=h.root hc
 have hrp:=h.rp c hc
 have e0:bX (92:) (92:) (λi j=>one (kF 92 92 i j/\jg (pO ws N c) (pI ws N c) (pO ws N c) (pI ws N c) i j=true))=0:=by
  rw[show (0:Int)=bX (92:) (92:) (λ_ _=>0) by unfold bX;rw[show (λ_:Int=>sm (92:) λ_=>0)=λ_=>0 from funext λ_=>gp _,gp]]
  exact br λi j _ _=>aZ λz=>yJ h.yd hw _ _ z.1
 rw[AU h.yd hw hw (yP ws N c) (pY ws N c) (yP ws N c) (pY ws N c) hS hO,e0,JC h.yd hw hS hrp LK OZ, <-cu, <-cu]
 ·unfold fc
  lia
 ·intro j hj
  rw[h.rr c hc]
  constructor
  ·intro q
   have:(j:Int)%(r c:Int)=0:=by
    rw[Int.zero_sub]at q
    exact Int.emod_eq_zero_of_dvd (Int.dvd_neg.mp (Qfn q))
   have h2:((j%r c:Nat):Int)=0:=by rw[<-this];rfl
   lia
  ·intro q
   have:(j:Int)%(r c:Int)=0:=by
    have h2:((j%r c:Nat):Int)=(j:Int)%(r c:Int):=rfl
    rw[<-h2,q];rfl
   rw[Int.zero_sub]
   exact Int.emod_eq_zero_of_dvd (Int.dvd_neg.mpr (Qfn this))
 ·intro i j p fq
  have p0:=p 0
  rw[s0,s0]at p0
  have yO:kH (92:) i≠kH (92:) j:=λz=>fq (by rw[<-fh lw, <-fh lw,z])
  have:=hN.at h.yd hc hc (bQ lw i) (bQ lw j) hw hw (f:=sq 92 i) (g:=sq 92 j) (.inl (cY hw.ne i).symm) (.inl (cY hw.ne j).symm) (p 0) (λz=>yO (Prod.mk.inj z).2)
  have Nl:kH (92:) i%r c=kH (92:) j%r c:=by
   have p':bZ 92 92 (kH (92:) i:Nat) (kH (92:) j:Nat):=λk=>by rw[cY hw.ne,cY hw.ne];exact p k
   have q:=(h.rr c hc _ _).mp p'
   have q2:=Qd7.mpr q
   have q3:((kH (92:) i%r c:Nat):Int)=((kH (92:) j%r c:Nat):Int):=q2
   lia
  have es:o6 92 (kH (92:) i:Nat)=o6 92 (kH (92:) j:Nat):=by
   unfold o6
   rw[cg hw.ne,cg hw.ne,p0,cY hw.ne,cY hw.ne,yL hw.ne,yL hw.ne,show sq 92 i=sq 92 j from funext p, <-ff, <-ff,show sq 92 i=sq 92 j from funext p]
  have e:= @CN (92:) _ (r c) c _ _ (L c) (aB (rd 92 j)) hrp LK (bQ lw i) (bQ lw j) Nl yO
  unfold fg at this
  rw[es,fS,fS,s0,cg hw.ne,cg hw.ne,p0,e,decide_eq_decide.mpr (show kH (92:) i<kH (92:) j↔i%((92:):Int)<j%((92:):Int) by rw[<-fh lw, <-fh lw];lia)]at this
  unfold pO pI
  rw[p0]
  exact this
end
noncomputable def zL:Nat->(Int->Int->Int)->Int
 | 0,_=>0
 | n+1,h=>zL n h+sm n (λj=>h j n)
theorem yQ(n m:Nat)(h:Int->Int->Int):bX (n+1) m h=bX n m h+sm m (λj=>h n j):=rfl
theorem yR(m:Nat)(h:Int->Int->Int):∀n:Nat,bX n (m+1) h=bX n m h+sm n (λi=>h i m)
 | 0=>rfl
 | n+1=>by
  rw[yQ,yQ,yR m h n]
  show bX n m h+sm n (λi=>h i m)+(sm m (λj=>h n j)+h n m)=bX n m h+sm m (λj=>h n j)+(sm n (λi=>h i m)+h n m)
  lia
theorem Ew{h:Int->Int->Int}:∀{n:Nat},(∀i j:Nat,i<n->j<n->h i j=h j i)->(∀i:Nat,i<n->h i i=0)->bX n n h=2*zL n h
 | 0,_,_=>rfl
 | n+1,sy,dg=>by
  rw[yR,yQ,Ew (n:=n) (λi j hi hj=>sy i j () ()) (λi hi=>dg i ())]
  show 2*zL n h+sm n (λj=>h n j)+(sm n (λi=>h i n)+h n n)=2*(zL n h+sm n (λj=>h j n))
  rw[dg n (),aH (h:=λj=>h n j) (g:=λj=>h j n) (λj hj=>sy n j () ())]
  lia
theorem pZ{h g:Int->Int->Int}:∀{n:Nat},(∀i j:Nat,i<j->j<n->h i j=g i j)->zL n h=zL n g
 | 0,_=>rfl
 | n+1,e=>by
  show zL n h+_=zL n g+_
  rw[pZ (n:=n) λi j h1 h2=>e i j h1 (),aH (g:=λj=>g j n) λj hj=>e j n hj ()]
section
variable{y:c0}{ws:List c0}{L:Nat->Bool}{r:Nat->Nat}{M:Nat}{N:Nat->Nat->Nat->Nat}
theorem gO.inj(h:eB y ws L r M)(hN:gO y ws R N){e':Nat}(hc:c<(ws:))(hd:d<(ws:))(hi:i<(92:))(hj:j<(131:))(he:e=rd 92 i\/e=az (rd 92 i))(zK:e'=rd 131 j\/e'=az (rd 131 j))
  (fq:(c,i,e)≠(d,j,e')):N c i e≠N d j e':=by
 have ly:∀{c i e:Nat},c<(ws:)->(e=rd 92 i\/e=az (rd 92 i))->e∈y:=λhc he=>he.elim (λz=>z▸(h.sw _ hc).rd _) λz=>z▸h.yd.cl _ ((h.sw _ hc).rd _)
 have ye:=ly hc he
 have ye':=ly hd zK
 by_cases z:e=e'
 ·subst z
  have yO:(c,i)≠(d,j):=λq=>fq (by rw[(Prod.mk.inj q).1,(Prod.mk.inj q).2])
  have le:=h.yd.lt _ ye
  have lc:=h.yd.lt _ ((h.sw c hc).rd i)
  have ld:=h.yd.lt _ ((h.sw d hd).rd j)
  by_cases l:aB e=true
  ·exact (hN.low c i d j e hc hd hi hj yO l (he.elim (λz=> .inl z.symm) λz=> .inr (by rw[z,aF lc])) (zK.elim (λz=> .inl z.symm) λz=> .inr (by rw[z,aF ld]))).1
  ·have:=(hN.low c i d j (az e) hc hd hi hj yO (by rw[dN _ le.mem];simpa using l) (by rw[aF le];exact he.elim (λz=> .inr z.symm) λz=> .inl (by rw[z,aF lc])) (by rw[aF le];exact zK.elim (λz=> .inr z.symm) λz=> .inl (by rw[z,aF ld]))).2.1
   rwa [aF le]at this
 ·have n:=bj ye ye' z
  rcases Qdh n with q | q
  ·exact Qa6 (hN.sep c i d j e e' hc hd hi hj he zK q)
  ·exact Qd3 (hN.sep d j c i e' e hd hc hj hi zK he q)
theorem Ex{k:Int}(hi:i<n)(hj:j<n)(q:kH n ((i:Int) - k)=kH n ((j:Int) - k)):i=j:=by
 have lw:0<n:=Qbt (Qax _) hi
 have q2:((i:Int) - k)%n=((j:Int) - k)%n:=by rw[<-fh lw, <-fh lw,q]
 have q3:=(Int.emod_sub_cancel_right k).mp q2
 rw[Qbf (Qgd _) (Int.ofNat_lt.mpr hi),Qbf (Qgd _) (Int.ofNat_lt.mpr hj)]at q3
 exact Int.ofNat.inj q3
theorem fi(h:eB y ws L r M)(hN:gO y ws R N)(hc:c<(ws:))(hd:d<(ws:))(hi:i<(92:))(hj:j<(131:)):
  pI ws N c ((i:Int) - 1)≠pO ws N d j/\((c,i)≠(d,j)->pI ws N c ((i:Int) - 1)≠pI ws N d ((j:Int) - 1)/\pO ws N c i≠pO ws N d j):=by
 have hw:=h.sw c hc
 have hv:=h.sw d hd
 have lw:=Qaf.mpr hw.ne
 have lv:=Qaf.mpr hv.ne
 have vo:∀{c:Nat} (hw:SW y 92) (k:Int),rd 92 k=rd 92 (kH (92:) k:Nat)\/rd 92 k=az (rd 92 (kH (92:) k:Nat)):=λhw k=> .inl (cg hw.ne k).symm
 have vi:∀{c:Nat} (hw:SW y 92) (k:Int),az (rd 92 k)=rd 92 (kH (92:) k:Nat)\/az (rd 92 k)=az (rd 92 (kH (92:) k:Nat)):=λhw k=> .inr (by rw[cg hw.ne k])
 refine ⟨hN.inj h hc hd (bQ lw _) (bQ lv _) (vi hw _) (vo hv _) λq=>?_,λfq=>⟨hN.inj h hc hd (bQ lw _) (bQ lv _) (vi hw _) (vi hv _) λq=>?_,hN.inj h hc hd (bQ lw _) (bQ lv _) (vo hw _) (vo hv _) λq=>?_⟩⟩
 ·obtain ⟨q1,q⟩:=Prod.mk.inj q
  obtain ⟨q2,q3⟩:=Prod.mk.inj q
  subst q1
  rw[<-cg hw.ne ((i:Int) - 1), <-cg hw.ne (j:Int),q2]at q3
  exact eM (h.yd.lt _ (hw.rd _)) q3
 ·obtain ⟨q1,q⟩:=Prod.mk.inj q
  subst q1
  exact fq (by rw[Ex hi hj (Prod.mk.inj q).1])
 ·obtain ⟨q1,q⟩:=Prod.mk.inj q
  subst q1
  exact fq (by rw[Ex (k:=0) hi hj (by rw[Qe1,Qe1];exact (Prod.mk.inj q).1)])
theorem Nm(h:eB y ws L r M)(hN:gO y ws R N)(hc:c<(ws:))(hd:d<(ws:))(hi:i<(92:))(hj:j<(131:)):jg (pO ws N c) (pI ws N c) (pO ws N d) (pI ws N d) i j=jg (pO ws N d) (pI ws N d) (pO ws N c) (pI ws N c) j i:=by
 by_cases z:(c,i)=(d,j)
 ·obtain ⟨rfl,rfl⟩:=Prod.mk.inj z
  rfl
 have n:=fi h hN hc hd hi hj
 exact oh (fi h hN hc hc hi hi).1 (fi h hN hd hd hj hj).1 (n.2 z).1 n.1 (Ne.symm (fi h hN hd hc hj hi).1) (n.2 z).2
theorem JE(h:eB y ws L r M)(hN:Lies y ws L r M N)(hc:c<(ws:)):
  2*zL (92:) (λi j=>one (jg (pO ws N c) (pI ws N c) (pO ws N c) (pI ws N c) i j=true))=bX (92:) (92:) (fc y 92 92)+2*(((92:) / r c:Nat) - 1):=by
 rw[<-CO h hN hc]
 exact (Ew (λi j hi hj=>by rw[Nm h hN hc hc hi hj]) (λi hi=>aZ (by unfold jg;rw[AR];decide))).symm
end
theorem JF(hy:Yd y)(hf:jG y f)(hg:jG y g)(h:f a=g a)(hn:f (a+1)≠g (a+1)):iY y g f a=!iY y f g a:=by
 have:fu y f (a+1)≠fu y g (a+1):=λq=>hn (by
  unfold fu at q
  rw[show (a:Int)+1 - 1=a by lia, <-h]at q
  exact og (hy.cl _ (hf.cn _)) (hf.cn _) (hg.cn _) q)
 unfold iY
 rw[<-decide_not]
 exact decide_eq_decide.mpr ()
theorem CP(hy:Yd y)(hf:jG y f)(hg:jG y g)(h:f (-(b:Int))=g (-(b:Int)))(hn:f (-(b:Int) - 1)≠g (-(b:Int) - 1)):jf y g f b=!jf y f g b:=by
 have:fu y f (-(b:Int))≠fu y g (-(b:Int)):=λq=>hn (by
  unfold fu at q
  rw[<-h]at q
  have r1:=hf.red (-(b:Int))
  have r2:=hg.red (-(b:Int))
  have c1:=(fy (hy.cl _ (hf.cn (-(b:Int) - 1))) (hf.cn (-(b:Int))) (Ne.symm r1)).2.2
  have c2:=(fy (hy.cl _ (hg.cn (-(b:Int) - 1))) (hf.cn (-(b:Int))) (by rw[h];exact Ne.symm r2)).2.2
  have:=og (hf.cn (-(b:Int))) (hy.cl _ (hf.cn (-(b:Int) - 1))) (hy.cl _ (hg.cn (-(b:Int) - 1))) (by rw[c1,c2,q])
  exact dM (hy.lt _ (hf.cn _)) (hy.lt _ (hg.cn _)) this)
 unfold jf
 rw[<-decide_not]
 exact decide_eq_decide.mpr ()
theorem O8(hy:Yd y)(hf:jG y f)(hg:jG y g):iZ y f g->iZ y g f:=λ⟨a,r,x⟩=>⟨a,r.sy,by
 rw[JF hy hf hg (r.rR a () ()) r.hi,CP hy hf hg (r.rR _ () ()) r.lo]
 exact λq=>x (by simpa using q)⟩
theorem CQ(hy:Yd y)(ha:a∈y)(hb:b∈y)(hp:p∈y)(hq:q∈y)(BJ:a≠b)(WX:p≠q):ac y a b p q=ac y p q a b:=by
 unfold ac
 by_cases z:p=a\/p=b\/q=a\/q=b
 ·rw[if_pos z,if_pos (z.elim (λz=> .inl z.symm) λz=>z.elim (λz=> .inr (.inr (.inl z.symm))) λz=>z.elim (λz=> .inr (.inl z.symm)) λz=> .inr (.inr (.inr z.symm)))]
 ·have n1:a≠p:=λq=>z (.inl q.symm)
  have n2:b≠p:=λq=>z (.inr (.inl q.symm))
  have n3:a≠q:=λq=>z (.inr (.inr (.inl q.symm)))
  have n4:b≠q:=λq=>z (.inr (.inr (.inr q.symm)))
  rw[if_neg z,if_neg (λz=>z.elim n1 λz=>z.elim n3 λz=>z.elim n2 n4)]
  rw[dY hy.nd ha hp hb n1 BJ (Ne.symm n2),dY hy.nd ha hq hb n3 BJ (Ne.symm n4),dY hy.nd hp ha hq (Ne.symm n1) WX n3,dY hy.nd hp hb hq (Ne.symm n2) WX n4]
  exact oh (bj ha hb BJ) (bj hp hq WX) (bj ha hp n1) (bj ha hq n3) (bj hb hp n2) (bj hb hq n4)
theorem JG{Q:Int->Prop}{P:Nat->Bool}:∀{m:Nat},(∀j:Nat,j<m->(Q j↔P j=true))->sm m (λj=>one (Q j))=((List.range m).filter P:)
 | 0,_=>rfl
 | m+1,h=>by
  show sm m _+one (Q m)=_
  rw[JG (m:=m) λj hj=>h j (),Qcq,Qcl,X4,bD (h m ())]
  cases e:P m
  ·rw[Qbk (by rw[e];decide),aZ ∅];simp
  ·rw[Qb1 e,eU rfl];simp
theorem Ey(n:Nat)(h:Int->Int->Int):∀m:Nat,sm n (λi=>sm m λj=>h i j)=sm m λj=>sm n λi=>h i j
 | 0=>gp n
 | m+1=>by
  show bX n (m+1) h=sm m (λj=>sm n λi=>h i j)+sm n (λi=>h i m)
  rw[yR, <-Ey n h m]
  rfl
theorem lV(h:Nat->Int):∀n:Nat,((List.range n).map h).sum=sm n (λi=>h i.toNat)
 | 0=>rfl
 | n+1=>by
  rw[Qcq,Qag,Qea,lV h n]
  show _=sm n _+h (((n:Nat):Int).toNat)
  rw[Qap]
  simp
theorem Ez(ws:List c0)(h:Nat×Nat->Int):∀n:Nat,((AO ws n).map h).sum=sm n λc=>sm (ws.getD c.toNat []:) λi=>h (c.toNat,i.toNat)
 | 0=>rfl
 | n+1=>by
  unfold AO
  rw[Qag,Qea,Ez ws h n,Qbj]
  show _+((List.range _).map λi=>h (n,i)).sum=_
  rw[lV]
  rfl
noncomputable def cl{α:Type}(p:α->α->Bool):List α->Nat
 | []=>0
 | x::r=>(r.filter (p x):)+cl p r
theorem CT{α:Type}(p:α->α->Bool)(m:List α):∀l:List α,(cl p (l++m):Int)=cl p l+cl p m+(l.map λx=>((m.filter (p x):):Int)).sum
 | []=>by show (cl p m:Int)=((0:Nat):Int)+cl p m+0;lia
 | a::l=>by
  show ((((l++m).filter (p a):)+cl p (l++m):Nat):Int)=(((l.filter (p a):)+cl p l:Nat):Int)+cl p m+(((a::l).map λx=>((m.filter (p x):):Int)).sum)
  rw[Qcl,X4,Qas,Qbs,Qcf,Qcf,CT p m l,Qcf]
  lia
theorem JH(p:Nat×Nat->Nat×Nat->Bool)(c:Nat):∀n:Nat,(cl p ((List.range n).map λi=>(c,i)):Int)=zL n (λi j=>one (p (c,i.toNat) (c,j.toNat)=true))
 | 0=>rfl
 | n+1=>by
  rw[Qcq,Qag,CT,JH p c n,Qbj]
  show _+((0:Nat):Int)+((List.range n).map λi=>((([(c,n)]:List (Nat×Nat)).filter (p (c,i)):):Int)).sum=zL n _+sm n _
  rw[lV,Qfi]
  congr 1
  rw[show ((0:Nat):Int)=0 from rfl,Qdv]
  refine aH λi _=>?_
  show (((([(c,n)]:List (Nat×Nat)).filter (p (c,i)):):Int))=one (p (c,((i:Nat):Int).toNat) (c,((n:Nat):Int).toNat)=true)
  rw[Qap,Qap]
  cases e:p (c,i) (c,n)
  ·rw[Qbk (by rw[e];decide),aZ ∅];rfl
  ·rw[Qb1 e,eU rfl];rfl
theorem Nn(P:Nat×Nat->Bool)(c n:Nat):((((List.range n).map λi=>(c,i)).filter P:):Int)=sm n (λj=>one (P (c,j.toNat)=true)):=by
 rw[Qg0,Qaa,JG (P:=λj=>P (c,j)) λj _=>by rw[Qap]]
 rfl
theorem JI(ws:List c0)(p:Nat×Nat->Nat×Nat->Bool):∀n:Nat,(cl p (AO ws n):Int)=sm n (λc=>zL (ws.getD c.toNat []:) (λi j=>one (p (c.toNat,i.toNat) (c.toNat,j.toNat)=true)))+zL n (λc d=>bX (ws.getD c.toNat []:) (ws.getD d.toNat []:) λi j=>one (p (c.toNat,i.toNat) (d.toNat,j.toNat)=true))
 | 0=>rfl
 | n+1=>by
  unfold AO
  rw[CT,JI ws p n,JH,Ez]
  have u:((n:Nat):Int).toNat=n:=Qap n
  show _+_+sm n _=(sm n _+zL (ws.getD ((n:Nat):Int).toNat []:) (λi j=>one (p (((n:Nat):Int).toNat,i.toNat) (((n:Nat):Int).toNat,j.toNat)=true)))+(zL n _+sm n (λc=>bX (ws.getD c.toNat []:) (ws.getD ((n:Nat):Int).toNat []:) λi j=>one (p (c.toNat,i.toNat) (((n:Nat):Int).toNat,j.toNat)=true)))
  rw[u]
  have:sm n (λc=>sm (ws.getD c.toNat []:) λi=>(((((List.range ((ws|||n):)).map λi=>(n,i)).filter (p (c.toNat,i.toNat)):):Nat):Int))=sm n (λc=>bX (ws.getD c.toNat []:) ((ws|||n):) λi j=>one (p (c.toNat,i.toNat) (n,j.toNat)=true)):=aH λc _=>aH λi _=>Nn _ _ _
  rw[this]
  lia
section
variable{y:c0}{ws:List c0}{L:Nat->Bool}{r:Nat->Nat}{M:Nat}{N:Nat->Nat->Nat->Nat}
noncomputable def To(ws:List c0)(N:Nat->Nat->Nat->Nat)(o p:Nat×Nat):Bool:=jg (pO ws N o.1) (pI ws N o.1) (pO ws N p.1) (pI ws N p.1) o.2 p.2
end
def Lx(f g:Int->Nat):Prop:=∃m:Nat,f m<g m/\∀l:Nat,l<m->f l=g l
theorem yS{w:c0}(hw:w≠[]){k:Nat}(hi:i<=(w:))(hk:k<(w:)):(dj w i)[k]? =some (rd w ((i:Int)+k)):=by
 rw[rQ hi hk]
 unfold Fw
 have:=fZ hw ((i:Int)+k)
 rw[<-this]
 congr 1
 have e:(((k+i)%(w:):Nat):Int)=((i:Int)+k)%(w:):=by rw[Qgv,Qcf,Int.add_comm]
 lia
theorem JJ{w:c0}(hw:w≠[])(hl:(u:)=(w:))(hi:i<=(w:))(hj:j<=(w:)):dj w i<dj u j↔Lx (sq w i) (sq u j):=by
 have hu:u≠[]:=λz=>hw (by rw[z]at hl;exact Qch.mp hl.symm)
 have g1:∀{k:Nat} (hk:k<(dj w i:)),(dj w i)[k]=sq w i k:=λ{k} hk=>by
  have:=yS hw hi (k:=k) (by rw[b8]at hk;exact hk)
  rw[Qy hk]at this
  exact Qal this
 have g2:∀{k:Nat} (hk:k<(dj u j:)),(dj u j)[k]=sq u j k:=λ{k} hk=>by
  have:=yS hu (i:=j) (k:=k) () (by rw[b8]at hk;exact hk)
  rw[Qy hk]at this
  exact Qal this
 rw[List.lt_iff_exists]
 constructor
 ·rintro (⟨_,h⟩ | ⟨m,h1,h2,h3,h4⟩)
  ·rw[b8,b8,hl]at h;lia
  ·refine ⟨m,by rw[<-g1 h1, <-g2 h2];exact h4,λl lF=>?_⟩
   rw[<-g1 (), <-g2 ()]
   exact h3 l lF
 ·rintro ⟨m,h1,h2⟩
  have hp:=Qaf.mpr hw
  have hm:m<(w:):=by
   refine Classical.byContradiction λz=>?_
   have d:=Qfy m (w:)
   have c1:=jm (f:=sq w i) (p:=(w:)) (λk=>dE w i k) (m%(w:):Nat) (m / (w:))
   have c2:=jm (f:=sq u j) (p:=(w:)) (λk=>by rw[<-hl];exact dE u j k) (m%(w:):Nat) (m / (w:))
   have e:((m%(w:):Nat):Int)+((m / (w:):Nat):Int)*((w:):Nat)=m:=by
    rw[Qgm];exact_mod_cast d
   rw[e]at c1 c2
   rw[c1,c2,h2 (m%(w:)) (by have:=Qeb m hp;lia)]at h1
   lia
  refine .inr ⟨m,by rw[b8];exact hm,by rw[b8,hl];exact hm,λl lF=>?_,?_⟩
  ·rw[g1,g2];exact h2 l lF
  ·rw[g1,g2];exact h1
theorem om{w:c0}(hw:w≠[]):∃i:Nat,i<(w:)/\gj w=dj w i:=by
 have hp:=Qaf.mpr hw
 rcases ng (nY w ((w:) - 1)) w with h | h
 ·exact ⟨0,hp,by unfold gj;rw[h,AL]⟩
 ·unfold nY at h
  obtain ⟨k,hk,e⟩:=Qa4.mp h
  have:=Qcp.mp hk
  exact ⟨k+1,(),by unfold gj;exact e.symm⟩
theorem qM{w:c0}(hi:i<(w:)): ¬dj w i<gj w:=by
 unfold gj
 refine nh _ _ _ ?_
 cases i with
 | zero=>rw[AL];exact Qak
 | succ i=>exact Qah _ (Qa4.mpr ⟨i,Qcp.mpr (),rfl⟩)
noncomputable def leads(w:c0):Bool:=decide (gj w<gj (di w))
theorem h7(h:v≠[])(k:Int):sq (di v) k=bq v (-1 - k):=by
 funext x
 unfold sq bq
 rw[jn h]
 congr 2;lia
theorem p5(h:v≠[]):di v≠[]:=λz=>h (Qch.mp (by rw[<-bH v,z];rfl))
theorem xq{w:c0}(hw:w≠[]):leads w=true↔ ∃i:Int,∀j:Int,Lx (sq w i) (bq w j):=by
 have hp:=Qaf.mpr hw
 have hl:=bH w
 have ht:=p5 hw
 unfold leads
 rw[decide_eq_true_iff]
 constructor
 ·intro h
  obtain ⟨i,hi,ei⟩:=om hw
  refine ⟨i,λj=>?_⟩
  have hj:=bQ (n:=(di w:)) (by rw[hl];exact hp) (-1 - j)
  have h2:gj w<dj (di w) (kH (di w:) (-1 - j)):=List.not_le.mp λz=>by
   have:=List.lt_of_le_of_lt z h
   exact qM hj this
  rw[ei]at h2
  have h3:=(JJ hw hl () ()).mp h2
  rw[cY ht,h7 hw,show -1 - (-1 - j)=j by lia]at h3
  exact h3
 ·rintro ⟨i,h⟩
  obtain ⟨j,hj,ej⟩:=om ht
  have h2:=h (-1 - j)
  rw[show (-1:Int) - (j:Int)= -1 - j by lia, <-h7 hw, <-cY hw]at h2
  have hi:=bQ hp i
  have h3:=(JJ hw hl () ()).mpr h2
  rw[<-ej]at h3
  exact List.lt_of_le_of_lt (Qf3.mp (qM hi)) h3
theorem xr{w:c0}(hw:w≠[])(hv:v≠[]){i j:Int}(h:bZ w v i j):leads w=leads v:=by
 have e1:∀k,sq w k=sq v (k - i+j):=λk=>by
  funext x
  have:=h (k - i+x)
  unfold sq at this ⊢
  rw[show k+x=i+(k - i+x) by lia,this]
  congr 1;lia
 have e2:∀k,bq w k=bq v (k - i+j):=λk=>by rw[<-ff, <-ff,e1]
 rw[Qew,xq hw,xq hv]
 constructor
 ·rintro ⟨a,h⟩
  refine ⟨a - i+j,λb=>?_⟩
  have:=h (b - j+i)
  rwa [e1,e2,show b - j+i - i+j=b by lia]at this
 ·rintro ⟨a,h⟩
  refine ⟨a - j+i,λb=>?_⟩
  rw[e1,e2,show a - j+i - i+j=a by lia]
  exact h _
theorem xt{w:c0}(hy:Yd y)(hw:SW y w):leads (di w)=!leads w:=by
 have hl:AllLt w:=λc hc=>hy.lt c (hw.cn c hc)
 have ne:gj w≠gj (di w):=λz=>by
  obtain ⟨i,hi,ei⟩:=om hw.ne
  obtain ⟨j,hj,ej⟩:=om (p5 hw.ne)
  rw[bH]at hj
  have:∀k:Nat,k<(w:)->sq w i k=sq (di w) j k:=λk hk=>by
   have h1:=yS hw.ne (i:=i) (k:=k) () hk
   have h2:=yS (p5 hw.ne) (i:=j) (k:=k) (by rw[bH];lia) (by rw[bH];exact hk)
   rw[<-ei,z,ej,h2]at h1
   exact (Qal h1).symm
  refine yJ hy hw i (-1 - j) ?_
  rw[<-h7 hw.ne]
  have hp:=Qaf.mpr hw.ne
  refine fw (p:=(w:)) (q:=(w:)) hp hp (λk=>dE w i k) (λk=>by rw[<-bH w];exact dE (di w) j k) λn hn=>?_
  by_cases q:n<(w:)
  ·exact this n q
  ·have c1:=dE w i ((n - (w:):Nat):Int)
   have c2:=dE (di w) j ((n - (w:):Nat):Int)
   rw[show ((n - (w:):Nat):Int)+(w:)=n by lia]at c1
   rw[bH,show ((n - (w:):Nat):Int)+(w:)=n by lia]at c2
   rw[c1,c2]
   exact this _ ()
 unfold leads
 rw[Ed hl, <-decide_not]
 refine decide_eq_decide.mpr ⟨λh z=>?_,λh=>?_⟩
 ·exact Qd1 _ (List.lt_trans h z)
 ·exact List.not_le.mp λz=>ne (List.le_antisymm z (Qf3.mp h))
theorem Gv{w:c0}(hy:Yd y)(hw:SW y w)(hv:SW y v){i j:Int}(h:∀k,sq w i k=bq v j k):leads v=!leads w:=by
 have:bZ w (di v) i (-1 - j):=λk=>by rw[h7 hv.ne,show -1 - (-1 - j)=j by lia];exact h k
 rw[xr hw.ne (p5 hv.ne) this,xt hy hv,Bool.not_not]
theorem JK{w:c0}(hw:w≠[]):BI w d↔ ∀k:Int,rd w (k+d)=rd w k:=by
 have hp:=Qaf.mpr hw
 have fr:∀i:Nat,Fw w i=some (rd w i):=λi=>by
  unfold Fw
  rw[<-fZ hw (i:Int)]
  congr 1
 constructor
 ·intro h k
  have:=h (kH (w:) k)
  rw[fr,fr]at this
  have:=Qal this
  rw[cg hw]at this
  rw[<-this, <-jl w (k+d), <-jl w (((kH (w:) k+d:Nat)):Int),Qcf,fh hp,Qgn]
 ·intro h i
  rw[fr,fr,Qcf,h]
theorem gP{w:c0}(hw:w≠[])(h:bT w s):0<s/\∀i j:Int,bZ w w i j↔(i - j)%(s:Int)=0:=by
 rcases h with ⟨z,_⟩ | h'
 ·exact absurd z hw
 have h:bT w s:= .inr h'
 obtain ⟨h1,h2,h3,_⟩:=h'
 have ps:∀k:Int,rd w (k+s)=rd w k:=(JK hw).mp ((hZ hw h2).mp (yC h1 h2 h3))
 have pm:∀(k t:Int),rd w (k+t*s)=rd w k:=λk t=>by
  rcases Int.le_total 0 t with q | q
  ·obtain ⟨n,rfl⟩:∃n:Nat,t=n:=⟨t.toNat,()⟩
   exact jm ps k n
  ·obtain ⟨n,rfl⟩:∃n:Nat,t= -(n:Int):=⟨(-t).toNat,()⟩
   have:=jm ps (k+ -(n:Int)*s) n
   rw[<-this]
   congr 1
   rw[Qfb];lia
 refine ⟨h1,λi j=>⟨λp=>?_,λp k=>?_⟩⟩
 ·have pd:∀k:Int,rd w (k+(i - j))=rd w k:=λk=>by
   have:=p (k - j)
   unfold sq at this
   rw[show i+(k - j)=k+(i - j) by lia,show j+(k - j)=k by lia]at this
   exact this
  have e:=Qf2 (i - j) s
  have hn:=Qc8 (i - j) (b:=(s:Int)) ()
  have cH:=Qcz (i - j) (b:=(s:Int)) ()
  refine Classical.byContradiction λz=>?_
  obtain ⟨d,hd⟩:∃d:Nat,(i - j)%(s:Int)=d:=⟨((i - j)%(s:Int)).toNat,()⟩
  refine bT.least h (j:=d) () () ((JK hw).mpr λk=>?_)
  have q:=pd k
  rw[<-e,hd,Qgm, <-Qfi,pm]at q
  exact q
 ·unfold sq
  have e:=Qf2 (i - j) s
  rw[p,Qdv,Qgm]at e
  rw[show i+k=j+k+(i - j) by lia, <-e,pm]
variable{M:Nat}
theorem JL{r:Nat->Nat}(hy:Yd y)(hw:∀c,c<(ws:)->SW y 92)(hr:∀c,c<(ws:)->bT 92 (r c))(hM:∀c d,c<(ws:)->d<(ws:)->(92:)+(131:)<=M):eB y ws (λc=>leads 92) r M:=
 ⟨hy,hw,hM,λc d i j hc hd h=>xr (hw c hc).ne (hw d hd).ne h,λc d i j hc hd h=>Gv hy (hw c hc) (hw d hd) h,λc hc=>(gP (hw c hc).ne (hr c hc)).1,λc hc=>(gP (hw c hc).ne (hr c hc)).2⟩
noncomputable def bs(y w v:c0)(i j:Int):Int:=one 130+one (iZ y (sq w i) (sq v j))+one (iZ y (sq w i) (bq v j))
noncomputable def SS(y w v:c0):Int:=bX (w:) (v:) (bs y w v)
theorem O9{w:c0}(hy:Yd y)(hw:SW y w)(hv:SW y v):bX (w:) (v:) (fc y w v)=SS y w v:=br λi j _ _=>by
 unfold fc bs
 rw[bD (En (n:=(w:)+(v:)) hy (bE hw i) (bE hv j) λz=>lT hw.ne hv.ne (λk=>dE w i k) (λk=>dE v j k) z),bD (En (n:=(w:)+(v:)) hy (bE hw i) (iD hy hv j) λz=>lT hw.ne hv.ne (λk=>dE w i k) (λk=>t9 v j k) z)]
theorem O_(w:c0)(i:Int):rd w (i+(w:) - 1)=rd w (i - 1):=by rw[show i+((w:):Int) - 1=i - 1+(w:) by lia,gM]
theorem W4(y w v:c0)(i j:Int):bs y w v (i+(w:)) j=bs y w v i j:=by unfold bs;rw[nj,gM,O_]
def Tp(y:c0)(f g:Int->Nat):Prop:=∃b,Run f g 0 b/\iY y f g 0≠jf y f g b
theorem JM(bF:∀k,dZ (F k)=F (k - 1))(bG:∀k,dZ (G k)=G (k - 1))(pF:∀k,F (k+n)=F k)(pG:∀k,G (k+m)=G k):bX n m (λs t=>one (iZ y (F s) (G t)))=bX n m λs t=>one (Tp y (F s) (G t)):=by
 have key:∀s t:Int,one (iZ y (F s) (G t))+one (∃a b,Run (F (s - 1)) (G (t - 1)) (a+1) b/\iY y (F (s - 1)) (G (t - 1)) (a+1)≠jf y (F (s - 1)) (G (t - 1)) b)=one (Tp y (F s) (G t))+one (∃a b,Run (F s) (G t) (a+1) b/\iY y (F s) (G t) (a+1)≠jf y (F s) (G t) b):=λs t=>by
  rw[<-bF, <-bG]
  generalize F s=f
  generalize G t=g
  by_cases X:∃a b,Run f g a b/\iY y f g a≠jf y f g b
  ·obtain ⟨a,b,r,x⟩:=X
   have u:∀{a' b'},Run f g a' b'->a'=a/\b'=b:=λr'=>r'.one r
   have e1:one (iZ y f g)+one (∃a b,Run (dZ f) (dZ g) (a+1) b/\iY y (dZ f) (dZ g) (a+1)≠jf y (dZ f) (dZ g) b)=1:=by
    cases b with
    | zero=>
     rw[eU ⟨a,r,x⟩,aZ (λ⟨a',b',r',_⟩=>absurd (u r'.fd).2 (Qem _))]
     rfl
    | succ b=>
     rw[aZ (λ⟨a',r',_⟩=>absurd (u r').2.symm (Qem _)),eU ⟨a,b,r.bk,by rw[n_,oa];exact x⟩]
     rfl
   have e2:one (Tp y f g)+one (∃a b,Run f g (a+1) b/\iY y f g (a+1)≠jf y f g b)=1:=by
    cases a with
    | zero=>
     rw[eU ⟨b,r,x⟩,aZ (λ⟨a',b',r',_⟩=>absurd (u r').1 (Qem _))]
     rfl
    | succ a=>
     rw[aZ (λ⟨b',r',_⟩=>absurd (u r').1.symm (Qem _)),eU ⟨a,b,r,x⟩]
     rfl
   rw[e1,e2]
  ·rw[aZ (λ⟨a,r,x⟩=>X ⟨a,0,r,x⟩),aZ (λ⟨a,b,r,x⟩=>X ⟨a,b+1,r.fd,by rw[n_,oa]at x;exact x⟩),aZ (λ⟨b,r,x⟩=>X ⟨0,b,r,x⟩),aZ (λ⟨a,b,r,x⟩=>X ⟨a+1,b,r,x⟩)]
 have sh:=xo (n:=n) (m:=m) (h:=λs t=>one (∃a b,Run (F s) (G t) (a+1) b/\iY y (F s) (G t) (a+1)≠jf y (F s) (G t) b)) (λi j=>by rw[pF]) (λi j=>by rw[pG])
 refine (Int.add_left_inj (bX n m (λs t=>one (∃a b,Run (F s) (G t) (a+1) b/\iY y (F s) (G t) (a+1)≠jf y (F s) (G t) b)))).mp ?_
 rw[<-cu n m (λs t=>one (Tp y (F s) (G t))), <-sh, <-cu]
 exact br λi j _ _=>key i j
theorem Pa(hy:Yd y)(hf:jG y f)(hg:jG y g):Tp y f g↔iZ y (mm g) (mm f):=by
 have a1:∀b:Nat,iY y (mm g) (mm f) b=jf y f g b:=λb=>by
  unfold iY jf
  rw[kA hy hf,kA hy hg]
  exact decide_eq_decide.mpr ⟨λq=>by lia,λq=>by lia⟩
 have a2:jf y (mm g) (mm f) 0=iY y f g 0:=by
  unfold iY jf
  have e1:=kA hy hf (-1)
  have e2:=kA hy hg (-1)
  rw[show (-1:Int)+1= -((0:Nat):Int) from rfl]at e1 e2
  rw[e1,e2]
  exact decide_eq_decide.mpr ⟨λq=>by have:((y:):Int) - fu y g 1<(y:) - fu y f 1:=q;show fu y f 1<fu y g 1;lia,λq=>by have:fu y f 1<fu y g 1:=q;show ((y:):Int) - fu y g 1<(y:) - fu y f 1;lia⟩
 constructor
 ·rintro ⟨b,r,x⟩
  exact ⟨b,(r.rv hy hf hg).sy,by rw[a1,a2];exact Ne.symm x⟩
 ·rintro ⟨b,r,x⟩
  have r2:=r.rv hy (hg.rv hy) (hf.rv hy)
  rw[qL hy hf,qL hy hg]at r2
  rw[a1,a2]at x
  exact ⟨b,r2.sy,Ne.symm x⟩
theorem yT(hy:Yd y)(hf:jG y f)(hg:jG y g):iZ y f g↔iZ y g f:=⟨O8 hy hf hg,O8 hy hg hf⟩
theorem JN(w:c0)(k:Int):dZ (sq w k)=sq w (k - 1):=by
 funext x
 unfold dZ sq
 congr 1
 lia
theorem W5{w:c0}(hy:Yd y)(h:SW y w)(i:Int):mm (bq w i)=sq w i:=by rw[<-ff,qL hy (bE h i)]
theorem Np{w:c0}(hy:Yd y)(hw:SW y w)(hv:SW y v):bX (w:) (v:) (λi j=>one (iZ y (bq w i) (bq v j)))=bX (w:) (v:) λi j=>one (iZ y (sq w i) (sq v j)):=by
 rw[JM (F:=sq w) (G:=sq v) (JN w) (JN v) (nj w) (nj v)]
 exact br λi j _ _=>bD (by rw[Pa hy (bE hw i) (bE hv j),ff,ff];exact yT hy (iD hy hw i) (iD hy hv j))
theorem JO{w:c0}(hy:Yd y)(hw:SW y w)(hv:SW y v):bX (w:) (v:) (λi j=>one (iZ y (bq w i) (sq v j)))=bX (w:) (v:) λi j=>one (iZ y (sq w i) (bq v j)):=by
 have fb:∀k,dZ (bq v (-k))=bq v (-(k - 1)):=λk=>by
  funext x
  unfold dZ bq
  congr 2
  lia
 have fp:∀k:Int,bq v (-(k+(v:)))=bq v (-k):=λk=>by rw[show -(k+((v:):Int))= -k - (v:) by lia,RM]
 have e:=JM (y:=y) (n:=(w:)) (m:=(v:)) (F:=sq w) (G:=λk=>bq v (-k)) (JN w) fb (nj w) fp
 have n1:∀H:Int->Int->Int,(∀i j,H i (j+(v:))=H i j)->bX (w:) (v:) (λi j=>H i (-j))=bX (w:) (v:) H:=λH P=>aH λi _=>ua (h:=H i) λk=>P i k
 rw[n1 (λi j=>one (iZ y (sq w i) (bq v j))) (λi j=>by rw[kE]),n1 (λi j=>one (Tp y (sq w i) (bq v j))) (λi j=>by rw[kE])]at e
 rw[e]
 exact br λi j _ _=>bD (by rw[Pa hy (bE hw i) (iD hy hv j),ff,W5 hy hv];exact yT hy (iD hy hw i) (bE hv j))
theorem Nq{w:c0}(hy:Yd y)(h:SW y w)(i:Int):az (rd w (i - 1))∈y/\rd w i∈y/\az (rd w (i - 1))≠rd w i:=⟨hy.cl _ (h.rd _),h.rd _,Ne.symm (h.red i)⟩
theorem JP{w:c0}(hy:Yd y)(hw:SW y w)(hv:SW y v):SS y w v=SS y v w:=by
 have sw:∀H:Int->Int->Int,bX (v:) (w:) (λj i=>H i j)=bX (w:) (v:) H:=λH=>Ey _ _ _
 have e:∀u z:c0,SS y u z=bX (u:) (z:) (λi j=>one (ac y (az (rd u (i - 1))) (rd u i) (az (rd z (j - 1))) (rd z j)=true))+bX (u:) (z:) (λi j=>one (iZ y (sq u i) (sq z j)))+bX (u:) (z:) (λi j=>one (iZ y (sq u i) (bq z j))):=λu z=>by
  unfold SS bs
  rw[cu,cu]
 rw[e w v,e v w, <-JO hy hw hv, <-sw, <-sw, <-sw]
 congr 1
 ·congr 1
  ·exact br λj i _ _=>by
    obtain ⟨a1,a2,a3⟩:=Nq hy hw i
    obtain ⟨b1,b2,b3⟩:=Nq hy hv j
    rw[CQ hy a1 a2 b1 b2 a3 b3]
  ·exact br λj i _ _=>bD (yT hy (bE hw i) (bE hv j))
 ·exact br λj i _ _=>bD (yT hy (iD hy hw i) (bE hv j))
theorem Pc{h:Int->Int}{n:Nat}(P:∀k,h (k+n)=h k):∀k:Nat,sm n (λi=>h (i+k))=sm n h
 | 0=>aH λi _=>by rw[show (i:Int)+((0:Nat):Int)=i by lia]
 | k+1=>by
  rw[<-Pc P k, <-rT (h:=λi=>h (i+k)) (n:=n) (λj=>by rw[show j+(n:Int)+k=j+k+n by lia,P])]
  exact aH λi _=>by rw[show (i:Int)+((k+1:Nat):Int)=i+1+k by lia]
theorem JQ{w:c0}(hw:w≠[]){k:Nat}(hk:k<=(w:)):SS y (dj w k) v=SS y w v:=by
 have r:∀i,rd (dj w k) i=rd w (i+k):=yF hw hk
 have ls:(dj w k:)=(w:):=by unfold dj;rw[X4,Qaz,Qai];lia
 have q:∀i,sq (dj w k) i=sq w (i+k):=λi=>by
  funext x
  unfold sq
  rw[r,show i+x+(k:Int)=i+k+x by lia]
 unfold SS
 rw[ls]
 show sm _ (λi=>sm _ λj=>bs y (dj w k) v i j)=sm _ λi=>sm _ λj=>bs y w v i j
 rw[<-Pc (h:=λi=>sm (v:) λj=>bs y w v i j) (n:=(w:)) (λi=>aH λj _=>W4 y w v i j) k]
 exact aH λi _=>aH λj _=>by
  unfold bs
  rw[q,r,r,show (i:Int) - 1+k=i+k - 1 by lia]
theorem Nr(y:c0)(a b p q:Nat):ac y a b q p=ac y a b p q:=by
 unfold ac
 have e:(q=a\/q=b\/p=a\/p=b)↔(p=a\/p=b\/q=a\/q=b):=⟨λh=>by rcases h with h | h | h | h<;>simp[h],λh=>by rcases h with h | h | h | h<;>simp[h]⟩
 by_cases z:p=a\/p=b\/q=a\/q=b
 ·rw[if_pos z,if_pos (e.mpr z)]
 ·rw[if_neg z,if_neg λg=>z (e.mp g)]
  cases gr y a p b<;>cases gr y a q b<;>rfl
theorem JR{w:c0}(hy:Yd y)(hw:SW y w)(hv:SW y v):SS y (di w) v=SS y w v:=by
 have e:∀u z:c0,SS y u z=bX (u:) (z:) (λi j=>one (ac y (az (rd u (i - 1))) (rd u i) (az (rd z (j - 1))) (rd z j)=true))+bX (u:) (z:) (λi j=>one (iZ y (sq u i) (sq z j)))+bX (u:) (z:) (λi j=>one (iZ y (sq u i) (bq z j))):=λu z=>by
  unfold SS bs
  rw[cu,cu]
 have n1:∀H:Int->Int->Int,(∀i j,H (i+(w:)) j=H i j)->bX (w:) (v:) (λi j=>H (-1 - i) j)=bX (w:) (v:) H:=λH P=>by
  show sm _ (λi=>sm _ λj=>H (-1 - i) j)=sm _ λi=>sm _ λj=>H i j
  rw[<-ua (h:=λi=>sm (v:) λj=>H i j) (n:=(w:)) (λi=>aH λj _=>P i j), <-rT (h:=λi=>sm (v:) λj=>H (-i) j) (n:=(w:)) (λi=>aH λj _=>by rw[<-P (-(i+(w:))),show -(i+((w:):Int))+(w:)= -i by lia])]
  exact aH λi _=>aH λj _=>by rw[show -1 - (i:Int)= -((i:Int)+1) by lia]
 rw[e (di w) v,e w v,bH, <-Np hy hw hv, <-JO hy hw hv, <-n1 (λi j=>one (iZ y (bq w i) (bq v j))) (λi j=>by rw[kE]), <-n1 (λi j=>one (iZ y (bq w i) (sq v j))) (λi j=>by rw[kE])]
 rw[show bX (w:) (v:) (λi j=>one (iZ y (sq (di w) i) (sq v j)))=bX (w:) (v:) (λi j=>one (iZ y (bq w (-1 - i)) (sq v j))) from br λi j _ _=>by rw[h7 hw.ne],show bX (w:) (v:) (λi j=>one (iZ y (sq (di w) i) (bq v j)))=bX (w:) (v:) (λi j=>one (iZ y (bq w (-1 - i)) (bq v j))) from br λi j _ _=>by rw[h7 hw.ne]]
 have ea:bX (w:) (v:) (λi j=>one (ac y (az (rd (di w) (i - 1))) (rd (di w) i) (az (rd v (j - 1))) (rd v j)=true))=bX (w:) (v:) (λi j=>one 130):=by
  show sm _ (λi=>sm _ λj=>one (ac y (az (rd (di w) (i - 1))) (rd (di w) i) (az (rd v (j - 1))) (rd v j)=true))=sm _ λi=>sm _ λj=>one 130
  rw[<-ua (h:=λi=>sm (v:) λj=>one 130) (n:=(w:)) (λi=>aH λj _=>by rw[O_,gM])]
  refine aH λi _=>aH λj _=>?_
  rw[jn hw.ne,jn hw.ne,aF (hy.lt _ (hw.rd _)),show -1 - ((i:Int) - 1)= -(i:Int) by lia,show -1 - (i:Int)= -(i:Int) - 1 by lia]
  obtain ⟨a1,a2,a3⟩:=Nq hy hw (-(i:Int))
  obtain ⟨b1,b2,b3⟩:=Nq hy hv j
  rw[CQ hy a2 a1 b1 b2 (Ne.symm a3) b3,Nr, <-CQ hy a1 a2 b1 b2 a3 b3]
 rw[ea,Qfi,Qfi]
 congr 1
 exact Int.add_comm _ _
theorem Gw{w:c0}{t:Nat}(hw:w≠[])(hv:v≠[])(h:bT w s)(g:bT v t)(e:∀d:Int,bZ w w d 0↔bZ v v d 0):s=t:=by
 obtain ⟨p1,a⟩:=gP hw h
 obtain ⟨p2,b⟩:=gP hv g
 have key:∀d:Nat,d%s=0↔d%t=0:=λd=>by
  have k:=e d
  rw[a,b,Qe1]at k
  have c1:((d%s:Nat):Int)=(d:Int)%(s:Int):=rfl
  have c2:((d%t:Nat):Int)=(d:Int)%(t:Int):=rfl
  rw[<-c1, <-c2]at k
  exact ⟨λq=>Int.ofNat.inj (k.mp (by rw[q];rfl)),λq=>Int.ofNat.inj (k.mpr (by rw[q];rfl))⟩
 exact Qdk (Qf9 p2 (Qee ((key t).mpr (Nat.mod_self t)))) (Qf9 p1 (Qee ((key s).mp (Nat.mod_self s))))
theorem oq(w:c0)(d:Int):bZ w w d 0↔ ∀k,rd w (d+k)=rd w k:=by
 unfold bZ sq
 exact ⟨λh k=>by have:=h k;rwa [Qdv]at this,λh k=>by rw[Qdv];exact h k⟩
theorem Nt{w:c0}(hw:w≠[])(hn:n<=(w:))(d:Int):bZ (dj w n) (dj w n) d 0↔bZ w w d 0:=by
 rw[oq,oq]
 have r:∀i,rd (dj w n) i=rd w (i+n):=yF hw hn
 constructor
 ·intro h k
  have:=h (k - n)
  rw[r,r,show d+(k - (n:Int))+n=d+k by lia,show k - (n:Int)+n=k by lia]at this
  exact this
 ·intro h k
  rw[r,r,show d+k+(n:Int)=d+(k+n) by lia]
  exact h _
theorem Nu{w:c0}(hy:Yd y)(hw:SW y w)(d:Int):bZ (di w) (di w) d 0↔bZ w w d 0:=by
 rw[oq,oq]
 simp only[jn hw.ne]
 constructor
 ·intro h k
  have:=h (-1 - d - k)
  rw[show -1 - (d+(-1 - d - k))=k by lia,show -1 - (-1 - d - k)=d+k by lia]at this
  exact (dM (hy.lt _ (hw.rd _)) (hy.lt _ (hw.rd _)) this).symm
 ·intro h k
  have:=h (-1 - (d+k))
  rw[<-this,show d+(-1 - (d+k))= -1 - k by lia]
noncomputable def aQ(y:c0):c0:=(y.filter aB).mergeSort λa b=>decide (a<=b)
theorem gG(y:c0):(aQ y).Perm (y.filter aB):=List.mergeSort_perm _ _
theorem AX(y:c0):(aQ y).Pairwise (· <= ·):=
 (List.pairwise_mergeSort (le:=λa b=>decide (a<=b)) (λa b c h1 h2=>decide_eq_true (Qbn (of_decide_eq_true h1) (of_decide_eq_true h2))) (λa b=>by
  rcases Nat.le_total a b with z | z
  ·rw[decide_eq_true z];rfl
  ·rw[decide_eq_true z,Bool.or_true]) (y.filter aB)).imp λz=>of_decide_eq_true z
theorem ou(h:l.Perm (y.filter aB))(p:l.Pairwise (· <= ·)):l=aQ y:=Gn (h.trans (gG y).symm) p (AX y)
theorem AY(h:Yd y)(he:e∈y):PyProof.Rows.lo1 e∈aQ y:=by
 refine (gG y).mem_iff.mpr (Qbr.mpr ?_)
 rcases h.lt e he with z | z
 ·rw[(bg e z).2.1];exact ⟨he,(bg e z).1⟩
 ·rw[(bM e z).2.1];exact ⟨h.cl e he,(bg _ (bM e z).2.2.2).1⟩
theorem W6:∀c∈aY++ki,isUp c=decide (c∈ki):=⋯
theorem eE(h:Yd y):2*(aQ y:)=(y:):=by rw[(gG y).length_eq];exact Jr h
structure Pr where
 t:Addr
 c:Nat
 i:Nat
noncomputable def xu(ps:List Pr):List V:=ps.map λp=>V.ref p.t
theorem yU(ps:List Pr):(xu ps:)=(ps:):=by unfold xu;rw[Qaa]
theorem JS(a:List Pr)(p:Pr):xu a++[V.ref p.t]=xu (a++[p]):=by unfold xu;rw[Qag];rfl
theorem Nv(a:List Pr):(xu a).reverse=xu a.reverse:=by unfold xu;rw[Qd6]
theorem JT{ps:List Pr}{x:V}(h:(xu ps)[i]? =some x):∃p,ps[i]? =some p/\x=V.ref p.t:=by
 unfold xu at h
 rw[Qat]at h
 cases e:ps[i]? with
 | none=>rw[e]at h;cases h
 | some p=>rw[e]at h;cases h;exact ⟨p,rfl,rfl⟩
structure rh(H:Hp)(p:Pr):Prop where
 tp:H p.t=some (.tup [.int p.c,.int p.i])
 cz:p.c<1000
 iz:p.i<1000
theorem rh.same{p:Pr}(h:rh H p)(s:aq H H'):rh H' p:=⟨s _ _ h.tp,h.cz,h.iz⟩
structure Od where
 o:Addr
 ps:List Pr
structure Gx(H:Hp)(o:Od):Prop where
 tp:H o.o=some (.tup (xu o.ps))
 pr:∀p∈o.ps,rh H p
 fw:(o.ps:)<=100
theorem Gx.same{o:Od}(h:Gx H o)(s:aq H H'):Gx H' o:=⟨s _ _ h.tp,λp hp=>(h.pr p hp).same s,h.fw⟩
noncomputable def Nw(os:List Od):List V:=os.map λo=>V.ref o.o
theorem JU(a:List Od)(p:Od):Nw a++[V.ref p.o]=Nw (a++[p]):=by unfold Nw;rw[Qag];rfl
variable{os:List Od}
theorem RQ{o:Od}(h:os[i]? =some o):(Nw os)[i]? =some (V.ref o.o):=by unfold Nw;rw[Qat,h];rfl
structure CU(H:Hp)(dr:Addr)(ws:List c0)(os:List Od):Prop where
 ex:∃wt ot,H dr=some (.tup [.ref wt,.ref ot])/\H wt=some (.tup (gE ws))/\H ot=some (.tup (Nw os))
 od:∀o∈os,Gx H o
theorem CU.same{dr:Addr}(h:CU H dr ws os)(s:aq H H'):CU H' dr ws os:=by
 obtain ⟨⟨wt,ot,h1,h2,h3⟩,g⟩:=h
 exact ⟨⟨wt,ot,s _ _ h1,s _ _ h2,s _ _ h3⟩,λo ho=>(g o ho).same s⟩
noncomputable def vL(y:c0)(os:List Od)(e:Nat):List Pr:=((os[(aQ y).idxOf (PyProof.Rows.lo1 e)]?).map Od.ps).getD []
noncomputable def mq(y:c0)(os:List Od)(e:Nat):List Pr:=if isUp e=true then (vL y os e).reverse else vL y os e
theorem kI(h:Yd y)(he:e∈y)(ho:2*(os:)=(y:)):∃o∈os,os[(aQ y).idxOf (PyProof.Rows.lo1 e)]? =some o/\vL y os e=o.ps:=by
 have hi:=Qaj (AY h he)
 have hl:=eE h
 have DZ:(aQ y).idxOf (PyProof.Rows.lo1 e)<(os:):=by lia
 exact ⟨os[(aQ y).idxOf (PyProof.Rows.lo1 e)],Qb0 DZ,Qy DZ,by unfold vL;rw[Qy DZ];rfl⟩
structure Pt where
 t:Addr
 c:Nat
 i:Nat
 e:Nat
noncomputable def LO(ps:List Pt):List V:=ps.map λp=>V.ref p.t
theorem EA(ps:List Pt):(LO ps:)=(ps:):=by unfold LO;rw[Qaa]
theorem JV(a:List Pt)(p:Pt):LO a++[V.ref p.t]=LO (a++[p]):=by unfold LO;rw[Qag];rfl
noncomputable def Pt.is(p:Pt):Nat×Nat×Nat:=(p.c,p.i,p.e)
structure vM(H:Hp)(p:Pt):Prop where
 tp:H p.t=some (.tup [.int p.c,.int p.i,.str (S [p.e])])
 cz:p.c<1000
 iz:p.i<1000
 ez:p.e<128
theorem vM.same{p:Pt}(h:vM H p)(s:aq H H'):vM H' p:=⟨s _ _ h.tp,h.cz,h.iz,h.ez⟩
theorem vM.upd{p:Pt}{q:Addr}(h:vM H p)(n:p.t≠q):vM (L2.upd H q o) p:=⟨by rw[aA n];exact h.tp,h.cz,h.iz,h.ez⟩
noncomputable def dF(y:c0)(os:List Od)(e:Nat):List (Nat×Nat×Nat):=(mq y os e).map λp=>(p.c,p.i,e)
noncomputable def bR(y:c0)(os:List Od):List (Nat×Nat×Nat):=y.flatMap (dF y os)
noncomputable def Pr.pair(p:Pr):Nat×Nat:=(p.c,p.i)
noncomputable def BK(band l:Nat):Bool:=decide (l=band)||decide (l=az band)
noncomputable def jH(band c:Nat)(w:c0)(n:Nat):List (Nat×Nat):=((List.range n).filter λi=>BK band (w.getD i 0)).map λi=>(c,i)
noncomputable def dG(band:Nat)(ws:List c0)(n:Nat):List (Nat×Nat):=(List.range n).flatMap λc=>jH band c 92 (92:)
theorem CV{band l:Nat}{w:c0}(h:w[i]? =some l):jH band c w (i+1)=jH band c w i++if BK band l=true then [(c,i)] else []:=by
 have e:w.getD i 0=l:=by rw[Qam,h];rfl
 unfold jH
 rw[Qcq,Qcl,Qag]
 congr 1
 by_cases z:BK band l=true
 ·rw[if_pos z,Qb1 (by rw[e];exact z)];rfl
 ·rw[if_neg z,Qbk (by rw[e];exact z)];rfl
theorem AZ{band:Nat}{w:c0}(h:ws[i]? =some w):dG band ws (i+1)=dG band ws i++jH band i w (w:):=by
 have e:(ws|||i)=w:=by rw[Qam,h];rfl
 unfold dG
 rw[Qcq,Qce]
 congr 1
 rw[Qbp,Qgs,Qbh,e]
structure JW(y:c0)(ws:List c0):Prop where
 pU:(ws:)<=4
 all:∀w∈ws,(∀c∈w,c∈y)/\(w:)<=12
def jo(y:c0)(ws:List c0)(os:List Od):Prop:=(os:)=(aQ y:)/\∀(j:Nat) (o:Od) (b:Nat),os[j]? =some o->(aQ y)[j]? =some b->(o.ps.map Pr.pair).Perm (dG b ws (ws:))
inductive jI(p_:c7)(vs:List V)(H:Hp)(Q:VK)(cy:XK):Prop
 | mk (y:c0) (dr:Addr) (ws:List c0) (os:List Od) (e:Nat) (_:vs=[.str (S y),.ref dr,.str (S [e])]) (_:Yd y) (_:(y:)<=8) (_:e∈y) (_:2*(os:)=(y:)) (_:CU H dr ws os) (_:∀(q:Addr) (H':Hp),H q=none->H' q=some (.lst (xu (mq y os e)))->aq H H'->Q (.ref q) H'):jI p_ vs H Q cy
def mL(p_:c7):Sp:=jI p_
theorem ub(h:mL K vs H Q E):(vs:)=3:=by obtain ⟨c,_,_,_,_,rfl,_⟩:=h;rfl
inductive qN(p_:c7)(vs:List V)(H:Hp)(Q:VK)(cy:XK):Prop
 | mk (y:c0) (dr:Addr) (ws:List c0) (os:List Od) (_:vs=[.str (S y),.ref dr]) (_:Yd y) (_:(y:)<=8) (_:2*(os:)=(y:)) (_:CU H dr ws os) (_:∀(q:Addr) (ps:List Pt) (H':Hp),H q=none->H' q=some (.lst (LO ps))->(∀p∈ps,vM H' p/\p.t≠q)->ps.map Pt.is=bR y os->(ps:)<=800->aq H H'->Q (.ref q) H'):qN p_ vs H Q cy
def xv(p_:c7):Sp:=qN p_
theorem CY(h:xv K vs H Q E):(vs:)=2:=by obtain ⟨c,_,_,_,rfl,_⟩:=h;rfl
theorem Ny{p:Pr}(h:Yd y)(he:e∈y)(ho:2*(os:)=(y:))(hp:p∈mq y os e):∃o∈os,p∈o.ps:=by
 obtain ⟨o,h1,h2,h3⟩:=kI h he ho
 refine ⟨o,h1,?_⟩
 unfold mq at hp
 rw[h3]at hp
 split at hp
 ·exact Qb9.mp hp
 ·exact hp
theorem Nz(h:Yd y)(he:e∈y)(ho:2*(os:)=(y:))(hd:∀o∈os,Gx H o):(mq y os e:)<=100:=by
 obtain ⟨o,h1,h2,h3⟩:=kI h he ho
 have:=(hd o h1).fw
 unfold mq
 rw[h3]
 split
 ·rw[Qa0];exact this
 ·exact this
theorem rh.ts{p:Pr}(h:rh H p)(s:eS H H'):rh H' p:=⟨s _ _ h.tp,h.cz,h.iz⟩
theorem JX{band l:Nat}(hb:band∈aY)(hl:Lt l):decide (PyProof.Rows.lo1 l=band)=BK band l:=by
 unfold BK
 rcases hl with h | h
 ·have e:=(bg l h).2.1
  have n:l≠az band:=λz=>xm _ (bg band hb).2.2 (z▸h)
  rw[e,decide_eq_false n,Bool.or_false]
 ·have e:=(bM l h).2.1
  have n:l≠band:=λz=>xm l h (z▸hb)
  rw[e,decide_eq_false n,Qgc]
  refine decide_eq_decide.mpr ⟨λz=>by rw[<-z,aF (.inr h)],λz=>by rw[z,aF (.inl hb)]⟩
noncomputable def sg(y:c0)(x z:Nat):Int:=if x=z then 0 else if gr y (az x) (az z) x=gr y (az x) z x then 0 else if gr y (az x) (az z) x=true then 1 else -1
theorem NA(y:c0)(x:Nat):sg y x x=0:=by unfold sg;rw[if_pos rfl]
variable{z:Nat}
theorem NC(hy:Yd y)(hx:x∈y)(hz:z∈y)(Ym:x∈aY)(OT:z∈aY):sg y z x= - sg y x z:=by
 by_cases xz:x=z
 ·subst xz;rw[NA];rfl
 have G6:=hy.cl x hx
 have Pd:=hy.cl z hz
 have n1:az x≠x:=eM (hy.lt x hx)
 have n2:az z≠z:=eM (hy.lt z hz)
 have n3:az x≠z:=λq=>lO x Ym (q▸OT)
 have n4:az z≠x:=λq=>lO z OT (q▸Ym)
 have n5:az x≠az z:=λq=>xz (dM (hy.lt x hx) (hy.lt z hz) q)
 unfold sg
 rw[if_neg xz,if_neg (Ne.symm xz),dY hy.nd G6 Pd hx n5 n1 n4,dY hy.nd G6 hz hx n3 n1 (Ne.symm xz),dY hy.nd Pd G6 hz (Ne.symm n5) n2 n3,dY hy.nd Pd hx hz n4 n2 xz]
 have m1:=bj G6 hx n1
 have m2:=bj Pd hz n2
 have m3:=bj G6 hz n3
 have m4:=bj Pd hx n4
 have m5:=bj G6 Pd n5
 have m6:=bj hx hz xz
 generalize y.idxOf (az x)=a at*
 generalize y.idxOf x=b at*
 generalize y.idxOf (az z)=c at*
 generalize y.idxOf z=d at*
 by_cases q1:iN a c b<;>by_cases q2:iN a d b<;>by_cases q3:iN c a d<;>by_cases q4:iN c b d<;>simp only[q1,q2,q3,q4,decide_true,decide_false]<;>first | rfl | (exfalso;unfold iN at q1 q2 q3 q4;lia)
noncomputable def cr(s:Nat->Nat->Int)(f g:Nat->Int)(as bs:c0):Int:=(as.map λx=>f x*(bs.map λz=>g z*s x z).sum).sum
theorem ow:∀l:c0,(l.map λ_=>(0:Int)).sum=0
 | []=>rfl
 | a::l=>by rw[Qas,Qbs,ow l];rfl
theorem sum_add(f g:Nat->Int):∀l:c0,(l.map λx=>f x+g x).sum=(l.map f).sum+(l.map g).sum
 | []=>rfl
 | a::l=>by rw[Qas,Qbs,sum_add f g l,Qas,Qas,Qbs,Qbs];lia
theorem rV(c:Int)(f:Nat->Int):∀l:c0,(l.map λx=>c*f x).sum=c*(l.map f).sum
 | []=>by rw[Qe0,Qe0,List.sum_nil,Int.mul_zero]
 | a::l=>by rw[Qas,Qbs,rV c f l,Qas,Qbs,Qet]
theorem EB(s:Nat->Nat->Int)(f g:Nat->Int)(bs:c0):∀as:c0,cr s f g as bs=cr (λz x=>s x z) g f bs as
 | []=>by
  unfold cr
  have e:(bs.map λz=>g z*(([]:c0).map λx=>f x*s x z).sum)=bs.map λ_=>(0:Int):=Qbl λz _=>by rw[Qe0,List.sum_nil,Int.mul_zero]
  rw[e,ow]
  rfl
 | a::as=>by
  have ih:=EB s f g bs as
  unfold cr at ih ⊢
  rw[Qas,Qbs,ih]
  have e:(bs.map λz=>g z*((a::as).map λx=>f x*s x z).sum)=bs.map λz=>f a*(g z*s a z)+g z*(as.map λx=>f x*s x z).sum:=Qbl λz _=>by
   rw[Qas,Qbs,Qet,Int.mul_left_comm]
  rw[e,sum_add,rV]
theorem RS{s t:Nat->Nat->Int}{f g:Nat->Int}{as bs:c0}(h:∀x∈as,∀z∈bs,t x z= - s x z):cr t f g as bs= - cr s f g as bs:=by
 have e:cr t f g as bs=(as.map λx=>(-1)*(f x*(bs.map λz=>g z*s x z).sum)).sum:=by
  unfold cr
  congr 1
  refine Qbl λx hx=>?_
  have e2:(bs.map λz=>g z*t x z)=bs.map λz=>(-1)*(g z*s x z):=Qbl λz hz=>by rw[h x hx z hz,Qgx,Qfb,Qfa]
  rw[e2,rV,Int.mul_left_comm]
 rw[e,rV]
 unfold cr
 rw[Qfb,Qfa]
theorem A0{bs:c0}(hy:Yd y)(hb:∀x∈bs,x∈y/\x∈aY)(f g:Nat->Int):cr (sg y) g f bs bs= - cr (sg y) f g bs bs:=by
 rw[EB]
 exact RS λx hx z hz=>NC hy (hb x hx).1 (hb z hz).1 (hb x hx).2 (hb z hz).2
theorem gix{α:Type}{l:List α}(h:l.Nodup)(hi:i<(l:))(hj:j<(l:))(e:l[i]=l[j]):i=j:=by
 have hp:=Qck.mp h
 rcases Nat.lt_trichotomy i j with z | z | z
 ·exact absurd e (hp i j hi hj z)
 ·exact z
 ·exact absurd e.symm (hp j i hj hi z)
theorem p6{l:List (Nat×Nat×Nat)}(h:l.Nodup){p:Nat×Nat×Nat}(e:l[n]? =some p):l.idxOf p=n:=by
 obtain ⟨hn,e2⟩:=Qz.mp e
 have hm:p∈l:=Qae e
 have hi:=Qaj hm
 exact gix h hi hn ((Qb3 hi).trans e2.symm)
theorem uc{α:Type}{f:Nat->List α}(g:α->Nat):∀{l:c0},l.Nodup->(∀e∈l,(f e).Nodup)->(∀e∈l,∀p∈f e,g p=e)->(l.flatMap f).Nodup
 | [],_,_,_=>Qf4
 | a::l,hn,h1,h2=>by
  obtain ⟨n1,n2⟩:=Qbv.mp hn
  rw[Qbp,Qdd]
  refine ⟨h1 a Qak,uc g n2 (λe he=>h1 e (Qah _ he)) (λe he=>h2 e (Qah _ he)),λx hx y hy z=>?_⟩
  subst z
  obtain ⟨e,he,hxe⟩:=Qbo.mp hy
  have g1:=h2 a Qak x hx
  have g2:=h2 e (Qah _ he) x hxe
  exact n1 (by rw[<-g1,g2];exact he)
theorem JY(band c:Nat)(w:c0)(n:Nat):(jH band c w n).Nodup:=by
 unfold jH
 show (List.map _ _).Pairwise (· ≠ ·)
 rw[Qco]
 exact (Qgr.filter _).imp λ{i j} h z=>h (by cases z;rfl)
theorem p7(band:Nat)(ws:List c0)(n:Nat):(dG band ws n).Nodup:=
 uc Prod.fst Qgr (λc _=>JY _ _ _ _) λc _ p hp=>by
  unfold jH at hp
  obtain ⟨i,_,rfl⟩:=Qa4.mp hp
  rfl
theorem CZ{band:Nat}(hc:c<n)(hi:i<(92:))(hb:BK band ((ws|||c).getD i 0)=true):(c,i)∈dG band ws n:=
 Qbo.mpr ⟨c,Qcp.mpr hc,Qa4.mpr ⟨i,Qbr.mpr ⟨Qcp.mpr hi,hb⟩,rfl⟩⟩
theorem jo.at(h:Yd y)(ho:jo y ws os)(he:e∈y):(((mq y os e).map Pr.pair)).Perm (dG (PyProof.Rows.lo1 e) ws (ws:)):=by
 have hl:=eE h
 have MN:=ho.1
 obtain ⟨o,o1,o2,o3⟩:=kI (os:=os) h he ()
 have hm:=AY h he
 have hb:(aQ y)[(aQ y).idxOf (PyProof.Rows.lo1 e)]? =some (PyProof.Rows.lo1 e):=by
  have hi:=Qaj hm
  rw[Qy hi,Qb3 hi]
 have p:=ho.2 _ o _ o2 hb
 unfold mq
 rw[o3]
 split
 ·rw[Qd6]
  exact (Qe8 _).trans p
 ·exact p
theorem yV(h:Yd y)(ho:jo y ws os):(bR y os).Nodup:=by
 refine uc (λp=>p.2.2) h.nd (λe he=>?_) λe _ p hp=>?_
 ·have hn:=(ho.at h he).nodup_iff.mpr (p7 _ _ _)
  have e1:dF y os e=((mq y os e).map Pr.pair).map λx=>(x.1,x.2,e):=by unfold dF;rw[Qbj];rfl
  rw[e1]
  show (List.map _ _).Pairwise (· ≠ ·)
  rw[Qco]
  exact hn.imp λ{a b} g z=>g (by cases a;cases b;cases z;rfl)
 ·unfold dF at hp
  obtain ⟨x,_,rfl⟩:=Qa4.mp hp
  rfl
theorem xw{l:Nat}{w:c0}(h:Yd y)(ho:jo y ws os)(hw:ws[c]? =some w)(hl:w[i]? =some l)(hly:l∈y)(he:e=l\/e=az l):(c,i,e)∈bR y os:=by
 have cH:=h.lt l hly
 have RT:e∈y:=by rcases he with rfl | rfl;exact hly;exact h.cl l hly
 have e1:PyProof.Rows.lo1 e=PyProof.Rows.lo1 l:=by
  rcases he with rfl | rfl
  ·rfl
  ·rcases cH with g | g
   ·rw[(bM _ (bg l g).2.2).2.1,(bg l g).2.1,aF (.inl g)]
   ·rw[(bg _ (bM l g).2.2.2).2.1,(bM l g).2.1]
 have hb:PyProof.Rows.lo1 l∈aY:=by
  rcases cH with g | g
  ·rw[(bg l g).2.1];exact g
  ·rw[(bM l g).2.1];exact (bM l g).2.2.2
 have ND:BK (PyProof.Rows.lo1 l) l=true:=by rw[<-JX hb cH];exact decide_eq_true rfl
 have d1:92=w:=by rw[Qam,hw];rfl
 have d2:w.getD i 0=l:=by rw[Qam,hl];rfl
 have hm:(c,i)∈(mq y os e).map Pr.pair:=by
  rw[(ho.at h RT).mem_iff,e1]
  exact CZ (Qz.mp hw).1 (by rw[d1];exact (Qz.mp hl).1) (by rw[d1,d2];exact ND)
 obtain ⟨p,hp,ep⟩:=Qa4.mp hm
 refine Qbo.mpr ⟨e,RT,Qa4.mpr ⟨p,hp,?_⟩⟩
 have e2:p.c=c:=congrArg Prod.fst ep
 have e3:p.i=i:=congrArg Prod.snd ep
 rw[e2,e3]
noncomputable def yW(p:Nat×Nat×Nat):List Key:=[Sum.inl (p.1:Int),Sum.inl (p.2.1:Int),Sum.inr (S [p.2.2])]
theorem JZ{p q:Nat×Nat×Nat}(h:yW p=yW q):p=q:=by
 unfold yW at h
 injection h with h1 h2
 injection h2 with h2 h3
 injection h3 with h3 _
 have a1:(p.1:Int)=q.1:=Sum.inl.inj h1
 have a2:(p.2.1:Int)=q.2.1:=Sum.inl.inj h2
 have a3:[p.2.2]=[q.2.2]:=by
  have:=Sum.inr.inj h3
  rw[<-dX [p.2.2],this,dX]
 have a4:p.2.2=q.2.2:=by simpa using a3
 exact Prod.ext () (Prod.ext () a4)
def Nums(ps:List (Nat×Nat×Nat))(aN:List (List Key×V))(n:Nat):Prop:=∀p∈ps.take n,eh aN (yW p)=some (.int (ps.idxOf p:Nat))
variable{ps:List (Nat×Nat×Nat)}
theorem Nums.put{aN:List (List Key×V)}{p:Nat×Nat×Nat}(h:Nums ps aN n)(hn:ps.Nodup)(e:ps[n]? =some p):Nums ps (putK aN (yW p) (.int (n:Nat))) (n+1):=λr hr=>by
 rw[Iv]
 by_cases z:r=p
 ·rw[if_pos (by rw[z]),z,p6 hn e]
 ·rw[if_neg λg=>z (JZ g)]
  rw[<-take_snoc e]at hr
  exact h r ((Qan.mp hr).resolve_right λg=>z (Qab.mp g))
noncomputable def rW(n i:Nat):Nat:=if i=0 then n - 1 else i - 1
theorem yX(h:i<n):rW n i<n:=by unfold rW;split<;>lia
theorem EC(h:i<n):((i:Int) - 1)%(n:Int)=((rW n i:Nat):Int):=by
 unfold rW
 split
 ·rename_i z
  subst z
  have:((0:Nat):Int) - 1+(n:Int)=((n - 1:Nat):Int):=by lia
  rw[<-Qdj,this]
  exact Qbf () ()
 ·have:(i:Int) - 1=((i - 1:Nat):Int):=by lia
  rw[this]
  exact Qbf () ()
noncomputable abbrev C4:=Nat×Nat×Nat×Nat
noncomputable def cT(ps:List (Nat×Nat×Nat))(c:Nat)(w:c0)(i:Nat):C4:=(c,i,ps.idxOf (c,rW (w:) i,az (w.getD (rW (w:) i) 0)),ps.idxOf (c,i,w.getD i 0))
noncomputable def bB(ps:List (Nat×Nat×Nat))(c:Nat)(w:c0)(n:Nat):List C4:=(List.range n).map (cT ps c w)
noncomputable def fj(ps:List (Nat×Nat×Nat))(ws:List c0)(n:Nat):List C4:=(List.range n).flatMap λc=>bB ps c 92 (92:)
theorem A1(ps:List (Nat×Nat×Nat))(c:Nat)(w:c0)(n:Nat):bB ps c w (n+1)=bB ps c w n++[cT ps c w n]:=by unfold bB;rw[Qcq,Qag];rfl
theorem gq{w:c0}(h:ws[i]? =some w):fj ps ws (i+1)=fj ps ws i++bB ps i w (w:):=by
 have e:(ws|||i)=w:=by rw[Qam,h];rfl
 unfold fj
 rw[Qcq,Qce]
 congr 1
 rw[Qbp,Qgs,Qbh,e]
noncomputable def ED(lo hi x:Int):Bool:=decide (lo<x)&&decide (x<hi)
noncomputable def J0(p q r s:Int):Bool:=!decide (ED (if q<p then q else p) (if q>p then q else p) r=ED (if q<p then q else p) (if q>p then q else p) s)
noncomputable def meets(x y:C4):Bool:=J0 x.2.2.1 x.2.2.2 y.2.2.1 y.2.2.2
structure Q4 where
 t:Addr
 v:C4
noncomputable def mM(qs:List Q4):List V:=qs.map λq=>V.ref q.t
theorem h_(qs:List Q4):(mM qs:)=(qs:):=by unfold mM;rw[Qaa]
theorem A2(a:List Q4)(q:Q4):mM a++[V.ref q.t]=mM (a++[q]):=by unfold mM;rw[Qag];rfl
theorem yY{qs:List Q4}{x:V}(h:(mM qs)[i]? =some x):∃q,qs[i]? =some q/\x=V.ref q.t:=by
 unfold mM at h
 rw[Qat]at h
 cases e:qs[i]? with
 | none=>rw[e]at h;cases h
 | some p=>rw[e]at h;cases h;exact ⟨p,rfl,rfl⟩
def jq(H:Hp)(q:Q4):Prop:=H q.t=some (.tup [.int q.v.1,.int q.v.2.1,.int q.v.2.2.1,.int q.v.2.2.2])
theorem jq.ts{q:Q4}(h:jq H q)(s:eS H H'):jq H' q:=s _ _ h
noncomputable def dH(y:c0)(ws:List c0)(os:List Od):List C4:=fj 127 ws (ws:)
theorem W7{p:Pt}{ps:List Pt}(h:ps.map Pt.is=bR y os)(hi:ps[i]? =some p):127[i]? =some p.is:=by rw[<-h,Qat,hi];rfl
inductive gQ(p_:c7)(vs:List V)(H:Hp)(Q:VK)(cy:XK):Prop
 | mk (w:c0) (c i:Nat) (_:vs=[.str (S w),.int c,.int i]) (_:(∀l∈w,l<128)) (_:i<(w:)) (_:(w:)<=1000) (_:∀(t t1 t2:Addr) (H':Hp),H' t=some (.tup [.ref t1,.ref t2])->H' t1=some (.tup ((yW (c,rW (w:) i,az (w.getD (rW (w:) i) 0))).map kV))->H' t2=some (.tup ((yW (c,i,w.getD i 0)).map kV))->aq H H'->Q (.ref t) H'):gQ p_ vs H Q cy
def i6(p_:c7):Sp:=gQ p_
theorem oA(h:i6 K vs H Q E):(vs:)=3:=by obtain ⟨c,_,_,rfl,_⟩:=h;rfl
inductive oB(p_:c7)(vs:List V)(H:Hp)(Q:VK)(cy:XK):Prop
 | mk (y:c0) (dr:Addr) (ws:List c0) (os:List Od) (_:vs=[.str (S y),.ref dr]) (_:Yd y) (_:(y:)<=8) (_:JW y ws) (_:jo y ws os) (_:CU H dr ws os) (_:∀(q:Addr) (qs:List Q4) (H':Hp),H q=none->H' q=some (.lst (mM qs))->(∀x∈qs,jq H' x)->qs.map Q4.v=dH y ws os->aq H H'->Q (.ref q) H'):oB p_ vs H Q cy
def ud(p_:c7):Sp:=oB p_
theorem A3(h:ud K vs H Q E):(vs:)=2:=by obtain ⟨c,_,_,_,rfl,_⟩:=h;rfl
inductive ie(p_:c7)(vs:List V)(H:Hp)(Q:VK)(cy:XK):Prop
 | mk (a b:Q4) (_:vs=[.ref a.t,.ref b.t]) (_:jq H a) (_:jq H b) (_:Q (.bl (meets a.v b.v)) H):ie p_ vs H Q cy
def jJ(p_:c7):Sp:=ie p_
theorem p8(h:jJ K vs H Q E):(vs:)=2:=by obtain ⟨c,_,rfl,_⟩:=h;rfl
theorem EE{p:Pr}(he:y[i]? =some e)(hp:(mq y os e)[m]? =some p):127[((y.take i).flatMap (dF y os):)+m]? =some (p.c,p.i,e):=by
 obtain ⟨hi,e1⟩:=Qz.mp he
 have hy:y=y.take i++e::y.drop (i+1):=by
  rw[<-e1, <-Qb8 hi,Qaw]
 have h1:bR y os=(y.take i).flatMap (dF y os)++(dF y os e++(y.drop (i+1)).flatMap (dF y os)):=by
  unfold bR
  conv=>lhs;arg 2;rw[hy]
  rw[Qce,Qbp]
 have h2:(dF y os e)[m]? =some (p.c,p.i,e):=by unfold dF;rw[Qat,hp];rfl
 rw[h1,Qa2 (Nat.le_add_right _ _),Qbq,Qbg (Qz.mp h2).1]
 exact h2
structure C0(y:c0)(ws:List c0)(L:Nat->Bool)(r:Nat->Nat)(M:Nat)(os:List Od):Prop where
 ok:jo y ws os
 asc:∀o∈os,(o.ps.map Pr.pair).Pairwise λs t=>bA (fg y ws L r M s.1 s.2) (fg y ws L r M t.1 t.2)=true
theorem kJ:∀c∈aY++ki,PyProof.Rows.lo1 (az c)=PyProof.Rows.lo1 c/\isUp c=!aB c:=⋯
theorem p9{α:Type}(F:Nat->List α){k k':Nat}(he:y[k]? =some e)(h:k<k'):((y.take k).flatMap F:)+(F e:)<=((y.take k').flatMap F:):=by
 have e1:(y.take k').take (k+1)=y.take (k+1):=by rw[List.take_take,Qb6 ()]
 have e2:y.take k'=y.take (k+1)++(y.take k').drop (k+1):=by rw[<-e1,Qaw]
 rw[e2,Qce,X4, <-take_snoc he,Qce,X4]
 simp
theorem qa(hy:Yd y)(ho:jo y ws os)(hs:∀c,c<(ws:)->∀k:Int,rd 92 k∈y)(hc:c<(ws:))(hi:i<(92:))(he:e=rd 92 i\/e=az (rd 92 i)):
  e∈y/\∃(m:Nat) (p:Pr),(mq y os e)[m]? =some p/\p.pair=(c,i)/\(bR y os).idxOf (c,i,e)=((y.take (y.idxOf e)).flatMap (dF y os):)+m:=by
 have hw:=hs c hc
 have ey:e∈y:=he.elim (λz=>z▸hw _) λz=>z▸hy.cl _ (hw _)
 have qZ:=xw hy ho (c:=c) (i:=i) (l:=rd 92 i) (e:=e) (w:=92) (by rw[Qam,Qy hc];rfl) (gN hi) (hw _) he
 unfold bR at qZ
 obtain ⟨e',zK,hp⟩:=Qbo.mp qZ
 unfold dF at hp
 obtain ⟨p,xx,nL⟩:=Qa4.mp hp
 obtain ⟨q1,W8⟩:=Prod.mk.inj nL
 obtain ⟨q2,q3⟩:=Prod.mk.inj W8
 clear W8
 subst q3
 obtain ⟨m,hm,em⟩:=Qde xx
 have w6:(mq y os e')[m]? =some p:=by rw[Qy hm,em]
 refine ⟨ey,m,p,w6,by unfold Pr.pair;rw[q1,q2],?_⟩
 have hk:y[y.idxOf e']? =some e':=by rw[Qy (Qaj ey),Qb3]
 have:=EE (os:=os) hk w6
 rw[q1,q2]at this
 exact p6 (yV hy ho) this
theorem ue(y:c0)(os:List Od)(e:Nat):(dF y os e:)=(mq y os e:):=by unfold dF;rw[Qaa]
variable{L:Nat->Bool}
theorem J3{l:List Pr}{r:Nat->Nat}(h:(l.map Pr.pair).Pairwise λs t=>bA (fg y ws L r M s.1 s.2) (fg y ws L r M t.1 t.2)=true){p q:Pr}(hp:l[m]? =some p)(hq:l[n]? =some q)(ep:p.pair=(c,i))(eq:q.pair=(d,j))(fq:(c,i)≠(d,j)):
  m≠n/\decide (m<n)=bA (fg y ws L r M c i) (fg y ws L r M d j):=by
 have LP:m≠n:=λz=>fq (by rw[z,hq]at hp;rw[<-ep, <-eq,Qal hp])
 obtain ⟨hm,em⟩:=Qz.mp hp
 obtain ⟨hn,en⟩:=Qz.mp hq
 refine ⟨LP,?_⟩
 have key:=Qck.mp h
 by_cases z:m<n
 ·have:=key m n (by rw[Qaa];exact hm) (by rw[Qaa];exact hn) z
  rw[Qc3,Qc3,em,en,ep,eq]at this
  rw[decide_eq_true z]
  exact this.symm
 ·have:=key n m (by rw[Qaa];exact hn) (by rw[Qaa];exact hm) ()
  rw[Qc3,Qc3,em,en,ep,eq]at this
  rw[decide_eq_false z]
  exact (gC this).1.symm
theorem rX{α:Type}{l:List α}{p:α}(h:l.reverse[m]? =some p):m<(l:)/\l[(l:) - 1 - m]? =some p:=by
 obtain ⟨hm,_⟩:=Qz.mp h
 rw[Qa0]at hm
 rw[Qd0 hm]at h
 exact ⟨hm,h⟩
theorem RU(hy:Yd y)(hs:∀c,c<(ws:)->∀k:Int,rd 92 k∈y)(ho:jo y ws os)(c i d j e e':Nat)(hc:c<(ws:))(hd:d<(ws:))(hi:i<(92:))(hj:j<(131:))(he:e=rd 92 i\/e=az (rd 92 i))(zK:e'=rd 131 j\/e'=az (rd 131 j))(cH:y.idxOf e<y.idxOf e'):(bR y os).idxOf (c,i,e)<(bR y os).idxOf (d,j,e'):=by
 obtain ⟨ey,m,p,hm,_,e1⟩:=qa hy ho hs hc hi he
 obtain ⟨ey',m',p',w6,_,e2⟩:=qa hy ho hs hd hj zK
 rw[e1,e2]
 have hk:y[y.idxOf e]? =some e:=by rw[Qy (Qaj ey),Qb3]
 have:=p9 (dF y os) hk cH
 rw[ue]at this
 have tH:=(Qz.mp hm).1
 lia
theorem pos_at(hy:Yd y)(hs:∀c,c<(ws:)->∀k:Int,rd 92 k∈y)(ho:jo y ws os)(hc:c<(ws:))(hd:d<(ws:))(hi:i<(92:))(hj:j<(131:))(hx:aB x=true)(QD:rd 92 i=x\/rd 92 i=az x)(hxj:rd 131 j=x\/rd 131 j=az x):
  ∃o∈os,∃(m n m' n' A B:Nat) (p q p' q':Pr),o.ps[m]? =some p/\o.ps[n]? =some q/\o.ps[(o.ps:) - 1 - m']? =some p'/\o.ps[(o.ps:) - 1 - n']? =some q'/\m'<(o.ps:)/\n'<(o.ps:)/\p.pair=(c,i)/\q.pair=(d,j)/\p'.pair=(c,i)/\q'.pair=(d,j)/\
   (bR y os).idxOf (c,i,x)=A+m/\(bR y os).idxOf (d,j,x)=A+n/\(bR y os).idxOf (c,i,az x)=B+m'/\(bR y os).idxOf (d,j,az x)=B+n':=by
 have ol:2*(os:)=(y:):=by rw[ho.1];exact eE hy
 have lc:Lt (rd 92 i):=hy.lt _ (hs c hc _)
 have ld:Lt (rd 131 j):=hy.lt _ (hs d hd _)
 have vi:(x=rd 92 i\/x=az (rd 92 i))/\(az x=rd 92 i\/az x=az (rd 92 i))/\Lt x:=by
  rcases QD with z | z
  ·exact ⟨.inl z.symm,.inr (by rw[z]),z▸lc⟩
  ·have hx0:x<128/\x∈aY:=by
    have h9:97<=x/\x<=122:=by unfold aB at hx;simpa using hx
    refine ⟨(),?_⟩
    have:∀k,k<26->k+97∈aY:=by decide
    have h8:=this (x - 97) ()
    rwa [show x - 97+97=x by lia]at h8
   have lx:Lt x:= .inl hx0.2
   exact ⟨.inr (by rw[z,aF lx]),.inl z.symm,lx⟩
 have lx:=vi.2.2
 have vj:(x=rd 131 j\/x=az (rd 131 j))/\(az x=rd 131 j\/az x=az (rd 131 j)):=by
  rcases hxj with z | z
  ·exact ⟨.inl z.symm,.inr (by rw[z])⟩
  ·exact ⟨.inr (by rw[z,aF lx]),.inl z.symm⟩
 obtain ⟨xy,m,p,hm,ep,e1⟩:=qa hy ho hs hc hi vi.1
 obtain ⟨_,n,q,hn,eq,e2⟩:=qa hy ho hs hd hj vj.1
 obtain ⟨_,m',p',w6,L0,Ci⟩:=qa hy ho hs hc hi vi.2.1
 obtain ⟨_,n',q',P4,W9,J4⟩:=qa hy ho hs hd hj vj.2
 obtain ⟨o,Yn,_,eo⟩:=kI hy xy ol
 have up0:isUp x=false:=by rw[(kJ x lx.mem).2,hx];rfl
 have up1:isUp (az x)=true:=by rw[(kJ _ lx.az.mem).2,dN x lx.mem,hx];rfl
 have s0:mq y os x=o.ps:=by unfold mq;rw[up0,if_neg ∅,eo]
 have s1:mq y os (az x)=o.ps.reverse:=by
  unfold mq
  rw[up1,if_pos rfl]
  have:vL y os (az x)=vL y os x:=by unfold vL;rw[(kJ x lx.mem).1]
  rw[this,eo]
 rw[s0]at hm hn
 rw[s1]at w6 P4
 obtain ⟨b1,tH⟩:=rX w6
 obtain ⟨b2,mZ⟩:=rX P4
 exact ⟨o,Yn,m,n,m',n',_,_,p,q,p',q',hm,hn,tH,mZ,b1,b2,ep,eq,L0,W9,e1,e2,Ci,J4⟩
theorem lies_of{r:Nat->Nat}(hy:Yd y)(hs:∀c,c<(ws:)->SW y 92)(h:C0 y ws L r M os):Lies y ws L r M λc i e=>(bR y os).idxOf (c,i,e):=by
 refine ⟨RU hy (λc hc=>(hs c hc).rd) h.ok,λc i d j x hc hd hi hj fq hx QD hxj=>?_⟩
 obtain ⟨o,Yn,m,n,m',n',A,B,p,q,p',q',hm,hn,tH,mZ,b1,b2,ep,eq,L0,W9,e1,e2,Ci,J4⟩:=pos_at hy (λc hc=>(hs c hc).rd) h.ok hc hd hi hj hx QD hxj
 have k1:=J3 (h.asc o Yn) hm hn ep eq fq
 have k2:=J3 (h.asc o Yn) tH mZ L0 W9 fq
 rw[e1,e2,Ci,J4]
 refine ⟨(),(),?_,?_⟩
 ·rw[<-k1.2];exact decide_eq_decide.mpr ()
 ·rw[<-k2.2];exact decide_eq_decide.mpr ()
noncomputable def rY(st:Nat->Nat)(T R:c0):c0:=T.filter λx=>R.any λe=>decide (st e=x)
noncomputable def Gy(st:Nat->Nat)(T R:c0)(p:Nat):Nat:=if st p=p then 0 else (((rY st T (p::R)).filter λx=>decide (st p<x)):)
noncomputable def LQ(st:Nat->Nat):c0->c0->Nat
 | _,[]=>0
 | T,p::R=>Gy st T R p+LQ st (T++[p]) R
structure J5(ch:List (Nat×Nat))(st:Nat->Nat)(P:c0):Prop where
 lt:∀x∈ch,x.1<x.2
 nd:(ch.flatMap λx=>[x.1,x.2]).Nodup
 pm:P.Perm (ch.flatMap λx=>[x.1,x.2])
 up:P.Pairwise (· < ·)
 st:∀x∈ch,st x.1=x.1/\st x.2=x.1
section
variable{ch:List (Nat×Nat)}{st:Nat->Nat}{P:c0}
theorem J5.pt(h:J5 ch st P)(hp:p∈P):∃x∈ch,p=x.1\/p=x.2:=by
 obtain ⟨x,hx,e⟩:=Qbo.mp (h.pm.mem_iff.mp hp)
 exact ⟨x,hx,by simpa using e⟩
theorem J5.in1(h:J5 ch st P){x:Nat×Nat}(hx:x∈ch):x.1∈P/\x.2∈P:=⟨h.pm.mem_iff.mpr (Qbo.mpr ⟨x,hx,by simp⟩),h.pm.mem_iff.mpr (Qbo.mpr ⟨x,hx,by simp⟩)⟩
theorem A4:∀{ch:List (Nat×Nat)},(ch.flatMap λx=>[x.1,x.2]).Nodup->∀x∈ch,∀z∈ch,(x.1=z.1\/x.2=z.2\/x.1=z.2)->x=z
 | [],_,x,hx,_,_,_=>absurd hx Qav
 | a::r,nd,x,hx,z,hz,e=>by
  rw[Qbp,Qdd]at nd
  obtain ⟨n1,n2,n3⟩:=nd
  have inr:∀z∈r,z.1∈r.flatMap (λx=>[x.1,x.2])/\z.2∈r.flatMap (λx=>[x.1,x.2]):=λz hz=>⟨Qbo.mpr ⟨z,hz,by simp⟩,Qbo.mpr ⟨z,hz,by simp⟩⟩
  have a12:a.1≠a.2:=by
   rw[Qbv]at n1
   simpa using n1.1
  rcases Qaq.mp hx with rfl | wJ<;>rcases Qaq.mp hz with rfl | MM
  ·rfl
  ·exfalso
   rcases e with e | e | e
   ·exact n3 x.1 (by simp) z.1 (inr z MM).1 e
   ·exact n3 x.2 (by simp) z.2 (inr z MM).2 e
   ·exact n3 x.1 (by simp) z.2 (inr z MM).2 e
  ·exfalso
   rcases e with e | e | e
   ·exact n3 z.1 (by simp) x.1 (inr x wJ).1 e.symm
   ·exact n3 z.2 (by simp) x.2 (inr x wJ).2 e.symm
   ·exact n3 z.2 (by simp) x.1 (inr x wJ).1 e.symm
  ·exact A4 n2 x wJ z MM e
theorem J6(h:J5 ch st P){T R:c0}(e:P=T++p::R)(hs:st p=p):rY st (T++[p]) R=rY st T (p::R)++[p]:=by
 obtain ⟨x,hx,hp⟩:=h.pt (p:=p) (by rw[e];simp)
 have RV:p=x.1:=hp.elim id λz=>by rw[z,(h.st x hx).2]at hs;rw[z, <-hs]
 have up:=h.up
 rw[e,Qbb,Qdi]at up
 obtain ⟨u1,⟨u2,u3⟩,u4⟩:=up
 have hR:x.2∈R:=by
  have:=(h.in1 hx).2
  rw[e]at this
  rcases Qan.mp this with q | q
  ·have:=u4 _ q p Qak
   have:=h.lt x hx
   lia
  ·rcases Qaq.mp q with q | q
   ·have:=h.lt x hx
    lia
   ·exact q
 unfold rY
 rw[Qcl]
 congr 1
 ·refine Qgi λz hz=>?_
  rw[Qeq,decide_eq_false (λq=>by have:=u4 z hz p Qak;lia),Qgc]
 ·have:(R.any λe=>decide (st e=p))=true:=List.any_eq_true.mpr ⟨x.2,hR,decide_eq_true (by rw[(h.st x hx).2,RV])⟩
  rw[Qb1 (p:=λx=>R.any λe=>decide (st e=x)) this]
  rfl
theorem erase_filter{s:Nat}{p q:Nat->Bool}:∀{T:c0},T.Nodup->q s=true->p s=false->(∀x,x≠s->q x=p x)->(T.filter q).erase s=T.filter p
 | [],_,_,_,_=>rfl
 | a::T,nd,hq,hp,h=>by
  rw[Qbv]at nd
  by_cases z:a=s
  ·subst z
   rw[Qb1 hq,List.erase_cons_head,Qbk (by rw[hp];decide)]
   exact Qgi λx hx=>h x λq=>nd.1 (q▸hx)
  ·have ih:=erase_filter nd.2 hq hp h
   cases e:p a
   ·rw[Qbk (by rw[h a z,e];decide),Qbk (by rw[e];decide)]
    exact ih
   ·rw[Qb1 (by rw[h a z,e]),Qb1 e,List.erase_cons_tail 132,ih]
theorem RW(h:J5 ch st P){T R:c0}(e:P=T++p::R)(hs:st p≠p):rY st (T++[p]) R=(rY st T (p::R)).erase (st p)/\st p∈rY st T (p::R):=by
 obtain ⟨x,hx,hp⟩:=h.pt (p:=p) (by rw[e];simp)
 have RV:p=x.2:=hp.elim (λz=>absurd (by rw[z,(h.st x hx).1]) hs) id
 have qD:st p=x.1:=by rw[RV,(h.st x hx).2]
 have up:=h.up
 rw[e,Qbb,Qdi]at up
 obtain ⟨u1,⟨u2,u3⟩,u4⟩:=up
 have only:∀z∈R,st z≠x.1:=λz hz q=>by
  obtain ⟨v,hv,QP⟩:=h.pt (p:=z) (by rw[e];simp[hz])
  have hzp:=u2 z hz
  rcases QP with r | r
  ·rw[r,(h.st v hv).1]at q
   have:=A4 h.nd v hv x hx (.inl q)
   subst this
   have:=h.lt v hv
   lia
  ·rw[r,(h.st v hv).2]at q
   have:=A4 h.nd v hv x hx (.inl q)
   subst this
   lia
 have none:∀z∈R,st z≠p:=λz hz q=>by
  obtain ⟨v,hv,QP⟩:=h.pt (p:=z) (by rw[e];simp[hz])
  have:st z=v.1:=QP.elim (λr=>by rw[r,(h.st v hv).1]) λr=>by rw[r,(h.st v hv).2]
  rw[this,RV]at q
  have:=A4 h.nd v hv x hx (.inr (.inr q))
  subst this
  have:=h.lt v hv
  lia
 have hT:x.1∈T:=by
  have:=(h.in1 hx).1
  rw[e]at this
  have l:=h.lt x hx
  rcases Qan.mp this with q | q
  ·exact q
  ·rcases Qaq.mp q with q | q
   ·lia
   ·have:=u2 _ q
    lia
 have nd:T.Nodup:=Qgk (λh=>Qa6 h) u1
 have hq:((p::R).any λe=>decide (st e=x.1))=true:=by rw[Qeq,decide_eq_true qD];rfl
 refine ⟨?_,?_⟩
 ·rw[qD]
  unfold rY
  rw[Qcl,Qbk (by
   rw[Bool.not_eq_true,Qgj]
   exact λz hz=>by simpa using none z hz),List.filter_nil,Qbh]
  refine (erase_filter nd hq ?_ λz hz=>?_).symm
  ·rw[Qgj]
   exact λz hz=>by simpa using only z hz
  ·rw[Qeq,decide_eq_false (by rw[qD];exact Ne.symm hz),Qgc]
 ·rw[qD]
  exact Qbr.mpr ⟨hT,hq⟩
noncomputable def o7(x z:Nat×Nat):Bool:=decide (x.1<z.1)&&(decide (z.1<x.2)&&decide (x.2<z.2))
theorem J9(h:J5 ch st P){T R:c0}{x:Nat×Nat}(hx:x∈ch)(e:P=T++x.2::R):Gy st T R x.2=(ch.filter (o7 x):):=by
 have l:=h.lt x hx
 have qD:=(h.st x hx).2
 have up:=h.up
 rw[e,Qbb,Qdi]at up
 obtain ⟨u1,⟨u2,u3⟩,u4⟩:=up
 unfold Gy
 rw[if_neg (),qD, <-Qaa (as:=ch.filter (o7 x)) (f:=Prod.fst)]
 refine List.Perm.length_eq ((List.perm_ext_iff_of_nodup ?_ ?_).mpr λa=>?_)
 ·exact (Qgk (λh=>Qa6 h) ((u1.filter _).filter _))
 ·have nd:(ch.map Prod.fst).Nodup:=by
   have:∀{ch:List (Nat×Nat)},(ch.flatMap λx=>[x.1,x.2]).Nodup->(ch.map Prod.fst).Nodup:=λ{ch}=>by
    induction ch with
    | nil=>exact λ_=>List.Pairwise.nil
    | cons a r ih=>
     intro nd
     rw[Qbp,Qdd]at nd
     rw[Qas,Qbv]
     refine ⟨λq=>?_,ih nd.2.1⟩
     obtain ⟨z,hz,ez⟩:=Qa4.mp q
     exact nd.2.2 a.1 (by simp) z.1 (Qbo.mpr ⟨z,hz,by simp⟩) ez.symm
   exact this h.nd
  exact List.Nodup.sublist (List.Sublist.map _ List.filter_sublist) nd
 ·rw[Qbr,Qa4]
  unfold rY
  rw[Qbr,decide_eq_true_iff,List.any_eq_true]
  constructor
  ·rintro ⟨⟨a1,p,hp,ep⟩,a2⟩
   have ep:=of_decide_eq_true ep
   obtain ⟨z,hz,hpz⟩:=h.pt (p:=p) (by rw[e];exact Qa3 _ hp)
   have:st p=z.1:=hpz.elim (λr=>by rw[r,(h.st z hz).1]) λr=>by rw[r,(h.st z hz).2]
   rw[this]at ep
   have ax:=u4 a a1 x.2 Qak
   have pz:p=z.2:=hpz.elim (λr=>by
    have:=u4 a a1 p hp
    lia) id
   have px:x.2<p:=by
    rcases Qaq.mp hp with q | q
    ·rw[q]at pz
     have:=A4 h.nd x hx z hz (.inr (.inl pz))
     subst this
     lia
    ·exact u2 p q
   refine ⟨z,Qbr.mpr ⟨hz,?_⟩,ep⟩
   unfold o7
   rw[Qct,Qct,decide_eq_true_iff,decide_eq_true_iff,decide_eq_true_iff]
   lia
  ·rintro ⟨z,hz,rfl⟩
   obtain ⟨hz,q⟩:=Qbr.mp hz
   unfold o7 at q
   rw[Qct,Qct,decide_eq_true_iff,decide_eq_true_iff,decide_eq_true_iff]at q
   have i1:=(h.in1 hz).1
   have i2:=(h.in1 hz).2
   rw[e]at i1 i2
   refine ⟨⟨?_,z.2,?_,decide_eq_true (h.st z hz).2⟩,q.1⟩
   ·rcases Qan.mp i1 with r | r
    ·exact r
    ·rcases Qaq.mp r with r | r
     ·lia
     ·have:=u2 _ r;lia
   ·rcases Qan.mp i2 with r | r
    ·have:=u4 _ r x.2 Qak;lia
    ·exact r
theorem J_(h:J5 ch st P):∀(R T:c0),P=T++R->LQ st T R=(R.map λp=>if st p=p then 0 else (ch.filter (o7 (st p,p)):)).sum
 | [],_,_=>rfl
 | p::R,T,e=>by
  rw[Qas,Qbs, <-J_ h R (T++[p]) (by rw[e];simp)]
  show Gy st T R p+_=_
  congr 1
  by_cases z:st p=p
  ·rw[if_pos z];unfold Gy;rw[if_pos z]
  ·rw[if_neg z]
   obtain ⟨x,hx,hp⟩:=h.pt (p:=p) (by rw[e];simp)
   have RV:p=x.2:=hp.elim (λq=>absurd (by rw[q,(h.st x hx).1]) z) id
   have qD:st p=x.1:=by rw[RV,(h.st x hx).2]
   rw[qD]
   subst RV
   exact J9 h hx e
theorem RX(h:J5 ch st P):LQ st [] P=(ch.map λx=>(ch.filter (o7 x):)).sum:=by
 rw[J_ h P [] rfl,(h.pm.map _).sum_nat]
 have:∀l:List (Nat×Nat),(∀x∈l,x∈ch)->(((l.flatMap λx=>[x.1,x.2]).map λp=>if st p=p then 0 else (ch.filter (o7 (st p,p)):)).sum)=(l.map λx=>(ch.filter (o7 x):)).sum:=λl hl=>by
  induction l with
  | nil=>rfl
  | cons a r ih=>
   have ha:=h.st a (hl a Qak)
   have la:=h.lt a (hl a Qak)
   rw[Qbp,Qag,List.sum_append_nat,ih λx hx=>hl x (Qah _ hx),Qas,Qbs]
   congr 1
   show (if st a.1=a.1 then 0 else _)+((if st a.2=a.2 then 0 else (ch.filter (o7 (st a.2,a.2)):))+0)=_
   rw[if_pos ha.1,if_neg (),ha.2,Qc6,Qdu]
 exact this ch λx hx=>hx
theorem Gz{α:Type}(X:α->α->Bool)(hd:∀x,X x x=false)(ha:∀x z,X x z=true->X z x=false):∀l:List α,(l.map λx=>(l.filter (X x):)).sum=cl (λx z=>X x z||X z x) l:=λl=>by
 have key:∀(a:α) (l:List α),((l.filter λz=>X a z||X z a):)=(l.filter (X a):)+(l.map λz=>if X z a=true then 1 else 0).sum:=λa l=>by
  induction l with
  | nil=>rfl
  | cons b r ih=>
   have:=ha a b
   simp only[Qfl,Qas,Qbs]
   cases e1:X a b<;>cases e2:X b a
   ·simp[ih]
   ·simp[ih];lia
   ·simp[ih];lia
   ·rw[this e1]at e2;cases e2
 induction l with
 | nil=>rfl
 | cons a r ih=>
  show (((a::r).map λx=>((a::r).filter (X x):)).sum)=((r.filter λz=>X a z||X z a):)+cl _ r
  rw[Qas,Qbs,Qbk (by rw[hd a];decide),key a r, <-ih]
  have e:∀l:List α,(l.map λx=>((a::r).filter (X x):)).sum=(l.map λz=>if X z a=true then 1 else 0).sum+(l.map λx=>(r.filter (X x):)).sum:=λl=>by
   induction l with
   | nil=>rfl
   | cons b l ih2=>
    rw[Qas,Qbs,ih2,Qas,Qbs,Qas,Qbs]
    cases e1:X b a
    ·rw[Qbk (by rw[e1];decide)]
     simp;lia
    ·rw[Qb1 e1]
     simp;lia
  rw[e r]
  lia
theorem W_(h:J5 ch st P):LQ st [] P=cl (λx z=>o7 x z||o7 z x) ch:=by
 rw[RX h,Gz]
 ·intro x;unfold o7;rw[decide_eq_false (Qbw _)];rfl
 ·intro x z q
  unfold o7 at q ⊢
  rw[Qct,Qct,decide_eq_true_iff,decide_eq_true_iff,decide_eq_true_iff]at q
  rw[decide_eq_false ()]
  rfl
end
noncomputable def Pe(p q:Nat):Int:=if (q:Int)<p then q else p
noncomputable def fk(cs:List C4):c0:=cs.flatMap λx=>[x.2.2.1,x.2.2.2]
noncomputable def g9(cs:List C4):List (Key×V):=cs.flatMap λx=>[(Sum.inl (x.2.2.1:Int),V.int (Pe x.2.2.1 x.2.2.2)),(Sum.inl (x.2.2.2:Int),V.int (Pe x.2.2.1 x.2.2.2))]
noncomputable def uf(cs:List C4):List (Nat×Nat):=cs.map λx=>(min x.2.2.1 x.2.2.2,max x.2.2.1 x.2.2.2)
theorem i7:∀cs:List C4,(g9 cs).map (·.1)=(fk cs).map λn:Nat=>(Sum.inl (n:Int):Key)
 | []=>rfl
 | x::r=>by
  unfold g9 fk
  rw[Qbp,Qbp,Qag,Qag]
  exact congrArg _ (i7 r)
variable{aN:List (Key×V)}
theorem A5{k:Key}(h:k∉aN.map (·.1)):eh aN k=none:=by
 induction aN with
 | nil=>rfl
 | cons a r ih=>
  rw[Qas,Qaq,not_or]at h
  rw[cS (λe=>h.1 e.symm),ih h.2]
theorem Ka(nd:(aN.map (·.1)).Nodup){k:Key}{v:V}(h:(k,v)∈aN):eh aN k=some v:=by
 induction aN with
 | nil=>exact absurd h Qav
 | cons a r ih=>
  rw[Qas,Qbv]at nd
  rcases Qaq.mp h with e | e
  ·subst e;exact dh rfl
  ·rw[cS (λz=>nd.1 (Qa4.mpr ⟨_,e,z.symm⟩))]
   exact ih nd.2 e
theorem RY:∀{l:c0},l.Nodup->(l.map λn:Nat=>(Sum.inl (n:Int):Key)).Nodup:=λ{l} h=>Qco.mpr (h.imp λBJ z=>BJ (by have:=Sum.inl.inj z;lia))
noncomputable def ins(l:c0):List V:=l.map λn=>V.int (n:Nat)
theorem oE(l:c0):(ins l:)=(l:):=by unfold ins;rw[Qaa]
theorem Kb(l:c0)(n:Nat):ins l++[V.int (n:Nat)]=ins (l++[n]):=by unfold ins;rw[Qag];rfl
theorem Kc(h:l[i]? =some n):(ins l)[i]? =some (V.int (n:Nat)):=by unfold ins;rw[Qat,h];rfl
inductive ig(p_:c7)(vs:List V)(H:Hp)(Q:VK)(cy:XK):Prop
 | mk (a:Addr) (qs:List Q4) (_:vs=[.ref a]) (_:H a=some (.lst (mM qs))) (_:(∀x∈qs,jq H x)) (_:(qs:)<=1000) (_:(fk (qs.map Q4.v)).Nodup) (_:∀d H',H d=none->H' d=some (.dK (g9 (qs.map Q4.v)))->aq H H'->Q (.ref d) H'):ig p_ vs H Q cy
def jK(p_:c7):Sp:=ig p_
theorem qb(h:jK K vs H Q E):(vs:)=1:=by obtain ⟨_,_,rfl,_⟩:=h;rfl
inductive kK(p_:c7)(vs:List V)(H:Hp)(Q:VK)(cy:XK):Prop
 | mk (a:Addr) (l:c0) (p:Nat) (_:vs=[.ref a,.int p]) (_:H a=some (.lst (ins l))) (_:l.Pairwise (· < ·)) (_:p∈l) (_:(l:)<=100000) (_:Q (.int (l.idxOf p:Nat)) H):kK p_ vs H Q cy
def oF(p_:c7):Sp:=kK p_
theorem vN(h:oF K vs H Q E):(vs:)=2:=by obtain ⟨_,_,_,rfl,_⟩:=h;rfl
inductive gk(p_:c7)(vs:List V)(H:Hp)(Q:VK)(cy:XK):Prop
 | mk (a:Addr) (qs:List Q4) (_:vs=[.ref a]) (_:H a=some (.lst (mM qs))) (_:(∀x∈qs,jq H x)) (_:(qs:)<=24) (_:(fk (qs.map Q4.v)).Nodup) (_:∀H',aq H H'->Q (.int (cl (λx z=>o7 x z||o7 z x) (uf (qs.map Q4.v)):Nat)) H'):gk p_ vs H Q cy
def ik(p_:c7):Sp:=gk p_
theorem nk(h:ik K vs H Q E):(vs:)=1:=by obtain ⟨_,_,rfl,_⟩:=h;rfl
theorem GA(cs:List C4)(x:C4):fk (cs++[x])=fk cs++[x.2.2.1,x.2.2.2]:=by unfold fk;rw[Qce,Qeg]
theorem GB(cs:List C4)(x:C4):g9 (cs++[x])=g9 cs++[(Sum.inl (x.2.2.1:Int),V.int (Pe x.2.2.1 x.2.2.2)),(Sum.inl (x.2.2.2:Int),V.int (Pe x.2.2.1 x.2.2.2))]:=by unfold g9;rw[Qce,Qeg]
theorem A6(cs:List C4):(g9 cs:)=2*(cs:):=by
 induction cs with
 | nil=>rfl
 | cons x r ih=>
  unfold g9 at ih ⊢
  rw[Qbp,X4,ih,Qa9]
  show 2+2*(r:)=2*((r:)+1)
  lia
variable{cs:List C4}
theorem NF{x:C4}(nd:(fk (cs++[x])).Nodup):putK (putK (g9 cs) (Sum.inl (x.2.2.1:Int)) (V.int (Pe x.2.2.1 x.2.2.2))) (Sum.inl (x.2.2.2:Int)) (V.int (Pe x.2.2.1 x.2.2.2))=g9 (cs++[x]):=by
 rw[GA,Qdd]at nd
 obtain ⟨n1,n2,n3⟩:=nd
 have k:∀n:Nat,n∉fk cs->(Sum.inl (n:Int):Key)∉(g9 cs).map (·.1):=λn hn z=>by
  rw[i7]at z
  obtain ⟨m,hm,e⟩:=Qa4.mp z
  have:m=n:=by have:=Sum.inl.inj e;lia
  exact hn (this▸hm)
 have h1:x.2.2.1∉fk cs:=λz=>n3 _ z _ (by simp) rfl
 have h2:x.2.2.2∉fk cs:=λz=>n3 _ z _ (by simp) rfl
 have h3:x.2.2.1≠x.2.2.2:=by
  rw[Qbv]at n2
  simpa using n2.1
 rw[Ap _ (A5 (k _ h1)),Ap,GB,Qac]
 ·rfl
 ·refine A5 λz=>?_
  rw[Qag,Qan]at z
  rcases z with z | z
  ·exact k _ h2 z
  ·have:=Sum.inl.inj (Qab.mp z)
   lia
noncomputable def cZ(cs:List C4)(p:Nat):Nat:=(((eh (g9 cs) (Sum.inl (p:Int))).map λv=>match v with | .int i=>i.toNat | _=>0).getD 0)
theorem Kd(p q:Nat):Pe p q=(min p q:Nat):=by unfold Pe;split<;>lia
theorem Ph(nd:(fk cs).Nodup){x:C4}(hx:x∈cs):(eh (g9 cs) (Sum.inl (x.2.2.1:Int))=some (.int (min x.2.2.1 x.2.2.2:Nat))/\eh (g9 cs) (Sum.inl (x.2.2.2:Int))=some (.int (min x.2.2.1 x.2.2.2:Nat)))/\cZ cs x.2.2.1=min x.2.2.1 x.2.2.2/\cZ cs x.2.2.2=min x.2.2.1 x.2.2.2:=by
 have kn:((g9 cs).map (·.1)).Nodup:=by rw[i7];exact RY nd
 have e1:eh (g9 cs) (Sum.inl (x.2.2.1:Int))=some (.int (min x.2.2.1 x.2.2.2:Nat)):=by
  rw[<-Kd]
  exact Ka kn (Qbo.mpr ⟨x,hx,by simp⟩)
 have e2:eh (g9 cs) (Sum.inl (x.2.2.2:Int))=some (.int (min x.2.2.1 x.2.2.2:Nat)):=by
  rw[<-Kd]
  exact Ka kn (Qbo.mpr ⟨x,hx,by simp⟩)
 refine ⟨⟨e1,e2⟩,?_,?_⟩
 ·unfold cZ;rw[e1];exact Qap _
 ·unfold cZ;rw[e2];exact Qap _
theorem EF(cs:List C4):((uf cs).flatMap λx=>[x.1,x.2]).Perm (fk cs):=by
 induction cs with
 | nil=>exact .nil
 | cons x r ih=>
  unfold uf fk at ih ⊢
  rw[Qas,Qbp,Qbp]
  refine List.Perm.append ?_ ih
  show [min x.2.2.1 x.2.2.2,max x.2.2.1 x.2.2.2].Perm [x.2.2.1,x.2.2.2]
  by_cases z:x.2.2.1<=x.2.2.2
  ·rw[Qb6 z,Qd4 z]
  ·rw[Qcr (),Qdw ()]
   exact List.Perm.swap _ _ _
theorem RZ{P:c0}(nd:(fk cs).Nodup)(hp:P.Perm (fk cs))(up:P.Pairwise (· < ·)):J5 (uf cs) (cZ cs) P:=by
 refine ⟨λx hx=>?_,((EF cs).nodup_iff).mpr nd,hp.trans (EF cs).symm,up,λx hx=>?_⟩
 ·obtain ⟨c,hc,rfl⟩:=Qa4.mp hx
  have fq:c.2.2.1≠c.2.2.2:=λz=>by
   have:∀{cs:List C4},(fk cs).Nodup->∀c∈cs,c.2.2.1≠c.2.2.2:=λ{cs}=>by
    induction cs with
    | nil=>exact λ_ _ h=>absurd h Qav
    | cons a r ih=>
     intro nd c hc
     unfold fk at nd
     rw[Qbp,Qdd]at nd
     rcases Qaq.mp hc with e | e
     ·subst e
      have:=nd.1
      rw[Qbv]at this
      simpa using this.1
     ·exact ih nd.2.1 c e
   exact this nd c hc z
  show min c.2.2.1 c.2.2.2<max c.2.2.1 c.2.2.2
  lia
 ·obtain ⟨c,hc,rfl⟩:=Qa4.mp hx
  obtain ⟨_,e1,e2⟩:=Ph nd hc
  show cZ cs (min c.2.2.1 c.2.2.2)=min c.2.2.1 c.2.2.2/\cZ cs (max c.2.2.1 c.2.2.2)=min c.2.2.1 c.2.2.2
  by_cases z:c.2.2.1<=c.2.2.2
  ·rw[Qb6 z,Qd4 z]at*
   exact ⟨e1,e2⟩
  ·rw[Qcr (),Qdw ()]at*
   exact ⟨e2,e1⟩
theorem Ke(h:p∈l):l.eraseIdx (l.idxOf p)=l.erase p:=(List.erase_eq_eraseIdx_of_idxOf rfl).symm
theorem behind(up:l.Pairwise (· < ·))(h:p∈l):(l.erase p:) - l.idxOf p=((l.filter λx=>decide (p<x)):):=by
 induction l with
 | nil=>exact absurd h Qav
 | cons a r ih=>
  rw[Qdi]at up
  by_cases z:a=p
  ·subst z
   rw[List.erase_cons_head,List.idxOf_cons_self,Qbk (by simp),List.filter_eq_self.mpr (λx hx=>decide_eq_true (up.1 x hx))]
   rfl
  ·have hr:=(Qaq.mp h).resolve_left (Ne.symm z)
   rw[List.erase_cons_tail 132,RE,if_neg z,Qbk (by
    have:=up.1 p hr
    simp;lia), <-ih up.2 hr,Qa9]
   lia
variable{st:Nat->Nat}
theorem R0{P T R:c0}(h:P.Pairwise (· < ·))(e:P=T++R)(R':c0):(rY st T R').Pairwise (· < ·):=by
 rw[e,Qbb]at h
 exact h.1.filter _
theorem NG{T R:c0}:(rY st T R:)<=T.length:=Qel _ _
theorem R1(nd:(fk cs).Nodup)(hp:p∈fk cs):eh (g9 cs) (Sum.inl (p:Int))=some (.int (cZ cs p:Nat)):=by
 unfold fk at hp
 obtain ⟨x,hx,e⟩:=Qbo.mp hp
 obtain ⟨⟨e1,e2⟩,e3,e4⟩:=Ph nd hx
 have e':p=x.2.2.1\/p=x.2.2.2:=by simpa using e
 rcases e' with rfl | rfl
 ·rw[e1,e3]
 ·rw[e2,e4]
theorem C1{ms:List Int}(nd:l.Nodup)(hp:ms.Perm (l.map λn:Nat=>(n:Int)))(hw:ms.Pairwise λa b=> ¬b<a):∃P:c0,ms.map V.int=ins P/\P.Perm l/\P.Pairwise (· < ·):=by
 have qZ:∀m∈ms,∃n:Nat,m=n:=λm hm=>by
  obtain ⟨n,_,rfl⟩:=Qa4.mp (hp.mem_iff.mp hm)
  exact ⟨n,rfl⟩
 have e1:ms=(ms.map Int.toNat).map λn:Nat=>(n:Int):=by
  rw[Qbj]
  refine (Qe9 ms).symm.trans (Qbl λm hm=>?_)
  obtain ⟨n,rfl⟩:=qZ m hm
  exact (congrArg _ (Qap n)).symm
 have p1:(ms.map Int.toNat).Perm l:=by
  have:=hp.map Int.toNat
  rw[Qbj]at this
  have e2:l.map (Int.toNat ∘ λn:Nat=>(n:Int))=l:=(Qbl λn _=>Qap n).trans (Qe9 l)
  rwa [e2]at this
 refine ⟨ms.map Int.toNat,?_,p1,?_⟩
 ·unfold ins
  conv=>lhs;rw[e1]
  rw[Qbj]
  rfl
 ·have Yj:(ms.map Int.toNat).Nodup:=p1.nodup_iff.mpr nd
  have hw2:(ms.map Int.toNat).Pairwise λa b=> ¬b<a:=by
   rw[e1,Qco]at hw
   exact hw.imp λh z=>h ()
  refine Qgk (λ{a b} h=>?_) (List.Pairwise.and hw2 Yj)
  have:=h.1
  have:=h.2
  lia
theorem Kf{P:c0}{k:Nat}(h:P[k]? =some p):LQ st (P.take k) (P.drop k)=Gy st (P.take k) (P.drop (k+1)) p+LQ st (P.take (k+1)) (P.drop (k+1)):=by
 obtain ⟨hk,e⟩:=Qz.mp h
 rw[Qb8 hk,e]
 show Gy st _ _ p+LQ st (P.take k++[p]) _=_
 rw[take_snoc h]
theorem Xa{k:Nat}(h:k<n):seqIndex? (k:Int) n=some k:=by
 unfold seqIndex?
 simp
 lia
theorem xA:∀(l:c0) (k:Nat),(ins l).eraseIdx k=ins (l.eraseIdx k)
 | [],_=>rfl
 | _::_,0=>rfl
 | a::l,k+1=>congrArg (V.int (a:Nat):: ·) (xA l k)
noncomputable def cst(y w:c0)(i:Int):Int:=AQ y (az (rd w (i - 1))) (rd w i)
theorem Kg(y w:c0)(p k:Int):fu y (sq w p) k=cst y w (p+k):=by
 unfold fu cst sq
 rw[show p+(k - 1)=p+k - 1 by lia]
noncomputable def BL(n:Int):Nat:=(48+n).toNat
noncomputable def stx(y w:c0):c0:=(List.range (w:)).map λi:Nat=>BL (cst y w i)
theorem dP(y w:c0):(stx y w:)=(w:):=by unfold stx;rw[Qaa,Qdp]
theorem R3:∀n:Nat,n<10->dg n=[48+n]:=⋯
noncomputable def kL(lg n:Nat):Nat:=3+lg / max n 1
noncomputable def qc(y u:c0)(lg r:Nat):List (Str×V):=eX "backward" (.str (S (dJ (kL lg (u:)) (stx y u).reverse))) (eX "onward" (.str (S (dJ (kL lg (u:)) (stx y u)))) (eX "leads" (.bl (leads u)) (eX "root_size" (.int r) (eX "size" (.int (u:)) []))))
noncomputable def Pj(t w:Addr)(p:Nat):List (Str×V):=eX "place" (.int p) (eX "way" (.ref w) (eX "strand" (.ref t) []))
section
variable{y u:c0}{lg r:Nat}{t w:Addr}{p:Nat}
theorem EG:(qc y u lg r).lookup ("size":Str)=some (.int (u:)):=by
 unfold qc
 rw[aL,if_neg ⋯,aL,if_neg ⋯,aL,if_neg ⋯,aL,if_neg ⋯,aL,if_pos rfl]
theorem rZ:(qc y u lg r).lookup ("root_size":Str)=some (.int r):=by
 unfold qc
 rw[aL,if_neg ⋯,aL,if_neg ⋯,aL,if_neg ⋯,aL,if_pos rfl]
theorem Kh:(qc y u lg r).lookup ("leads":Str)=some (.bl (leads u)):=by
 unfold qc
 rw[aL,if_neg ⋯,aL,if_neg ⋯,aL,if_pos rfl]
theorem Xb:(qc y u lg r).lookup ("onward":Str)=some (.str (S (dJ (kL lg (u:)) (stx y u)))):=by
 unfold qc
 rw[aL,if_neg ⋯,aL,if_pos rfl]
theorem NH:(qc y u lg r).lookup ("backward":Str)=some (.str (S (dJ (kL lg (u:)) (stx y u).reverse))):=by
 unfold qc
 rw[aL,if_pos rfl]
theorem oG:(Pj t w p).lookup ("place":Str)=some (.int p):=by unfold Pj;rw[aL,if_pos rfl]
theorem qd:(Pj t w p).lookup ("way":Str)=some (.ref w):=by unfold Pj;rw[aL,if_neg ⋯,aL,if_pos rfl]
theorem xB:(Pj t w p).lookup ("strand":Str)=some (.ref t):=by unfold Pj;rw[aL,if_neg ⋯,aL,if_neg ⋯,aL,if_pos rfl]
end
theorem dI(f:Str)(v:V):∀fs:List (Str×V),(eX f v fs:)<=(fs:)+1
 | []=>Qad _
 |(g,x)::r=>by
  unfold eX
  split
  ·exact Qdo _
  ·exact Qdg (dI f v r)
structure Sn where
 a:Addr
 t:Addr
 wy:Addr
 c:Nat
 i:Nat
 u:c0
 p:Nat
 r:Nat
structure GC(H:Hp)(C a:Addr)(y u:c0)(lg r:Nat):Prop where
 ob:∃dx,H a=some (.ins C dx (qc y u lg r))
 sw:SW y u
 uz:(u:)<=lg
 lz:lg<=1000
 rt:bT u r
variable{C:Addr}{lg:Nat}
theorem GC.same{a:Addr}(h:GC H C a y u lg r)(s:aq H H'):GC H' C a y u lg r:=by
 obtain ⟨dx,e⟩:=h.ob
 exact ⟨⟨dx,s _ _ e⟩,h.sw,h.uz,h.lz,h.rt⟩
structure kM(H:Hp)(CW CS:Addr)(y:c0)(lg:Nat)(s:Sn):Prop where
 ob:∃dx,H s.a=some (.ins CS dx (Pj s.t s.wy s.p))
 st:H s.t=some (.tup [.int s.c,.int s.i])
 wy:GC H CW s.wy y s.u lg s.r
 pz:s.p<(s.u:)
variable{CW CS:Addr}
theorem kM.same{s:Sn}(h:kM H CW CS y lg s)(sm:aq H H'):kM H' CW CS y lg s:=by
 obtain ⟨dx,e⟩:=h.ob
 exact ⟨⟨dx,sm _ _ e⟩,sm _ _ h.st,h.wy.same sm,h.pz⟩
noncomputable def Hb(y:c0)(lg:Nat)(s:Sn):c0:=(dJ (kL lg (s.u:)) (stx y s.u)).drop (s.p+1)
noncomputable def Hc(y:c0)(lg:Nat)(s:Sn):c0:=(dJ (kL lg (s.u:)) (stx y s.u).reverse).drop ((s.u:) - 1 - s.p)
noncomputable def seg(l:c0)(x z:Nat):c0:=(l.drop x).take (z - x)
inductive il(p_:c7)(vs:List V)(H:Hp)(Q:VK)(cy:XK):Prop
 | mk (y w:c0) (i:Nat) (_:vs=[.str (S y),.str (S w),.int i]) (_:Yd y) (_:(y:)<=8) (_:SW y w) (_:(w:)<=1000) (_:i<(w:)) (_:∀(n:Nat) H',cst y w i=n->n<8->aq H H'->Q (.int n) H'):il p_ vs H Q cy
def jL(p_:c7):Sp:=il p_
theorem qe(h:jL K vs H Q E):(vs:)=3:=by obtain ⟨_,_,_,rfl,_⟩:=h;rfl
inductive ug(p_:c7)(C:Addr)(vs:List V)(H:Hp)(Q:VK)(cy:XK):Prop
 | mk (x dx:Addr) (y w:c0) (lg:Nat) (_:vs=[.ref x,.str (S y),.str (S w),.int lg]) (_:H x=some (.ins C dx [])) (_:Yd y) (_:(y:)<=8) (_:SW y w) (_:(w:)<=lg) (_:lg<=1000) (_:∀(r:Nat) H',bT w r->H' x=some (.ins C dx (qc y w lg r))->aV x H H'->Q .g7 H'):ug p_ C vs H Q cy
def A7(p_:c7)(C:Addr):Sp:=ug p_ C
theorem GD(h:A7 K C vs H Q E):(vs:)=4:=by obtain ⟨_,_,_,_,_,rfl,_⟩:=h;rfl
inductive qO(p_:c7)(C:Addr)(vs:List V)(H:Hp)(Q:VK)(cy:XK):Prop
 | mk (x dx t w:Addr) (p:Nat) (_:vs=[.ref x,.ref t,.ref w,.int p]) (_:H x=some (.ins C dx [])) (_:∀H',H' x=some (.ins C dx (Pj t w p))->aV x H H'->Q .g7 H'):qO p_ C vs H Q cy
def xC(p_:c7)(C:Addr):Sp:=qO p_ C
theorem C2(h:xC K C vs H Q E):(vs:)=4:=by obtain ⟨_,_,_,_,_,rfl,_⟩:=h;rfl
inductive i8(p_:c7)(CW CS:Addr)(vs:List V)(H:Hp)(Q:VK)(cy:XK):Prop
 | mk (y:c0) (lg:Nat) (s:Sn) (x z:Nat) (_:vs=[.ref s.a,.int x,.int z]) (_:(y:)<=8) (_:kM H CW CS y lg s) (_:x<=z) (_:Q (.str (S (seg (Hb y lg s) x z))) H):i8 p_ CW CS vs H Q cy
def gR(p_:c7)(CW CS:Addr):Sp:=i8 p_ CW CS
theorem rj(h:gR K CW CS vs H Q E):(vs:)=3:=by obtain ⟨_,_,_,_,_,rfl,_⟩:=h;rfl
inductive jM(p_:c7)(CW CS:Addr)(vs:List V)(H:Hp)(Q:VK)(cy:XK):Prop
 | mk (y:c0) (lg:Nat) (s:Sn) (x z:Nat) (_:vs=[.ref s.a,.int x,.int z]) (_:(y:)<=8) (_:kM H CW CS y lg s) (_:x<=z) (_:Q (.str (S (seg (Hc y lg s) x z))) H):jM p_ CW CS vs H Q cy
def iE(p_:c7)(CW CS:Addr):Sp:=jM p_ CW CS
theorem uh(h:iE K CW CS vs H Q E):(vs:)=3:=by obtain ⟨_,_,_,_,_,rfl,_⟩:=h;rfl
theorem NI(h:a<=b):cut l (some (a:Int)) (some (b:Int))=(l.drop a).take (b - a):=by
 unfold cut
 rw[HT.hJ,HT.hJ]
 by_cases z:a<=(l:)
 ·rw[Qb6 z]
  by_cases z2:b<=(l:)
  ·rw[Qb6 z2]
  ·rw[Qcr (),Qar (by rw[Qaz];lia),Qar (by rw[Qaz];lia)]
 ·rw[Qcr (),Qcr (),Qbu (Qad _),Qbu ()]
  simp
theorem EH{f:Nat}(h:x<=z):cut l (some ((f:Int)+x)) (some ((f:Int)+z))=seg (l.drop f) x z:=by
 rw[show (f:Int)+x=((f+x:Nat):Int) by lia,show (f:Int)+z=((f+z:Nat):Int) by lia,NI ()]
 unfold seg
 rw[List.drop_drop,show f+z - (f+x)=z - x by lia]
theorem oH(h:1<=n):n*kL lg n<=3*n+lg/\2*n+lg<n*kL lg n:=by
 unfold kL
 rw[Qdw h,Nat.mul_add]
 have h1:=Qev lg n
 have h2:=Qeb lg (show 0<n by lia)
 lia
theorem xD(m:Nat)(l:c0):(dJ m l:)=(l:)*m:=by
 unfold dJ
 rw[List.length_flatten,List.map_replicate,List.sum_replicate_nat,Qdf]
theorem SW.bL{w:c0}(hy:Yd y)(h:SW y w):My.bL w=gj w:=by unfold My.bL;rw[h.core hy]
theorem yZ(l:c0)(x z j:Nat):(seg l x z)[j]? =if j<z - x then l[x+j]? else none:=by
 unfold seg
 rw[Qe4]
 split
 ·rw[Qbm]
 ·rfl
theorem C3{m:c0}:seg l x (x+z)=seg m x (x+z)↔ ∀k,x<=k->k<x+z->l[k]? =m[k]?:= by
 constructor
 ·intro h k h1 h2
  have:=congrArg (·[k - x]?) h
  simp only[yZ]at this
  rwa [if_pos (),if_pos (),show x+(k - x)=k by lia]at this
 ·intro h
  refine Qdq λj=>?_
  rw[yZ,yZ]
  by_cases z':j<x+z - x
  ·rw[if_pos z',if_pos z',h (x+j) () ()]
  ·rw[if_neg z',if_neg z']
noncomputable def R4(b:Bool)(y:c0)(lg:Nat)(s:Sn):c0:=if b=true then Hb y lg s else Hc y lg s
def kN(l m:c0)(n:Nat):Prop:=∀k,k<n->l[k]? =m[k]?
inductive oI(p_:c7)(CW CS fa fb:Addr)(vs:List V)(H:Hp)(Q:VK)(cy:XK):Prop
 | mk (y:c0) (lg:Nat) (s t:Sn) (b:Bool) (en:Nat) (_:vs=[.ref (if b=true then fa else fb),.ref s.a,.ref t.a,.int en]) (_:(y:)<=8) (_:kM H CW CS y lg s) (_:kM H CW CS y lg t) (_:en<=100000) (_:∀m:Nat,kN (R4 b y lg s) (R4 b y lg t) m->(en<=m\/(R4 b y lg s)[m]?≠ (R4 b y lg t)[m]?)->Q (.int m) H):oI p_ CW CS fa fb vs H Q cy
def ui(p_:c7)(CW CS fa fb:Addr):Sp:=oI p_ CW CS fa fb
variable{fa:Addr}
theorem A8{fb:Addr}(h:ui K CW CS fa fb vs H Q E):(vs:)=4:=by obtain ⟨_,_,_,_,_,_,rfl,_⟩:=h;rfl
theorem kN.more{m:c0}(h:kN l m x)(e:seg l x (x+z)=seg m x (x+z)):kN l m (x+z):=λk hk=>by
 by_cases q:k<x
 ·exact h k q
 ·exact C3.mp e k () hk
theorem Ki{m:c0}(h:seg l x (x+z)≠seg m x (x+z)):∃k,x<=k/\k<x+z/\l[k]?≠ m[k]?:= Classical.byContradiction λq=>h (C3.mpr λk h1 h2=>Classical.byContradiction λr=>q ⟨k,h1,h2,r⟩)
noncomputable def C5(s:Sn):Int×Int:=if leads s.u=true then ((s.c:Int),((s.p / s.r:Nat):Int)) else (-(s.c:Int), -((((s.u:) - 1 - s.p) / s.r:Nat):Int))
inductive oJ(p_:c7)(CW CS:Addr)(vs:List V)(H:Hp)(Q:VK)(cy:XK):Prop
 | mk (y:c0) (lg:Nat) (s:Sn) (_:vs=[.ref s.a]) (_:kM H CW CS y lg s) (_:∀p H',H p=none->H' p=some (.tup [.int (C5 s).1,.int (C5 s).2])->aq H H'->Q (.ref p) H'):oJ p_ CW CS vs H Q cy
def uj(p_:c7)(CW CS:Addr):Sp:=oJ p_ CW CS
theorem A9(h:uj K CW CS vs H Q E):(vs:)=1:=by obtain ⟨_,_,_,rfl,_⟩:=h;rfl
noncomputable def mw(y:c0)(M:Nat)(s:Sn):List Int:=kk y (sq s.u s.p) 0 M++[(C5 s).1,(C5 s).2]
inductive i9(p_:c7)(CW CS:Addr)(vs:List V)(H:Hp)(Q:VK)(cy:XK):Prop
 | mk (y:c0) (lg:Nat) (s t:Sn) (_:vs=[.ref s.a,.ref t.a]) (_:Yd y) (_:(y:)<=8) (_:kM H CW CS y lg s) (_:kM H CW CS y lg t) (_:rd s.u s.p=rd t.u t.p) (_:∀H',aq H H'->Q (.bl (bA (mw y (2*lg) s) (mw y (2*lg) t))) H'):i9 p_ CW CS vs H Q cy
def kO(p_:c7)(CW CS:Addr):Sp:=i9 p_ CW CS
theorem rk(h:kO K CW CS vs H Q E):(vs:)=2:=by obtain ⟨_,_,_,_,rfl,_⟩:=h;rfl
theorem kP(hn:u≠[])(h:bT u r):1<=r/\r<=(u:):=by
 rcases h with ⟨z,_⟩ | ⟨h1,h2,_⟩
 ·exact absurd z hn
 ·exact ⟨h1,h2⟩
theorem EI(h:i<(u:)):(stx y u)[i]? =some (BL (cst y u i)):=by
 unfold stx
 rw[Qat,Qey h]
 rfl
theorem y0(y u:c0)(i:Int):cst y u (i%(u:))=cst y u i:=by
 unfold cst
 rw[jl, <-jl u (i%(u:) - 1),Qgl,Qeu _ (Qgo _), <-Qgl,jl]
theorem Kj{s:Sn}(hn:s.u≠[]){k:Nat}(h:s.p+1+k<(s.u:)*kL lg (s.u:)):(Hb y lg s)[k]? =some (BL (fu y (sq s.u s.p) (k+1))):=by
 have hp:=Qaf.mpr hn
 unfold Hb
 rw[Qbm,nZ _ _ _ (by rw[dP,Qdf];exact h),dP,EI (Qeb _ hp),Kg,Qgv,y0]
 congr 3
 lia
theorem Kk{s:Sn}(hn:s.u≠[])(hp:s.p<(s.u:)){k:Nat}(h:(s.u:) - 1 - s.p+k<(s.u:)*kL lg (s.u:)):(Hc y lg s)[k]? =some (BL (fu y (sq s.u s.p) (-(k:Int)))):=by
 have hl:=Qaf.mpr hn
 unfold Hc
 rw[Qbm,nZ _ _ _ (by rw[Qa0,dP,Qdf];exact h),Qa0,dP]
 have hm:=Qeb ((s.u:) - 1 - s.p+k) hl
 rw[Qd0 (by rw[dP];exact hm),dP,EI (),Kg]
 congr 2
 rw[<-y0 y s.u (s.p+ -(k:Int)), <-y0 y s.u (((s.u:) - 1 - ((s.u:) - 1 - s.p+k)%(s.u:):Nat):Int)]
 congr 1
 have e:(((s.u:) - 1 - ((s.u:) - 1 - s.p+k)%(s.u:):Nat):Int)=((s.u:):Int) - 1 - (((s.u:):Int) - 1 - s.p+k)%(s.u:):=by
  have:((((s.u:) - 1 - s.p+k)%(s.u:):Nat):Int)=(((s.u:):Int) - 1 - s.p+k)%(s.u:):=by
   rw[Qgv];congr 1;lia
  lia
 rw[e,Qgl,Qeu _ (Qgo _), <-Qgl]
 congr 1
 lia
variable{en:Nat}
theorem xE{s:Sn}(hp:s.p<(s.u:))(he:en<=(s.u:)+lg):s.p+1+en<(s.u:)*kL lg (s.u:)+1/\(s.u:) - 1 - s.p+en<(s.u:)*kL lg (s.u:):=by
 have:=(oH (lg:=lg) (n:=(s.u:)) ()).2
 lia
theorem EJ(hn:u≠[])(h:bT u r)(p k:Int):sq u p (k+r)=sq u p k:=by
 have:=((gP hn h).2 (p+r) p).mpr (by rw[show p+(r:Int) - p=r by lia,Int.emod_self])
 have e:=this k
 unfold sq at e ⊢
 rw[show p+(k+r)=p+r+k by lia]
 exact e
theorem EK{a b:Int}(ha:0<=a)(hb:0<=b)(h:BL a=BL b):a=b:=by unfold BL at h;lia
theorem Kl{a b:Int}(ha:0<=a)(hb:0<=b):BL a<BL b↔a<b:=by unfold BL;lia
theorem EL(hy:Yd y)(h:jG y f)(k:Int):0<=fu y f k:=by
 have:=(fy (hy.cl _ (h.cn (k - 1))) (h.cn k) (Ne.symm (h.red k))).1
 unfold fu
 lia
theorem EM{m:c0}(ha:a<en)(h1:∀k,k<a->l[k]? =m[k]?)(h2:l[a]?≠ m[a]?)(g1:kN l m n)(g2:en<=n\/l[n]?≠ m[n]?):n=a:=by
 by_cases z:a<n
 ·exact absurd (g1 a z) h2
 ·by_cases z2:n<a
  ·rcases g2 with g2 | g2
   ·lia
   ·exact absurd (h1 n z2) g2
  ·lia
theorem EN{m:c0}(h1:∀k,k<en->l[k]? =m[k]?)(g2:en<=n\/l[n]?≠ m[n]?):en<=n:=by
 rcases g2 with g2 | g2
 ·exact g2
 ·exact Classical.byContradiction λz=>g2 (h1 n ())
theorem r6(h:l[a]? =some x):seg l a (a+1)=[x]:=by
 obtain ⟨ha,e⟩:=Qz.mp h
 unfold seg
 rw[Qb8 ha,e,show a+1 - a=1 by lia]
 rfl
theorem Km(x z:Nat):decide ([x]<[z])=decide (x<z):=decide_eq_decide.mpr ⟨λh=>(Qf1.mp h).elim id λq=>absurd q.2 (Qd1 _),λh=>Qf1.mpr (.inl h)⟩
theorem NJ(a b c d:Int):LC a b c d=bA [a,b] [c,d]:=by
 unfold LC
 show _=if a=c then (if b=d then bA [] [] else decide (b<d)) else decide (a<c)
 by_cases z:a=c
 ·rw[if_pos z,if_pos z]
  by_cases q:b=d
  ·rw[if_pos q,q];simp[bA]
  ·rw[if_neg q]
 ·rw[if_neg z,if_neg z]
noncomputable def EO(ss:List Sn):List V:=ss.map λs=>V.ref s.a
theorem oK(ss:List Sn):(EO ss:)=(ss:):=by unfold EO;rw[Qaa]
variable{ss:List Sn}
theorem R5{s:Sn}(h:ss[i]? =some s):(EO ss)[i]? =some (V.ref s.a):=by unfold EO;rw[Qat,h];rfl
theorem NK{x:V}(h:(EO ss)[i]? =some x):∃s,ss[i]? =some s/\x=V.ref s.a:=by
 unfold EO at h
 rw[Qat]at h
 cases e:ss[i]? with
 | none=>rw[e]at h;cases h
 | some p=>rw[e]at h;cases h;exact ⟨p,rfl,rfl⟩
def GF(y:c0)(M:Nat)(ss:List Sn):Prop:=ss.Pairwise λs t=>bA (mw y M t) (mw y M s)=false
inductive iq(p_:c7)(CW CS:Addr)(vs:List V)(H:Hp)(Q:VK)(cy:XK):Prop
 | mk (y:c0) (lg:Nat) (a:Addr) (ss:List Sn) (t:Sn) (_:vs=[.ref a,.ref t.a]) (_:Yd y) (_:(y:)<=8) (_:H a=some (.lst (EO ss))) (_:(∀s∈ss,kM H CW CS y lg s/\rd s.u s.p=rd t.u t.p)) (_:kM H CW CS y lg t) (_:GF y (2*lg) ss) (_:(ss:)<=100000) (_:∀(n:Nat) H',n<=(ss:)->(∀k s,ss[k]? =some s->k<n->bA (mw y (2*lg) s) (mw y (2*lg) t)=true)->(∀k s,ss[k]? =some s->n<=k->bA (mw y (2*lg) s) (mw y (2*lg) t)=false)->aq H H'->Q (.int n) H'):iq p_ CW CS vs H Q cy
def jN(p_:c7)(CW CS:Addr):Sp:=iq p_ CW CS
theorem qf(h:jN K CW CS vs H Q E):(vs:)=2:=by obtain ⟨_,_,_,_,_,rfl,_⟩:=h;rfl
structure Wp where
 t:Addr
 a:Addr
 b:Addr
 r:Nat
 q:Nat
noncomputable def LR(l:List Wp):List V:=l.map λp=>V.ref p.t
theorem Kn{l:List Wp}{p:Wp}(h:l[i]? =some p):(LR l)[i]? =some (V.ref p.t):=by unfold LR;rw[Qat,h];rfl
theorem Ko(l:List Wp)(p:Wp):LR l++[V.ref p.t]=LR (l++[p]):=by unfold LR;rw[Qag];rfl
structure y6(H:Hp)(C:Addr)(y:c0)(lg:Nat)(w:c0)(p:Wp):Prop where
 tp:H p.t=some (.tup [.ref p.a,.ref p.b])
 on:GC H C p.a y w lg p.r
 bk:GC H C p.b y (di w) lg p.q
theorem y6.same{w:c0}{p:Wp}(h:y6 H C y lg w p)(s:aq H H'):y6 H' C y lg w p:=⟨s _ _ h.tp,h.on.same s,h.bk.same s⟩
structure C6(w:c0)(c i:Nat)(s:Sn):Prop where
 ec:s.c=c
 ei:s.i=i
 eu:s.u=if aB (rd w i)=true then w else di w
 ep:s.p=if aB (rd w i)=true then i else (w:) - 1 - i
inductive i_(p_:c7)(CW CS:Addr)(vs:List V)(H:Hp)(Q:VK)(cy:XK):Prop
 | mk (y:c0) (lg:Nat) (wt vt st:Addr) (w:c0) (ws:List c0) (o8:List Wp) (p:Wp) (c i:Nat) (_:vs=[.ref wt,.ref vt,.ref st]) (_:Yd y) (_:H wt=some (.tup (gE ws))) (_:H vt=some (.lst (LR o8))) (_:H st=some (.tup [.int c,.int i])) (_:ws[c]? =some w) (_:o8[c]? =some p) (_:y6 H CW y lg w p) (_:i<(w:)) (_:∀(s:Sn) H',C6 w c i s->s.t=st->kM H' CW CS y lg s->H s.a=none->aq H H'->Q (.ref s.a) H'):i_ p_ CW CS vs H Q cy
def kQ(p_:c7)(CW CS:Addr):Sp:=i_ p_ CW CS
theorem rm(h:kQ K CW CS vs H Q E):(vs:)=3:=by obtain ⟨_,_,_,_,_,_,_,_,_,_,_,rfl,_⟩:=h;rfl
inductive jO(p_:c7)(vs:List V)(H:Hp)(Q:VK)(cy:XK):Prop
 | mk (wt:Addr) (ws:List c0) (band:Nat) (_:vs=[.ref wt,.str (S [band])]) (_:H wt=some (.tup (gE ws))) (_:(ws:)<=4) (_:(∀w∈ws,(∀c∈w,Lt c)/\(w:)<=12)) (_:band∈aY) (_:∀(q:Addr) (ps:List Pr) (H':Hp),H q=none->H' q=some (.lst (xu ps))->(∀p∈ps,rh H' p)->ps.map Pr.pair=dG band ws (ws:)->aq H H'->Q (.ref q) H'):jO p_ vs H Q cy
def mN(p_:c7):Sp:=jO p_
theorem uk(h:mN K vs H Q E):(vs:)=2:=by obtain ⟨c,_,_,rfl,_⟩:=h;rfl
open Classical in
noncomputable def R6(w:c0):Nat:=if h:∃s,bT w s then choose h else 0
theorem um{w:c0}(hn:w≠[]):bT w (R6 w):=by
 have h:=Em hn
 unfold R6
 rw[dif_pos h]
 exact Classical.choose_spec h
theorem Kp{w:c0}(hy:Yd y)(hw:SW y w)(h:bT w r)(g:bT (di w) q):q=r:=by
 have hn:=hw.ne
 have ht:=p5 hn
 have p1:=kP hn h
 have p2:=kP ht g
 have key:∀d:Nat,(d:Int)%(r:Int)=0↔(d:Int)%(q:Int)=0:=λd=>by
  have a:=(gP hn h).2 d 0
  have b:=(gP ht g).2 d 0
  rw[Qe1]at a b
  rw[<-a, <-b]
  constructor
  ·intro p k
   rw[h7 hn,h7 hn]
   unfold bq
   have:=p (-1 - (d:Int) - k)
   unfold sq at this
   have e1:rd w (-1 - (0:Int) - k)=rd w ((d:Int)+(-1 - (d:Int) - k)):=by congr 1;lia
   have e2:rd w (-1 - (d:Int) - k)=rd w (0+(-1 - (d:Int) - k)):=by congr 1;lia
   rw[e1,e2,this]
  ·intro p k
   have e:∀x:Int,rd w x=az (rd (di w) (-1 - x)):=λx=>by
    rw[jn hn,show -1 - (-1 - x)=x by lia,aF (hy.lt _ (hw.rd _))]
   unfold sq
   rw[e,e]
   have:=p (-1 - (d:Int) - k)
   unfold sq at this
   rw[show -1 - ((d:Int)+k)=0+(-1 - (d:Int) - k) by lia, <-this]
   congr 2
   lia
 have a:=(key r).mp (Int.emod_self)
 have b:=(key q).mpr (Int.emod_self)
 have a':r%q=0:=by
  have:((r%q:Nat):Int)=0:=by rw[<-a];rfl
  lia
 have b':q%r=0:=by
  have:((q%r:Nat):Int)=0:=by rw[<-b];rfl
  lia
 exact Qdk (Qf9 () (Qee a')) (Qf9 () (Qee b'))
noncomputable def Hd(ws:List c0)(c:Nat):Bool:=leads 92
noncomputable def He(ws:List c0)(c:Nat):Nat:=R6 92
noncomputable def Yo(y:c0)(ws:List c0)(M:Nat)(x:Nat×Nat):List Int:=fg y ws (Hd ws) (He ws) M x.1 x.2
theorem C6.line{w:c0}{s:Sn}(hy:Yd y)(hw:SW y w)(hi:i<(w:))(h:C6 w c i s):sq s.u s.p=o6 w i:=by
 rw[h.eu,h.ep]
 unfold o6
 by_cases z:aB (rd w i)=true
 ·rw[if_pos z,if_pos z,if_pos z]
 ·rw[if_neg z,if_neg z,if_neg z, <-RF hw.ne,show (((w:) - 1 - i:Nat):Int)=((w:):Int) - 1 - i by lia]
theorem ER{w:c0}{s:Sn}(hy:Yd y)(hw:SW y w)(hi:i<(w:))(e:92=w)(h:C6 w c i s)(rt:bT s.u s.r):mw y M s=Yo y ws M (c,i):=by
 unfold mw Yo fg
 rw[h.line hy hw hi]
 simp only[e]
 congr 1
 unfold C5 LN Hd He
 rw[e,h.ec]
 have zZ:=um hw.ne
 by_cases z:aB (rd w i)=true
 ·have eu:s.u=w:=by rw[h.eu,if_pos z]
  have ep:s.p=i:=by rw[h.ep,if_pos z]
  rw[eu]at rt ⊢
  have er:=Ju hw.ne rt zZ
  rw[er,ep,z]
  by_cases l:leads w=true
  ·rw[if_pos l,l];rfl
  ·rw[if_neg l,if_neg (λq=>l q.symm)];rfl
 ·have eu:s.u=di w:=by rw[h.eu,if_neg z]
  have ep:s.p=(w:) - 1 - i:=by rw[h.ep,if_neg z]
  rw[eu]at rt ⊢
  have er:=Kp hy hw zZ rt
  have z':aB (rd w i)=false:=by simpa using z
  rw[er,ep,z',xt hy hw,bH]
  have ei:(w:) - 1 - ((w:) - 1 - i)=i:=by lia
  rw[ei]
  cases leads w<;>rfl
theorem C6.band{y w:c0}{c i band:Nat}{s:Sn}(hy:Yd y)(hw:SW y w)(hi:i<(w:))(hb:band∈aY)(ho:BK band (rd w i)=true)(h:C6 w c i s):rd s.u s.p=band:=by
 have lb:Lt band:= .inl hb
 have lo:aB band=true:=by rw[ft lb];exact decide_eq_true hb
 have Ho:rd w i=band\/rd w i=az band:=by
  unfold BK at ho
  simpa using ho
 rw[h.eu,h.ep]
 rcases Ho with e | e
 ·rw[if_pos (by rw[e];exact lo),if_pos (by rw[e];exact lo)]
  exact e
 ·have z: ¬aB (rd w i)=true:=by rw[e,dN _ lb.mem,lo];decide
  rw[if_neg z,if_neg z,jn hw.ne,show -1 - (((w:) - 1 - i:Nat):Int)=i - (w:) by lia,CG,e,aF lb]
def GG(y:c0)(ws:List c0)(M:Nat)(l:List (Nat×Nat)):Prop:=l.Pairwise λs t=>bA (Yo y ws M t) (Yo y ws M s)=false
inductive jP(p_:c7)(CW CS:Addr)(vs:List V)(H:Hp)(Q:VK)(cy:XK):Prop
 | mk (y:c0) (lg:Nat) (wt vt:Addr) (ws:List c0) (o8:List Wp) (band:Nat) (_:vs=[.ref wt,.ref vt,.str (S [band])]) (_:Yd y) (_:(y:)<=8) (_:H wt=some (.tup (gE ws))) (_:(ws:)<=4) (_:(∀w∈ws,SW y w/\(w:)<=12)) (_:band∈aY) (_:H vt=some (.lst (LR o8))) (_:(o8:)=(ws:)) (_:(∀(c:Nat) (w:c0) (p:Wp),ws[c]? =some w->o8[c]? =some p->y6 H CW y lg w p)) (_:∀(q:Addr) (ps:List Pr) (H':Hp),H q=none->H' q=some (.tup (xu ps))->(∀p∈ps,rh H' p)->(ps.map Pr.pair).Perm (dG band ws (ws:))->GG y ws (2*lg) (ps.map Pr.pair)->aq H H'->Q (.ref q) H'):jP p_ CW CS vs H Q cy
def mO(p_:c7)(CW CS:Addr):Sp:=jP p_ CW CS
theorem uo(h:mO K CW CS vs H Q E):(vs:)=3:=by obtain ⟨_,_,_,_,_,_,_,rfl,_⟩:=h;rfl
theorem R7{t:Sn}(up:GF y M ss)(h1:∀k s,ss[k]? =some s->k<n->bA (mw y M s) (mw y M t)=true)(h2:∀k s,ss[k]? =some s->n<=k->bA (mw y M s) (mw y M t)=false):GF y M (ss.take n++t::ss.drop n):=by
 have tk:∀s∈ss.take n,bA (mw y M s) (mw y M t)=true:=λs hs=>by
  obtain ⟨k,hk,e⟩:=Qde hs
  rw[Qai]at hk
  rw[List.getElem_take]at e
  exact h1 k s (by rw[<-e];exact Qy ()) ()
 have dr:∀s∈ss.drop n,bA (mw y M s) (mw y M t)=false:=λs hs=>by
  obtain ⟨k,hk,e⟩:=Qde hs
  rw[Qaz]at hk
  rw[List.getElem_drop]at e
  exact h2 (n+k) s (by rw[<-e];exact Qy ()) ()
 have up':GF y M (ss.take n++ss.drop n):=by rw[Qaw];exact up
 unfold GF at up' ⊢
 rw[Qbb]at up' ⊢
 rw[Qdi]
 obtain ⟨u1,u2,u3⟩:=up'
 refine ⟨u1,⟨λs hs=>dr s hs,u2⟩,λa ha b hb=>?_⟩
 rcases Qaq.mp hb with e | e
 ·rw[e];exact (gC (tk a ha)).1
 ·exact u3 a ha b e
theorem kR(band:Nat){ws:List c0}(hw:∀w∈ws,(w:)<=12):∀n,n<=(ws:)->(dG band ws n:)<=12*n
 | 0,_=>Qax _
 | n+1,h=>by
  have ih:=kR band hw n ()
  unfold dG at ih ⊢
  rw[Qcq,Qce,X4,Qeg]
  have h1:(jH band n (ws|||n) ((ws|||n):):)<=12:=by
   unfold jH
   rw[Qaa]
   refine Qbn (Qel _ _) ?_
   rw[Qdp]
   exact hw _ (getD_in ())
  lia
theorem C7{band:Nat}{x:Nat×Nat}(h:x∈dG band ws (ws:)):∃w,ws[x.1]? =some w/\x.2<(w:)/\BK band (rd w x.2)=true:=by
 unfold dG at h
 obtain ⟨c,hc,h⟩:=Qbo.mp h
 have sE:=Qcp.mp hc
 unfold jH at h
 obtain ⟨i,hi,e⟩:=Qa4.mp h
 obtain ⟨i1,i2⟩:=Qbr.mp hi
 have i1':=Qcp.mp i1
 subst e
 refine ⟨92,by rw[Qam,Qy sE];rfl,i1',?_⟩
 have:(ws|||c).getD i 0=rd 92 i:=by
  have:=gN i1'
  rw[Qam,this];rfl
 show BK band (rd 92 i)=true
 rw[<-this]
 exact i2
theorem xF{x dx:Addr}(nx:H x=none)(R8:H dx=none)(sm:aV x (L2.upd (L2.upd H dx (.own x)) x (.ins C dx [])) H'):aq H H':=λa o e=>by
 refine sm a o ?_ (au e nx)
 rw[aA (au e nx),aA (au e R8)]
 exact e
noncomputable def NL(ws:List c0):List Int:=ws.map λw=>((w:):Int)
theorem NM(l:List Int):∀a:Int,a<=l.foldl (λx y=>if y>x then y else x) a/\(∀x∈l,x<=l.foldl (λx y=>if y>x then y else x) a)/\(l.foldl (λx y=>if y>x then y else x) a=a\/l.foldl (λx y=>if y>x then y else x) a∈l):=by
 induction l with
 | nil=>exact λa=>⟨Int.le_refl _,λ_ h=>absurd h Qav,.inl rfl⟩
 | cons b r ih=>
  intro a
  rw[Qdl]
  obtain ⟨h1,h2,h3⟩:=ih (if b>a then b else a)
  have h4:a<=(if b>a then b else a)/\b<=(if b>a then b else a):=by split<;>lia
  refine ⟨(),λx hx=>?_,?_⟩
  ·rcases Qaq.mp hx with e | e
   ·rw[e];lia
   ·exact h2 x e
  ·rcases h3 with e | e
   ·rw[e]
    split
    ·exact .inr Qak
    ·exact .inl rfl
   ·exact .inr (Qah _ e)
theorem C8(h:∀w∈ws,(w:)<=12):∃lg:Nat,Rr 0 (NL ws)=lg/\lg<=12/\∀w∈ws,(w:)<=lg:=by
 cases ws with
 | nil=>exact ⟨0,rfl,∅,λ_ h=>absurd h Qav⟩
 | cons v r=>
  obtain ⟨h1,h2,h3⟩:=NM (NL r) ((v:):Int)
  have e:Rr 0 (NL (v::r))=(NL r).foldl (λx y=>if y>x then y else x) ((v:):Int):=rfl
  rw[e]
  generalize (NL r).foldl (λx y=>if y>x then y else x) ((v:):Int)=m at*
  have hm:∃w∈v::r,m=((w:):Int):=by
   rcases h3 with q | q
   ·exact ⟨v,Qak,q⟩
   ·obtain ⟨w,hw,e'⟩:=Qa4.mp q
    exact ⟨w,Qah _ hw,e'.symm⟩
  obtain ⟨w,hw,rfl⟩:=hm
  refine ⟨(w:),rfl,h w hw,λu hu=>?_⟩
  rcases Qaq.mp hu with q | q
  ·rw[q];lia
  ·have:=h2 _ (Qa4.mpr ⟨u,q,rfl⟩)
   lia
def y7(y:c0)(ws:List c0)(os:List Od):Prop:=∃M,(∀w∈ws,∀v∈ws,(w:)+(v:)<=M)/\jo y ws os/\∀o∈os,GG y ws M (o.ps.map Pr.pair)
inductive xG(p_:c7)(vs:List V)(H:Hp)(Q:VK)(cy:XK):Prop
 | mk (y:c0) (wt:Addr) (ws:List c0) (_:vs=[.str (S y),.ref wt]) (_:Yd y) (_:(y:)<=8) (_:H wt=some (.tup (gE ws))) (_:(ws:)<=4) (_:(∀w∈ws,SW y w/\(w:)<=12)) (_:∀(dr:Addr) (os:List Od) (H':Hp),CU H' dr ws os->y7 y ws os->aq H H'->Q (.ref dr) H'):xG p_ vs H Q cy
def ES(p_:c7):Sp:=xG p_
theorem Kq(h:ES K vs H Q E):(vs:)=2:=by obtain ⟨_,_,_,rfl,_⟩:=h;rfl
theorem NN{o8:List Wp}{w:c0}{p:Wp}(hl:(o8:)=i)(h:∀(c:Nat) (w:c0) (p:Wp),ws[c]? =some w->o8[c]? =some p->y6 H C y lg w p)(hw:ws[i]? =some w)(hp:y6 H C y lg w p):∀(c:Nat) (w:c0) (q:Wp),ws[c]? =some w->(o8++[p])[c]? =some q->y6 H C y lg w q:=λc v q hv hq=>by
 by_cases z:c<(o8:)
 ·rw[Qbg z]at hq
  exact h c v q hv hq
 ·rw[Qa2 ()]at hq
  have:c=i:=by
   have:=(Qz.mp hq).1
   simp at this
   lia
  subst this
  rw[hl,Qdt]at hq
  rw[hw]at hv
  cases hv
  cases hq
  exact hp
theorem A_(h:Yd y)(hb:b∈aQ y):b∈aY:=by
 obtain ⟨h1,h2⟩:=Qbr.mp ((gG y).mem_iff.mp hb)
 rw[ft (h.lt b h1)]at h2
 exact of_decide_eq_true h2
theorem Kr{r:Nat->Nat}(h:eB y ws L r M)(hc:c<(ws:))(hd:d<(ws:))(hi:i<(92:))(hj:j<(131:))(fq:(c,i)≠(d,j))(hx:aB x=true)(e1:rd 92 i=x\/rd 92 i=az x)(e2:rd 131 j=x\/rd 131 j=az x):
  bA (fg y ws L r M c i) (fg y ws L r M d j)=true\/bA (fg y ws L r M d j) (fg y ws L r M c i)=true:=by
 have hw:=h.sw c hc
 have hv:=h.sw d hd
 have hy:=h.yd
 have lw:=Qaf.mpr hw.ne
 have lv:=Qaf.mpr hv.ne
 have xs:∀{w:c0} {k:Nat},SW y w->(rd w k=x\/rd w k=az x)->Lt x:=λ{w k} hw e=>by
  have h9:97<=x/\x<=122:=by unfold aB at hx;simpa using hx
  refine .inl ?_
  have:∀k,k<26->k+97∈aY:=by decide
  have h8:=this (x - 97) ()
  rwa [show x - 97+97=x by lia]at h8
 have lx:=xs hw e1
 have CJ:∀{w:c0} {k:Nat},SW y w->Dl w k (o6 w k)/\((rd w k=x\/rd w k=az x)->o6 w k 0=x)/\(o6 w k=if aB (rd w k)=true then sq w k else bq w k):=λ{w k} hw=>by
  refine ⟨?_,λe=>?_,rfl⟩
  ·unfold o6
   by_cases z:aB (rd w k)=true
   ·rw[if_pos z];exact .inl rfl
   ·rw[if_neg z];exact .inr rfl
  ·unfold o6
   rcases e with e | e
   ·rw[if_pos (by rw[e];exact hx)]
    unfold sq
    rw[Qei];exact e
   ·have z: ¬aB (rd w k)=true:=by rw[e,dN _ lx.mem,hx];decide
    rw[if_neg z]
    unfold bq
    rw[Qe1,e,aF lx]
 obtain ⟨df,f0,fe⟩:=CJ (k:=i) hw
 obtain ⟨dg',g0,ge⟩:=CJ (k:=j) hv
 have lf:=df.CJ hy hw
 have lg:=dg'.CJ hy hv
 by_cases par:∀k,o6 92 i k=o6 131 j k
 ·unfold fg
  rw[show o6 92 i=o6 131 j from funext par,fS,fS]
  by_cases cd:c=d
  ·subst cd
   have ij:i≠j:=λz=>fq (by rw[z])
   obtain ⟨h1,h2⟩:=h.root hc
   have hr:=h.rp c hc
   -- one and Lw same way
   have low:aB (rd 92 i)=aB (rd 92 j):=by
    by_cases z1:aB (rd 92 i)=true<;>by_cases z2:aB (rd 92 j)=true
    ·rw[z1,z2]
    ·exfalso
     rw[fe,ge,if_pos z1,if_neg z2]at par
     exact yJ hy hw _ _ par
    ·exfalso
     rw[fe,ge,if_neg z1,if_pos z2]at par
     exact yJ hy hw _ _ λk=>(par k).symm
    ·rw[show aB (rd 92 i)=false by simpa using z1,show aB (rd 92 j)=false by simpa using z2]
   have ps:bZ 92 92 i j:=by
    by_cases z1:aB (rd 92 i)=true
    ·have z2:aB (rd 92 j)=true:=by rw[<-low];exact z1
     rw[fe,ge,if_pos z1,if_pos z2]at par
     exact par
    ·have z2: ¬aB (rd 92 j)=true:=by rw[<-low];exact z1
     rw[fe,ge,if_neg z1,if_neg z2]at par
     have e:=congrArg mm (funext par)
     rw[<-ff, <-ff,qL hy (bE hw _),qL hy (bE hw _)]at e
     exact λk=>congrFun e k
   have q:=(h.rr c hc _ _).mp ps
   have Nl:i%r c=j%r c:=by
    have q2:=Qd7.mpr q
    have q3:((i%r c:Nat):Int)=((j%r c:Nat):Int):=q2
    lia
   have k1:= @CN (92:) _ (r c) c i j (L c) (aB (rd 92 j)) hr h1 hi hj Nl ij
   have k2:= @CN (92:) _ (r c) c j i (L c) (aB (rd 92 j)) hr h1 hj hi Nl.symm (Ne.symm ij)
   rw[low]
   by_cases z:aB (rd 92 j)=true
   ·rw[if_pos z]at k1 k2
    rw[k1,k2,decide_eq_true_iff,decide_eq_true_iff]
    lia
   ·rw[if_neg z]at k1 k2
    rw[k1,k2,decide_eq_true_iff,decide_eq_true_iff]
    lia
  ·have hl:L d=if aB (rd 131 j)=aB (rd 92 i) then L c else !L c:=by
    by_cases z1:aB (rd 92 i)=true<;>by_cases z2:aB (rd 131 j)=true
    ·rw[z1,z2,if_pos rfl]
     rw[fe,ge,if_pos z1,if_pos z2]at par
     exact (h.l1 c d i j hc hd par).symm
    ·rw[if_neg (λq=>z2 (q.trans z1))]
     rw[fe,ge,if_pos z1,if_neg z2]at par
     exact h.l2 c d i j hc hd par
    ·rw[if_neg (λq=>z1 (q.symm.trans z2))]
     rw[fe,ge,if_neg z1,if_pos z2]at par
     have:=h.l2 d c j i hd hc λk=>(par k).symm
     rw[this,Bool.not_not]
    ·rw[show aB (rd 92 i)=false by simpa using z1,show aB (rd 131 j)=false by simpa using z2,if_pos rfl]
     rw[fe,ge,if_neg z1,if_neg z2]at par
     have e:=congrArg mm (funext par)
     rw[<-ff, <-ff,qL hy (bE hw _),qL hy (bE hv _)]at e
     exact (h.l1 c d i j hc hd λk=>congrFun e k).symm
   have Ci:= @yN (92:) (131:) (r c) (r d) c d i j (L c) (aB (rd 92 i)) (aB (rd 131 j)) cd
   have lF:L c=if aB (rd 92 i)=aB (rd 131 j) then L d else !L d:=by
    rw[hl]
    cases aB (rd (ws|||d) j)<;>cases aB (rd (ws|||c) i)<;>cases L c<;>rfl
   have J4:= @yN (131:) (92:) (r d) (r c) d c j i (L d) (aB (rd 131 j)) (aB (rd 92 i)) (Ne.symm cd)
   rw[<-hl]at Ci
   rw[<-lF]at J4
   rw[Ci,J4,hl]
   cases aB (rd (ws|||d) j)<;>cases aB (rd (ws|||c) i)<;>cases L c<;>simp<;>lia
 ·have yO:∃k,o6 92 i k≠o6 131 j k:=Classical.byContradiction λz=>par λk=>Classical.byContradiction λw=>z ⟨k,w⟩
  have W3:∀{w:c0} {k:Nat} (z:Int),o6 w k (z+(w:))=o6 w k z:=λ{w k} z=>by
   unfold o6
   split
   ·exact dE w k z
   ·exact t9 w k z
  obtain ⟨a,b,rn,ha,hb⟩:=eA lw lv W3 W3 ((f0 e1).trans (g0 e2).symm) yO
  have big:=h.big c d hc hd
  unfold fg
  rw[pX hy lf lg rn _ _ M 0 (Qax _) (Qax _) () (),pX hy lg lf rn.sy _ _ M 0 (Qax _) (Qax _) () (),JF hy lf lg (rn.rR a () ()) rn.hi,CP hy lf lg (rn.rR _ () ()) rn.lo]
  by_cases z:a<=b
  ·rw[if_pos z,if_pos z]
   cases iY y (o6 (ws|||c) i) (o6 (ws|||d) j) a
   ·exact .inr rfl
   ·exact .inl rfl
  ·rw[if_neg z,if_neg z]
   cases jf y (o6 (ws|||c) i) (o6 (ws|||d) j) b
   ·exact .inr rfl
   ·exact .inl rfl
theorem NO(hy:Yd y)(hw:∀w∈ws,SW y w)(hM:∀w∈ws,∀v∈ws,(w:)+(v:)<=M)(ok:jo y ws os)(up:∀o∈os,GG y ws M (o.ps.map Pr.pair)):eB y ws (Hd ws) (He ws) M/\C0 y ws (Hd ws) (He ws) M os:=by
 have hs:∀c,c<(ws:)->SW y 92:=λc hc=>hw _ (getD_in hc)
 have hC:eB y ws (Hd ws) (He ws) M:=JL hy hs (λc hc=>um (hs c hc).ne) λc d hc hd=>hM _ (getD_in hc) _ (getD_in hd)
 refine ⟨hC,ok,λo ho=>?_⟩
 obtain ⟨j,hj,ej⟩:=Qde ho
 have Xc:j<(aQ y:):=by rw[<-ok.1];exact hj
 have pm:=ok.2 j o (aQ y)[j] (by rw[Qy hj,ej]) (Qy Xc)
 have bs:=A_ hy (Qb0 Xc)
 have lb:Lt (aQ y)[j]:= .inl bs
 have lo:aB (aQ y)[j]=true:=by rw[ft lb];exact decide_eq_true bs
 have nd:(o.ps.map Pr.pair).Nodup:=pm.nodup_iff.mpr (p7 _ _ _)
 have u:=up o ho
 unfold GG at u
 refine Qfg (λ{s t} h1 h2 h=>?_) (List.Pairwise.and u nd)
 obtain ⟨w1,e1,i1,o1⟩:=C7 (pm.mem_iff.mp h1)
 obtain ⟨w2,e2,i2,o2⟩:=C7 (pm.mem_iff.mp h2)
 have c1:=(Qz.mp e1).1
 have c2:=(Qz.mp e2).1
 have g1:ws.getD s.1 []=w1:=by rw[Qam,e1];rfl
 have g2:ws.getD t.1 []=w2:=by rw[Qam,e2];rfl
 have on:∀{l:Nat},BK (aQ y)[j] l=true->l=(aQ y)[j]\/l=az (aQ y)[j]:=λ{l} q=>by unfold BK at q;simpa using q
 have tr:=Kr hC (c:=s.1) (i:=s.2) (d:=t.1) (j:=t.2) c1 c2 (by rw[g1];exact i1) (by rw[g2];exact i2) h.2 lo (by rw[g1];exact on o1) (by rw[g2];exact on o2)
 rcases tr with q | q
 ·exact q
 ·have hf:bA (fg y ws (Hd ws) (He ws) M t.1 t.2) (fg y ws (Hd ws) (He ws) M s.1 s.2)=false:=h.1
  rw[hf]at q
  cases q
theorem R9(hy:Yd y)(hw:∀w∈ws,SW y w)(h:y7 y ws os):∃M,eB y ws (Hd ws) (He ws) M/\C0 y ws (Hd ws) (He ws) M os:=by
 obtain ⟨M,hM,ok,up⟩:=h
 exact ⟨M,NO hy hw hM ok up⟩
theorem Ks{α β:Type}(p:β->β->Bool)(f:α->β):∀l:List α,cl p (l.map f)=cl (λa b=>p (f a) (f b)) l
 | []=>rfl
 | a::l=>by
  show ((l.map f).filter (p (f a)):)+cl p (l.map f)=((l.filter λb=>p (f a) (f b)):)+cl _ l
  rw[Ks p f l,Qg0,Qaa]
  rfl
theorem Ba{α:Type}{p q:α->α->Bool}:∀{l:List α},l.Pairwise (λa b=>p a b=q a b)->cl p l=cl q l
 | [],_=>rfl
 | a::l,h=>by
  rw[Qdi]at h
  show (l.filter (p a):)+cl p l=(l.filter (q a):)+cl q l
  rw[Ba h.2,Qgi λb hb=>h.1 b hb]
theorem Kt(h1:a<b)(h2:a'<b')(h4:a<a')(h5:b≠a')(h6:b≠b'):(o7 (a,b) (a',b')||o7 (a',b') (a,b))=q_ a b a' b':=by
 have g4:=Qd5 h4 h2
 rw[JA (Qa6 h1) (Qa6 h4) (Qa6 g4) h5 h6]
 unfold o7
 rw[decide_eq_true h4,decide_eq_true g4,decide_eq_false (Qez h4),lU (Ne.symm h6)]
 have k:decide (b'<b)=true->decide (a'<b)=true:=λq=>decide_eq_true (Qd5 h2 (of_decide_eq_true q))
 revert k
 generalize decide (a'<b)=p
 generalize decide (b'<b)=q
 revert p q
 decide
theorem y8(h1:a<b)(h2:a'<b')(h3:a≠a')(h4:a≠b')(h5:b≠a')(h6:b≠b'):(o7 (a,b) (a',b')||o7 (a',b') (a,b))=q_ a b a' b':=by
 rcases Qdh h3 with q | q
 ·exact Kt h1 h2 q h5 h6
 ·rw[Bool.or_comm,Kt h2 h1 q (Ne.symm h4) (Ne.symm h6),oh (Qa6 h2) (Qa6 h1) (Ne.symm h3) (Ne.symm h5) (Ne.symm h4) (Ne.symm h6)]
theorem NP(h1:a≠b)(h2:a'≠b')(h3:a≠a')(h4:a≠b')(h5:b≠a')(h6:b≠b'):(o7 (min a b,max a b) (min a' b',max a' b')||o7 (min a' b',max a' b') (min a b,max a b))=q_ a b a' b':=by
 rcases Qdh h1 with q | q<;>rcases Qdh h2 with r | r
 ·rw[Qb6 (Qbz q),Qd4 (Qbz q),Qb6 (Qbz r),Qd4 (Qbz r)]
  exact y8 q r h3 h4 h5 h6
 ·rw[Qb6 (Qbz q),Qd4 (Qbz q),Qcr (Qbz r),Qdw (Qbz r),kC]
  exact y8 q r h4 h3 h6 h5
 ·rw[Qcr (Qbz q),Qdw (Qbz q),Qb6 (Qbz r),Qd4 (Qbz r), <-AS h1 h2 h3 h4 h5 h6]
  exact y8 q r h5 h6 h3 h4
 ·rw[Qcr (Qbz q),Qdw (Qbz q),Qcr (Qbz r),Qdw (Qbz r), <-AS h1 h2 h3 h4 h5 h6,kC]
  exact y8 q r h6 h5 h4 h3
section
variable{y:c0}{ws:List c0}{L:Nat->Bool}{r:Nat->Nat}{M:Nat}
noncomputable def cK(ps:List (Nat×Nat×Nat))(c i e:Nat):Nat:=ps.idxOf (c,i,e)
theorem y9(h:i<n):kH n ((i:Int) - 1)=rW n i/\kH n (i:Int)=i:=by
 have h1:=fh (n:=n) () ((i:Int) - 1)
 have h2:=fh (n:=n) () (i:Int)
 rw[EC h]at h1
 rw[Qbf () ()]at h2
 lia
theorem ja(hi:i<(92:)):(cT ps c 92 i).2.2.1=pI ws (cK ps) c ((i:Int) - 1)/\(cT ps c 92 i).2.2.2=pO ws (cK ps) c i:=by
 obtain ⟨e1,e2⟩:=y9 hi
 have g:∀k,k<(92:)->(ws|||c).getD k 0=rd 92 k:=λk hk=>by
  rw[Qam,gN hk];rfl
 have fq:92≠[]:=λz=>by rw[z]at hi;exact absurd hi (Qfx _)
 unfold cT pI pO cK
 rw[e1,e2,g _ (yX hi),g _ hi]
 refine ⟨?_,rfl⟩
 have:rd 92 (rW (92:) i:Nat)=rd 92 ((i:Int) - 1):=by rw[<-e1,cg fq]
 rw[this]
theorem qg(ps:List (Nat×Nat×Nat))(ws:List c0):∀n,fj ps ws n=(AO ws n).map λx=>cT ps x.1 (ws.getD x.1 []) x.2
 | 0=>rfl
 | n+1=>by
  have ih:=qg ps ws n
  unfold fj at ih ⊢
  unfold AO
  rw[Qcq,Qce,ih,Qag,Qeg,Qbj]
  rfl
theorem Ku(ws:List c0)(n:Nat):(AO ws n).Nodup:=(Ek n).imp λ{a b} h z=>by
 rw[z]at h
 unfold LC at h
 simp at h
theorem Kv(h:eB y ws L r M)(hN:gO y ws R (cK ps))(l:List (Nat×Nat))(hl:l.Nodup)(qZ:∀x∈l,x.1<(ws:)/\x.2<(ws.getD x.1 []:)):(fk (l.map λx=>cT ps x.1 (ws.getD x.1 []) x.2)).Nodup:=by
 unfold fk
 induction l with
 | nil=>exact List.Pairwise.nil
 | cons x t ih=>
  rw[Qbv]at hl
  rw[Qas,Qbp,Qdd]
  obtain ⟨x1,x2⟩:=qZ x Qak
  have ex:=ja (ps:=ps) (ws:=ws) (c:=x.1) x2
  refine ⟨?_,ih hl.2 λz hz=>qZ z (Qah _ hz),λa ha b hb e=>?_⟩
  ·rw[ex.1,ex.2,Qbv]
   exact ⟨by simpa using (fi h hN x1 x1 x2 x2).1,by simp⟩
  ·obtain ⟨c4,hc4,O4⟩:=Qbo.mp hb
   obtain ⟨z,hz,rfl⟩:=Qa4.mp hc4
   obtain ⟨z1,z2⟩:=qZ z (Qah _ hz)
   have ez:=ja (ps:=ps) (ws:=ws) (c:=z.1) z2
   have fq:(x.1,x.2)≠(z.1,z.2):=λq=>hl.1 (by
    have:x=z:=Prod.ext (Prod.mk.inj q).1 (Prod.mk.inj q).2
    rw[this];exact hz)
   have n1:=fi h hN x1 z1 x2 z2
   have n2:=fi h hN z1 x1 z2 x2
   rw[ex.1,ex.2]at ha
   rw[ez.1,ez.2]at O4
   have ha':a=pI ws (cK ps) x.1 ((x.2:Int) - 1)\/a=pO ws (cK ps) x.1 x.2:=by simpa using ha
   have vf:b=pI ws (cK ps) z.1 ((z.2:Int) - 1)\/b=pO ws (cK ps) z.1 z.2:=by simpa using O4
   rw[e]at ha'
   rcases ha' with p | p<;>rcases vf with q | q<;>rw[p]at q
   ·exact (n1.2 fq).1 q
   ·exact n1.1 q
   ·exact n2.1 q.symm
   ·exact (n1.2 fq).2 q
theorem Kw(h:eB y ws L r M)(hN:gO y ws R (cK ps))(l:List (Nat×Nat))(hl:l.Nodup)(qZ:∀x∈l,x.1<(ws:)/\x.2<(ws.getD x.1 []:)):cl (λx z=>o7 x z||o7 z x) (uf (l.map λx=>cT ps x.1 (ws.getD x.1 []) x.2))=cl (To ws (cK ps)) l:=by
 unfold uf
 rw[Qbj,Ks]
 refine Ba (Qfg (λ{a b} ha hb BJ=>?_) hl)
 obtain ⟨a1,a2⟩:=qZ a ha
 obtain ⟨b1,b2⟩:=qZ b hb
 have ea:=ja (ps:=ps) (ws:=ws) (c:=a.1) a2
 have eb:=ja (ps:=ps) (ws:=ws) (c:=b.1) b2
 have fq:(a.1,a.2)≠(b.1,b.2):=BJ
 have n1:=fi h hN a1 b1 a2 b2
 have n2:=fi h hN b1 a1 b2 a2
 have n3:=fi h hN a1 a1 a2 a2
 have n4:=fi h hN b1 b1 b2 b2
 show (o7 (min _ _,max _ _) (min _ _,max _ _)||o7 (min _ _,max _ _) (min _ _,max _ _))=To ws (cK ps) a b
 rw[ea.1,ea.2,eb.1,eb.2,NP n3.1 n4.1 (n1.2 fq).1 n1.1 (Ne.symm n2.1) (n1.2 fq).2]
 rfl
end
noncomputable def kr(w:c0):Int:=(((w:) / R6 w:Nat):Int)
theorem Bb{w:c0}(hw:w≠[])(hv:v≠[])(e:∀d:Int,bZ w w d 0↔bZ v v d 0):R6 w=R6 v:=Gw hw hv (um hw) (um hv) e
theorem Bc{w:c0}(hn:n<=(w:)):(dj w n:)=(w:):=by
 unfold dj
 rw[X4,Qaz,Qai,Qb6 hn,Nat.sub_add_cancel hn]
theorem R_{w:c0}(h:w≠[])(e:(v:)=(w:)):v≠[]:=λz=>h (Qch.mp (by rw[<-e,z];rfl))
theorem Sa{w:c0}(hw:w≠[])(hn:n<=(w:)):kr (dj w n)=kr w:=by
 unfold kr
 rw[Bc hn,Bb (R_ hw (Bc hn)) hw (Nt hw hn)]
theorem Sb{w:c0}(hy:Yd y)(hw:SW y w):kr (di w)=kr w:=by
 unfold kr
 rw[bH,Bb (p5 hw.ne) hw.ne (Nu hy hw)]
noncomputable def rq(y w:c0):Int:=SS y w w+2*(kr w - 1)
noncomputable def Kx(y:c0)(ws:List c0):Int:=sm (ws:) (λc=>rq y (ws.getD c.toNat []))+2*zL (ws:) (λc d=>SS y (ws.getD c.toNat []) (ws.getD d.toNat []))
theorem Sd(h:Int->Int)(n:Nat):2*sm n h=sm n λi=>2*h i:=by
 rw[show (λi=>2*h i)=λi=>h i+h i from funext λi=>Int.two_mul _,t_,Int.two_mul]
theorem Se{N:Nat->Nat->Nat->Nat}(h:eB y ws (Hd ws) (He ws) M)(hN:Lies y ws (Hd ws) (He ws) M N):2*(cl (To ws N) (places ws):Int)=Kx y ws:=by
 unfold places Kx
 rw[JI,Qet,Sd]
 congr 1
 ·refine aH λc hc=>?_
  rw[Qap]
  have a:=JE h hN hc
  rw[O9 h.yd (h.sw c hc) (h.sw c hc)]at a
  rw[show zL (92:) (λi j=>one (To ws N (c,i.toNat) (c,j.toNat)=true))=zL (92:) (λi j=>one (jg (pO ws N c) (pI ws N c) (pO ws N c) (pI ws N c) i j=true)) from pZ λi j _ _=>by
   unfold To
   rw[Qap,Qap],a]
  rfl
 ·congr 1
  refine pZ λc d jV hd=>?_
  rw[Qap,Qap, <-O9 h.yd (h.sw c (Qd5 jV hd)) (h.sw d hd), <-Gu h hN (c:=c) (d:=d) (Qd5 jV hd) hd (Qa6 jV)]
  exact br λi j _ _=>by
   unfold To
   rw[Qap,Qap]
theorem GH(hy:Yd y)(hw:∀w∈ws,SW y w)(h:y7 y ws os):(fk (dH y ws os)).Nodup/\2*(cl (λx z=>o7 x z||o7 z x) (uf (dH y ws os)):Int)=Kx y ws:=by
 obtain ⟨M,hC,hT⟩:=R9 hy hw h
 have hN:Lies y ws (Hd ws) (He ws) M (cK 127):=lies_of hy hC.sw hT
 have qZ:∀x∈places ws,x.1<(ws:)/\x.2<(ws.getD x.1 []:):=λx hx=>yE.mp hx
 unfold dH
 rw[qg]
 refine ⟨Kv hC hN _ (Ku ws _) qZ,?_⟩
 rw[Kw hC hN _ (Ku ws _) qZ]
 exact Se hC hN
theorem Ky(y w:c0):Kx y [w]=rq y w:=by
 show (0+rq y w)+2*(0+0)=_
 lia
theorem Ti.ok(h:Ti y ws):JW y ws:=⟨h.pU,λw hw=>⟨(h.sw w hw).1.cn,(h.sw w hw).2⟩⟩
theorem GI(h:Ti y ws):(dH y ws os:)<=24:=by
 unfold dH
 rw[qg,Qaa]
 exact h.all
theorem NQ{w:c0}(h:SW y w)(hz:(w:)<=12):Ti y [w]:=⟨λv hv=>by rw[Qab.mp hv];exact ⟨h,hz⟩,by show 1<=4;decide,by
 have:=yH (ws:=[w]) (m:=12) (λv hv=>by rw[Qab.mp hv];exact hz) 1 (Qad _)
 unfold places
 show (AO [w] 1:)<=24
 lia⟩
inductive uq(p_:c7)(vs:List V)(H:Hp)(Q:VK)(cy:XK):Prop
 | mk (y:c0) (wt:Addr) (ws:List c0) (_:vs=[.str (S y),.ref wt]) (_:Yd y) (_:(y:)<=8) (_:Ti y ws) (_:H wt=some (.tup (gE ws))) (_:∀(n:Nat) H',aq H H'->2*(n:Int)=Kx y ws->Q (.int n) H'):uq p_ vs H Q cy
def Bd(p_:c7):Sp:=uq p_
theorem GJ(h:Bd K vs H Q E):(vs:)=2:=by obtain ⟨_,_,_,rfl,_⟩:=h;rfl
inductive Be(p_:c7)(vs:List V)(H:Hp)(Q:VK)(cy:XK):Prop
 | mk (y w:c0) (_:vs=[.str (S y),.str (S w)]) (_:Yd y) (_:(y:)<=8) (_:SW y w) (_:(w:)<=12) (_:∀(n:Nat) H',aq H H'->2*(n:Int)=rq y w->Q (.int n) H'):Be p_ vs H Q cy
def Kz(p_:c7):Sp:=Be p_
theorem len_own(h:Kz K vs H Q E):(vs:)=2:=by obtain ⟨_,_,rfl,_⟩:=h;rfl
noncomputable def r9:List Int->Int
 | []=>0
 | a::l=>a+r9 l
theorem y_:∀a b:List Int,r9 (a++b)=r9 a+r9 b
 | [],b=>by show r9 b=0+r9 b;lia
 | x::a,b=>by show x+r9 (a++b)=x+r9 a+r9 b;rw[y_ a b];lia
noncomputable def fT(m p q t:Int):Bool:=decide ((t - p)%m<(q - p)%m)
noncomputable def cN(p q t:Int):Bool:=if p<=q then decide (p<=t/\t<q) else decide (p<=t\/t<q)
theorem Bf{m a:Int}(h1: -m<a)(h2:a<m):a%m=if 0<=a then a else a+m:=by
 split
 ·exact Qbf () h2
 ·rw[<-Qdj];exact Qbf () ()
theorem jb{m p q t:Int}(hp:0<=p/\p<m)(hq:0<=q/\q<m)(ht:0<=t/\t<m):fT m p q t=cN p q t:=by
 unfold fT
 rw[Bf () (),Bf () ()]
 by_cases z:p<=q
 ·rw[show cN p q t=decide (p<=t/\t<q) by unfold cN;rw[if_pos z]]
  refine decide_eq_decide.mpr ⟨λh=>?_,λh=>?_⟩
  ·split at h<;>split at h<;>lia
  ·split<;>split<;>lia
 ·rw[show cN p q t=decide (p<=t\/t<q) by unfold cN;rw[if_neg z]]
  refine decide_eq_decide.mpr ⟨λh=>?_,λh=>?_⟩
  ·split at h<;>split at h<;>lia
  ·split<;>split<;>lia
structure Apart(p q r s:Int):Prop where
 pq:p≠q
 pr:p≠r
 ps:p≠s
 qr:q≠r
 qs:q≠s
 rs:r≠s
theorem xH{p q r s:Int}(h:Apart p q r s):J0 p q r s=!decide (cN p q r=cN p q s):=by
 obtain ⟨h1,h2,h3,h4,h5,h6⟩:=h
 have e:∀t:Int,t≠p->t≠q->ED (if q<p then q else p) (if q>p then q else p) t=if p<=q then cN p q t else !cN p q t:=λt t1 t2=>by
  unfold ED cN
  by_cases z:p<=q
  ·rw[if_pos z,if_pos z,if_neg (),if_pos (), <-Qex]
   exact decide_eq_decide.mpr ⟨λy=>by lia,λy=>by lia⟩
  ·rw[if_neg z,if_neg z,if_pos (),if_neg (), <-Qex, <-decide_not]
   exact decide_eq_decide.mpr ⟨λy=>by lia,λy=>by lia⟩
 unfold J0
 rw[e r (Ne.symm h2) (Ne.symm h4),e s (Ne.symm h3) (Ne.symm h5)]
 by_cases z:p<=q
 ·rw[if_pos z,if_pos z]
 ·rw[if_neg z,if_neg z]
  cases cN p q r<;>cases cN p q s<;>rfl
theorem za:∀l:List Int,l.sum=r9 l
 | []=>rfl
 | a::l=>by rw[Qbs,za l];rfl
noncomputable def Bg(m:Int)(x y:C4):Int:=if fT m x.2.2.1 x.2.2.2 y.2.2.1=true then 1 else -1
noncomputable def gS(m:Int)(x y:C4):Int:=if meets x y=true then Bg m x y else 0
noncomputable def C9(m:Int)(x:C4)(os:List C4):Int:=r9 (os.map (gS m x))
noncomputable def Pk(cs:List C4)(c:Nat):List C4:=cs.filter λx=>decide (x.1=c)
noncomputable def ur(cs:List C4)(c d:Nat):Int:=r9 ((Pk cs c).map λx=>C9 (2*((cs:):Int)) x (Pk cs d))
noncomputable def gL(m p q:Int)(w:Nat×Nat):Int:=if fT m p q w.1=fT m p q w.2 then 0 else if fT m p q w.1=true then 1 else -1
structure Tq(m:Nat)(x y:C4):Prop where
 ap:Apart x.2.2.1 x.2.2.2 y.2.2.1 y.2.2.2
 b1:x.2.2.1<m
 b2:x.2.2.2<m
 b3:y.2.2.1<m
 b4:y.2.2.2<m
theorem Xd{k:Nat}{x y:C4}(h:Tq k x y)(hm:k<=m)(hn:k<=n):gS (m:Int) x y=gL (n:Int) x.2.2.1 x.2.2.2 (y.2.2.1,y.2.2.2):=by
 obtain ⟨ap,b1,b2,b3,b4⟩:=h
 have e1:∀j:Nat,k<=j->fT (j:Int) x.2.2.1 x.2.2.2 y.2.2.1=cN x.2.2.1 x.2.2.2 y.2.2.1:=λj hj=>jb () () ()
 have e2:∀j:Nat,k<=j->fT (j:Int) x.2.2.1 x.2.2.2 y.2.2.2=cN x.2.2.1 x.2.2.2 y.2.2.2:=λj hj=>jb () () ()
 unfold gS gL Bg meets
 rw[xH ap]
 simp only[e1 m hm,e1 n hn,e2 n hn]
 cases cN x.2.2.1 x.2.2.2 y.2.2.1<;>cases cN x.2.2.1 x.2.2.2 y.2.2.2<;>simp
theorem ET{ps:List (Nat×Nat×Nat)}{ws:List c0}{c:Nat}{w:c0}(hw:ws[c]? =some w):∀n,n<=(ws:)->Pk (fj ps ws n) c=if c<n then bB ps c w (w:) else []
 | 0,_=>rfl
 | n+1,h=>by
  have hn:n<(ws:):=by lia
  have hg:ws[n]? =some ws[n]:=Qy hn
  have ih:=ET (ps:=ps) hw n ()
  rw[gq hg]
  unfold Pk at ih ⊢
  rw[Qcl,ih]
  have e:∀x∈bB ps n ws[n] ws[n].length,x.1=n:=λx hx=>by
   obtain ⟨i,_,rfl⟩:=Qa4.mp hx
   rfl
  by_cases z:c=n
  ·subst z
   have ew:ws[c]=w:=by rw[hg]at hw;exact Qal hw
   rw[if_neg (Qbw _),if_pos (Qcs _),Qdx,ew,List.filter_eq_self.mpr λx hx=>decide_eq_true (by rw[<-ew]at hx;exact e x hx)]
  ·rw[List.filter_eq_nil_iff.mpr λx hx=>by rw[e x hx];simpa using λy=>z y.symm,Qbh]
   by_cases y:c<n
   ·rw[if_pos y,if_pos ()]
   ·rw[if_neg y,if_neg ()]
theorem lW{w:c0}(hw:ws[c]? =some w):Pk (dH y ws os) c=bB 127 c w (w:):=by
 unfold dH
 rw[ET hw _ (Qad _),if_pos (Qz.mp hw).1]
theorem qh{l:List (Nat×Nat×Nat)}{a b:Nat×Nat×Nat}(ha:a∈l)(hb:b∈l)(h:a≠b):l.idxOf a≠l.idxOf b:=λe=>h (by
 have h1:=Qb3 (Qaj ha)
 have h2:=Qb3 (Qaj hb)
 rw[<-h1, <-h2]
 simp only[e])
theorem EU{w:c0}(h:Yd y)(ho:jo y ws os)(lX:JW y ws)(hw:ws[c]? =some w)(hv:ws[d]? =some v)(jV:c≠d)(hi:i<(w:))(hj:j<(v:)):
  Tq (bR y os:) (cT 127 c w i) (cT 127 d v j):=by
 have inn:∀{c i:Nat} {w:c0},ws[c]? =some w->i<(w:)->(c,rW (w:) i,az (w.getD (rW (w:) i) 0))∈bR y os/\(c,i,w.getD i 0)∈bR y os/\(c,rW (w:) i,az (w.getD (rW (w:) i) 0))≠(c,i,w.getD i 0):=λ{c i w} hw hi=>by
  have Pl:=(lX.all _ (Qae hw)).1
  have e1:w[rW (w:) i]? =some (w.getD (rW (w:) i) 0):=by rw[Qam,Qy (yX hi)];rfl
  have e2:w[i]? =some (w.getD i 0):=by rw[Qam,Qy hi];rfl
  refine ⟨xw h ho hw e1 (Pl _ (Qae e1)) (.inr rfl),xw h ho hw e2 (Pl _ (Qae e2)) (.inl rfl),λz=>?_⟩
  have z1:rW (w:) i=i:=congrArg (λt=>t.2.1) z
  have z2:az (w.getD (rW (w:) i) 0)=w.getD i 0:=congrArg (λt=>t.2.2) z
  rw[z1]at z2
  exact eM (h.lt _ (Pl _ (Qae e2))) z2
 obtain ⟨a1,a2,a3⟩:=inn hw hi
 obtain ⟨b1,b2,b3⟩:=inn hv hj
 have nc:∀{p q:Nat×Nat},(c,p.1,p.2)≠(d,q.1,q.2):=λz=>jV (congrArg Prod.fst z)
 have cast:∀{a b:Nat},a≠b->(a:Int)≠(b:Int):=λz y=>z ()
 have q1:=cast (qh a1 a2 a3)
 have q2:=cast (qh a1 b1 (nc (p:=(_,_)) (q:=(_,_))))
 have q3:=cast (qh a1 b2 (nc (p:=(_,_)) (q:=(_,_))))
 have q4:=cast (qh a2 b1 (nc (p:=(_,_)) (q:=(_,_))))
 have q5:=cast (qh a2 b2 (nc (p:=(_,_)) (q:=(_,_))))
 have q6:=cast (qh b1 b2 b3)
 exact ⟨⟨q1,q2,q3,q4,q5,q6⟩,Qaj a1,Qaj a2,Qaj b1,Qaj b2⟩
theorem len_sub{α:Type}[DecidableEq α]:∀{l m:List α},l.Nodup->(∀x∈l,x∈m)->(l:)<=(m:)
 | [],m,_,_=>Qax _
 | a::l,m,hn,hs=>by
  obtain ⟨n1,n2⟩:=Qbv.mp hn
  have ha:=hs a Qak
  have:=len_sub (l:=l) (m:=m.erase a) n2 λx hx=>(List.mem_erase_of_ne (λz:x=a=>n1 (by rw[<-z];exact hx))).mpr (hs x (Qah _ hx))
  rw[List.length_erase_of_mem ha]at this
  have hp:0<(m:):=List.length_pos_of_mem ha
  rw[Qa9]
  lia
noncomputable def ptL(ws:List c0)(n:Nat):List (Nat×Nat×Nat):=(List.range n).flatMap λc=>(List.range (92:)).flatMap λi=>[(c,i,(ws|||c).getD i 0),(c,i,az ((ws|||c).getD i 0))]
theorem KA{α:Type}(f:Nat->List α)(hf:∀i,(f i:)=2):∀l:c0,(l.flatMap f:)=2*(l:)
 | []=>rfl
 | a::l=>by rw[Qbp,X4,hf,KA f hf l,Qa9];lia
theorem KC{α β:Type}{f:Nat->List α}{g:Nat->List β}(h:∀c,(f c:)=2*(g c:)):∀l:c0,(l.flatMap f:)=2*(l.flatMap g:)
 | []=>rfl
 | a::l=>by rw[Qbp,Qbp,X4,X4,h,KC h l];lia
theorem NR(ps:List (Nat×Nat×Nat))(ws:List c0)(n:Nat):(ptL ws n:)=2*(fj ps ws n:):=
 KC (λc=>by
  show (((List.range (92:)).flatMap λi=>[(c,i,(ws|||c).getD i 0),(c,i,az ((ws|||c).getD i 0))]):)=2*(bB ps c 92 (92:):)
  rw[KA _ (λi=>rfl)]
  unfold bB
  rw[Qaa]) _
theorem EV(h:Yd y)(ho:jo y ws os):(bR y os:)<=2*(dH y ws os:):=by
 have:=len_sub (yV h ho) (m:=ptL ws (ws:)) λx hx=>?_
 ·rw[NR 127]at this;exact this
 ·obtain ⟨e,he,hp⟩:=Qbo.mp hx
  unfold dF at hp
  obtain ⟨p,vO,rfl⟩:=Qa4.mp hp
  have hm:p.pair∈(mq y os e).map Pr.pair:=Qa4.mpr ⟨p,vO,rfl⟩
  rw[(ho.at h he).mem_iff]at hm
  obtain ⟨c,hc,hc2⟩:=Qbo.mp hm
  obtain ⟨i,hi,DZ⟩:=Qa4.mp hc2
  obtain ⟨hi3,ND⟩:=Qbr.mp hi
  have ec:p.c=c:=(congrArg Prod.fst DZ).symm
  have ei:p.i=i:=(congrArg Prod.snd DZ).symm
  refine Qbo.mpr ⟨c,hc,Qbo.mpr ⟨i,hi3,?_⟩⟩
  rw[ec,ei]
  generalize (ws|||c).getD i 0=l at ND ⊢
  unfold BK at ND
  rw[Bool.or_eq_true]at ND
  have Sf:=h.lt e he
  rcases Sf with g | g
  ·rw[(bg e g).2.1]at ND
   rcases ND with z | z
   ·rw[of_decide_eq_true z];exact Qak
   ·rw[of_decide_eq_true z,aF (.inl g)];exact Qah _ Qak
  ·rw[(bM e g).2.1]at ND
   rcases ND with z | z
   ·rw[of_decide_eq_true z,aF (.inr g)];exact Qah _ Qak
   ·rw[of_decide_eq_true z,aF (.inr g)];exact Qak
theorem Pm{α:Type}(p:α->Bool)(u:α)(h:p u=true):[u].filter p=[u]:=by rw[Qfl,if_pos h];rfl
theorem Pn{α:Type}(p:α->Bool)(u:α)(h: ¬p u=true):[u].filter p=[]:=by rw[Qfl,if_neg h];rfl
noncomputable def oM(ns:List Int):List V:=ns.map V.int
theorem fI(ns:List Int):(oM ns:)=(ns:):=by unfold oM;rw[Qaa]
theorem oN(ns:List Int)(i:Int):oM ns++[V.int i]=oM (ns++[i]):=by unfold oM;rw[Qag];rfl
theorem uv{v:V}(h:(oM ns)[i]? =some v):∃n,ns[i]? =some n/\v= .int n:=by
 unfold oM at h
 rw[Qat]at h
 cases e:ns[i]? with
 | none=>rw[e]at h;cases h
 | some n=>rw[e]at h;exact ⟨n,rfl,(Qal h).symm⟩
theorem qj{α β:Type}{f:α->β}{l:List α}{v:β}(h:(l.map f)[i]? =some v):∃x,l[i]? =some x/\v=f x:=by
 rw[Qat]at h
 cases e:l[i]? with
 | none=>rw[e]at h;cases h
 | some n=>rw[e]at h;exact ⟨n,rfl,(Qal h).symm⟩
noncomputable def bJ(w:c0)(x:Nat):Int:=PyProof.Rows.cnt x w - PyProof.Rows.cnt (az x) w
theorem lY(hy:Yd y)(h:x∈aQ y):x∈y/\x∈aY:=by
 have h1:=Qbr.mp ((gG y).mem_iff.mp h)
 refine ⟨h1.1,?_⟩
 have h2:=h1.2
 rw[ft (hy.lt x h1.1)]at h2
 exact of_decide_eq_true h2
def Sg(H:Hp)(y:c0)(rs:List Addr):Prop:=(rs:)=(aQ y:)/\∀(i:Nat) (a:Addr) (x:Nat),rs[i]? =some a->(aQ y)[i]? =some x->H a=some (.tup (oM ((aQ y).map (sg y x))))
noncomputable def LS(rs:List Addr):List V:=rs.map V.ref
theorem NS(rs:List Addr):(LS rs:)=(rs:):=by unfold LS;rw[Qaa]
theorem KD(rs:List Addr)(a:Addr):LS rs++[V.ref a]=LS (rs++[a]):=by unfold LS;rw[Qag];rfl
noncomputable def LU(ns:List Int):List PyData:=ns.map PyData.int
theorem C_(K:c7)(H:Hp):∀ns:List Int,tm K H (oM ns) (LU ns)
 | []=> .nil
 | n::ns=> .cons (.int n) (C_ K H ns)
theorem Bh:∀ns:List Int,PyData.hasDictAll (LU ns)=false
 | []=>rfl
 | n::ns=>by
  show (PyData.hasDict (.int n)||PyData.hasDictAll (LU ns))=false
  rw[Bh ns];rfl
inductive Bi(p_:c7)(vs:List V)(H:Hp)(Q:VK)(cy:XK):Prop
 | mk (y w:c0) (_:vs=[.str (S y),.str (S w)]) (_:Yd y) (_:(y:)<=8) (_:∀t H',H t=none->H' t=some (.tup (oM ((aQ y).map (bJ w))))->aq H H'->Q (.ref t) H'):Bi p_ vs H Q cy
def KG(p_:c7):Sp:=Bi p_
theorem NT(h:KG K vs H Q E):(vs:)=2:=by obtain ⟨c,_,rfl,_⟩:=h;rfl
inductive oO(p_:c7)(vs:List V)(H:Hp)(Q:VK)(cy:XK):Prop
 | mk (y:c0) (x z:Nat) (_:vs=[.str (S y),.str (S [x]),.str (S [z])]) (_:Yd y) (_:(y:)<=8) (_:x∈aQ y) (_:z∈aQ y) (_:Q (.int (sg y x z)) H):oO p_ vs H Q cy
def uw(p_:c7):Sp:=oO p_
theorem Bj(h:uw K vs H Q E):(vs:)=3:=by obtain ⟨c,_,_,rfl,_⟩:=h;rfl
inductive kS(p_:c7)(vs:List V)(H:Hp)(Q:VK)(cy:XK):Prop
 | mk (y:c0) (x:Nat) (_:vs=[.str (S y),.str (S [x])]) (_:Yd y) (_:(y:)<=8) (_:x∈aQ y) (_:∀t H',H t=none->H' t=some (.tup (oM ((aQ y).map (sg y x))))->aq H H'->Q (.ref t) H'):kS p_ vs H Q cy
def oP(p_:c7):Sp:=kS p_
theorem vP(h:oP K vs H Q E):(vs:)=2:=by obtain ⟨c,_,rfl,_⟩:=h;rfl
def Bk(_:c7):Sp:=λvs H Q _=>∃(y:c0),vs=[.str (S y)]/\Yd y/\(y:)<=8/\∀t rs H',H t=none->H' t=some (.tup (LS rs))->Sg H' y rs->aq H H'->Q (.ref t) H'
theorem GK(h:Bk K vs H Q E):(vs:)=1:=by obtain ⟨c,rfl,_⟩:=h;rfl
inductive oQ(p_:c7)(vs:List V)(H:Hp)(Q:VK)(cy:XK):Prop
 | mk (y w v:c0) (_:vs=[.str (S y),.str (S w),.str (S v)]) (_:Yd y) (_:(y:)<=8) (_:(w:)<=1000) (_:∀H',aq H H'->Q (.int (cr (sg y) (bJ w) (bJ v) (aQ y) (aQ y))) H'):oQ p_ vs H Q cy
def uA(p_:c7):Sp:=oQ p_
theorem Bl(h:uA K vs H Q E):(vs:)=3:=by obtain ⟨c,_,_,rfl,_⟩:=h;rfl
theorem zc:∀ns:List Int,PyData.canLayAll0 (LU ns)=true
 | []=>rfl
 | n::ns=>by
  show (PyData.canLay0 (.int n)&&PyData.canLayAll0 (LU ns))=true
  rw[zc ns];rfl
theorem EW:∀ns:List Int,PyData.depthAll (LU ns)<=1
 | []=>by decide
 | n::ns=>by
  have:=EW ns
  show max (PyData.depth (.int n)) (PyData.depthAll (LU ns))<=1
  exact Nat.max_le.mpr ⟨by show _<=1;first | exact Qad _ | exact Qax _,this⟩
theorem NU(ns:List Int):(PyData.list (LU ns)).depth<=60:=by
 have:=EW ns
 show PyData.depthAll (LU ns)+1<=60
 lia
theorem uC(c:Nat):∀l:c0,0<=PyProof.Rows.cnt c l/\PyProof.Rows.cnt c l<=((l:):Int)
 | []=>by rw[Qc2];exact ⟨(),()⟩
 | n::l=>by
  have:=uC c l
  rw[Qdz,Qa9]
  split<;>(constructor<;>lia)
theorem NV{w:c0}{j:Int}(h:(w:)<=1000):BQ (bJ w x) j:=by
 have h1:=uC x w
 have h2:=uC (az x) w
 unfold bJ
 exact .inl ⟨(),()⟩
theorem Si{i:Int}:BQ i (sg y x z):=by
 refine .inr ?_
 unfold sg
 split
 ·exact ⟨∅,∅⟩
 ·split
  ·exact ⟨∅,∅⟩
  ·split<;>exact ⟨∅,∅⟩
noncomputable def uu(a b:Nat):Int:=one (a<b)
theorem zd(h:a≠b):uu a b=1 - uu b a:=by
 unfold uu one
 split<;>split<;>lia
theorem Po(h:a<b↔a'<b'):uu a b=uu a' b':=by
 unfold uu one
 by_cases z:a<b
 ·rw[if_pos z,if_pos (h.mp z)]
 ·rw[if_neg z,if_neg λg=>z (h.mpr g)]
theorem Xe{k:Nat}{x y:C4}(h:Tq k x y)(hm:k<=m):gS (m:Int) x y=uu x.2.2.1 y.2.2.1 - uu x.2.2.2 y.2.2.1 - uu x.2.2.1 y.2.2.2+uu x.2.2.2 y.2.2.2:=by
 rw[Xd h hm hm]
 obtain ⟨⟨h1,h2,h3,h4,h5,h6⟩,b1,b2,b3,b4⟩:=h
 unfold gL
 have e1:fT (m:Int) x.2.2.1 x.2.2.2 y.2.2.1=cN x.2.2.1 x.2.2.2 y.2.2.1:=jb () () ()
 have e2:fT (m:Int) x.2.2.1 x.2.2.2 y.2.2.2=cN x.2.2.1 x.2.2.2 y.2.2.2:=jb () () ()
 show (if fT (m:Int) x.2.2.1 x.2.2.2 y.2.2.1=fT (m:Int) x.2.2.1 x.2.2.2 y.2.2.2 then (0:Int) else if fT (m:Int) x.2.2.1 x.2.2.2 y.2.2.1=true then 1 else -1)=_
 rw[e1,e2]
 generalize x.2.2.1=p at*
 generalize x.2.2.2=q at*
 generalize y.2.2.1=r at*
 generalize y.2.2.2=s at*
 clear e1 e2 b1 b2 b3 b4
 have key:∀t:Nat,(t:Int)≠p->(t:Int)≠q->(cN p q t=true↔uu p t - uu q t+(if p<q then 0 else 1)=1)/\(cN p q t=false↔uu p t - uu q t+(if p<q then 0 else 1)=0):=λt t1 t2=>by
  have nl:cN p q t=decide (uu p t - uu q t+(if p<q then 0 else 1)=1):=by
   unfold cN uu one
   by_cases z:(p:Int)<=q
   ·rw[if_pos z,if_pos (by lia:p<q)]
    refine decide_eq_decide.mpr ⟨λg=>?_,λg=>?_⟩
    ·rw[if_pos (),if_neg ()];rfl
    ·split at g<;>split at g<;>lia
   ·rw[if_neg z,if_neg (by lia: ¬p<q)]
    refine decide_eq_decide.mpr ⟨λg=>?_,λg=>?_⟩
    ·split<;>split<;>lia
    ·split at g<;>split at g<;>lia
  have rg:uu p t - uu q t+(if p<q then 0 else 1)=1\/uu p t - uu q t+(if p<q then 0 else 1)=0:=by
   unfold uu one
   split<;>split<;>split<;>lia
  rw[nl]
  refine ⟨decide_eq_true_iff,?_⟩
  rw[decide_eq_false_iff_not]
  lia
 have kr:=key r (Ne.symm h2) (Ne.symm h4)
 have ks:=key s (Ne.symm h3) (Ne.symm h5)
 cases er:cN p q r<;>cases es:cN p q s
 ·rw[if_pos rfl];have:=kr.2.mp er;have:=ks.2.mp es;lia
 ·rw[if_neg ∅,if_neg ∅];have:=kr.2.mp er;have:=ks.1.mp es;lia
 ·rw[if_neg ∅,if_pos rfl];have:=kr.1.mp er;have:=ks.2.mp es;lia
 ·rw[if_pos rfl];have:=kr.1.mp er;have:=ks.1.mp es;lia
theorem qk(hy:Yd y)(ho:jo y ws os){l:Nat}{w:c0}(hw:ws[c]? =some w)(hl:w[i]? =some l)(ly:l∈y)(he:e=l\/e=az l):
  e∈y/\∃(m:Nat) (p:Pr),(mq y os e)[m]? =some p/\p.pair=(c,i)/\(bR y os).idxOf (c,i,e)=((y.take (y.idxOf e)).flatMap (dF y os):)+m:=by
 have ey:e∈y:=he.elim (λz=>z▸ly) λz=>z▸hy.cl _ ly
 have qZ:=xw hy ho hw hl ly he
 unfold bR at qZ
 obtain ⟨e',zK,hp⟩:=Qbo.mp qZ
 unfold dF at hp
 obtain ⟨p,xx,nL⟩:=Qa4.mp hp
 obtain ⟨q1,W8⟩:=Prod.mk.inj nL
 obtain ⟨q2,q3⟩:=Prod.mk.inj W8
 clear W8
 subst q3
 obtain ⟨m,hm,em⟩:=Qde xx
 have w6:(mq y os e')[m]? =some p:=by rw[Qy hm,em]
 refine ⟨ey,m,p,w6,by unfold Pr.pair;rw[q1,q2],?_⟩
 have hk:y[y.idxOf e']? =some e':=by rw[Qy (Qaj ey),Qb3]
 have:=EE (os:=os) hk w6
 rw[q1,q2]at this
 exact p6 (yV hy ho) this
theorem ir(hy:Yd y)(ho:jo y ws os){l e' l':Nat}{w:c0}(hw:ws[c]? =some w)(hl:w[i]? =some l)(ly:l∈y)(he:e=l\/e=az l)(hv:ws[d]? =some v)(lF:v[j]? =some l')(Bm:l'∈y)(zK:e'=l'\/e'=az l')(fq:e≠e'):
  uu ((bR y os).idxOf (c,i,e)) ((bR y os).idxOf (d,j,e'))=uu (y.idxOf e) (y.idxOf e'):=by
 obtain ⟨ey,m,p,hm,_,e1⟩:=qk hy ho hw hl ly he
 obtain ⟨ey',m',p',w6,_,e2⟩:=qk hy ho hv lF Bm zK
 have hk:y[y.idxOf e]? =some e:=by rw[Qy (Qaj ey),Qb3]
 have B8:y[y.idxOf e']? =some e':=by rw[Qy (Qaj ey'),Qb3]
 have m2:=(Qz.mp hm).1
 have m2':=(Qz.mp w6).1
 rw[e1,e2]
 refine Po ?_
 rcases Qdh (bj ey ey' fq) with z | z
 ·have:=p9 (dF y os) hk z
  rw[ue]at this
  lia
 ·have:=p9 (dF y os) B8 z
  rw[ue]at this
  lia
theorem Bn(hy:Yd y)(ho:jo y ws os){l l':Nat}{w:c0}(hw:ws[c]? =some w)(hl:w[i]? =some l)(ly:l∈y)(he:e=l\/e=az l)(hv:ws[d]? =some v)(lF:v[j]? =some l')(Bm:l'∈y)(zK:e=l'\/e=az l')(jV:c≠d):
  uu ((bR y os).idxOf (c,i,e)) ((bR y os).idxOf (d,j,e))+uu ((bR y os).idxOf (c,i,az e)) ((bR y os).idxOf (d,j,az e))=1:=by
 have ll:=hy.lt l ly
 have ll':=hy.lt l' Bm
 have fl:az e=l\/az e=az l:=he.elim (λz=> .inr (by rw[z])) λz=> .inl (by rw[z,aF ll])
 have fl':az e=l'\/az e=az l':=zK.elim (λz=> .inr (by rw[z])) λz=> .inl (by rw[z,aF ll'])
 obtain ⟨ey,m,p,hm,ep,e1⟩:=qk hy ho hw hl ly he
 obtain ⟨_,n,q,hn,eq,e2⟩:=qk hy ho hv lF Bm zK
 obtain ⟨_,m',p',w6,L0,Ci⟩:=qk hy ho hw hl ly fl
 obtain ⟨_,n',q',P4,W9,J4⟩:=qk hy ho hv lF Bm fl'
 have le:=hy.lt e ey
 rw[e1,e2,Ci,J4]
 have rv:mq y os (az e)=(mq y os e).reverse:=by
  have ho:vL y os (az e)=vL y os e:=by unfold vL;rw[(kJ e le.mem).1]
  unfold mq
  rw[ho,(kJ e le.mem).2,(kJ _ le.az.mem).2,dN e le.mem]
  cases aB e
  ·show (if false=true then _ else _)=List.reverse (if true=true then _ else _)
   rw[if_neg ∅,if_pos rfl,Qer]
  ·show (if true=true then _ else _)=List.reverse (if false=true then _ else _)
   rw[if_pos rfl,if_neg ∅]
 have nd:((mq y os e).map Pr.pair).Nodup:=(ho.at hy ey).nodup_iff.mpr (p7 _ _ _)
 rw[rv]at w6 P4
 obtain ⟨b1,tH⟩:=rX w6
 obtain ⟨b2,mZ⟩:=rX P4
 have uniq:∀{a b:Nat} {u u':Pr},(mq y os e)[a]? =some u->(mq y os e)[b]? =some u'->u.pair=u'.pair->a=b:=λ{a b u u'} h1 h2 h3=>by
  obtain ⟨ha,ea⟩:=Qz.mp h1
  obtain ⟨hb,eb⟩:=Qz.mp h2
  exact gix nd (i:=a) (j:=b) (by rw[Qaa];exact ha) (by rw[Qaa];exact hb) (by rw[Qc3,Qc3,ea,eb,h3])
 have k1:=uniq hm tH (by rw[ep,L0])
 have k2:=uniq hn mZ (by rw[eq,W9])
 have k3:m≠n:=λz=>jV (by
  rw[z,hn]at hm
  have:=Qal hm
  rw[<-this,eq]at ep
  exact (Prod.mk.inj ep).1.symm)
 rw[zd (a:=_+m') (b:=_+n') (),Po (a:=_+n') (b:=_+m') (a':=((y.take (y.idxOf e)).flatMap (dF y os):)+m) (b':=((y.take (y.idxOf e)).flatMap (dF y os):)+n) ()]
 lia
noncomputable def tt(y:c0)(a b:Nat):Int:=uu (y.idxOf (az a)) (y.idxOf (az b)) - uu (y.idxOf a) (y.idxOf (az b)) - uu (y.idxOf (az a)) (y.idxOf b)+uu (y.idxOf a) (y.idxOf b)
noncomputable def Hf(y:c0)(a b:Nat):Int:=if a=b\/a=az b then 0 else tt y a b
theorem Dc(hy:Yd y)(ho:jo y ws os){w:c0}(hw:ws[c]? =some w)(hl:w[i]? =some a)(ly:a∈y)(hv:ws[d]? =some v)(lF:v[j]? =some b)(Bm:b∈y)(jV:c≠d):
  uu ((bR y os).idxOf (c,i,az a)) ((bR y os).idxOf (d,j,az b)) - uu ((bR y os).idxOf (c,i,a)) ((bR y os).idxOf (d,j,az b)) - uu ((bR y os).idxOf (c,i,az a)) ((bR y os).idxOf (d,j,b))+uu ((bR y os).idxOf (c,i,a)) ((bR y os).idxOf (d,j,b))=Hf y a b:=by
 have la:=hy.lt a ly
 have lb:=hy.lt b Bm
 have na:=eM la
 have ia:=bj (hy.cl a ly) ly na
 unfold Hf
 by_cases z:a=b
 ·subst z
  rw[if_pos (.inl rfl)]
  have h1:=Bn hy ho hw hl ly (.inl rfl) hv lF Bm (.inl rfl) jV
  rw[ir hy ho hw hl ly (.inl rfl) hv lF Bm (.inr rfl) (Ne.symm na),ir hy ho hw hl ly (.inr rfl) hv lF Bm (.inl rfl) na,zd ia]
  lia
 ·by_cases z2:a=az b
  ·rw[if_pos (.inr z2)]
   have eb:az a=b:=by rw[z2,aF lb]
   have h1:=Bn hy ho hw hl ly (.inl rfl) hv lF Bm (.inr z2) jV
   rw[eb, <-z2]
   rw[eb]at h1 na ia
   rw[ir hy ho hw hl ly (.inr eb.symm) hv lF Bm (.inr z2) na,ir hy ho hw hl ly (.inl rfl) hv lF Bm (.inl rfl) (Ne.symm na),zd ia]
   lia
  ·rw[if_neg (by simp[z,z2])]
   have n1:az a≠az b:=λg=>z (dM la lb g)
   have n2:az a≠b:=λg=>z2 (by rw[<-g,aF la])
   rw[ir hy ho hw hl ly (.inr rfl) hv lF Bm (.inr rfl) n1,ir hy ho hw hl ly (.inl rfl) hv lF Bm (.inr rfl) z2,ir hy ho hw hl ly (.inr rfl) hv lF Bm (.inl rfl) n2,ir hy ho hw hl ly (.inl rfl) hv lF Bm (.inl rfl) z]
   rfl
theorem Dd{α:Type}(f:α->Int)(g:Nat->α):∀n:Nat,r9 ((List.range n).map λi=>f (g i))=sm n λi=>f (g i.toNat)
 | 0=>rfl
 | n+1=>by
  rw[<-za,Qcq,Qag,Qea,za,Dd f g n]
  show _+(f (g n)+0)=sm n _+f (g ((n:Int).toNat))
  rw[Qap,Qei]
theorem GL{w:c0}(h:Yd y)(ho:jo y ws os)(lX:JW y ws)(hw:ws[c]? =some w)(hv:ws[d]? =some v)(jV:c≠d):
  ur (dH y ws os) c d=bX (w:) (v:) (λi j=>Hf y (rd w i) (rd v j)):=by
 have hl:=EV h ho
 have e2:(2:Int)*((dH y ws os:):Int)=((2*(dH y ws os:):Nat):Int):=by lia
 have gc:92=w:=by rw[Qam,hw];rfl
 have gd:131=v:=by rw[Qam,hv];rfl
 have iw:∀l∈w,l∈y:=(lX.all w (Qae hw)).1
 have iv:∀l∈v,l∈y:=(lX.all v (Qae hv)).1
 unfold ur C9
 rw[lW hw,lW hv,e2]
 unfold bB
 rw[Qbj]
 refine (Dd (λx=>r9 (((List.range (v:)).map (cT 127 d v)).map (gS ((2*(dH y ws os:):Nat):Int) x))) (cT 127 c w) (w:)).trans ?_
 have step:∀i j:Nat,i<(w:)->j<(v:)->gS ((2*(dH y ws os:):Nat):Int) (cT 127 c w i) (cT 127 d v j)=uu (pI ws (cK 127) c ((i:Int) - 1)) (pI ws (cK 127) d ((j:Int) - 1)) - uu (pO ws (cK 127) c i) (pI ws (cK 127) d ((j:Int) - 1)) - uu (pI ws (cK 127) c ((i:Int) - 1)) (pO ws (cK 127) d j)+uu (pO ws (cK 127) c i) (pO ws (cK 127) d j):=λi j hi hj=>by
  rw[Xe (EU h ho lX hw hv jV hi hj) hl]
  have ea:=ja (ps:=bR y os) (ws:=ws) (c:=c) (i:=i) (by rw[gc];exact hi)
  have eb:=ja (ps:=bR y os) (ws:=ws) (c:=d) (i:=j) (by rw[gd];exact hj)
  rw[gc]at ea
  rw[gd]at eb
  rw[ea.1,ea.2,eb.1,eb.2]
 have a:sm (w:) (λi=>r9 (((List.range (v:)).map (cT 127 d v)).map (gS ((2*(dH y ws os:):Nat):Int) (cT 127 c w i.toNat))))=bX (w:) (v:) (λi j=>uu (pI ws (cK 127) c (i - 1)) (pI ws (cK 127) d (j - 1)) - uu (pO ws (cK 127) c i) (pI ws (cK 127) d (j - 1)) - uu (pI ws (cK 127) c (i - 1)) (pO ws (cK 127) d j)+uu (pO ws (cK 127) c i) (pO ws (cK 127) d j)):=aH λi hi=>by
  rw[Qap,Qbj]
  refine (Dd (gS ((2*(dH y ws os:):Nat):Int) (cT 127 c w i)) (cT 127 d v) (v:)).trans ?_
  refine aH λj hj=>?_
  rw[Qap]
  exact step i j hi hj
 rw[a]
 have pc:∀k,pI ws (cK 127) c (k+(w:))=pI ws (cK 127) c k:=λk=>by rw[<-gc];exact pY _ _ _ _
 have pd:∀k,pI ws (cK 127) d (k+(v:))=pI ws (cK 127) d k:=λk=>by rw[<-gd];exact pY _ _ _ _
 have sh:∀(F:Nat->Nat->Int) (X:Int->Nat),bX (w:) (v:) (λi j=>F (pI ws (cK 127) c (i - 1)) (X j))=bX (w:) (v:) (λi j=>F (pI ws (cK 127) c i) (X j)):=λF X=>
  kD (h:=λi=>sm (v:) λj=>F (pI ws (cK 127) c i) (X j)) λk=>by rw[pc k]
 have sv:∀(F:Nat->Nat->Int) (X:Int->Nat),bX (w:) (v:) (λi j=>F (X i) (pI ws (cK 127) d (j - 1)))=bX (w:) (v:) (λi j=>F (X i) (pI ws (cK 127) d j)):=λF X=>
  aH λi _=>kD (h:=λj=>F (X i) (pI ws (cK 127) d j)) λk=>by rw[pd k]
 rw[cu,oj,oj,sv uu (λi=>pI ws (cK 127) c (i - 1)),sh uu (pI ws (cK 127) d),sv uu (pO ws (cK 127) c),sh uu (pO ws (cK 127) d), <-oj, <-oj, <-cu]
 refine br λi j hi hj=>?_
 have LV:w[i]? =some (rd w i):=gN hi
 have hvj:v[j]? =some (rd v j):=gN hj
 have:=Dc h ho hw LV (iw _ (Qae LV)) hv hvj (iv _ (Qae hvj)) jV
 rw[<-this]
 unfold pI pO cK
 rw[gc,gd,(y9 hi).2,(y9 hj).2]
noncomputable def Pq(a:Nat):Int:=if aB a=true then 1 else -1
theorem uD(hy:Yd y)(ha:a∈y):(aB a=true/\Pq a=1/\PyProof.Rows.lo1 a=a)\/(aB a=false/\Pq a= -1/\PyProof.Rows.lo1 a=az a):=by
 unfold Pq
 rcases hy.lt a ha with z | z
 ·have:=bg a z
  exact .inl ⟨this.1,by rw[if_pos this.1],this.2.1⟩
 ·have:=bM a z
  have h2:aB a=false:=by
   have h3:=(kJ a (Qa3 _ z)).2
   rw[W6 a (Qa3 _ z),decide_eq_true z]at h3
   cases e:aB a
   ·rfl
   ·rw[e]at h3;cases h3
  exact .inr ⟨h2,by rw[if_neg (by rw[h2];decide)],this.2.1⟩
theorem Sj(hy:Yd y)(ha:a∈y)(hb:b∈y):tt y (az a) b= - tt y a b/\tt y a (az b)= - tt y a b:=by
 unfold tt
 rw[aF (hy.lt a ha),aF (hy.lt b hb)]
 lia
theorem Xf(hy:Yd y)(hx:x∈y)(hz:z∈y)(Ym:x∈aY)(OT:z∈aY):sg y x z=Hf y x z:=by
 unfold sg Hf
 by_cases e:x=z
 ·rw[if_pos e,if_pos (.inl e)]
 have lx:=hy.lt x hx
 have lz:=hy.lt z hz
 have n0:x≠az z:=λg=>lO z OT (by rw[<-g];exact Ym)
 have n1:az x≠az z:=λg=>e (dM lx lz g)
 have n2:az x≠z:=λg=>n0 (by rw[<-g,aF lx])
 have cx:=hy.cl x hx
 have cz:=hy.cl z hz
 rw[if_neg e,dY hy.nd cx cz hx n1 (eM lx) (Ne.symm n0),dY hy.nd cx hz hx n2 (eM lx) (Ne.symm e),if_neg (show ¬(x=z\/x=az z) from λg=>g.elim e n0)]
 have i1:=bj cx cz n1
 have i2:=bj cx hz n2
 have i3:=bj hx cz n0
 have i4:=bj hx hz e
 have i5:=bj cx hx (eM lx)
 unfold tt
 generalize y.idxOf (az x)=A at*
 generalize y.idxOf (az z)=B at*
 generalize y.idxOf x=a at*
 generalize y.idxOf z=b at*
 have key:∀t:Nat,A≠t->a≠t->(one (iN A t a):Int)=uu A t - uu a t+(if A<a then 0 else 1):=λt t1 t2=>by
  unfold uu one iN
  split<;>split<;>split<;>split<;>lia
 have kb:=key b i2 i4
 have kB:=key B i1 i3
 by_cases p:iN A B a<;>by_cases q:iN A b a
 ·rw[decide_eq_true p,decide_eq_true q,if_pos rfl]
  rw[eU p]at kB;rw[eU q]at kb
  lia
 ·rw[decide_eq_true p,decide_eq_false q,if_neg ∅,if_pos rfl]
  rw[eU p]at kB;rw[aZ q]at kb
  lia
 ·rw[decide_eq_false p,decide_eq_true q,if_neg ∅,if_neg ∅]
  rw[aZ p]at kB;rw[eU q]at kb
  lia
 ·rw[decide_eq_false p,decide_eq_false q,if_pos rfl]
  rw[aZ p]at kB;rw[aZ q]at kb
  lia
theorem r_(hy:Yd y)(ha:a∈y)(hb:b∈y):Hf y (az a) b= - Hf y a b/\Hf y a (az b)= - Hf y a b:=by
 have la:=hy.lt a ha
 have lb:=hy.lt b hb
 have t:=Sj hy ha hb
 have c1:(az a=b\/az a=az b)↔(a=b\/a=az b):=⟨λg=>g.elim (λe=> .inr (by rw[<-e,aF la])) λe=> .inl (dM la lb e),λg=>g.elim (λe=> .inr (by rw[e])) λe=> .inl (by rw[e,aF lb])⟩
 have c2:(a=az b\/a=az (az b))↔(a=b\/a=az b):=by rw[aF lb];exact Or.comm
 unfold Hf
 by_cases z:a=b\/a=az b
 ·rw[if_pos (c1.mpr z),if_pos (c2.mpr z),if_pos z];exact ⟨rfl,rfl⟩
 ·rw[if_neg λg=>z (c1.mp g),if_neg λg=>z (c2.mp g),if_neg z];exact t
theorem Sk(hy:Yd y)(ha:a∈y)(hb:b∈y):Hf y a b=Pq a*(Pq b*sg y (PyProof.Rows.lo1 a) (PyProof.Rows.lo1 b)):=by
 have hs:∀{c:Nat},c∈y->PyProof.Rows.lo1 c∈y/\PyProof.Rows.lo1 c∈aY:=λ{c} hc=>lY hy (AY hy hc)
 rw[Xf hy (hs ha).1 (hs hb).1 (hs ha).2 (hs hb).2]
 rcases uD hy ha with ⟨_,e1,e2⟩ | ⟨_,e1,e2⟩<;>rcases uD hy hb with ⟨_,f1,f2⟩ | ⟨_,f1,f2⟩<;>rw[e1,e2,f1,f2]
 ·lia
 ·rw[(r_ hy ha hb).2];lia
 ·rw[(r_ hy ha hb).1];lia
 ·rw[(r_ hy (hy.cl a ha) hb).2,(r_ hy ha hb).1];lia
theorem KH{bs:c0}(hn:bs.Nodup){x0:Nat}(hx:x0∈bs)(k:Int)(g:Nat->Int):(bs.map λx=>(if x=x0 then k else 0)*g x).sum=k*g x0:=by
 induction bs with
 | nil=>exact absurd hx Qav
 | cons b bs ih=>
  obtain ⟨h1,h2⟩:=Qbv.mp hn
  rw[Qas,Qbs]
  by_cases z:b=x0
  ·subst z
   rw[if_pos rfl]
   have:(bs.map λx=>(if x=b then k else 0)*g x).sum=0:=by
    rw[show (bs.map λx=>(if x=b then k else 0)*g x)=bs.map λ_=>(0:Int) from Qbl λx wJ=>by rw[if_neg λe=>h1 (by rw[<-e];exact wJ),Int.zero_mul],ow]
   rw[this];lia
  ·rw[if_neg z,ih h2 ((Qaq.mp hx).resolve_left λe=>z e.symm)];lia
theorem Xg(hy:Yd y):(aQ y).Nodup:=(gG y).nodup_iff.mpr (hy.nd.filter _)
theorem uE(hy:Yd y)(ha:a∈y)(hx:x∈aQ y)(w:c0):bJ (a::w) x=bJ w x+(if x=PyProof.Rows.lo1 a then Pq a else 0):=by
 unfold bJ
 rw[Qdz,Qdz]
 obtain ⟨xy,xs⟩:=lY hy hx
 have la:=hy.lt a ha
 have lx:=hy.lt x xy
 have nx:=eM lx
 rcases uD hy ha with ⟨h0,e1,e2⟩ | ⟨h0,e1,e2⟩<;>rw[e1,e2]
 ·have n2: ¬a=az x:=λg=>by
   have:=dN x lx.mem
   rw[<-g,h0,(ft lx),decide_eq_true xs]at this
   cases this
  by_cases z:a=x
  ·subst z
   simp[nx,Ne.symm nx]
   try lia
  ·simp[z,Ne.symm z,n2,Ne.symm n2]
   try lia
 ·have n2: ¬a=x:=λg=>by
   rw[g,(ft lx),decide_eq_true xs]at h0
   cases h0
  have n3: ¬x=a:=λg=>n2 g.symm
  by_cases z:a=az x
  ·subst z
   rw[aF lx]
   simp[nx,Ne.symm nx]
   try lia
  ·have z2: ¬x=az a:=λg=>z (by rw[g,aF la])
   simp[z,Ne.symm z,n2,n3,z2]
   try lia
theorem ze{y:c0}(hy:Yd y)(g:Nat->Int):∀{w:c0},(∀a∈w,a∈y)->(w.map λa=>Pq a*g (PyProof.Rows.lo1 a)).sum=((aQ y).map λx=>bJ w x*g x).sum
 | [],_=>by
  rw[show ((aQ y).map λx=>bJ [] x*g x)=(aQ y).map λ_=>(0:Int) from Qbl λx _=>by unfold bJ;rw[Qc2,Qc2];lia,ow]
  rfl
 | a::w,h=>by
  have ha:=h a Qak
  rw[Qas,Qbs,ze hy g (w:=w) λb hb=>h b (Qah _ hb),show ((aQ y).map λx=>bJ (a::w) x*g x)=(aQ y).map λx=>bJ w x*g x+(if x=PyProof.Rows.lo1 a then Pq a else 0)*g x from Qbl λx hx=>by rw[uE hy ha hx,Qfc],sum_add,KH (Xg hy) (AY hy ha)]
  lia
theorem KI(f:Nat->Int):∀w:c0,(w.map f).sum=sm (w:) λi=>f (rd w i):=λw=>by
 have e:w=(List.range (w:)).map λi:Nat=>rd w i:=by
  refine Qdq λi=>?_
  rw[Qat]
  by_cases z:i<(w:)
  ·rw[Qey z,gN z];rfl
  ·rw[Qcx (),Qcx (by rw[Qdp];lia)];rfl
 conv=>lhs;rw[e]
 rw[Qbj]
 refine (lV (λi:Nat=>f (rd w i)) (w:)).trans (aH λi _=>?_)
 show f (rd w (((i:Int)).toNat:Nat))=f (rd w i)
 rw[Qap]
noncomputable def ql(y w v:c0):Int:=cr (sg y) (bJ w) (bJ v) (aQ y) (aQ y)
theorem EX(hy:Yd y){w:c0}(hw:∀a∈w,a∈y)(hv:∀a∈v,a∈y):bX (w:) (v:) (λi j=>Hf y (rd w i) (rd v j))=ql y w v:=by
 unfold ql cr
 rw[<-ze hy (λx=>((aQ y).map λz=>bJ v z*sg y x z).sum) hw,KI]
 refine aH λi hi=>?_
 rw[<-ze hy (λz=>sg y (PyProof.Rows.lo1 (rd w i)) z) hv,KI]
 have iw:rd w i∈y:=hw _ (Qae (gN hi))
 have:∀(k:Int) (f:Int->Int) (n:Nat),k*sm n f=sm n λj=>k*f j:=λk f n=>by
  induction n with
  | zero=>exact Int.mul_zero k
  | succ n ih=>show k*(sm n f+f n)=sm n _+k*f n;rw[Qet,ih]
 rw[this]
 exact aH λj hj=>Sk hy iw (hv _ (Qae (gN hj)))
theorem KJ{w:c0}(h:Yd y)(ho:jo y ws os)(lX:JW y ws)(hw:ws[c]? =some w)(hv:ws[d]? =some v)(jV:c≠d):ur (dH y ws os) c d=ql y w v:=by
 rw[GL h ho lX hw hv jV,EX h (lX.all w (Qae hw)).1 (lX.all v (Qae hv)).1]
theorem zf(c:Nat):∀a b:c0,PyProof.Rows.cnt c (a++b)=PyProof.Rows.cnt c a+PyProof.Rows.cnt c b
 | [],b=>by rw[Qc2,Qdx];lia
 | x::a,b=>by rw[Qen,Qdz,Qdz,zf c a b];lia
theorem c_(a b:c0)(x:Nat):bJ (a++b) x=bJ a x+bJ b x:=by unfold bJ;rw[zf,zf];lia
theorem NW(a b:c0)(x:Nat):bJ (a++b) x=bJ (b++a) x:=by rw[c_,c_];lia
theorem Bo(hy:Yd y)(ha:a∈y)(hx:x∈aQ y):bJ [a,az a] x=0:=by
 have la:=hy.lt a ha
 have e0:bJ [] x=0:=by unfold bJ;rw[Qc2,Qc2];rfl
 rw[uE hy ha hx,uE hy (hy.cl a ha) hx,e0,(kJ a la.mem).1]
 split
 ·rcases uD hy ha with ⟨h0,e1,_⟩ | ⟨h0,e1,_⟩<;>rcases uD hy (hy.cl a ha) with ⟨Xh,f1,_⟩ | ⟨Xh,f1,_⟩
  ·rw[dN a la.mem,h0]at Xh;cases Xh
  ·lia
  ·lia
  ·rw[dN a la.mem,h0]at Xh;cases Xh
 ·rfl
theorem NX{w w' v':c0}(h1:∀x∈aQ y,bJ w x=bJ w' x)(h2:∀x∈aQ y,bJ v x=bJ v' x):ql y w v=ql y w' v':=by
 unfold ql cr
 congr 1
 refine Qbl λx hx=>?_
 rw[h1 x hx]
 congr 2
 exact Qbl λz hz=>by rw[h2 z hz]
theorem EY{y:c0}(hy:Yd y){x:Nat}(hx:x∈aQ y):∀{w:c0},(∀a∈w,a∈y)->bJ (di w) x= - bJ w x
 | [],_=>by unfold bJ;show PyProof.Rows.cnt x [] - PyProof.Rows.cnt (az x) []=_;rw[Qc2,Qc2];rfl
 | a::w,h=>by
  have ha:=h a Qak
  have e:di (a::w)=di w++[az a]:=by unfold di;rw[Qas,Qgh]
  have p:=Bo hy ha hx
  rw[show ([a,az a]:c0)=[a]++[az a] from rfl,c_]at p
  rw[e,c_,EY hy hx λb hb=>h b (Qah _ hb),show a::w=[a]++w from rfl,c_]
  lia
structure Sh(y w c:c0):Prop where
 lt:∀l∈w,Lt l
 pU:(w:)<=100
 is:core (red w)=c
 sw:SW y c
 len:(c:)<=12
noncomputable def Bp(y c:c0):Bool:=decide (rq y c=0)
theorem Sh.of{w:c0}(hy:Yd y)(h:SW y w)(hz:(w:)<=12):Sh y w w:=⟨λl hl=>hy.lt l (h.cn l hl),(),h.core hy,h,hz⟩
inductive oR(p_:c7)(vs:List V)(H:Hp)(Q:VK)(cy:XK):Prop
 | mk (y w c:c0) (_:vs=[.str (S y),.str (S w)]) (_:Yd y) (_:(y:)<=8) (_:Sh y w c) (_:∀H',aq H H'->Q (.bl (Bp y c)) H'):oR p_ vs H Q cy
def uF(p_:c7):Sp:=oR p_
theorem Bq(h:uF K vs H Q E):(vs:)=2:=by obtain ⟨_,_,_,rfl,_⟩:=h;rfl
theorem aq.up2{t:Addr}(s:aq H H')(n:H t=none):aq H (L2.upd H' t o):=λa u e=>by rw[aA (au e n)];exact s a u e
theorem Br:∀(l st:c0) {x:Nat},x∈l.foldl cG st->x∈st\/x∈l
 | [],_,_,h=> .inl h
 | a::l,st,x,h=>by
  rcases Br l (cG st a) h with g | g
  ·rcases xj g with g | g
   ·exact .inl g
   ·exact .inr (by rw[g];exact Qak)
  ·exact .inr (Qah _ g)
theorem oS{w:c0}(h:x∈red w):x∈w:=(Br w [] h).resolve_left Qav
theorem EZ:∀{l:c0},lQ l->∀k a b,l[k]? =some a->l[k+1]? =some b->a≠az b
 | [],_,k,a,b,h1,_=>by simp at h1
 | [x],_,k,a,b,_,h2=>by simp at h2
 | x::z::r,h,0,a,b,h1,h2=>by
  cases Qal h1
  cases Qal h2
  exact h.1
 | x::z::r,h,k+1,a,b,h1,h2=>EZ (l:=z::r) h.2 k a b h1 h2
theorem E1{r:c0}(hy:Yd y)(hr:lQ r)(hl:∀c∈r,c∈y):core r=[]\/SW y (core r):=by
 by_cases z:core r=[]
 ·exact .inl z
 refine .inr (SW.of z (λc hc=>hl c (kj hc)) (λk a b h1 h2 e=>?_) λa b h1 h2 e=>?_)
 ·have ia:=hy.lt a (hl a (kj (Qae h1)))
  exact EZ (Jl hr) k a b h1 h2 (by rw[e,aF ia])
 ·have cc:=Gj r
  have lb:Lt b:=hy.lt b (hl b (kj (List.mem_of_getLast? h2)))
  by_cases q:(core r:)<2
  ·have ha:a=b:=by
    clear cc
    generalize core r=g at h1 h2 q
    rcases g with _ | ⟨x,_ | ⟨x2,t⟩⟩
    ·simp at h1
    ·simp at h1 h2;rw[<-h1, <-h2]
    ·simp at q;lia
   rw[ha]at e
   exact absurd e.symm (eM lb)
  ·obtain ⟨a',m,b',em⟩:=Ef (l:=core r) ()
   rw[em]at h1 h2 cc
   have e1:a'=a:=by simpa using h1
   have e2:b'=b:=by
    have:(a'::(m++[b'])).getLast? =some b':=by rw[<-Qen,List.getLast?_append];simp
    rw[this]at h2
    exact Qal h2
   rw[yA (by rw[e1,e2];exact e)]at cc
   have:=km m
   rw[cc]at this
   simp at this
   lia
theorem GN(l:c0)(h:(core l:)=(l:)):core l=l:=
 (gK (P:=λl r=>(r:)<=(l:)/\((r:)=(l:)->r=l)) (λ_ _=>⟨Qad _,λ_=>rfl⟩) (λ_ _ _ _=>⟨Qad _,λ_=>rfl⟩) (λa m y r _ k=>⟨by have:=k.1;simp;lia,λe=>absurd e (by have:=k.1;simp;lia)⟩) (l:) l (Qad _)).2 h
theorem xI:∀(l st:c0),(l.foldl cG st:)=(st:)+(l:)->l.foldl cG st=st++l
 | [],st,_=>by simp
 | c::l,st,h=>by
  have h1:=tW l (cG st c)
  rw[Qdl]at h ⊢
  rw[Qa9]at h
  have e:cG st c=st++[c]:=by
   unfold cG at h1 ⊢
   by_cases z:st.getLast? =some (az c)
   ·rw[if_pos z]at h1
    unfold cG at h
    rw[if_pos z]at h
    rw[Qf5]at h1
    lia
   ·rw[if_neg z]
  rw[e]at h ⊢
  rw[xI l (st++[c]) (by rw[h,X4];simp;lia),Qac]
  rfl
theorem xJ{w:c0}(hy:Yd y)(ne:w≠[])(hw:∀c∈w,c∈y)(h:(bL w:)=(w:)):SW y w:=by
 obtain ⟨k,e⟩:=gF (core (red w))
 unfold bL at h
 rw[e,b8]at h
 have h1:=km (red w)
 have h2:=jj w
 have e1:core (red w)=red w:=GN _ ()
 have e2:red w=w:=by
  have:=xI w [] (by show (red w:)=_;simp;lia)
  rw[Qdx]at this
  exact this
 rcases E1 hy (Ee w) (λc hc=>hw c (oS hc)) with g | g
 ·rw[e1,e2]at g;exact absurd g ne
 ·rw[e1,e2]at g;exact g
theorem De{w:c0}(hy:Yd y)(ne:w≠[])(hw:∀c∈w,c∈y)(h:bI (bL w) (bL (di w))=w):SW y w:=by
 have lw:∀c∈w,Lt c:=λc hc=>hy.lt c (hw c hc)
 unfold bI at h
 split at h
 ·have:=(SW.di hy (xJ hy (w:=di w) (λz=>ne (Qch.mp (by rw[<-bH w,z];rfl))) (λc hc=>by
   obtain ⟨d,hd,e⟩:=Qa4.mp (Qb9.mp hc)
   rw[<-e];exact hy.cl d (hw d hd)) (by rw[h,bH])))
  rwa [Ed lw]at this
 ·exact xJ hy ne hw (by rw[h])
theorem Sl(hy:Yd y)(hc:c∈y):SW y [c]:=SW.of (by simp) (λa ha=>by rw[Qab.mp ha];exact hc) (λk a b h1 h2=>by simp at h2) λa b h1 h2 e=>by
 simp at h1 h2
 rw[<-h1, <-h2]at e
 exact absurd e.symm (eM (hy.lt c hc))
theorem kT(c:Nat)(k:Int):rd [c] k=c:=by
 have:=CF (w:=[c]) (by simp) k
 exact Qab.mp this
theorem Sm(hy:Yd y)(hc:c∈y):Bp y [c]=true:=by
 have e1:∀i j,bs y [c] [c] i j=0:=λi j=>by
  unfold bs
  have a1: ¬ac y (az (rd [c] (i - 1))) (rd [c] i) (az (rd [c] (j - 1))) (rd [c] j)=true:=by
   rw[kT,kT,kT,kT]
   unfold ac
   simp
  have a2: ¬iZ y (sq [c] i) (sq [c] j):=λ⟨a,r,_⟩=>r.hi (by unfold sq;rw[kT,kT])
  have a3: ¬iZ y (sq [c] i) (bq [c] j):=λ⟨a,r,_⟩=>by
   have:=r.zero
   unfold sq bq at this
   rw[kT,kT]at this
   exact absurd this.symm (eM (hy.lt c hc))
  rw[aZ a1,aZ a2,aZ a3]
  rfl
 have e2:SS y [c] [c]=0:=by
  unfold SS
  show bX 1 1 _=0
  show (0:Int)+(0+bs y [c] [c] _ _)=0
  rw[e1]
  rfl
 have e3:kr [c]=1:=by
  unfold kr
  rcases um (w:=[c]) (by simp) with g | ⟨h1,h2,_⟩
  ·exact absurd g.1 (by simp)
  ·have h3:R6 [c]=1:=by simp at h2;lia
   rw[h3];simp
 unfold Bp rq
 rw[e2,e3]
 rfl
theorem oT(hy:Yd y)(hc:c∈y):bL [c]=[c]:=by
 obtain ⟨k,e⟩:=gF [c]
 rw[(Sl hy hc).bL hy,e]
 unfold dj
 rcases k with _ | k<;>simp
theorem KL(hy:Yd y)(h:y≠[]):∃c∈y,bI (bL [c]) (bL (di [c]))=[c]:=by
 obtain ⟨c,r,e⟩:=List.exists_cons_of_ne_nil h
 have hc:c∈y:=by rw[e];exact Qak
 have hk:=hy.cl c hc
 have e1:di [c]=[az c]:=rfl
 have e2:di [az c]=[c]:=by show [az (az c)]=[c];rw[aF (hy.lt c hc)]
 have e3:bI [c] [az c]=[c]\/bI [az c] [c]=[az c]:=by
  unfold bI
  by_cases z:[az c]<[c]
  ·right;rw[if_neg (List.lt_asymm z)]
  ·left;rw[if_neg z]
 rcases e3 with g | g
 ·exact ⟨c,hc,by rw[e1,oT hy hc,oT hy hk,g]⟩
 ·exact ⟨az c,hk,by rw[e2,oT hy hc,oT hy hk,g]⟩
theorem sd(x:Nat):bJ [] x=0:=rfl
theorem E2(hy:Yd y)(hb:b∈y)(hx:x∈aQ y)(e:a=az b):bJ [a] x+bJ [b] x=0:=by
 have:=Bo hy hb hx
 rw[show [b,az b]=[b]++[az b] from rfl,c_]at this
 rw[e]
 lia
theorem Bs{y:c0}(hy:Yd y){x:Nat}(hx:x∈aQ y):∀(l st:c0),(∀c∈l,c∈y)->bJ (l.foldl cG st) x=bJ st x+bJ l x
 | [],st,_=>by rw[List.foldl_nil,sd];lia
 | c::l,st,h=>by
  rw[Qdl,Bs hy hx l _ λd hd=>h d (Qah _ hd),show c::l=[c]++l from rfl,c_]
  unfold cG
  by_cases z:st.getLast? =some (az c)
  ·rw[if_pos z]
   obtain ⟨m,rfl⟩:=xh z
   have:=E2 hy (h c Qak) hx rfl
   rw[Qd2,c_]
   lia
  ·rw[if_neg z,c_]
   lia
theorem NY(hy:Yd y)(hx:x∈aQ y){w:c0}(h:∀c∈w,c∈y):bJ (red w) x=bJ w x:=by
 unfold red
 rw[Bs hy hx w [] h,sd]
 lia
theorem KN(hy:Yd y)(hx:x∈aQ y){w:c0}(h:∀c∈w,c∈y):bJ (core w) x=bJ w x:=
 gK (P:=λl r=>(∀c∈l,c∈y)->bJ r x=bJ l x) (λ_ _ _=>rfl) (λ_ _ _ _ _=>rfl) (λa m z r e k h=>by
  rw[k λc hc=>h c (Qah _ (Qcj _ hc)),show a::(m++[z])=[a]++(m++[z]) from rfl,c_,c_]
  have:=E2 hy (h z (Qah _ (Qa3 _ Qak))) hx e
  lia) (w:) w (Qad _) h
theorem xK(hy:Yd y)(hx:x∈aQ y){w:c0}(h:∀c∈w,c∈y):bJ (core (red w)) x=bJ w x:=by
 rw[KN hy hx λc hc=>h c (oS hc),NY hy hx h]
theorem uG(w:c0)(k x:Nat):bJ (dj w k) x=bJ w x:=by
 unfold dj
 rw[NW,Qaw]
theorem Bt(hy:Yd y)(hx:x∈aQ y){w:c0}(h:∀c∈w,c∈y):bJ (bL w) x=bJ w x:=by
 obtain ⟨k,e⟩:=gF (core (red w))
 unfold bL
 rw[e,uG,xK hy hx h]
theorem E3{w:c0}(h:∀c∈w,c∈y):∀c∈bL w,c∈y:=λc hc=>by
 obtain ⟨k,e⟩:=gF (core (red w))
 unfold bL at hc
 rw[e]at hc
 exact h c (oS (kj (rP hc)))
theorem Bu(w:c0)(x:Nat):∀n:Nat,bJ (dJ n w) x=n*bJ w x
 | 0=>by rw[show dJ 0 w=[] from rfl,sd];simp
 | n+1=>by
  rw[eR,c_,Bu w x n,show ((n+1:Nat):Int)=(n:Int)+1 by lia,Qfc]
  lia
noncomputable def mB(a:c0)(t:Int)(p:Nat)(b:Bool):c0:=dJ t.natAbs (if b != decide (t>0) then di (dj a p) else dj a p)
theorem NZ{a:c0}(hy:Yd y)(ha:∀c∈a,c∈y)(t:Int)(p:Nat)(b:Bool):∀c∈mB a t p b,c∈y:=λc hc=>by
 have h1:∀c∈dj a p,c∈y:=λc hc=>ha c (rP hc)
 have h2:c∈(if b != decide (t>0) then di (dj a p) else dj a p):=by
  unfold mB dJ at hc
  obtain ⟨l,hl,hc⟩:=List.mem_flatten.mp hc
  rw[(List.mem_replicate.mp hl).2]at hc
  exact hc
 split at h2
 ·obtain ⟨d,hd,e⟩:=Qa4.mp (Qb9.mp h2)
  rw[<-e];exact hy.cl d (h1 d hd)
 ·exact h1 c h2
theorem KO(a:c0)(t:Int)(p:Nat)(b:Bool):(mB a t p b:)=t.natAbs*(a:):=by
 unfold mB
 rw[tw]
 split
 ·rw[bH,b8]
 ·rw[b8]
theorem KP{a:c0}(hy:Yd y)(ha:∀c∈a,c∈y)(hx:x∈aQ y)(t:Int)(p:Nat)(b:Bool):bJ (mB a t p b) x=t*((if b=true then 1 else -1)*bJ a x):=by
 have h1:∀c∈dj a p,c∈y:=λc hc=>ha c (rP hc)
 unfold mB
 rw[Bu]
 have e1:bJ (di (dj a p)) x= - bJ a x:=by rw[EY hy hx h1,uG]
 have e2:=uG a p x
 generalize bJ a x=n at e1 e2 ⊢
 rcases Int.lt_trichotomy t 0 with h | h | h
 ·have e3:((t.natAbs:Nat):Int)= - t:=by lia
  rw[e3,show decide (t>0)=false from decide_eq_false ()]
  cases b
  ·show - t*bJ (dj a p) x=t*(-1*n)
   rw[e2,Qfb,Qfb,Qgx,Qfa]
  ·show - t*bJ (di (dj a p)) x=t*(1*n)
   rw[e1,Int.neg_mul_neg,Qfa]
 ·rw[h];simp
 ·have e3:((t.natAbs:Nat):Int)=t:=by lia
  rw[e3,show decide (t>0)=true from decide_eq_true h]
  cases b
  ·show t*bJ (di (dj a p)) x=t*(-1*n)
   rw[e1,Qfb,Qfa]
  ·show t*bJ (dj a p) x=t*(1*n)
   rw[e2,Qfa]
noncomputable def Hg(m:Int)(x o:C4):Bool:=decide ((x.2.2.2 - x.2.2.1:Int)%m<(o.2.2.2 - x.2.2.1:Int)%m)
noncomputable def Bv(m:Int)(x:C4)(os:List C4):List (Nat×Bool):=(os.filter (meets x)).map λo=>(o.2.1,Hg m x o)
noncomputable def mP(ps:List (Nat×Bool)):Int:=r9 (ps.map λp=>if p.2=true then 1 else -1)
theorem KQ{l l':List Int}(h:l.Perm l'):r9 l=r9 l':=by
 induction h with
 | nil=>rfl
 | cons x _ ih=>show x+r9 _=x+r9 _;rw[ih]
 | swap x z l=>show z+(x+r9 l)=x+(z+r9 l);lia
 | trans _ _ a b=>rw[a,b]
theorem Df{l l':List (Nat×Bool)}(h:l.Perm l'):mP l=mP l':=KQ (h.map _)
theorem N0{k:Nat}{x o:C4}(h:Tq k x o)(hm:k<=m)(hx:meets x o=true):(if Hg (m:Int) x o=true then (1:Int) else -1)=Bg (m:Int) x o:=by
 obtain ⟨ap,b1,b2,b3,b4⟩:=h
 unfold meets at hx
 rw[xH ap]at hx
 have e1:fT (m:Int) x.2.2.1 x.2.2.2 o.2.2.1=cN x.2.2.1 x.2.2.2 o.2.2.1:=jb () () ()
 have e2:fT (m:Int) x.2.2.1 x.2.2.2 o.2.2.2=cN x.2.2.1 x.2.2.2 o.2.2.2:=jb () () ()
 have ne:(o.2.2.2 - x.2.2.1:Int)%m≠(x.2.2.2 - x.2.2.1:Int)%m:=λz=>by
  have h1:=Qeu (o.2.2.2 - x.2.2.1:Int) (Qgo (m:Int))
  have h3:((o.2.2.2:Int) - x.2.2.2)%m=0:=by
   rw[show ((o.2.2.2:Int) - x.2.2.2)=(o.2.2.2 - x.2.2.1) - (x.2.2.2 - x.2.2.1) by lia]
   exact Qd7.mp z
  have h4:=ap.qs
  have:=Qfn h3
  obtain ⟨c,hc⟩:=this
  have:c=0:=by
   rcases Int.lt_trichotomy c 0 with g | g | g
   ·have:(m:Int)*c<=m*(-1):=Int.mul_le_mul_of_nonneg_left () ()
    lia
   ·exact g
   ·have:(m:Int)*1<=m*c:=Int.mul_le_mul_of_nonneg_left () ()
    lia
  rw[this]at hc
  lia
 have e3:Hg (m:Int) x o=!fT (m:Int) x.2.2.1 x.2.2.2 o.2.2.2:=by
  unfold Hg fT
  rw[<-decide_not]
  exact decide_eq_decide.mpr ⟨λz=>by lia,λz=>by lia⟩
 unfold Bg
 rw[e3,e1,e2]
 revert hx
 cases cN x.2.2.1 x.2.2.2 o.2.2.1<;>cases cN x.2.2.1 x.2.2.2 o.2.2.2<;>simp
theorem GO{k:Nat}{x:C4}{os:List C4}(h:∀o∈os,Tq k x o)(hm:k<=m):mP (Bv (m:Int) x os)=C9 (m:Int) x os:=by
 unfold mP Bv C9
 induction os with
 | nil=>rfl
 | cons o os ih=>
  have ih:=ih λo' ho=>h o' (Qah _ ho)
  rw[Qas,Qfl]
  show _=gS (m:Int) x o+r9 (os.map (gS (m:Int) x))
  rw[<-ih]
  by_cases z:meets x o=true
  ·rw[if_pos z,show gS (m:Int) x o=Bg (m:Int) x o from if_pos z, <-N0 (h o Qak) hm z,Qas,Qas]
   rfl
  ·rw[if_neg z,show gS (m:Int) x o=0 from if_neg z]
   lia
theorem E4{x:V}(h:(gE ws)[i]? =some x):∃w,ws[i]? =some w/\x= .str (S w):=by
 unfold gE at h
 rw[Qat]at h
 cases e:ws[i]? with
 | none=>rw[e]at h;cases h
 | some p=>rw[e]at h;cases h;exact ⟨p,rfl,rfl⟩
theorem E5(a b:List c0):gE a++gE b=gE (a++b):=by unfold gE;rw[Qag]
theorem se(p:Nat):cut l (some (p:Int)) none++cut l none (some (p:Int))=dj l p/\(cut l (some (p:Int)) none:)+(cut l none (some (p:Int)):)=(l:):=by
 rw[ko,tY]
 exact ⟨rfl,by rw[Qaz,Qai];lia⟩
theorem N1(t:Int):(if t<0 then -t else t)=((t.natAbs:Nat):Int):=by split<;>lia
theorem N2{w:c0}(hy:Yd y)(hw:SW y w){k:Nat}(hk:k<=(w:)):rq y (dj w k)=rq y w:=by
 have hr:SW y (dj w k):=hw.dj hk
 unfold rq
 rw[JQ hw.ne hk,JP hy hw hr,JQ hw.ne hk,Sa hw.ne hk]
theorem N3{w:c0}(hy:Yd y)(hw:SW y w):rq y (di w)=rq y w:=by
 have hr:SW y (di w):=hw.di hy
 unfold rq
 rw[JR hy hw hr,JP hy hw hr,JR hy hw hw,Sb hy hw]
theorem KR{s:Nat->Nat->Int}{f f1 f2 g:Nat->Int}{k:Int}{bs:c0}:∀{as:c0},(∀x∈as,f x=f1 x+k*f2 x)->cr s f g as bs=cr s f1 g as bs+k*cr s f2 g as bs
 | [],_=>by show (0:Int)=0+k*0;simp
 | x::as,h=>by
  have ih:=KR (s:=s) (g:=g) (bs:=bs) λz hz=>h z (Qah _ hz)
  unfold cr at ih ⊢
  rw[Qas,Qas,Qas,Qbs,Qbs,Qbs,ih,h x Qak,Qfc,Qet,Qfh]
  lia
theorem oU(hy:Yd y)(w v:c0):ql y w v= - ql y v w:=A0 hy (bs:=aQ y) (λx hx=>lY hy hx) (bJ v) (bJ w)
inductive jQ(p_:c7)(vs:List V)(H:Hp)(Q:VK)(cy:XK):Prop
 | mk (w:c0) (c:Nat) (_:vs=[.str (S w),.str (S [c])]) (_:(∀a∈w,a<128)) (_:(w:)<=sizeLine) (_:c<128) (_:∀b:Bool,(w=[]->b=true)->Q (.bl b) H):jQ p_ vs H Q cy
def mQ(p_:c7):Sp:=jQ p_
theorem uH(h:mQ K vs H Q E):(vs:)=2:=by obtain ⟨_,_,rfl,_⟩:=h;rfl
inductive jR(p_:c7)(vs:List V)(H:Hp)(Q:VK)(cy:XK):Prop
 | mk (y:c0) (wt:Addr) (ls:List c0) (_:vs=[.str (S y),.ref wt]) (_:(∀c∈y,c<128)) (_:(y:)<=8) (_:H wt=some (.lst (gE ls))) (_:(∀l∈ls,(∀c∈l,c∈y)/\(l:)<=100)) (_:(ls:)<=1000) (_:∀(t:Addr) (ms:List c0) H',H t=none->H' t=some (.lst (gE ms))->(∀m∈ms,∃l∈ls,∃c∈y,m=l++[c])->([]∈ls->∀c∈y,[c]∈ms)->(ms:)<=8*(ls:)->aq H H'->Q (.ref t) H'):jR p_ vs H Q cy
def mR(p_:c7):Sp:=jR p_
theorem uI(h:mR K vs H Q E):(vs:)=2:=by obtain ⟨_,_,_,rfl,_⟩:=h;rfl
inductive jS(p_:c7)(vs:List V)(H:Hp)(Q:VK)(cy:XK):Prop
 | mk (y:c0) (n:Nat) (_:vs=[.str (S y),.int n]) (_:Yd y) (_:y≠[]) (_:(y:)<=8) (_:n<=3) (_:∀(t:Addr) (ls:List c0) H',H t=none->H' t=some (.lst (gE ls))->(∀w∈ls,SW y w/\(w:)<=n/\Bp y w=true)->(ls:)<=2000->(1<=n->ls≠[])->aq H H'->Q (.ref t) H'):jS p_ vs H Q cy
def mS(p_:c7):Sp:=jS p_
theorem uJ(h:mS K vs H Q E):(vs:)=2:=by obtain ⟨_,_,rfl,_⟩:=h;rfl
structure Pb where
 t:Addr
 v:Nat×Bool
noncomputable def KS(ps:List Pb):List V:=ps.map λp=>V.ref p.t
def N4(H:Hp)(p:Pb):Prop:=H p.t=some (.tup [.int p.v.1,.bl p.v.2])
theorem N5(ps:List Pb):(KS ps:)=(ps:):=by unfold KS;rw[Qaa]
theorem KU(ps:List Pb)(p:Pb):KS ps++[V.ref p.t]=KS (ps++[p]):=by unfold KS;rw[Qag];rfl
theorem So{ps:List Pb}{x:V}(h:(KS ps)[i]? =some x):∃p,ps[i]? =some p/\x=V.ref p.t:=by
 unfold KS at h
 rw[Qat]at h
 cases e:ps[i]? with
 | none=>rw[e]at h;cases h
 | some p=>rw[e]at h;cases h;exact ⟨p,rfl,rfl⟩
inductive kU(p_:c7)(vs:List V)(H:Hp)(Q:VK)(cy:XK):Prop
 | mk (a:Q4) (D:Addr) (ds:List Q4) (m:Int) (_:vs=[.ref a.t,.ref D,.int m]) (_:jq H a) (_:H D=some (.lst (mM ds))) (_:(∀d∈ds,jq H d)) (_:(ds:)<=24) (_:((ds.map λd=>d.v.2.1).Nodup)) (_:0<m) (_:∀(t:Addr) (ps:List Pb) H',H t=none->H' t=some (.lst (KS ps))->(∀p∈ps,N4 H' p)->(ps.map Pb.v).Perm (Bv m a.v (ds.map Q4.v))->aq H H'->Q (.ref t) H'):kU p_ vs H Q cy
def oV(p_:c7):Sp:=kU p_
theorem vQ(h:oV K vs H Q E):(vs:)=3:=by obtain ⟨_,_,_,_,rfl,_⟩:=h;rfl
inductive qQ(p_:c7)(vs:List V)(H:Hp)(Q:VK)(cy:XK):Prop
 | mk (a:c0) (t:Int) (p:Nat) (b:Bool) (_:vs=[.str (S a),.int t,.int p,.bl b]) (_:(∀c∈a,c<128)) (_:(a:)<=12) (_:p<=(a:)) (_:t.natAbs<=10) (_:∀H',aq H H'->Q (.str (S (mB a t p b))) H'):qQ p_ vs H Q cy
def xM(p_:c7):Sp:=qQ p_
theorem Dg(h:xM K vs H Q E):(vs:)=4:=by obtain ⟨_,_,_,_,rfl,_⟩:=h;rfl
def Yp(y a:c0)(t:Int)(l u:c0):Prop:=(∀c∈u,c∈y)/\(u:)<=1000/\∀x∈aQ y,bJ u x=bJ l x+t*(ql y l a*bJ a x)
inductive jT(p_:c7)(vs:List V)(H:Hp)(Q:VK)(cy:XK):Prop
 | mk (y a l:c0) (t:Int) (_:vs=[.str (S y),.str (S a),.int t,.str (S l)]) (_:Yd y) (_:(y:)<=8) (_:SW y a) (_:(a:)<=4) (_:(∀c∈l,c∈y)) (_:(l:)<=12) (_:t.natAbs<=3) (_:∀(u:c0) H',Yp y a t l u->aq H H'->Q (.str (S u)) H'):jT p_ vs H Q cy
def mT(p_:c7):Sp:=jT p_
theorem uK(h:mT K vs H Q E):(vs:)=4:=by obtain ⟨_,_,_,_,rfl,_⟩:=h;rfl
inductive kW(p_:c7)(vs:List V)(H:Hp)(Q:VK)(cy:XK):Prop
 | mk (y a:c0) (_:vs=[.str (S y),.str (S a)]) (_:Yd y) (_:(y:)<=8) (_:SW y a) (_:(a:)<=4) (_:Bp y a=true) (_:∀H',aq H H'->Q .g7 H'):kW p_ vs H Q cy
def oW(p_:c7):Sp:=kW p_
theorem vR(h:oW K vs H Q E):(vs:)=2:=by obtain ⟨_,_,rfl,_⟩:=h;rfl
inductive uL(p_:c7)(vs:List V)(H:Hp)(Q:VK)(cy:XK):Prop
 | mk (y a l:c0) (t:Int) (_:vs=[.str (S y),.str (S a),.int t,.str (S l)]) (_:Yd y) (_:(y:)<=8) (_:SW y a) (_:(a:)<=4) (_:Bp y a=true) (_:(∀c∈l,c∈y)) (_:(l:)<=12) (_:t.natAbs<=3) (_:∀(u:c0) H',Yp y a t l u->aq H H'->Q (.str (S u)) H'):uL p_ vs H Q cy
def Bw(p_:c7):Sp:=uL p_
theorem GP(h:Bw K vs H Q E):(vs:)=4:=by obtain ⟨_,_,_,_,rfl,_⟩:=h;rfl
inductive qR(p_:c7)(vs:List V)(H:Hp)(Q:VK)(cy:XK):Prop
 | mk (b:Addr) (y:c0) (_:vs=[.ref b,.str (S y)]) (_:dW H b) (_:Yd y) (_:y≠[]) (_:(y:)<=8) (_:∀(a:c0) H',SW y a->(a:)<=3->Bp y a=true->dW H' b->aV b H H'->Q (.str (S a)) H'):qR p_ vs H Q cy
def xN(p_:c7):Sp:=qR p_
theorem Dh(h:xN K vs H Q E):(vs:)=2:=by obtain ⟨_,_,rfl,_⟩:=h;rfl
theorem Yp.cr{a:c0}{t:Int}(h:Yp y a t l u)(v:c0):ql y u v=ql y l v+t*ql y l a*ql y a v:=by
 unfold ql
 exact KR λx hx=>by rw[h.2.2 x hx,Qfh];rfl
inductive qS(p_:c7)(vs:List V)(H:Hp)(Q:VK)(cy:XK):Prop
 | mk (y a l v:c0) (t:Int) (_:vs=[.str (S y),.str (S a),.int t,.str (S l),.str (S v)]) (_:Yd y) (_:(y:)<=8) (_:SW y a) (_:(a:)<=4) (_:Bp y a=true) (_:(∀c∈l,c∈y)) (_:(l:)<=12) (_:(∀c∈v,c∈y)) (_:(v:)<=12) (_:t.natAbs<=3) (_:∀H',aq H H'->Q (.bl true) H'):qS p_ vs H Q cy
def xO(p_:c7):Sp:=qS p_
theorem Di(h:xO K vs H Q E):(vs:)=5:=by obtain ⟨_,_,_,_,_,rfl,_⟩:=h;rfl
theorem aak{b:Addr}{P:c0->Hp->Prop}{G:Prop}(f:(∀u H6,(∀c∈u,c∈y)->(u:)<=12->dW H6 b->aV b H2 H6->P u H6)->G)(x:∀u H6,(∀c∈u,c∈y)->(u:)<=12->dW H6 b->aV b H2 H6->P u H6):G:=f x
local macro_rules | `(tactic| walk_at "rd") => `(tactic| repeat (first
 | refine ⟨_,rfl,?_⟩
 | refine ⟨_,_,rfl,rfl,?_⟩
 | refine ⟨rfl,?_⟩
 | refine And.intro (by first | decide | omega | assumption | exact Nat.le_of_ble_eq_true rfl | exact .inl ⟨∅,∅⟩ | exact .inr ⟨∅,∅⟩ | exact ⟨∅,∅⟩ | exact ⟨by omega,by omega⟩) ?_))
local macro_rules | `(tactic| walk_at "wk") => `(tactic| repeat (first
 | refine ⟨_,rfl,?_⟩
 | refine ⟨_,_,rfl,rfl,?_⟩
 | refine ⟨_,_,_,rfl,rfl,by first | assumption | omega,by assumption,?_⟩
 | refine ⟨rfl,?_⟩
 | refine And.intro (by first | decide | omega | assumption | exact Nat.le_of_ble_eq_true rfl | exact .inl ⟨∅,∅⟩ | exact .inr ⟨∅,∅⟩ | exact ⟨∅,∅⟩ | exact ⟨by omega,by omega⟩) ?_))
local macro_rules | `(tactic| walk_at "bd") => `(tactic| first | assumption | exact aaP _ | exact apl (by walk_at "bd") (by walk_at "bd"))
noncomputable def top(i:Nat):Stmt:=PySem.Challenge.pw_mustmeet_k84_whole_wound_nets.main.body.getD i (.Pass ⟨0,0,0,0⟩)
noncomputable abbrev nq:Stmt:=top 4
noncomputable abbrev uM:Stmt:=top 5
noncomputable abbrev zg:Stmt:=top 7
noncomputable abbrev iF:Stmt:=top 8
noncomputable abbrev jr:Stmt:=top 9
noncomputable abbrev js:Stmt:=top 11
noncomputable abbrev uN:Stmt:=top 12
noncomputable abbrev f_:Stmt:=top 13
noncomputable abbrev qm:Stmt:=top 14
noncomputable abbrev gT:Stmt:=top 15
noncomputable abbrev gU:Stmt:=top 16
noncomputable abbrev kX:Stmt:=top 17
noncomputable abbrev fz:Stmt:=top 18
noncomputable abbrev jt:Stmt:=top 20
noncomputable abbrev iG:Stmt:=top 22
noncomputable abbrev kY:Stmt:=top 24
noncomputable abbrev nu:Stmt:=top 25
noncomputable abbrev Dj:Stmt:=top 26
noncomputable abbrev Dk:Stmt:=top 27
noncomputable abbrev Dm:Stmt:=top 28
noncomputable abbrev gW:Stmt:=top 30
noncomputable abbrev iH:Stmt:=top 33
noncomputable abbrev ju:Stmt:=top 34
noncomputable abbrev qp:Stmt:=top 35
noncomputable abbrev qq:Stmt:=top 36
noncomputable abbrev iI:Stmt:=top 37
noncomputable abbrev gX:Stmt:=top 38
noncomputable abbrev iJ:Stmt:=top 39
noncomputable abbrev jv:Stmt:=top 40
noncomputable abbrev Dp:Stmt:=top 41
noncomputable abbrev zh:Stmt:=top 43
noncomputable abbrev KW:Stmt:=top 44
noncomputable abbrev qt:Stmt:=top 46
noncomputable abbrev jw:Stmt:=top 47
noncomputable abbrev jx:Stmt:=top 48
noncomputable abbrev jy:Stmt:=top 49
noncomputable abbrev kZ:Stmt:=top 51
noncomputable abbrev uO:Stmt:=top 52
noncomputable abbrev jz:Stmt:=top 53
noncomputable abbrev k_:Stmt:=top 54
noncomputable abbrev zi:Stmt:=top 55
noncomputable abbrev KY:Stmt:=top 57
noncomputable abbrev qu:Stmt:=top 58
noncomputable abbrev lh:Stmt:=top 59
noncomputable abbrev zj:Stmt:=top 60
noncomputable abbrev qv:Stmt:=top 61
noncomputable abbrev Dq:Stmt:=top 63
noncomputable abbrev zk:Stmt:=top 64
noncomputable abbrev uQ:Stmt:=top 65
noncomputable abbrev zm:Stmt:=top 66
noncomputable abbrev zo:Stmt:=top 67
noncomputable abbrev uR:Stmt:=top 68
noncomputable abbrev uS:Stmt:=top 69
noncomputable abbrev KZ:Stmt:=top 70
structure a_(K:c7)(mg:Str->Option Value)(x:Str)(st:Stmt)(ps:List Str)(f:Addr)(fd:FuncData):Prop where
 fn:Mj K x x st f fd
 mg:mg x=some (.ref f)
 bd:Binds K fd ps []
variable{X:Cx}
theorem ah{ss:List Stmt}(Z:TS)(h:zQ X ss Z):zQ X ss Z:=h
variable{mg:Str->Option Value}{pos:Pos}
theorem ai{k:Nat}{f:Addr}{fd:FuncData}{ps:List Str}{sp:Sp}{x:Str}{st:Stmt}{e:Expr}{es:List Expr}{t:TA}{p:Pos}(G:bp X.prog X.w X.K X.mg X.base eL k f fd ps sp)(F:a_ K mg x st ps f fd)(hr:fo j X.A)(ha:PA X (e::es) t)(hK:X.K=K:=by rfl)(hm:X.mg=mg:=by rfl)(hg:Gl X x:=by rfl)(hj:k<=j:=by decide)(hd:(x==("__debug__":Str))=false:=by decide)(he:starEach (e::es) X.env=(false,eval e X.env)::starEach es X.env:=by rfl)(hp:(backTo pos (starEach es X.env)).any (·.1)=false:=by rfl):PE X (.Call (.Name x p) (e::es) [] pos) (OH sp [] E0 t):=by
 subst hK;subst hm;exact lH G (hr.mono hj) hg F.mg F.fn.kp F.bd .nil hU ha hd he hp
variable{te:TE}
theorem ao{x:Str}{e:Expr}{p:Pos}(hN:X.N.Nodup)(he:PE X e te)(hi:X.N[i]? =some x:=by rfl)(hx:Loc X.env.scope x:=by first | exact .inl rfl | exact .inr rfl)(hs:swapsWith e (some (.Name x p)) pos.line X.env=pure false:=by rfl)(hf:X.fn x=true\/X.env.scope.names.lookup x=some .local:=by first | exact .inl rfl | exact .inr rfl):PS X (.Assign [.Name x p] e pos) (Hx te (wg i)):=BN hN hi hx he hs hf
theorem ae{e:Expr}(he:PE X e te)(hs:starEach [e] X.env=(false,eval e X.env)::starEach [] X.env:=by rfl):PA X [e] (HF te Qj):=aa he bV hs
theorem eI(K:c7){e:Expr}{p:Pos}(hm:X.mg "len"=none)(he:PE X e te)(hK:X.K=K:=by rfl)(hg:Gl X "len":=by rfl)(hs:starEach [e] X.env=(false,eval e X.env)::starEach [] X.env:=by rfl)(hp:(backTo pos (starEach [] X.env)).any (·.1)=false:=by rfl):PE X (.Call (.Name "len" p) [e] [] pos) (Zo (OR K) (HF te Qj)):=aU (vz K hK) hg hm Qb7 (aa he bV hs) ∅ ∅ hs hp
noncomputable abbrev lZ:Stmt:=inC (top 31) 0
noncomputable abbrev jc:Stmt:=inC (top 32) 0
structure Txt(K:c7)(mg:Str->Option Value)(f0 f1 f2 f3 f4 f5 f6 f7 f8 f9 Tr Ts Tt Tu Tv Tw Tx Tz TB TC TF K0 K1 TH TJ TK TL TM TN TQ TR TU TV TX TY TZ T1 T3 T4 T5 T6 T7 T8 T9 T_ Ua Ub Uc Ud Ue Ug Uh Ui Uj aM ba mU iK:Addr)(d0 d1 d2 d3 d4 d5 d6 d7 d8 d9 Uk Ul Um Uo Up Uq Ur Us Ut Uu Uv Uw Ux Uy Uz UA UB UC UD UE UG UH UI UJ UK UL UM UN UO UP UQ UR US UT UU UW UX UY UZ U0 U1 U2 U3 U4 Bx uT:FuncData):Prop where
 F0:a_ K mg "contrary" nq ["letter"] f0 d0
 F1:a_ K mg "turned" uM ["word"] f1 d1
 F2:a_ K mg "bands" zg ["yard"] f2 d2
 F3:a_ K mg "steps_round" iF ["yard","start","end"] f3 d3
 F4:a_ K mg "goes_round" jr ["yard","x","y","z"] f4 d4
 F5:a_ K mg "strands_at" js ["yard","drawing","end"] f5 d5
 F6:a_ K mg "points" uN ["yard","drawing"] f6 d6
 F7:a_ K mg "corner_points" f_ ["word","cord","place"] f7 d7
 F8:a_ K mg "corners" qm ["yard","drawing"] f8 d8
 F9:a_ K mg "corners_meet" gT ["one","other"] f9 d9
 F10:a_ K mg "chord_starts" gU ["some"] Tr Uk
 F11:a_ K mg "number_in" kX ["rising","point"] Ts Ul
 F12:a_ K mg "count_meetings" fz ["some"] Tt Um
 F13:a_ K mg "strands_in" jt ["words","band"] Tu Uo
 F14:a_ K mg "corner_ends" iG ["word","place"] Tv Up
 F15:a_ K mg "shortened" kY ["word"] Tw Uq
 Yq:a_ K mg "shortest" nu ["word"] Tx Ur
 Hh:a_ K mg "ring" Dj ["word"] Tz Us
 F18:a_ K mg "loop" Dk ["word"] TB Ut
 Yr:a_ K mg "root" Dm ["word"] TC Uu
 Ys:a_ K mg "corner_steps" gW ["yard","word","place"] TF Uv
 Hi:a_ K mg "steps_ahead" iH ["seen","start","end"] K0 Uw
 Hj:a_ K mg "steps_back" ju ["seen","start","end"] K1 Ux
 F23:a_ K mg "parting" qp ["steps","one","other","enough"] TH Uy
 F24:a_ K mg "side_of" qq ["seen"] TJ Uz
 F25:a_ K mg "comes_ahead" iI ["one","other"] TK UA
 F26:a_ K mg "number_among" gX ["order","seen"] TL UB
 F27:a_ K mg "seen_strand" iJ ["words","ways","strand"] TM UC
 F28:a_ K mg "taut_order" jv ["words","ways","band"] TN UD
 F29:a_ K mg "taut" Dp ["yard","words"] TQ UE
 F30:a_ K mg "least" zh ["yard","words"] TR UG
 F31:a_ K mg "own" KW ["yard","word"] TU UH
 F32:a_ K mg "is_lone" qt ["yard","word"] TV UI
 F33:a_ K mg "may_follow" jw ["word","letter"] TX UJ
 F34:a_ K mg "one_longer" jx ["yard","words"] TY UK
 F35:a_ K mg "lone_loops" jy ["yard","length"] TZ UL
 F36:a_ K mg "met_along" kZ ["corner","others","many"] T1 UM
 F37:a_ K mg "put_in" uO ["along","times","place","leaves"] T3 UN
 F38:a_ K mg "wound_lone" jz ["yard","along","times","word"] T4 UO
 F39:a_ K mg "look_lone" k_ ["yard","along"] T5 UP
 F40:a_ K mg "wound" zi ["yard","along","times","word"] T6 UQ
 U5:a_ K mg "net" KY ["yard","word"] T7 UR
 F42:a_ K mg "crosses" qu ["yard","band","other"] T8 US
 F43:a_ K mg "table_row" lh ["yard","band"] T9 UT
 F44:a_ K mg "table" zj ["yard"] T_ UU
 Yt:a_ K mg "crossed" qv ["yard","one","other"] Ua UW
 F46:a_ K mg "_law_box" Dq ["_law_script","_law_k"] Ub UX
 Hk:a_ K mg "_law_take" zk ["_law_box_here","_law_many"] Uc UY
 F48:a_ K mg "_law_other" uQ ["_law_letter"] Ud UZ
 F49:a_ K mg "_law_yard" zm ["_law_box_here","_law_few","_law_top"] Ue U0
 F50:a_ K mg "_law_word" zo ["_law_box_here","_law_yard_here","_law_top"] Ug U1
 F51:a_ K mg "_law_along" uR ["_law_box_here","_law_yard_here"] Uh U2
 F52:a_ K mg "_law_right" uS ["_law_yard_here","_law_along_here","_law_times","_law_one","_law_other_here"] Ui U3
 F53:a_ K mg "law" KZ ["_law_script"] Uj U4
 K2:mg "Seen"=some (.ref aM)
 eN:OG K aM
 n_Seen_strand:eY K aM "strand"
 n_Seen_way:eY K aM "way"
 n_Seen_place:eY K aM "place"
 Pu:mg "Way"=some (.ref ba)
 iu:OG K ba
 n_Way_size:eY K ba "size"
 n_Way_root_size:eY K ba "root_size"
 n_Way_leads:eY K ba "leads"
 n_Way_onward:eY K ba "onward"
 n_Way_backward:eY K ba "backward"
 Pw:Mk K ba mU
 Xi:Mj K "__init__" "Way.__init__" lZ mU Bx
 Px:Binds K Bx ["self","yard","word","longest"] []
 K3:Mk K aM iK
 Sr:Mj K "__init__" "Seen.__init__" jc iK uT
 K4:Binds K uT ["self","strand","way","place"] []
 z_abs:mg "abs"=none
 z_enumerate:mg "enumerate"=none
 z_int:mg "int"=none
 z_len:mg "len"=none
 z_list:mg "list"=none
 z_max:mg "max"=none
 z_min:mg "min"=none
 z_range:mg "range"=none
 z_reversed:mg "reversed"=none
 z_sorted:mg "sorted"=none
 z_str:mg "str"=none
 z_sum:mg "sum"=none
 z_tuple:mg "tuple"=none
 z_zip:mg "zip"=none
theorem By:aD ["letter"] ["letter"] (ay nq):=56
theorem GQ:aD ["word"] ["word"] (ay uM):=56
theorem K5:aD ["yard"] ["yard"] (ay zg):=56
theorem uU:aD ["yard","start","end"] ["yard","start","end"] (ay iF):=56
theorem vS:aD ["yard","x","y","z"] ["yard","x","y","z"] (ay jr):=56
theorem mV:aD ["yard","drawing","end","order"] ["yard","drawing","end"] (ay js):=56
theorem l_:aD ["yard","drawing","told","end","strand"] ["yard","drawing"] (ay uN):=56
theorem jd:aD ["word","cord","place","ahead"] ["word","cord","place"] (ay f_):=56
theorem da:aD ["yard","drawing","numbers","number","point","told","cord","word","place","pair"] ["yard","drawing"] (ay qm):=56
theorem gh:aD ["one","other","low","high"] ["one","other"] (ay gT):=56
theorem eJ:aD ["some","starts","corner","first"] ["some"] (ay gU):=56
theorem dQ:aD ["rising","point","low","high","middle"] ["rising","point"] (ay kX):=56
theorem bN:aD ["some","starts","begun","many","point","number"] ["some"] (ay fz):=56
theorem dq:aD ["words","band","found","cord","word","place","letter"] ["words","band"] (ay jt):=56
theorem uV:aD ["word","place"] ["word","place"] (ay iG):=56
theorem jA:aD ["word","kept","letter"] ["word"] (ay kY):=56
theorem eV:aD ["word","left","start","end"] ["word"] (ay nu):=56
theorem md:aD ["word","whole","least","start","begun"] ["word"] (ay Dj):=56
theorem N6:aD ["word"] ["word"] (ay Dk):=56
theorem si:aD ["word","whole","size","times"] ["word"] (ay Dm):=56
theorem jU:aD ["yard","word","place","ends"] ["yard","word","place"] (ay gW):=56
theorem lq:aD ["seen","start","end","first"] ["seen","start","end"] (ay iH):=56
theorem mW:aD ["seen","start","end","first"] ["seen","start","end"] (ay ju):=56
theorem eO:aD ["steps","one","other","enough","many","size"] ["steps","one","other","enough"] (ay qp):=56
theorem ny:aD ["seen","way","cord"] ["seen"] (ay qq):=56
theorem fm:aD ["one","other","enough","ahead","back"] ["one","other"] (ay iI):=56
theorem cB:aD ["order","seen","low","high","middle"] ["order","seen"] (ay gX):=56
theorem gY:aD ["words","ways","strand","word","place"] ["words","ways","strand"] (ay iJ):=56
theorem fJ:aD ["words","ways","band","order","strand","seen"] ["words","ways","band"] (ay jv):=56
theorem zp:aD ["yard","words","longest","ways"] ["yard","words"] (ay Dp):=56
theorem K6:aD ["yard","words"] ["yard","words"] (ay zh):=56
theorem Ss:aD ["yard","word"] ["yard","word"] (ay KW):=56
theorem uW:aD ["yard","word","short"] ["yard","word"] (ay qt):=56
theorem vT:aD ["word","letter"] ["word","letter"] (ay jw):=56
theorem iL:aD ["yard","words","longer","word"] ["yard","words"] (ay jx):=56
theorem eF:aD ["yard","length","told","words","size"] ["yard","length"] (ay jy):=56
theorem dR:aD ["corner","others","many","reach","met","other","comes_in","goes_out"] ["corner","others","many"] (ay kZ):=56
theorem qw:aD ["along","times","place","leaves","begun"] ["along","times","place","leaves"] (ay uO):=56
theorem cj:aD ["yard","along","times","word","short","every","others","parts","corner","place","leaves"] ["yard","along","times","word"] (ay jz):=56
theorem zq:aD ["yard","along"] ["yard","along"] (ay k_):=56
theorem K7:aD ["yard","along","times","word"] ["yard","along","times","word"] (ay zi):=56
theorem Su:aD ["yard","word"] ["yard","word"] (ay KY):=56
theorem nz:aD ["yard","band","other","start","capital_ahead"] ["yard","band","other"] (ay qu):=56
theorem zr:aD ["yard","band"] ["yard","band"] (ay lh):=56
theorem K8:aD ["yard"] ["yard"] (ay zj):=56
theorem fA:aD ["yard","one","other","other_net","total","many","row"] ["yard","one","other"] (ay qv):=56
theorem oX:aD ["_law_script","_law_k","_law_cell","_law_seed"] ["_law_script","_law_k"] (ay Dq):=56
theorem uX:aD ["_law_box_here","_law_many","_law_digit","_law_one"] ["_law_box_here","_law_many"] (ay zk):=56
theorem qx:aD ["_law_letter","_law_small","_law_capital"] ["_law_letter"] (ay uQ):=56
theorem fU:aD ["_law_box_here","_law_few","_law_top","_law_left","_law_ends","_law_k","_law_letter","_law_found"] ["_law_box_here","_law_few","_law_top"] (ay zm):=56
theorem K9:aD ["_law_box_here","_law_yard_here","_law_top"] ["_law_box_here","_law_yard_here","_law_top"] (ay zo):=56
theorem je:aD ["_law_box_here","_law_yard_here","_law_some","_law_word_here","_law_at"] ["_law_box_here","_law_yard_here"] (ay uR):=56
theorem me:aD ["_law_yard_here","_law_along_here","_law_times","_law_one","_law_other_here","_law_there","_law_more","_law_back"] ["_law_yard_here","_law_along_here","_law_times","_law_one","_law_other_here"] (ay uS):=56
theorem lA:aD ["_law_script","_law_k","_law_box_here","_law_yard_here","_law_times","_law_along_here","_law_one"] ["_law_script"] (ay KZ):=56
theorem uY:aD ["self","yard","word","longest","steps","rounds"] ["self","yard","word","longest"] (ay lZ):=56
theorem GR:aD ["self","strand","way","place"] ["self","strand","way","place"] (ay jc):=56
section
variable{P:Program}{w:World}{K:c7}{mg:Str->Option Value}{base:Heap}{f0 f1 f2 f3 f4 f5 f6 f7 f8 f9 Tr Ts Tt Tu Tv Tw Tx Tz TB TC TF K0 K1 TH TJ TK TL TM TN TQ TR TU TV TX TY TZ T1 T3 T4 T5 T6 T7 T8 T9 T_ Ua Ub Uc Ud Ue Ug Uh Ui Uj aM ba mU iK:Addr}{d0 d1 d2 d3 d4 d5 d6 d7 d8 d9 Uk Ul Um Uo Up Uq Ur Us Ut Uu Uv Uw Ux Uy Uz UA UB UC UD UE UG UH UI UJ UK UL UM UN UO UP UQ UR US UT UU UW UX UY UZ U0 U1 U2 U3 U4 Bx uT:FuncData}
variable(T:Txt K mg f0 f1 f2 f3 f4 f5 f6 f7 f8 f9 Tr Ts Tt Tu Tv Tw Tx Tz TB TC TF K0 K1 TH TJ TK TL TM TN TQ TR TU TV TX TY TZ T1 T3 T4 T5 T6 T7 T8 T9 T_ Ua Ub Uc Ud Ue Ug Uh Ui Uj aM ba mU iK d0 d1 d2 d3 d4 d5 d6 d7 d8 d9 Uk Ul Um Uo Up Uq Ur Us Ut Uu Uv Uw Ux Uy Uz UA UB UC UD UE UG UH UI UJ UK UL UM UN UO UP UQ UR US UT UU UW UX UY UZ U0 U1 U2 U3 U4 Bx uT)
include T
theorem rz:bp P w K mg base eL 1 Tr Uk ["some"] (jK K):=by
 refine T.F10.fn.ok eJ (λvs H Q E h=>qb h) 91
 refine let Z4:TS:=_;let Z3:TS:=_;let Z2:TS:=_;let Z1:TS:=_;let Z0:TS:=_;⟨_,(ab (ao (i:=1) eJ.nd ID)
   (ah Z0 (ab (cJ PassesOwn.never rfl (de K rfl 124) (aK (i:=2) eJ.nd rfl 125) (ah Z1 (ab (ao (i:=3) eJ.nd (aU (lG rfl) rfl T.z_min boot_min (aa (aO (aP K rfl) (pv 2) ak 129) (ae (aO (aP K rfl) (pv 2) ak 129)))))
   (ah Z2 (ab (ym (sN hr) 138 (aO (aP K rfl) (pv 2) ak 129) (pv 3) rfl)
   (ah Z3 (aj (ym (sN hr) (pv 1) (aO (aP K rfl) (pv 2) ak (λ_ _=>rfl)) (pv 3) rfl))))))))
   (ah Z4 (aj (aG (pv 1))))))),?_⟩
 obtain ⟨a,qs,rfl,ha,hq,hn,nd,q⟩:=h
 have hs:=Zs1
 walk_at "wk"
 intro d Yu
 have had:a≠d:=au ha Yu
 refine ⟨_,rfl,a,rfl,⟨_,bC.of (by rw[aA had];exact ha)⟩,?_⟩
 refine let gi:Nat->L2.St->Hp->Prop:=(λk σ H'=>∃(cv fv:Option V),σ=[some (.ref a),some (.ref d),cv,fv]/\H' d=some (.dK (g9 ((qs.take k).map Q4.v)))/\aV d H H');fM (K:=K) (a:=a) (xs:=mM qs) gi
  ⟨none,none,rfl,ag,λb o e z=>by rw[aA z];exact e⟩ (λk σ H' _ ⟨_,_,_,_,h⟩=>bC.of (h _ _ ha had)) ?_ ?_
 ·rintro k x σ H1 hx ⟨cv,fv,rfl,hd,s1⟩
  obtain ⟨c,hc,rfl⟩:=yY hx
  have hk:k<(qs:):=(Qz.mp hc).1
  have tc:=hq c (Qae hc)
  have jV:c.t≠d:=λz=>by have h9:H c.t=_:=tc;rw[z,Yu]at h9;cases h9
  have Yv:jq H1 c:=s1 _ _ tc jV
  have lc:(g9 ((qs.take k).map Q4.v):)<=2000:=by rw[A6,Qaa,Qai];omega
  have e:(qs.take (k+1)).map Q4.v=(qs.take k).map Q4.v++[c.v]:=by rw[<-take_snoc hc,Qag];rfl
  have nd1:(fk ((qs.take k).map Q4.v++[c.v])).Nodup:=by
   rw[<-e]
   have:qs.map Q4.v=(qs.take (k+1)).map Q4.v++(qs.drop (k+1)).map Q4.v:=by rw[<-Qag,Qaw]
   rw[this]at nd
   unfold fk at nd ⊢
   rw[Qce,Qdd]at nd
   exact nd.1
  refine ⟨_,rfl,c.t,_,2,_,rfl,rfl,bY.of Yv,rfl,_,rfl,c.t,_,3,_,rfl,rfl,bY.of Yv,rfl,_,_,rfl,?_⟩
  refine ⟨_,rfl,_,rfl,_,rfl,c.t,_,2,_,rfl,rfl,bY.of Yv,rfl,d,_,rfl,yl.k (k:=Sum.inl (c.v.2.2.1:Int)) hd (by omega),?_⟩
  have tc2:∀o,jq (L2.upd H1 d o) c:=λo=>by show L2.upd H1 d o c.t=_;rw[aA jV];exact Yv
  refine ⟨_,rfl,_,rfl,_,rfl,c.t,_,3,_,rfl,rfl,bY.of (tc2 _),rfl,d,_,rfl,yl.k (k:=Sum.inl (c.v.2.2.2:Int)) ag (Qbt (hW _ _ _) (by omega)),?_⟩
  refine ⟨_,_,rfl,?_,λb o eb z=>by rw[aA z,aA z];exact s1 b o eb z⟩
  rw[ag,e, <-NF nd1]
  rfl
 ·rintro σ H1 ⟨cv,fv,rfl,hd,s1⟩
  rw[h_,Qbi]at hd
  exact ⟨_,rfl,q d H1 Yu hd λb o eb=>s1 b o eb (au eb Yu)⟩
theorem zt:bp P w K mg base eL 1 Ts Ul ["rising","point"] (oF K):=by
 refine T.F11.fn.ok dQ (λvs H Q E h=>vN h) 91
 refine let Z6:TS:=_;let Z5:TS:=_;let Z4:TS:=_;let Z3:TS:=_;let Z2:TS:=_;let Z1:TS:=_;let Z0:TS:=_;⟨_,(ab (ao (i:=2) dQ.nd ak)
   (ah Z0 (ab (ao (i:=3) dQ.nd (aC cP (eI K T.z_len 124) ak))
   (ah Z1 (ab (gz PassesOwn.never (bf mC (pv 2) (pv 3) (aW _)) (ah Z2 (ab (ao (i:=4) dQ.nd (aC fO (aC bu (pv 2) (pv 3)) ak))
   (ah Z3 (aj (cM (bf mC (aO (cE K rfl) (pv 0) (pv 4) (λ_ _=>rfl)) (pv 1) (aW _)) (ah Z4 (aj (ao (i:=2) dQ.nd (aC bu (pv 4) ak)))) (ah Z5 (aj (ao (i:=3) dQ.nd (pv 4))))))))))
   (ah Z6 (aj (aG (pv 2))))))))),?_⟩
 obtain ⟨a,l,p,rfl,ha,up,hp,hn,q⟩:=h
 have hs:=Zs1
 have hi:=Qaj hp
 have hgp:l[l.idxOf p]=p:=Qb3 hi
 have key:=Qck.mp up
 refine ⟨_,rfl,a,_,rfl,.inl (bC.of ha),?_⟩
 rw[oE]
 walk_at "wk"
 refine ⟨λm σ H'=>∃(lo hi:Nat) (mv:Option V),σ=[some (.ref a),some (.int p),some (.int lo),some (.int hi),mv]/\m=hi - lo/\lo<=l.idxOf p/\l.idxOf p<=hi/\hi<(l:)/\H'=H,⟨_,0,(l:) - 1,none,?_,rfl,Qax _,by omega,by omega,rfl⟩,?_⟩
 ·have:(((l:):Int) - 1)=(((l:) - 1:Nat):Int):=by omega
  rw[<-this];rfl
 rintro m σ H2 ⟨lo,rG,mv,rfl,rfl,h1,h2,h3,rfl⟩
 walk_at "wk"
 walk_at"j"
 ·have z1:(lo:Int)<rG:=of_decide_eq_true z
  have em:(((lo:Int)+rG) / 2)=(((lo+rG) / 2:Nat):Int):=by omega
  have hm:(lo+rG) / 2<(l:):=by omega
  walk_at "rd"
  refine ⟨a,_,((lo:Int)+rG) / 2,_,rfl,rfl,bC.of ha,by rw[em];exact cO (Kc (Qy hm)),?_⟩
  walk_at "rd"
  refine cw (λy=>?_) (λy=>?_)
  ·have y1:((l[(lo+rG) / 2]:Nat):Int)<p:=of_decide_eq_true y
   have lt:(lo+rG) / 2<l.idxOf p:=by
    refine Classical.byContradiction λw=>?_
    by_cases e:(lo+rG) / 2=l.idxOf p
    ·have:l[(lo+rG) / 2]=p:=by simp only[e];exact hgp
     omega
    ·have:=key (l.idxOf p) ((lo+rG) / 2) hi hm (by omega)
     rw[hgp]at this
     omega
   walk_at "rd"
   have e1:((lo:Int)+rG) / 2+1=(((lo+rG) / 2+1:Nat):Int):=by omega
   refine ⟨rG - ((lo+rG) / 2+1),by omega,(lo+rG) / 2+1,rG,_,by rw[<-e1];rfl,rfl,by omega,h2,h3,rfl⟩
  ·have y1: ¬((l[(lo+rG) / 2]:Nat):Int)<p:=λw=>y (decide_eq_true w)
   have le:l.idxOf p<=(lo+rG) / 2:=by
    refine Classical.byContradiction λw=>?_
    have:=key ((lo+rG) / 2) (l.idxOf p) hm hi (by omega)
    rw[hgp]at this
    omega
   walk_at "rd"
   refine ⟨(lo+rG) / 2 - lo,by omega,lo,(lo+rG) / 2,_,by rw[<-em];rfl,rfl,h1,le,by omega,rfl⟩
 ·have z1: ¬(lo:Int)<rG:=λw=>z (decide_eq_true w)
  have e:lo=l.idxOf p:=by omega
  walk_at "rd"
  rw[e]
  exact q
theorem oY:bp P w K mg base eL 2 Tt Um ["some"] (ik K):=by
 have uZ:=rz (P:=P) (w:=w) (base:=base) T
 have Bz:=zt (P:=P) (w:=w) (base:=base) T
 refine T.F12.fn.ok bN (λvs H Q E h=>nk h) 91
 refine let Z8:TS:=_;let Z7:TS:=_;let Z6:TS:=_;let Z5:TS:=_;let Z4:TS:=_;let Z3:TS:=_;let Z2:TS:=_;let Z1:TS:=_;let Z0:TS:=_;⟨_,(ab (ao (i:=1) bN.nd (ai uZ T.F10 hr (ae 124)))
   (ah Z0 (ab (ao (i:=2) bN.nd (eK bV))
   (ah Z1 (ab (ao (i:=3) bN.nd ak)
   (ah Z2 (ab (cJ PassesOwn.never rfl (de K rfl (aU (vH rfl) rfl T.z_sorted boot_sorted (ae 138))) (aK (i:=4) bN.nd rfl 125) (ah Z3 (aj (cM (bf m8 (rL (sN hr) 138 (pv 4) 129) (pv 4) (aW _)) (ah Z4 (aj (cW (bP K rfl Qbe Qcn Qcm eQ (pv 2) (ae (pv 4)))))) (ah Z5 (ab (ao (i:=5) bN.nd (ai Bz T.F11 hr (aa (pv 2) (ae (rL (sN hr) 138 (pv 4) 129)))))
   (ah Z6 (ab (cW (bP K rfl Qbe Qek Qej sL (pv 2) (ae (pv 5))))
   (ah Z7 (aj (j5 (i:=3) bN.nd rfl (Or.inl rfl) (aC cP (eI K T.z_len (pv 2)) (pv 5)) sF)))))))))))
   (ah Z8 (aj (aG (pv 3))))))))))),?_⟩
 obtain ⟨a,qs,rfl,ha,hq,hn,nd,q⟩:=h
 have hs:=Zs1
 refine ⟨_,rfl,a,qs,rfl,ha,hq,by omega,nd,λd H1 nd1 hd s1=>?_⟩
 have hcs:(qs.map Q4.v:)<=24:=by rw[Qaa];exact hn
 generalize qs.map Q4.v=cs at nd hd q hcs
 have kl:=A6 cs
 have cl':(fk cs:)=2*(cs:):=by
  have:=congrArg List.length (i7 cs)
  rw[Qaa,Qaa]at this
  omega
 walk_at "wk"
 intro b nb
 have hbd:d≠b:=au hd nb
 have hd2:L2.upd H1 b (.lst []) d=some (.dK (g9 cs)):=by rw[aA hbd];exact hd
 have sb:=aq.upd (o:= .lst []) nb
 refine ⟨_,rfl,d,_,(fk cs).map λn:Nat=>(n:Int),rfl,hd2,by rw[i7,Qbj];rfl,by rw[Qaa];omega,λp2 ms n2 vO Sv=>?_⟩
 obtain ⟨P,eP,pP,uP⟩:=C1 nd vO Sv
 rw[eP]
 have ch:=RZ nd pP uP
 have lP:P.length<=2000:=by rw[pP.length_eq];omega
 have h2b:p2≠b:=λz=>by rw[z,ag]at n2;cases n2
 have s2:=sb.trans (aq.upd (o:= .lst (ins P)) n2)
 refine ⟨p2,rfl,⟨_,bC.of ag⟩,?_⟩
 refine let gi:Nat->L2.St->Hp->Prop:=(λk σ H'=>∃(m:Nat) (pv nv:Option V),σ=[some (.ref a),some (.ref d),some (.ref b),some (.int m),pv,nv]/\H' b=some (.lst (ins (rY (cZ cs) (P.take k) (P.drop k))))/\m+LQ (cZ cs) (P.take k) (P.drop k)=LQ (cZ cs) [] P/\aV b (L2.upd (L2.upd H1 b (.lst [])) p2 (.lst (ins P))) H');fM (K:=K) (a:=p2) (xs:=ins P) gi
  ⟨0,none,none,rfl,by rw[aA (Ne.symm h2b),ag];rfl,by rw[Qc6];rfl,aV.refl _ _⟩ (λk σ H' _ ⟨_,_,_,_,_,_,h⟩=>bC.of (h _ _ ag h2b)) ?_ ?_
 ·rintro k x σ H3 hx ⟨m,pv,nv,rfl,hb,hm,s3⟩
  obtain ⟨p,hp,rfl⟩:∃p,P[k]? =some p/\x=V.int (p:Nat):=by
   unfold ins at hx
   rw[Qat]at hx
   cases e:P[k]? with
   | none=>rw[e]at hx;cases hx
   | some p=>rw[e]at hx;cases hx;exact ⟨p,rfl,rfl⟩
  have hk:k<P.length:=(Qz.mp hp).1
  have hpc:p∈fk cs:=pP.mem_iff.mp (Qae hp)
  have hsv:=R1 nd hpc
  have hd3:H3 d=some (.dK (g9 cs)):=s3 _ _ (s2 _ _ hd) hbd
  have eP2:P=P.take k++p::P.drop (k+1):=by
   have:=Qaw k P
   rw[Qb8 hk,(Qz.mp hp).2]at this
   exact this.symm
  have edr:P.drop k=p::P.drop (k+1):=by rw[Qb8 hk,(Qz.mp hp).2]
  have Xj:P.take (k+1)=P.take k++[p]:=(take_snoc hp).symm
  have bl:(rY (cZ cs) (P.take k) (P.drop k):)<=2000:=Qbn NG (by rw[Qai];omega)
  have AQ:=Kf (st:=cZ cs) hp
  refine ⟨_,rfl,_,rfl,d,_,rfl,by rw[<-hsv];exact tE.k (k:=Sum.inl (p:Int)) hd3,?_⟩
  walk_at "rd"
  walk_at"j"
  ·have z1:cZ cs p=p:=by have:=of_decide_eq_true z;omega
   refine ⟨_,rfl,.inl ⟨rfl,_,bC.of hb⟩,_,rfl,b,_,_,rfl,rfl,hb,by rw[oE];omega,?_⟩
   refine ⟨m,_,_,rfl,?_,?_,s3.trans (aV.upd _ _ _)⟩
   ·rw[ag,Kb,Xj,J6 ch eP2 z1, <-edr]
   ·have e0:Gy (cZ cs) (P.take k) (P.drop (k+1)) p=0:=by unfold Gy;rw[if_pos z1]
    omega
  ·have z1:cZ cs p≠p:=λw=>z (decide_eq_true (by rw[w]))
   obtain ⟨en,em⟩:=RW ch eP2 z1
   rw[<-edr]at en em
   have up:=R0 (st:=cZ cs) uP (Qaw k P).symm (P.drop k)
   have B_:=Qaj em
   refine ⟨_,rfl,_,rfl,_,rfl,d,_,rfl,by rw[<-hsv];exact tE.k (k:=Sum.inl (p:Int)) hd3,b,_,cZ cs p,rfl,hb,up,em,by omega,?_⟩
   refine ⟨_,rfl,.inl ⟨rfl,_,bC.of hb⟩,_,rfl,b,_,_,_,_,rfl,rfl,hb,by omega,by omega,?_,Kc (Qy B_),?_⟩
   ·rw[oE]
    exact Xa B_
   have ee:(ins (rY (cZ cs) (P.take k) (P.drop k))).eraseIdx ((rY (cZ cs) (P.take k) (P.drop k)).idxOf (cZ cs p))=ins (rY (cZ cs) (P.take (k+1)) (P.drop (k+1))):=by
    rw[Xj,en, <-Ke em]
    exact xA _ _
   rw[ee]
   refine ⟨_,rfl,_,rfl,b,_,rfl,.inl (bC.of ag),?_⟩
   walk_at "rd"
   have bh:=behind up em
   have lb:(rY (cZ cs) (P.take (k+1)) (P.drop (k+1)):)=((rY (cZ cs) (P.take k) (P.drop k)).erase (cZ cs p):):=by rw[Xj,en]
   have le:((rY (cZ cs) (P.take k) (P.drop k)).erase (cZ cs p):)+1=(rY (cZ cs) (P.take k) (P.drop k):):=by rw[List.length_erase_of_mem em];omega
   have ec:Gy (cZ cs) (P.take k) (P.drop (k+1)) p=(((rY (cZ cs) (P.take k) (P.drop k)).filter λx=>decide (cZ cs p<x)):):=by unfold Gy;rw[if_neg z1,edr]
   have ei:(m:Int)+(((ins (rY (cZ cs) (P.take (k+1)) (P.drop (k+1))):):Nat) - ((rY (cZ cs) (P.take k) (P.drop k)).idxOf (cZ cs p):Nat))=((m+Gy (cZ cs) (P.take k) (P.drop (k+1)) p:Nat):Int):=by rw[oE];omega
   exact ⟨m+Gy (cZ cs) (P.take k) (P.drop (k+1)) p,some (.int p),some (.int ((rY (cZ cs) (P.take k) (P.drop k)).idxOf (cZ cs p):Nat)),by rw[<-ei];rfl,ag,by omega,s3.trans (aV.upd _ _ _)⟩
 ·rintro σ H3 ⟨m,pv,nv,rfl,hb,hm,s3⟩
  rw[oE,List.drop_length,Qbi]at hm
  have tH:m=LQ (cZ cs) [] P:=hm
  refine ⟨_,rfl,?_⟩
  rw[tH,W_ ch]
  exact q H3 λc o e=>s3 c o (s2 c o (s1 c o e)) (au e (aq.free s1 nb))
theorem lB:bp P w K mg base eL 1 f2 d2 ["yard"] (AM K):=by
 refine T.F2.fn.ok K5 (λvs H Q E h=>Gp h) 91
 refine ⟨_,(aj (aG (bP K rfl Qa5 Qda Qc9 (gI K rfl) (mi [] ⋯) (ae (aU (yk K rfl) rfl T.z_sorted boot_sorted (ae (bW ["letter"] [none] (j_ 124) trivial (λ_ _ _ _=>(aK (i:=0) (by decide+kernel:List.Nodup (["letter"]:List Str)) rfl 125)) (λ_ _ _ _=>(x_ (fV (fF K rfl Qa5 Qff Qfe m7 124)))) (λ_ _ _ _=>(pv 0))))))))),?_⟩
 obtain ⟨l,rfl,hl,hz,q⟩:=h
 have hs:(1000:Nat)<sizeLine:=by decide
 refine ⟨rfl,_,rfl,l,rfl,?_⟩
 refine let gi:Nat->List V->Hp->Prop:=(λi acc H'=>aq H H'/\acc=dU ((l.take i).filter aB));fN (xs:=dU l) gi (by rw[aX];lia) ⟨aq.refl H,rfl⟩ ?_ ?_
 ·rintro i x acc H1 Nx hi hx o9 ⟨s1,rfl⟩ nx
  obtain ⟨c,hc,rfl⟩:=fE hx
  have e:=AN (p:=aB) hc
  refine ⟨trivial,?_⟩
  refine ⟨_,rfl,rfl,c,rfl,rfl,hl c (Qae hc),_,rfl,?_⟩
  walk_at"j"
  ·rw[if_pos z]at e
   exact ⟨_,rfl,nx _ _ (by simpa using o9) ⟨s1,by rw[e, <-e_]⟩⟩
  ·rw[if_neg z,Qbh]at e
   exact nx _ _ (Nat.le_succ_of_le o9) ⟨s1,by rw[e]⟩
 ·rintro acc H1 D o9 ⟨s1,rfl⟩ hD
  rw[nS,gD]
  have hfl:(l.filter aB:)<=(l:):=Qel _ _
  refine ⟨D,(l.filter aB).map λc=>[c],rfl,bC.of ag,by rw[Qaa];lia,λp ls hp vO Sv=>?_⟩
  obtain ⟨l',rfl,pl⟩:=Mx vO
  have lF:=pl.length_eq
  refine ⟨p,l'.map λc=>[c],rfl,rfl,bC.of ag,by rw[CB];lia,?_⟩
  rw[tU]
  exact q l' _ pl (Mz Sv) ((s1.trans (aq.upd hD)).trans (aq.upd hp))
theorem vU:bp P w K mg base eL 2 f5 d5 ["yard","drawing","end"] (mL K):=by
 walk_at"J"
 refine T.F5.fn.ok mV (λvs H Q E h=>ub h) 91
 refine let Z2:TS:=_;let Z1:TS:=_;let Z0:TS:=_;⟨_,(ab (ao (i:=3) mV.nd (cQ (mH K rfl) rfl T.z_list boot_list (ae (aO (aP K rfl) (aO (aP K rfl) 138 ak 129) (bP K rfl Qa5 Qfr Qfp pK (ai gs T.F2 hr (ae 124)) (ae (fF K rfl Qa5 Qfq Qfo sS (pv 2)))) 129))))
   (ah Z0 (ab (cM (fV (fF K rfl Qa5 PySem.F.slot_str_isupper PySem.F.type_str_isupper Ce (pv 2))) (ah Z1 (aj (cW (fF K rfl Qbe PySem.F.slot_list_reverse PySem.F.type_list_reverse B6 (pv 3))))) bK)
   (ah Z2 (aj (aG (pv 3))))))),?_⟩
 obtain ⟨y,dr,ws,os,e,rfl,hy,hz,he,ho,hd,q⟩:=h
 have hs:=Zs1
 have Yw:∀c∈y,c<128:=qJ hy.lt
 have he8:=Yw e he
 obtain ⟨⟨wt,ot,d1,d2,d3⟩,dO⟩:=hd
 obtain ⟨o,o1,o2,o3⟩:=kI hy he ho
 refine ⟨_,rfl,dr,_,1,_,rfl,rfl,bY.of d1,rfl,?_⟩
 refine ⟨_,rfl,y,rfl,Yw,by omega,λl' H1 lF N7 s1=>?_⟩
 have el:=ou lF N7
 subst el
 refine ⟨rfl,_,rfl,rfl,e,rfl,rfl,he8,?_⟩
 refine ⟨aQ y,_,rfl,rfl,AY hy he,?_⟩
 refine ⟨ot,_,_,_,rfl,rfl,bY.of (s1 _ _ d3),cO (RQ o2),?_⟩
 refine ⟨o.o,_,rfl,.inr (bY.of (s1 _ _ (dO o o1).tp)),λp1 n1=>?_⟩
 refine ⟨_,rfl,rfl,e,rfl,rfl,he8,_,rfl,cw (λz=>?_) (λz=>?_)⟩
 ·refine ⟨_,rfl,.inl ⟨rfl,_,bC.of ag⟩,p1,_,rfl,rfl,ag,?_⟩
  refine ⟨_,rfl,q p1 _ (aq.free s1 n1) ?_ ?_⟩
  ·rw[ag,Nv]
   unfold mq
   rw[if_pos z,o3]
  ·exact λa u ea=>by rw[aA (au ea (aq.free s1 n1)),aA (au ea (aq.free s1 n1))];exact s1 a u ea
 ·refine ⟨_,rfl,q p1 _ (aq.free s1 n1) ?_ (s1.trans (aq.upd n1))⟩
  rw[ag]
  unfold mq
  rw[if_neg z,o3]
theorem GS:bp P w K mg base eL 3 f6 d6 ["yard","drawing"] (xv K):=by
 have zu:=vU (P:=P) (w:=w) (base:=base) T
 refine T.F6.fn.ok l_ (λvs H Q E h=>CY h) 91
 refine let Z3:TS:=_;let Z2:TS:=_;let Z1:TS:=_;let Z0:TS:=_;⟨_,(ab (ao (i:=2) l_.nd (eK bV))
   (ah Z0 (ab (cJ PassesOwn.never rfl (j_ 124) (aK (i:=3) l_.nd rfl 125) (ah Z1 (aj (cJ PassesOwn.never rfl (de K rfl (ai zu T.F5 hr (aa 124 (aa 138 (ae (pv 3)))))) (aK (i:=4) l_.nd rfl 125) (ah Z2 (aj (cW (bP K rfl Qbe Qcn Qcm eQ (pv 2) (ae (dB (aa (aO (aP K rfl) (pv 4) ak 129) (aa (aO (aP K rfl) (pv 4) ak 129) (ae (pv 3))))))))))))))
   (ah Z3 (aj (aG (pv 2))))))),?_⟩
 obtain ⟨y,dr,ws,os,rfl,hy,hz,ho,hd,q⟩:=h
 have hs:=Zs1
 walk_at "wk"
 intro p1 n1
 refine ⟨_,rfl,y,rfl,?_⟩
 refine let gi:Nat->L2.St->Hp->Prop:=(λi σ H'=>∃(ps:List Pt) (ev sv:Option V),σ=[some (.str (S y)),some (.ref dr),some (.ref p1),ev,sv]/\H' p1=some (.lst (LO ps))/\(∀p∈ps,vM H' p/\p.t≠p1)/\ps.map Pt.is=(y.take i).flatMap (dF y os)/\(ps:)<=100*i/\aV p1 H H');DN (xs:=dU y) gi ⟨[],none,none,rfl,ag,λ_ h=>absurd h Qav,rfl,Qax _,aV.of (aq.upd n1)⟩ ?_ ?_
 ·rintro i x σ H1 hx ⟨ps,ev,sv,rfl,hp,tP,lL,jC,s1⟩
  obtain ⟨e,he,rfl⟩:=fE hx
  have RT:=Qae he
  have hi:i<(y:):=(Qz.mp he).1
  have Sw:aq H H1:=λa u ea=>s1 a u ea (au ea n1)
  refine ⟨_,rfl,_,rfl,_,rfl,y,dr,ws,os,e,rfl,hy,hz,RT,ho,hd.same Sw,λp2 H2 n2 nL s2=>?_⟩
  have Xk:=Nz (H:=H) hy RT ho hd.od
  refine ⟨p2,rfl,⟨_,bC.of nL⟩,?_⟩
  have h12:p2≠p1:=λz=>by rw[z,hp]at n2;cases n2
  refine let zw:Nat->L2.St->Hp->Prop:=(λj σ H'=>∃(us:List Pt) (sv:Option V),σ=[some (.str (S y)),some (.ref dr),some (.ref p1),some (.str (S [e])),sv]/\H' p1=some (.lst (LO us))/\H' p2=some (.lst (xu (mq y os e)))/\(∀p∈us,vM H' p/\p.t≠p1)/\us.map Pt.is=ps.map Pt.is++((mq y os e).take j).map (λp=>(p.c,p.i,e))/\(us:)<=100*i+j/\aV p1 H1 H');fM (K:=K) (a:=p2) (xs:=xu (mq y os e)) zw
   ⟨ps,sv,rfl,s2 _ _ hp,nL,λp rN=>⟨(tP p rN).1.same s2,(tP p rN).2⟩,by simp,by omega,aV.of s2⟩ (λj σ H' _ ⟨_,_,_,_,h,_⟩=>bC.of h) ?_ ?_
  ·rintro j x σ H3 hx3 ⟨us,sv3,rfl,GU,Xl,Xm,GV,Py,s3⟩
   obtain ⟨p,hpj,rfl⟩:=JT hx3
   obtain ⟨o,oo,po⟩:=Ny hy RT ho (Qae hpj)
   have hj:j<(mq y os e:):=(Qz.mp hpj).1
   have K_:aq H H3:=λa u ea=>s3 a u (Sw a u ea) (au ea n1)
   have pk:=(hd.od o oo).pr p po
   have tp:=K_ _ _ pk.tp
   refine ⟨_,rfl,.inl ⟨rfl,_,bC.of GU⟩,?_⟩
   refine ⟨_,rfl,p.t,_,0,_,rfl,rfl,bY.of tp,rfl,_,rfl,p.t,_,1,_,rfl,rfl,bY.of tp,rfl,?_⟩
   walk_at "wk"
   intro t nt
   have Pz:t≠p1:=λz=>by rw[z,GU]at nt;cases nt
   refine ⟨p1,_,_,rfl,rfl,(aq.upd nt) _ _ GU,by rw[EA];omega,?_⟩
   refine ⟨us++[⟨t,p.c,p.i,e⟩],_,rfl,by rw[ag];exact congrArg (λx=>some (HO.lst x)) (JV us ⟨t,p.c,p.i,e⟩),by rw[aA h12];exact (aq.upd nt) _ _ Xl,λr hr=>?_,?_,by rw[X4];show (us:)+1<=_;omega,λa u ea z=>by rw[aA z];exact (aq.upd nt) _ _ (s3 a u ea z)⟩
   ·rcases Qan.mp hr with z | z
    ·exact ⟨((Xm r z).1.same (aq.upd nt)).upd (Xm r z).2,(Xm r z).2⟩
    ·have e2:=Qab.mp z
     subst e2
     exact ⟨vM.upd ⟨ag,pk.cz,pk.iz,(hy.lt e RT).lt⟩ Pz,Pz⟩
   ·rw[Qag,GV, <-take_snoc hpj,Qag,Qac]
    rfl
  ·rintro σ H3 ⟨us,sv3,rfl,GU,Xl,Xm,GV,Py,s3⟩
   rw[yU]at Py GV
   refine ⟨us,_,_,rfl,GU,Xm,?_,by omega,λa u ea z=>s3 a u (s1 a u ea z) z⟩
   rw[GV,lL, <-take_snoc he,Qce,Qbi,Qbp,Qgs,Qbh]
   rfl
 ·rintro σ H1 ⟨ps,ev,sv,rfl,hp,tP,lL,jC,s1⟩
  rw[aX]at jC lL
  rw[Qbi]at lL
  exact ⟨_,rfl,q p1 ps H1 n1 hp tP lL (by omega) (λa u ea=>s1 a u ea (au ea n1))⟩
theorem cU:bp P w K mg base eL 1 f0 d0 ["letter"] (qI K):=by
 refine T.F0.fn.ok By (λvs H Q E h=>yz h) 91
 refine let Z1:TS:=_;let Z0:TS:=_;⟨_,(ab (cM (fV (fF K rfl Qa5 Qff Qfe m7 124)) (ah Z0 (aj (aG (fF K rfl Qa5 PySem.F.slot_str_upper PySem.F.type_str_upper HX 124)))) bK)
   (ah Z1 (aj (aG (fF K rfl Qa5 Qfq Qfo sS (pv 0)))))),?_⟩
 obtain ⟨c,rfl,hc,q⟩:=h
 refine ⟨_,rfl,rfl,c,rfl,rfl,hc,_,rfl,cw (λe=>?_) (λe=>?_)⟩
 ·refine ⟨_,rfl,rfl,c,rfl,rfl,hc,?_⟩
  have z:az c=PyProof.Rows.up1 c:=if_pos e
  rw[<-z]
  exact q
 ·refine ⟨_,rfl,rfl,c,rfl,rfl,hc,?_⟩
  have z:az c=PyProof.Rows.lo1 c:=if_neg e
  rw[<-z]
  exact q
theorem qy:bp P w K mg base eL 2 f7 d7 ["word","cord","place"] (i6 K):=by
 walk_at"m"
 refine T.F7.fn.ok jd (λvs H Q E h=>oA h) 91
 refine let Z0:TS:=_;⟨_,(ab (ao (i:=3) jd.nd (aC eW (aC cP (pv 2) ak) (aU bO rfl T.z_len Qb7 (ae 124))))
   (ah Z0 (aj (aG (dB (aa (dB (aa (pv 1) (aa (pv 3) (ae (ai bo T.F0 hr (ae (aO pJ (pv 0) (pv 3) (λ_ _=>rfl)))))))) (ae (dB (aa (pv 1) (aa (pv 2) (ae (aO pJ (pv 0) (pv 2) (λ_ _=>rfl))))))))))))),?_⟩
 obtain ⟨w,c,i,rfl,hw8,hi,hz,q⟩:=h
 have hs:=Zs1
 have hp:(0:Int)<((w:):Int):=by omega
 have hpr:=EC hi
 have jC:=yX hi
 have e1:w.getD (rW (w:) i) 0=w[rW (w:) i]:=by rw[Qam,Qy jC];rfl
 have e2:w.getD i 0=w[i]:=by rw[Qam,Qy hi];rfl
 rw[e1,e2]at q
 refine ⟨_,rfl,_,_,rfl,rfl,_,rfl,w,rfl,by omega,_,_,rfl,rfl,hp,?_⟩
 show wg 3 (V.int (((i:Int) - 1)%((w:):Int))) _ _ _
 rw[hpr]
 refine ⟨_,rfl,_,rfl,_,rfl,_,rfl,w,_,_,rfl,rfl,by omega,cO (Qy jC),_,rfl,hw8 _ (Qb0 jC),by show 3<=sizeLine;decide,λt1 n1=>?_⟩
 refine ⟨_,rfl,_,rfl,_,rfl,_,rfl,w,_,_,rfl,rfl,by omega,cO (Qy hi),by show 3<=sizeLine;decide,λt2 n2=>?_⟩
 refine ⟨by show 2<=sizeLine;decide,λt nt=>?_⟩
 have h1t:=(aq.upd (o:= .tup [.ref t1,.ref t2]) nt)
 refine q t t1 t2 _ ag (h1t _ _ ((aq.upd n2) _ _ ag)) (h1t _ _ ag) ((aq.upd n1).trans ((aq.upd n2).trans h1t))
theorem u5:bp P w K mg base eL 4 f8 d8 ["yard","drawing"] (ud K):=by
 have La:=GS (P:=P) (w:=w) (base:=base) T
 have rA:=qy (P:=P) (w:=w) (base:=base) T
 refine T.F8.fn.ok da (λvs H Q E h=>A3 h) 91
 refine ⟨_,(ab (ao (i:=2) da.nd IE)
   (ab (cJ PassesOwn.never rfl (Iu K rfl rfl T.z_enumerate (ae (ai La T.F6 hr (aa 124 (ae 138))))) (hV (n:=2) K rfl rfl (b_ (aK (i:=3) da.nd rfl 125) (b_ (aK (i:=4) da.nd rfl 125) g_))) (aj (ym (sN hr) (pv 2) (pv 4) (pv 3) rfl)))
   (ab (ao (i:=5) da.nd (eK bV))
   (ab (cJ PassesOwn.never rfl (Am K rfl rfl T.z_enumerate (ae (aO (aP K rfl) 138 ak 129))) (hV (n:=2) K rfl rfl (b_ (aK (i:=6) da.nd rfl 125) (b_ (aK (i:=7) da.nd rfl 125) g_))) (aj (cJ PassesOwn.never rfl (gu rfl T.z_range (ae (aU bO rfl T.z_len Qb7 (ae (pv 7))))) (aK (i:=8) da.nd rfl 125) (ab (ao (i:=9) da.nd (ai rA T.F7 hr (aa (pv 7) (aa (pv 6) (ae (pv 8))))))
   (aj (cW (bP K rfl Qbe Qcn Qcm eQ (pv 5) (ae (dB (aa (pv 6) (aa (pv 8) (aa (rL (sN hr) (pv 2) (aO (aP K rfl) (pv 9) ak (λ_ _=>rfl)) (λ_ _=>rfl)) (ae (rL (sN hr) (pv 2) (aO (aP K rfl) (pv 9) ak (λ_ _=>rfl)) (λ_ _=>rfl)))))))))))))))
   (aj (aG (pv 5))))))),?_⟩
 obtain ⟨y,dr,ws,os,rfl,hy,hz,lX,Yx,hd,q⟩:=h
 have hs:=Zs1
 have Xn:=yV hy Yx
 have U6:=eE hy
 have MN:=Yx.1
 have hwf:=lX.pU
 obtain ⟨⟨wt,ot,d1,d2,d3⟩,dO⟩:=id hd
 walk_at "wk"
 intro d nd
 refine ⟨_,rfl,_,rfl,y,dr,ws,os,rfl,hy,hz,by omega,hd.same (aq.upd nd),λp1 ps H1 n1 xx tP lL hpz s1=>?_⟩
 have hd1:=s1 _ _ (ag (H:=H) (a:=d) (o:=HO.dT []))
 have Sw:aq H H1:=(aq.upd nd).trans s1
 have jC:(ps:)=(bR y os:):=by rw[<-lL,Qaa]
 refine ⟨p1,rfl,⟨_,bC.of xx⟩,?_⟩
 have h1d:p1≠d:=λz=>by rw[z,ag]at n1;cases n1
 refine let gi:Nat->L2.St->Hp->Prop:=(λi σ H'=>∃(aN:List (List Key×V)) (nv pv:Option V),σ=[some (.str (S y)),some (.ref dr),some (.ref d),nv,pv,none,none,none,none,none]/\H' d=some (.dT aN)/\Nums 127 aN i/\(aN:)<=i/\aV d H1 H');FF (K:=K) (a:=p1) (xs:=LO ps) gi
  ⟨[],none,none,rfl,hd1,λp hp=>absurd hp (by simp),Qax _,aV.refl _ _⟩ (λi σ H' _ ⟨_,_,_,_,_,_,_,h⟩=>bC.of (h _ _ xx h1d)) ?_ ?_
 ·rintro i x σ H2 T hx ⟨aN,nv,pv,rfl,hd2,N8,hkl,s2⟩ nT
  obtain ⟨p,hp,rfl⟩:∃p,ps[i]? =some p/\x=V.ref p.t:=by
   unfold LO at hx
   rw[Qat]at hx
   cases e:ps[i]? with
   | none=>rw[e]at hx;cases hx
   | some p=>rw[e]at hx;cases hx;exact ⟨p,rfl,rfl⟩
  have hi:i<(ps:):=(Qz.mp hp).1
  have pk:=(tP p (Qae hp)).1.tp
  have WA:p.t≠d:=λz=>by rw[z,hd1]at pk;cases pk
  have hTd:d≠T:=au hd2 nT
  walk_at"B"
  refine ⟨_,rfl,_,rfl,_,rfl,d,_,rfl,yl.t (k:=yW p.is) (by rw[aA hTd];exact hd2) ((aq.upd nT) _ _ (s2 _ _ pk WA)) (by omega),?_⟩
  exact ⟨_,_,_,rfl,ag,N8.put Xn (W7 lL hp),Qbn (hW _ _ _) (by omega),λa o ea z=>by rw[aA z];exact (aq.upd nT) _ _ (s2 a o ea z)⟩
 ·rintro σ H2 ⟨aN,nv,pv,rfl,hd2,N8,hkl,s2⟩
  rw[EA,jC]at N8
  have PB:∀p∈bR y os,eh aN (yW p)=some (.int ((bR y os).idxOf p:Nat)):=λp hp=>N8 p (by rw[Qbi];exact hp)
  have Lb:aq H H2:=λa o ea=>s2 a o (Sw a o ea) (au ea nd)
  walk_at "wk"
  intro p2 n2
  have s22:=aq.upd (o:= .lst []) n2
  have n20:H p2=none:=aq.free Lb n2
  refine ⟨_,rfl,dr,_,0,_,rfl,rfl,bY.of (s22 _ _ (Lb _ _ d1)),rfl,?_⟩
  refine ⟨wt,rfl,⟨_,bY.of (s22 _ _ (Lb _ _ d2))⟩,?_⟩
  refine let zw:Nat->L2.St->Hp->Prop:=(λj σ H'=>∃(qs:List Q4) (cv wv iv av:Option V),σ=[some (.str (S y)),some (.ref dr),some (.ref d),nv,pv,some (.ref p2),cv,wv,iv,av]/\H' p2=some (.lst (mM qs))/\(∀x∈qs,jq H' x)/\qs.map Q4.v=fj 127 ws j/\(qs:)<=12*j/\aq H2 H');wW (K:=K) (a:=wt) (xs:=gE ws) zw
   ⟨[],none,none,none,none,rfl,ag,λ_ h=>absurd h Qav,rfl,Qax _,s22⟩ (λj σ H' _ ⟨_,_,_,_,_,_,_,_,_,_,h⟩=>bY.of (h _ _ (Lb _ _ d2))) ?_ ?_
  ·rintro j x σ H3 T hx ⟨qs,cv,wv,iv,av,rfl,GU,PC,GW,Yy,s3⟩ nT
   have hj:j<(ws:):=by
    have:=(Qz.mp hx).1
    rwa [b7]at this
   rw[pV hj]at hx
   cases hx
   have Sx:ws[j]? =some ws[j]:=Qy hj
   obtain ⟨Pl,PD⟩:=lX.all _ (Qb0 hj)
   generalize ws[j]=w at Sx Pl PD ⊢
   have hw8:∀l∈w,l<128:=λl hl=>(hy.lt l (Pl l hl)).lt
   have sT:=aq.upd (o:= .tup [.int j,.str (S w)]) nT
   walk_at"B"
   refine ⟨_,rfl,w,rfl,by omega,_,rfl,by omega,by omega,?_⟩
   rw[Qap]
   refine let Xo:Nat->L2.St->Hp->Prop:=(λi σ H'=>∃(us:List Q4) (iv av:Option V),σ=[some (.str (S y)),some (.ref dr),some (.ref d),nv,pv,some (.ref p2),some (.int j),some (.str (S w)),iv,av]/\H' p2=some (.lst (mM us))/\(∀x∈us,jq H' x)/\us.map Q4.v=fj 127 ws j++bB 127 j w i/\(us:)<=12*j+i/\aq H2 H');gw Xo
    ⟨qs,iv,av,rfl,sT _ _ GU,λx hx=>(PC x hx).ts (eS.of sT),by rw[GW];show _=_++[];rw[Qbh],by omega,s3.trans sT⟩ ?_ ?_
   ·rintro i σ H4 hi ⟨us,iv4,av4,rfl,Yz,G4,GV,Py,s4⟩
    show L1 _ _ _ _ _
    refine Jh λDx Xp=>?_
    have e1:w[rW (w:) i]? =some (w.getD (rW (w:) i) 0):=by rw[Qam,Qy (yX hi)];rfl
    have e2:w[i]? =some (w.getD i 0):=by rw[Qam,Qy hi];rfl
    have m1:=PB _ (xw hy Yx Sx e1 (Pl _ (Qae e1)) (.inr rfl))
    have m2:=PB _ (xw hy Yx Sx e2 (Pl _ (Qae e2)) (.inl rfl))
    refine ⟨_,rfl,_,rfl,_,rfl,w,j,i,by rw[Qdv];rfl,hw8,hi,by omega,λt t1 t2 H5 ht Pz U7 s5=>?_⟩
    have hp5:=s5 _ _ Yz
    have hd5:=s5 _ _ (s4 _ _ hd2)
    refine ⟨_,rfl,.inl ⟨rfl,_,bC.of hp5⟩,_,rfl,_,rfl,?_⟩
    refine ⟨_,rfl,_,rfl,t,_,0,_,rfl,rfl,bY.of ht,rfl,d,_,rfl,by rw[<-m1];exact tE.t hd5 Pz,?_⟩
    refine ⟨_,rfl,_,rfl,t,_,1,_,rfl,rfl,bY.of ht,rfl,d,_,rfl,by rw[<-m2];exact tE.t hd5 U7,?_⟩
    rw[Qdv]
    refine ⟨by show 4<=sizeLine;decide,λtq ntq=>?_⟩
    have s6:=s5.trans (aq.upd (o:= .tup [.int j,.int i,.int ((bR y os).idxOf (j,rW (w:) i,az (w.getD (rW (w:) i) 0)):Nat),.int ((bR y os).idxOf (j,i,w.getD i 0):Nat)]) ntq)
    have hp6:=s6 _ _ Yz
    refine ⟨p2,_,_,rfl,rfl,hp6,by rw[h_];omega,?_⟩
    refine Xp _ _ ⟨us++[⟨tq,cT 127 j w i⟩],_,_,rfl,by rw[ag];exact congrArg (λx=>some (HO.lst x)) (A2 us ⟨tq,cT 127 j w i⟩),λx hx=>?_,by rw[Qag,GV,A1,Qac];rfl,by rw[X4];show (us:)+1<=_;omega,λa o ea=>by rw[aA (au ea n2)];exact s6 _ _ (s4 a o ea)⟩
    rcases Qan.mp hx with g | g
    ·exact (G4 x g).ts ((eS.of s6).trans (eS.MA hp6))
    ·have e3:=Qab.mp g
     subst e3
     exact (eS.MA hp6) _ _ ag
   ·rintro σ H4 ⟨us,iv4,av4,rfl,Yz,G4,GV,Py,s4⟩
    exact ⟨us,_,_,_,_,rfl,Yz,G4,by rw[GV,gq Sx],by omega,s4⟩
  ·rintro σ H3 ⟨qs,cv,wv,iv,av,rfl,GU,PC,GW,Yy,s3⟩
   rw[b7]at GW
   exact ⟨_,rfl,q p2 qs H3 n20 GU PC GW (Lb.trans s3)⟩
theorem mf:bp P w K mg base eL 2 f1 d1 ["word"] (xc K):=by
 walk_at"m"
 refine T.F1.fn.ok GQ (λvs H Q E h=>CA h) 91
 refine ⟨_,(aj (aG (bP K rfl Qa5 Qda Qc9 (gI K rfl) (mi [] ⋯) (ae (bW ["letter"] [none] (Ic rfl T.z_reversed (ae 124)) trivial (λ_ _ _ _=>(aK (i:=0) (by decide+kernel:List.Nodup (["letter"]:List Str)) rfl 125)) (λ_ _ _ _=>eZ) (λ_ _ _ _=>(ai bo T.F0 hr (ae 124)))))))),?_⟩
 obtain ⟨l,rfl,hc,hz,q⟩:=h
 have hs:(1000:Nat)<sizeLine:=by decide
 refine ⟨rfl,_,rfl,l,rfl,(),?_⟩
 rw[Eb]
 refine let gi:Nat->List V->Hp->Prop:=(λi acc H'=>aq H H'/\acc=dU ((l.reverse.take i).map az));fN (xs:=dU l.reverse) gi (by rw[aX,Qa0];lia) ⟨aq.refl H,rfl⟩ ?_ ?_
 ·rintro i x acc H1 Nx hi hx hl ⟨s1,rfl⟩ nx
  obtain ⟨c,sE,rfl⟩:=fE hx
  refine ⟨trivial,dv ⟨_,rfl,c,rfl,hc c (Qb9.mp (Qae sE)),nx _ _ (by simpa using hl) ⟨s1,?_⟩⟩⟩
  rw[e_, <-take_snoc sE,Qag]
  rfl
 ·rintro acc H1 D hl ⟨s1,rfl⟩ hD
  refine ⟨D,(di l).map λc=>[c],rfl,rfl,bC.of ?_,?_,?_⟩
  ·rw[ag, <-gD,aX,Qar (Qad _),Qd6]
   rfl
  ·rw[CB]
   unfold di
   rw[Qa0,Qaa]
   lia
  ·rw[tU]
   exact q _ (s1.trans (aq.upd hD))
theorem vV:bp P w K mg base eL 1 Tu Uo ["words","band"] (mN K):=by
 refine T.F13.fn.ok dq (λvs H Q E h=>uk h) 91
 refine let Z4:TS:=_;let Z3:TS:=_;let Z2:TS:=_;let Z1:TS:=_;let Z0:TS:=_;⟨_,(ab (ao (i:=2) dq.nd (eK bV))
   (ah Z0 (ab (cJ PassesOwn.never rfl (Am K rfl rfl T.z_enumerate (ae 124)) (hV (n:=2) K rfl rfl (b_ (aK (i:=3) dq.nd rfl 125) (b_ (aK (i:=4) dq.nd rfl 125) g_))) (ah Z1 (aj (cJ PassesOwn.never rfl (Io rfl T.z_enumerate (ae (pv 4))) (hV (n:=2) K rfl rfl (b_ (aK (i:=5) dq.nd rfl 125) (b_ (aK (i:=6) dq.nd rfl 125) g_))) (ah Z2 (aj (cM (bf iB (fF K rfl Qa5 Qfq Qfo sS (pv 6)) 138 (aW _)) (ah Z3 (aj (cW (bP K rfl Qbe Qcn Qcm eQ (pv 2) (ae (dB (aa (pv 3) (ae (pv 5))))))))) bK)))))))
   (ah Z4 (aj (aG (pv 2))))))),?_⟩
 obtain ⟨wt,ws,band,rfl,xP,hf,hw,hb,q⟩:=h
 have hs:=Zs1
 walk_at "wk"
 intro p1 n1
 refine ⟨_,rfl,wt,rfl,⟨_,bY.of ((aq.upd n1) _ _ xP)⟩,?_⟩
 refine let gi:Nat->L2.St->Hp->Prop:=(λj σ H'=>∃(ps:List Pr) (cv wv pv lv:Option V),σ=[some (.ref wt),some (.str (S [band])),some (.ref p1),cv,wv,pv,lv]/\H' p1=some (.lst (xu ps))/\(∀p∈ps,rh H' p)/\ps.map Pr.pair=dG band ws j/\(ps:)<=12*j/\aq H H');wW (K:=K) (a:=wt) (xs:=gE ws) gi
  ⟨[],none,none,none,none,rfl,ag,λ_ h=>absurd h Qav,rfl,Qax _,aq.upd n1⟩ (λj σ H' _ ⟨_,_,_,_,_,_,_,_,_,_,h⟩=>bY.of (h _ _ xP)) ?_ ?_
 ·rintro j x σ H1 T hx ⟨ps,cv,wv,pv,lv,rfl,hp,tP,lL,jC,s1⟩ nT
  have hj:j<(ws:):=by
   have:=(Qz.mp hx).1
   rwa [b7]at this
  rw[pV hj]at hx
  cases hx
  have Sx:ws[j]? =some ws[j]:=Qy hj
  obtain ⟨wH,PD⟩:=hw _ (Qb0 hj)
  generalize ws[j]=w at Sx wH PD ⊢
  walk_at"B"
  have sT:=aq.upd (o:= .tup [.int j,.str (S w)]) nT
  refine ⟨_,rfl,w,rfl,?_⟩
  refine let zw:Nat->L2.St->Hp->Prop:=(λm σ H'=>∃(us:List Pr) (pv lv:Option V),σ=[some (.ref wt),some (.str (S [band])),some (.ref p1),some (.int j),some (.str (S w)),pv,lv]/\H' p1=some (.lst (xu us))/\(∀p∈us,rh H' p)/\us.map Pr.pair=dG band ws j++jH band j w m/\(us:)<=12*j+m/\aq H H');Ip (l:=w) zw
   ⟨ps,pv,lv,rfl,sT _ _ hp,λp rN=>(tP p rN).same sT,by rw[lL];show _=_++[];rw[Qbh],(),s1.trans sT⟩ ?_ ?_
  ·rintro m l σ H2 T2 hm ⟨us,pv2,lv2,rfl,nL,G4,GV,Py,s2⟩ Xq
   have hmw:m<(w:):=(Qz.mp hm).1
   have Hl:=wH l (Qae hm)
   have es:=CV (band:=band) (c:=j) hm
   have YA:=aq.upd (o:= .tup [.int m,.str (S [l])]) Xq
   refine ⟨T2,_,rfl,bY.of ag,rfl,_,_,rfl,_,_,rfl,rfl,?_⟩
   refine ⟨_,rfl,rfl,l,rfl,rfl,Hl.lt,_,rfl,[PyProof.Rows.lo1 l],[band],rfl,rfl,_,rfl,?_⟩
   have ev:decide ([PyProof.Rows.lo1 l]=[band])=BK band l:=by rw[<-JX hb Hl];simp
   rw[ev]
   have Sy:=YA _ _ nL
   walk_at"j"
   ·rw[if_pos z]at es
    refine ⟨_,rfl,.inl ⟨rfl,_,bC.of Sy⟩,_,rfl,_,rfl,by show 2<=sizeLine;decide,λt nt=>?_⟩
    have GU:=(aq.upd (o:= .tup [.int j,.int m]) nt) _ _ Sy
    have s3:=YA.trans (aq.upd (o:= .tup [.int j,.int m]) nt)
    refine ⟨p1,_,_,rfl,rfl,GU,by rw[yU];lia,?_⟩
    refine ⟨us++[⟨t,j,m⟩],_,_,rfl,by rw[ag];exact congrArg (λx=>some (HO.lst x)) (JS us ⟨t,j,m⟩),λp rN=>?_,by rw[Qag,GV,es,Qac];rfl,by rw[X4];show (us:)+1<=_;lia,λa o ea=>by rw[aA (au ea n1)];exact s3 _ _ (s2 a o ea)⟩
    rcases Qan.mp rN with g | g
    ·exact ((G4 p g).same s3).ts (eS.MA GU)
    ·have e2:=Qab.mp g
     subst e2
     exact rh.ts (H:=upd (upd H2 T2 (.tup [.int m,.str (S [l])])) t (.tup [.int j,.int m])) ⟨ag,by show j<1000;lia,by show m<1000;lia⟩ (eS.MA GU)
   ·rw[if_neg z,Qbh]at es
    exact ⟨us,_,_,rfl,Sy,λp rN=>(G4 p rN).same YA,by rw[GV,es],(),s2.trans YA⟩
  ·rintro σ H2 ⟨us,pv2,lv2,rfl,nL,G4,GV,Py,s2⟩
   exact ⟨us,_,_,_,_,rfl,nL,G4,by rw[GV,AZ Sx],(),s2⟩
 ·rintro σ H1 ⟨ps,cv,wv,pv,lv,rfl,hp,tP,lL,jC,s1⟩
  rw[b7]at lL
  exact ⟨_,rfl,q p1 ps H1 n1 hp tP lL s1⟩
theorem GX:bp P w K mg base eL 1 iK uT ["self","strand","way","place"] (xC K aM):=by
 refine T.Sr.ok GR (λvs H Q E h=>C2 h) 91
 refine let Z1:TS:=_;let Z0:TS:=_;⟨_,(ab (j7 124 138 rfl)
   (ah Z0 (ab (j7 124 (pv 2) rfl)
   (ah Z1 (aj (j7 (pv 0) (pv 3) rfl)))))),?_⟩
 obtain ⟨x,dx,t,w',p,rfl,hx,q⟩:=h
 refine ⟨_,rfl,_,rfl,x,aM,dx,_,rfl,hx,T.eN,T.n_Seen_strand,by show 0<1000;decide,?_⟩
 refine ⟨_,rfl,_,rfl,x,aM,dx,_,rfl,ag,T.eN,T.n_Seen_way,Qbt (dI _ _ _) (by show 0+1<1000;decide),?_⟩
 refine ⟨_,rfl,_,rfl,x,aM,dx,_,rfl,ag,T.eN,T.n_Seen_place,Qbt (dI _ _ _) (Qbt (Qdg (dI _ _ _)) (by show 0+1+1<1000;decide)),?_⟩
 exact q _ ag λb o e z=>by rw[aA z,aA z,aA z];exact e
theorem u6:bp P w K mg base eL 3 TM UC ["words","ways","strand"] (kQ K ba aM):=by
 have BA:=GX (P:=P) (w:=w) (base:=base) T
 refine T.F27.fn.ok gY (λvs H Q E h=>rm h) 91
 refine let Z3:TS:=_;let Z2:TS:=_;let Z1:TS:=_;let Z0:TS:=_;⟨_,(ab (ao (i:=3) gY.nd (aO (aP K rfl) 124 (aO (aP K rfl) (pv 2) ak 129) 129))
   (ah Z0 (ab (ao (i:=4) gY.nd (aO (aP K rfl) (pv 2) ak 129))
   (ah Z1 (ab (cM (fV (fF K rfl Qa5 Qff Qfe m7 (aO pJ (pv 3) (pv 4) 129))) (ah Z2 (aj (aG (rF T.K3 BA (hr.mono ∅) rfl T.K2 T.K4 .nil hU (aa (pv 2) (aa (aO (aP K rfl) (aO (cE K rfl) 138 (aO (aP K rfl) (pv 2) ak 129) 129) ak 129) (ae (pv 4)))))))) bK)
   (ah Z3 (aj (aG (rF T.K3 BA (hr.mono ∅) rfl T.K2 T.K4 .nil hU (aa (pv 2) (aa (aO (aP K rfl) (aO (cE K rfl) (pv 1) (aO (aP K rfl) (pv 2) ak (λ_ _=>rfl)) (λ_ _=>rfl)) ak (λ_ _=>rfl)) (ae (aC cP (aC cP (aU bO rfl T.z_len Qb7 (ae (pv 3))) ak) (pv 4)))))))))))))),?_⟩
 obtain ⟨y,lg,wt,vt,st,w',ws,o8,p,c,i,rfl,hy,xP,YB,qD,hw,hp,ok,hi,q⟩:=h
 have hs:=Zs1
 have PD:=ok.on.uz
 have hlz:=ok.on.lz
 have OK:=ok.on.sw
 have h8:(rd w' i)<128:=(hy.lt _ (OK.rd _)).lt
 have hc:(gE ws)[c]? =some (V.str (S w')):=by
  have hl:=(Qz.mp hw).1
  rw[pV hl,(Qz.mp hw).2]
 refine ⟨_,rfl,_,rfl,st,_,0,_,rfl,rfl,bY.of qD,rfl,wt,_,_,_,rfl,rfl,bY.of xP,cO hc,?_⟩
 refine ⟨_,rfl,st,_,1,_,rfl,rfl,bY.of qD,rfl,?_⟩
 refine ⟨_,rfl,_,rfl,w',_,_,rfl,rfl,(),by rw[Js () ()],?_⟩
 have made:∀(x dx:Addr) (H':Hp) (t w2:Addr) (pl:Nat),H x=none->H dx=none->dx≠x->aV x (L2.upd (L2.upd H dx (.own x)) x (.ins aM dx [])) H'->aq H H':=λx dx H' t w2 pl nx R8 ne sm a o e=>by
  refine sm a o ?_ (au e nx)
  rw[aA (au e nx),aA (au e R8)]
  exact e
 refine ⟨rfl,_,rfl,rfl,h8,?_⟩
 walk_at "rd"
 walk_at"j"
 ·refine ⟨_,rfl,_,rfl,_,rfl,st,_,0,_,rfl,rfl,bY.of qD,rfl,vt,_,_,_,rfl,rfl,bC.of YB,cO (Kn hp),p.t,_,0,_,rfl,rfl,bY.of ok.tp,rfl,_,rfl,λx dx nx R8 ne=>⟨x,dx,st,p.a,i,rfl,ag,λH' hx sm=>⟨rfl,?_⟩⟩⟩
  have Sz:=made x dx H' st p.a i nx R8 ne sm
  exact q ⟨x,st,p.a,c,i,w',i,p.r⟩ H' ⟨rfl,rfl,by rw[if_pos z],by rw[if_pos z]⟩ rfl ⟨⟨dx,hx⟩,Sz _ _ qD,ok.on.same Sz,hi⟩ nx Sz
 ·have ei:((w':):Int) - 1 - i=(((w':) - 1 - i:Nat):Int):=by lia
  refine ⟨_,rfl,_,rfl,_,rfl,st,_,0,_,rfl,rfl,bY.of qD,rfl,vt,_,_,_,rfl,rfl,bC.of YB,cO (Kn hp),p.t,_,1,_,rfl,rfl,bY.of ok.tp,rfl,_,rfl,w',rfl,(),_,_,rfl,rfl,_,rfl,_,_,rfl,rfl,λx dx nx R8 ne=>⟨x,dx,st,p.b,(w':) - 1 - i,by rw[<-ei];rfl,ag,λH' hx sm=>⟨rfl,?_⟩⟩⟩
  have Sz:=made x dx H' st p.b 0 nx R8 ne sm
  exact q ⟨x,st,p.b,c,i,di w',(w':) - 1 - i,p.q⟩ H' ⟨rfl,rfl,by rw[if_neg z],by rw[if_neg z]⟩ rfl ⟨⟨dx,hx⟩,Sz _ _ qD,ok.bk.same Sz,by show (w':) - 1 - i<(di w':);rw[bH];lia⟩ nx Sz
theorem lC:bp P w K mg base eL 1 K0 Uw ["seen","start","end"] (gR K ba aM):=by
 refine T.Hi.fn.ok lq (λvs H Q E h=>rj h) 91
 refine let Z0:TS:=_;⟨_,(ab (ao (i:=3) lq.nd (aC bu (bU K rfl 124 rfl) ak))
   (ah Z0 (aj (aG (cD qW (bU K rfl (bU K rfl (pv 0) rfl) rfl) (cb (aC bu (pv 3) (pv 1))) (cb (aC bu (pv 3) (pv 2)))))))),?_⟩
 obtain ⟨y,lg,s,x,z,rfl,hz,hs,WD,q⟩:=h
 obtain ⟨d1,e1⟩:=hs.ob
 obtain ⟨d2,e2⟩:=hs.wy.ob
 have:=hs.wy.uz
 have:=hs.wy.lz
 have h1:1<=(s.u:):=Qbt (Qax _) hs.pz
 have rl:=oH (lg:=lg) h1
 have Xk:(100000:Nat)<sizeLine:=by decide
 refine ⟨_,rfl,s.a,aM,d1,_,_,rfl,e1,T.eN,T.n_Seen_place,oG,?_⟩
 walk_at "rd"
 refine ⟨s.a,aM,d1,_,_,rfl,e1,T.eN,T.n_Seen_way,qd,s.wy,ba,d2,_,_,rfl,e2,T.iu,T.n_Way_onward,Xb,?_⟩
 walk_at "rd"
 refine ⟨by rw[xD,dP];lia,?_⟩
 rw[show (s.p:Int)+1=((s.p+1:Nat):Int) by lia,EH WD]
 exact q
theorem mX:bp P w K mg base eL 1 K1 Ux ["seen","start","end"] (iE K ba aM):=by
 refine T.Hj.fn.ok mW (λvs H Q E h=>uh h) 91
 refine let Z0:TS:=_;⟨_,(ab (ao (i:=3) mW.nd (aC cP (aC cP (bU K rfl (bU K rfl 124 rfl) rfl) ak) (bU K rfl 124 rfl)))
   (ah Z0 (aj (aG (cD qW (bU K rfl (bU K rfl (pv 0) rfl) rfl) (cb (aC bu (pv 3) (pv 1))) (cb (aC bu (pv 3) (pv 2)))))))),?_⟩
 obtain ⟨y,lg,s,x,z,rfl,hz,hs,WD,q⟩:=h
 obtain ⟨d1,e1⟩:=hs.ob
 obtain ⟨d2,e2⟩:=hs.wy.ob
 have:=hs.wy.uz
 have:=hs.wy.lz
 have hp:=hs.pz
 have h1:1<=(s.u:):=Qbt (Qax _) hs.pz
 have rl:=oH (lg:=lg) h1
 have Xk:(100000:Nat)<sizeLine:=by decide
 refine ⟨_,rfl,s.a,aM,d1,_,_,rfl,e1,T.eN,T.n_Seen_way,qd,s.wy,ba,d2,_,_,rfl,e2,T.iu,T.n_Way_size,EG,?_⟩
 walk_at "rd"
 refine ⟨s.a,aM,d1,_,_,rfl,e1,T.eN,T.n_Seen_place,oG,?_⟩
 walk_at "rd"
 refine ⟨s.a,aM,d1,_,_,rfl,e1,T.eN,T.n_Seen_way,qd,s.wy,ba,d2,_,_,rfl,e2,T.iu,T.n_Way_backward,NH,?_⟩
 walk_at "rd"
 refine ⟨by rw[xD,Qa0,dP];lia,?_⟩
 rw[show ((s.u:):Int) - 1 - s.p=(((s.u:) - 1 - s.p:Nat):Int) by lia,EH WD]
 exact q
theorem Dr:bp P w K mg base eL 2 TH Uy ["steps","one","other","enough"] (ui K ba aM K0 K1):=by
 have cL:=lC (P:=P) (w:=w) (base:=base) T
 have dc:=mX (P:=P) (w:=w) (base:=base) T
 refine T.F23.fn.ok eO (λvs H Q E h=>A8 h) 91
 refine let Z8:TS:=_;let Z7:TS:=_;let Z6:TS:=_;let Z5:TS:=_;let Z4:TS:=_;let Z3:TS:=_;let Z2:TS:=_;let Z1:TS:=_;let Z0:TS:=_;⟨_,(ab (ao (i:=4) eO.nd ak)
   (ah Z0 (ab (ao (i:=5) eO.nd ak)
   (ah Z1 (DT (gz PassesOwn.never (PW.pt (xX (bf mC (pv 4) (pv 3) (aW _)) (rE (bf iB (nQ 124 cL (hr.mono ∅) T.Hi.fn.kp T.Hi.bd dc (hr.mono ∅) T.Hj.fn.kp T.Hj.bd hU (aa 138 (aa (pv 4) (ae (aC bu (pv 4) (pv 5)))))) (nQ 124 cL (hr.mono ∅) T.Hi.fn.kp T.Hi.bd dc (hr.mono ∅) T.Hj.fn.kp T.Hj.bd hU (aa (pv 2) (aa (pv 4) (ae (aC bu (pv 4) (pv 5)))))) (aW _))))) (ah Z2 (ab (j5 (i:=4) eO.nd rfl 125 (pv 5) sF)
   (ah Z3 (aj (j5 (i:=5) eO.nd rfl (Or.inl rfl) ak Rt))))))
   (ah Z4 (DT (gz PassesOwn.never (bf wq (pv 5) ak (aW _)) (ah Z5 (ab (j5 (i:=5) eO.nd rfl 125 ak MV)
   (ah Z6 (aj (cM (bf iB (nQ (pv 0) cL (hr.mono ∅) T.Hi.fn.kp T.Hi.bd dc (hr.mono ∅) T.Hj.fn.kp T.Hj.bd hU (aa (pv 1) (aa (pv 4) (ae (aC bu (pv 4) (pv 5)))))) (nQ (pv 0) cL (hr.mono ∅) T.Hi.fn.kp T.Hi.bd dc (hr.mono ∅) T.Hj.fn.kp T.Hj.bd hU (aa (pv 2) (aa (pv 4) (ae (aC bu (pv 4) (pv 5)))))) (aW _)) (ah Z7 (aj (j5 (i:=4) eO.nd rfl (Or.inl rfl) (pv 5) sF))) bK))))))
   (ah Z8 (aj (aG (pv 4))))))))))),?_⟩
 obtain ⟨y,lg,s1,t1,b,en,rfl,hz,hs,ht,hen,q⟩:=h
 have call:∀(u:Sn) (x d:Nat) (t:TA) (σ:L2.St) (Q':VK),σ[0]? =some (some (V.ref (if b=true then K0 else K1)))->kM H ba aM y lg u->(∀R:List V->Hp->Prop,R [V.ref u.a,V.int x,V.int ((x:Int)+d)] H->t σ H R)->Q' (V.str (S (seg (R4 b y lg u) x (x+d)))) H->Ja K0 K1 (gR K ba aM) (iE K ba aM) E0 (P5 0) t σ H Q':=by
  intro u x d t σ Q' h0 hu ht' hq
  refine ⟨_,h0,?_⟩
  cases b
  ·exact .inr ⟨rfl,ht' _ ⟨y,lg,u,x,x+d,by rw[Qcf],hz,hu,(),hq⟩⟩
  ·exact .inl ⟨rfl,ht' _ ⟨y,lg,u,x,x+d,by rw[Qcf],hz,hu,(),hq⟩⟩
 generalize (if b=true then K0 else K1)=fx at call ⊢
 generalize el:R4 b y lg s1=l at q
 generalize em:R4 b y lg t1=m at q
 walk_at "rd"
 refine ⟨λσ H'=>∃(mn sz e:Nat),σ=[some (.ref fx),some (.ref s1.a),some (.ref t1.a),some (.int en),some (.int mn),some (.int sz)]/\H'=H/\sz=2 ^ e/\sz<=1000000/\mn<=1000000/\kN l m mn/\(en<=mn\/∃k,mn<=k/\k<mn+sz/\l[k]?≠ m[k]?),?_,?_⟩
 ·refine ⟨λw σ H'=>∃(mn sz e:Nat),σ=[some (.ref fx),some (.ref s1.a),some (.ref t1.a),some (.int en),some (.int mn),some (.int sz)]/\H'=H/\w=en - mn/\sz=2 ^ e/\mn+1=sz/\mn<=2*en/\kN l m mn,⟨_,0,1,0,rfl,rfl,rfl,rfl,rfl,Qax _,λk hk=>absurd hk (Qfx _)⟩,?_⟩
  rintro w' σ H2 ⟨mn,sz,e,rfl,rfl,rfl,he,U8,LP,ha⟩
  walk_at "rd"
  walk_at"j"
  ·have z1:(mn:Int)<en:=of_decide_eq_true z
   refine call s1 mn sz _ _ _ rfl hs (λR hR=>⟨_,rfl,_,rfl,_,rfl,_,rfl,_,_,rfl,rfl,hR⟩) ?_
   refine call t1 mn sz _ _ _ rfl ht (λR hR=>⟨_,rfl,_,rfl,_,rfl,_,rfl,_,_,rfl,rfl,hR⟩) ?_
   rw[el,em]
   walk_at "rd"
   refine cw (λy1=>?_) (λy1=>?_)
   ·have y2:seg l mn (mn+sz)=seg m mn (mn+sz):=by simpa using of_decide_eq_true y1
    refine ⟨_,rfl,_,rfl,_,_,rfl,rfl,_,rfl,_,_,rfl,rfl,.inl ⟨(),()⟩,?_⟩
    refine ⟨en - (mn+sz),(),mn+sz,sz*2,e+1,by rw[Qcf,Int.natCast_mul];rfl,rfl,rfl,by rw[he,Nat.pow_succ],(),(),ha.more y2⟩
   ·have y2:seg l mn (mn+sz)≠seg m mn (mn+sz):=λw=>y1 (decide_eq_true (by rw[w]))
    exact ⟨mn,sz,e,rfl,rfl,he,(),(),ha,.inr (Ki y2)⟩
  ·have z1: ¬(mn:Int)<en:=λw=>z (decide_eq_true w)
   exact ⟨mn,sz,e,rfl,rfl,he,(),(),ha,.inl ()⟩
 ·rintro σ H2 ⟨mn,sz,e,rfl,rfl,he,hsz,LP,ha,hb⟩
  refine ⟨λσ H'=>∃mn:Nat,σ=[some (.ref fx),some (.ref s1.a),some (.ref t1.a),some (.int en),some (.int mn),some (.int 1)]/\H'=H2/\kN l m mn/\(en<=mn\/l[mn]?≠ m[mn]?),?_,?_⟩
  ·refine ⟨λw σ H'=>∃(mn sz e:Nat),σ=[some (.ref fx),some (.ref s1.a),some (.ref t1.a),some (.int en),some (.int mn),some (.int sz)]/\H'=H2/\sz=w/\sz=2 ^ e/\sz<=1000000/\mn<=3000000 - 2*sz/\kN l m mn/\(en<=mn\/∃k,mn<=k/\k<mn+sz/\l[k]?≠ m[k]?),⟨_,mn,sz,e,rfl,rfl,rfl,he,hsz,(),ha,hb⟩,?_⟩
   rintro w' σ H3 ⟨mn,sz,e,rfl,rfl,rfl,he,hsz,LP,ha,hb⟩
   walk_at "rd"
   walk_at"j"
   ·have z1:(1:Int)<sz:=of_decide_eq_true z
    obtain ⟨e',rfl⟩:∃e',e=e'+1:=⟨e - 1,by
     cases e with
     | zero=>rw[he]at z1;simp at z1
     | succ e=>rfl⟩
    have hh:sz=2*2 ^ e':=by rw[he,Nat.pow_succ,Qdf]
    have hp:0<2 ^ e':=Nat.pow_pos ∅
    generalize Xr:2 ^ e'=h2 at hh hp
    have aal:=Xr.symm
    have ed:(sz:Int) / 2=(h2:Nat):=by lia
    refine ⟨_,rfl,_,_,rfl,rfl,⟨∅,∅⟩,?_⟩
    refine call s1 mn h2 _ _ _ rfl hs (λR hR=>⟨_,rfl,_,rfl,_,rfl,_,rfl,_,_,rfl,rfl,by rw[ed];exact hR⟩) ?_
    refine call t1 mn h2 _ _ _ rfl ht (λR hR=>⟨_,rfl,_,rfl,_,rfl,_,rfl,_,_,rfl,rfl,by rw[ed];exact hR⟩) ?_
    rw[el,em]
    walk_at "rd"
    have Sv:∃e2,h2=2 ^ e2:=⟨e',aal⟩
    obtain ⟨e2,Wt⟩:=Sv
    refine cw (λy1=>?_) (λy1=>?_)
    ·have y2:seg l mn (mn+h2)=seg m mn (mn+h2):=by simpa using of_decide_eq_true y1
     refine ⟨_,rfl,_,rfl,_,_,rfl,rfl,?_⟩
     refine ⟨h2,(),mn+h2,h2,e2,by rw[Qcf, <-ed];rfl,rfl,rfl,Wt,(),(),ha.more y2,?_⟩
     rcases hb with hb | ⟨k,k1,k2,k3⟩
     ·exact .inl ()
     ·refine .inr ⟨k,Classical.byContradiction λw=>k3 (C3.mp y2 k k1 ()),(),k3⟩
    ·have y2:seg l mn (mn+h2)≠seg m mn (mn+h2):=λw=>y1 (decide_eq_true (by rw[w]))
     exact ⟨h2,(),mn,h2,e2,by rw[<-ed];rfl,rfl,rfl,Wt,(),(),ha,.inr (Ki y2)⟩
   ·have z1: ¬(1:Int)<sz:=λw=>z (decide_eq_true w)
    have hp:0<2 ^ e:=Nat.pow_pos ∅
    have e1:sz=1:=by lia
    subst e1
    exact ⟨mn,rfl,rfl,ha,hb.imp id λ⟨k,k1,k2,k3⟩=>by rwa [show k=mn by lia]at k3⟩
  ·rintro σ H3 ⟨mn,rfl,rfl,ha,hb⟩
   exact ⟨_,rfl,q mn ha hb⟩
theorem Ds:bp P w K mg base eL 1 TJ Uz ["seen"] (uj K ba aM):=by
 refine T.F24.fn.ok ny (λvs H Q E h=>A9 h) 91
 refine let Z3:TS:=_;let Z2:TS:=_;let Z1:TS:=_;let Z0:TS:=_;⟨_,(ab (ao (i:=1) ny.nd (bU K rfl 124 rfl))
   (ah Z0 (ab (ao (i:=2) ny.nd (aO (aP K rfl) (bU K rfl 124 rfl) ak 129))
   (ah Z1 (ab (cM (fV (bU K rfl 138 rfl)) (ah Z2 (aj (aG (dB (aa (pv 2) (ae (aC fO (bU K rfl 124 rfl) (bU K rfl 138 rfl)))))))) bK)
   (ah Z3 (aj (aG (dB (aa (wm pj (pv 2)) (ae (wm pj (aC fO (aC cP (aC cP (bU K rfl (pv 1) rfl) ak) (bU K rfl (pv 0) rfl)) (bU K rfl (pv 1) rfl)))))))))))))),?_⟩
 obtain ⟨y,lg,s1,rfl,hs,q⟩:=h
 obtain ⟨d1,e1⟩:=hs.ob
 obtain ⟨d2,e2⟩:=hs.wy.ob
 have hp:=hs.pz
 have rp:=kP hs.wy.sw.ne hs.wy.rt
 have u1:=hs.wy.uz
 have u2:=hs.wy.lz
 refine ⟨_,rfl,s1.a,aM,d1,_,_,rfl,e1,T.eN,T.n_Seen_way,qd,?_⟩
 refine ⟨_,rfl,s1.a,aM,d1,_,_,rfl,e1,T.eN,T.n_Seen_strand,xB,s1.t,_,0,_,rfl,rfl,bY.of hs.st,rfl,?_⟩
 refine ⟨_,rfl,s1.wy,ba,d2,_,_,rfl,e2,T.iu,T.n_Way_leads,Kh,?_⟩
 walk_at "rd"
 have ed1:(s1.p:Int) / (s1.r:Int)=((s1.p / s1.r:Nat):Int):=(Qfm _ _).symm
 have ed2:(((s1.u:):Int) - 1 - s1.p) / (s1.r:Int)=((((s1.u:) - 1 - s1.p) / s1.r:Nat):Int):=by
  rw[Qfm];congr 1;lia
 walk_at"j"
 ·refine ⟨_,rfl,_,rfl,s1.a,aM,d1,_,_,rfl,e1,T.eN,T.n_Seen_place,oG,_,rfl,s1.wy,ba,d2,_,_,rfl,e2,T.iu,T.n_Way_root_size,rZ,_,_,rfl,rfl,⟨(),()⟩,by show 2<=sizeLine;decide,λp np=>?_⟩
  refine q p _ np ?_ (aq.upd np)
  rw[ag]
  unfold C5
  rw[if_pos z, <-ed1]
 ·refine ⟨_,rfl,_,rfl,_,rfl,s1.wy,ba,d2,_,_,rfl,e2,T.iu,T.n_Way_size,EG,_,_,rfl,rfl,_,rfl,s1.a,aM,d1,_,_,rfl,e1,T.eN,T.n_Seen_place,oG,_,_,rfl,rfl,_,rfl,s1.wy,ba,d2,_,_,rfl,e2,T.iu,T.n_Way_root_size,rZ,_,_,rfl,rfl,⟨(),()⟩,_,rfl,by show 2<=sizeLine;decide,λp np=>?_⟩
  refine q p _ np ?_ (aq.upd np)
  rw[ag]
  unfold C5
  rw[if_neg z, <-ed2]
theorem u7:bp P w K mg base eL 3 TK UA ["one","other"] (kO K ba aM):=by
 have xQ:=Dr (P:=P) (w:=w) (base:=base) T
 have xR:=Ds (P:=P) (w:=w) (base:=base) T
 have cL:=lC (P:=P) (w:=w) (base:=base) T
 have dc:=mX (P:=P) (w:=w) (base:=base) T
 refine T.F25.fn.ok fm (λvs H Q E h=>rk h) 91
 refine let Z6:TS:=_;let Z5:TS:=_;let Z4:TS:=_;let Z3:TS:=_;let Z2:TS:=_;let Z1:TS:=_;let Z0:TS:=_;⟨_,(ab (ao (i:=2) fm.nd (aC bu (bU K rfl (bU K rfl 124 rfl) rfl) (bU K rfl (bU K rfl 138 rfl) rfl)))
   (ah Z0 (ab (ao (i:=3) fm.nd (ai xQ T.F23 hr (aa (DB (v:= .ref K0) rfl T.Hi.mg rfl) (aa 124 (aa 138 (ae (pv 2)))))))
   (ah Z1 (ab (ao (i:=4) fm.nd (ai xQ T.F23 hr (aa (DB (v:= .ref K1) rfl T.Hj.mg rfl) (aa 124 (aa 138 (ae (pv 2)))))))
   (ah Z2 (ab (cM (bf HC (aU (lG rfl) rfl T.z_min boot_min (aa (pv 3) (ae (pv 4)))) (pv 2) (aW _)) (ah Z3 (aj (aG (cX (QY K rfl hr) (ai xR T.F24 hr (ae 124)) (ai xR T.F24 hr (ae 138)) (aW _))))) bK)
   (ah Z4 (ab (cM (bf Vy (pv 3) (pv 4) (aW _)) (ah Z5 (aj (aG (cX yg (ai cL T.Hi hr (aa 124 (aa (pv 3) (ae (aC bu (pv 3) ak))))) (ai cL T.Hi hr (aa 138 (aa (pv 3) (ae (aC bu (pv 3) ak))))) (aW _))))) bK)
   (ah Z6 (aj (aG (cX yg (ai dc T.Hj hr (aa (pv 0) (aa (pv 4) (ae (aC bu (pv 4) ak))))) (ai dc T.Hj hr (aa (pv 1) (aa (pv 4) (ae (aC bu (pv 4) ak))))) (aW _)))))))))))))),?_⟩
 obtain ⟨y,lg,s1,t1,rfl,hy,hz,hs,ht,h0,q⟩:=h
 obtain ⟨d1,e1⟩:=hs.ob
 obtain ⟨d2,e2⟩:=hs.wy.ob
 obtain ⟨d3,e3⟩:=ht.ob
 obtain ⟨d4,e4⟩:=ht.wy.ob
 have rp:=kP hs.wy.sw.ne hs.wy.rt
 have rp':=kP ht.wy.sw.ne ht.wy.rt
 have u1:=hs.wy.uz
 have u1':=ht.wy.uz
 have u2:=hs.wy.lz
 have ns:=hs.wy.sw.ne
 have nt:=ht.wy.sw.ne
 have lf:=bE hs.wy.sw (s1.p:Int)
 have YC:=bE ht.wy.sw (t1.p:Int)
 have as:=xE (lg:=lg) (s:=s1) (en:=s1.r+t1.r) hs.pz ()
 have at':=xE (lg:=lg) (s:=t1) (en:=s1.r+t1.r) ht.pz ()
 refine ⟨_,rfl,s1.a,aM,d1,_,_,rfl,e1,T.eN,T.n_Seen_way,qd,s1.wy,ba,d2,_,_,rfl,e2,T.iu,T.n_Way_root_size,rZ,_,rfl,t1.a,aM,d3,_,_,rfl,e3,T.eN,T.n_Seen_way,qd,t1.wy,ba,d4,_,_,rfl,e4,T.iu,T.n_Way_root_size,rZ,_,_,rfl,rfl,?_⟩
 refine ⟨_,rfl,_,rfl,_,rfl,y,lg,s1,t1,true,s1.r+t1.r,by rw[Qcf];rfl,hz,hs,ht,(),λm G9 tH=>?_⟩
 refine ⟨_,rfl,_,rfl,_,rfl,y,lg,s1,t1,false,s1.r+t1.r,by rw[Qcf];rfl,hz,hs,ht,(),λn D5 mZ=>?_⟩
 have aam:kN (Hb y lg s1) (Hb y lg t1) m:=G9
 have Xs:s1.r+t1.r<=m\/(Hb y lg s1)[m]?≠ (Hb y lg t1)[m]?:= tH
 have aan:kN (Hc y lg s1) (Hc y lg t1) n:=D5
 have Xt:s1.r+t1.r<=n\/(Hc y lg s1)[n]?≠ (Hc y lg t1)[n]?:= mZ
 have ga:∀k,k<s1.r+t1.r->(Hb y lg s1)[k]? =some (BL (fu y (sq s1.u s1.p) (k+1)))/\(Hb y lg t1)[k]? =some (BL (fu y (sq t1.u t1.p) (k+1))):=λk hk=>⟨Kj ns (),Kj nt ()⟩
 have gb:∀k,k<s1.r+t1.r->(Hc y lg s1)[k]? =some (BL (fu y (sq s1.u s1.p) (-(k:Int))))/\(Hc y lg t1)[k]? =some (BL (fu y (sq t1.u t1.p) (-(k:Int)))):=λk hk=>⟨Kk ns hs.pz (),Kk nt ht.pz ()⟩
 refine ⟨_,rfl,_,rfl,_,_,rfl,?_⟩
 walk_at "rd"
 by_cases par:∀k,sq s1.u s1.p k=sq t1.u t1.p k
 ·have ef:sq s1.u s1.p=sq t1.u t1.p:=funext par
  have m1:s1.r+t1.r<=m:=EN (λk hk=>by rw[(ga k hk).1,(ga k hk).2,ef]) Xs
  have n1:s1.r+t1.r<=n:=EN (λk hk=>by rw[(gb k hk).1,(gb k hk).2,ef]) Xt
  refine cw (λz=>?_) (λz=>absurd (decide_eq_true (show ((s1.r:Int)+t1.r)<=(if (n:Int)<m then (n:Int) else m) by split<;>lia)) z)
  refine ⟨_,rfl,y,lg,s1,rfl,hs,λp1 H1 np1 xx Xu=>⟨_,rfl,y,lg,t1,rfl,ht.same Xu,λp2 H2 np2 nL bX=>?_⟩⟩
  refine ⟨p1,p2,_,_,_,_,rfl,rfl,bY.of (bX _ _ xx),bY.of nL,?_⟩
  have e:LC (C5 s1).1 (C5 s1).2 (C5 t1).1 (C5 t1).2=bA (mw y (2*lg) s1) (mw y (2*lg) t1):=by
   unfold mw
   rw[ef,fS,NJ]
  have kq:=q H2 (Xu.trans bX)
  rw[<-e]at kq
  exact kq
 ·have fq:∃k,sq s1.u s1.p k≠sq t1.u t1.p k:=Classical.byContradiction λz=>par λk=>Classical.byContradiction λw=>z ⟨k,w⟩
  have z0:sq s1.u s1.p 0=sq t1.u t1.p 0:=by unfold sq;rw[Qei,Qei];exact h0
  obtain ⟨a,b,rn,ha,hb⟩:=eA (p:=s1.r) (q:=t1.r) () () (EJ ns hs.wy.rt s1.p) (EJ nt ht.wy.rt t1.p) z0 fq
  have pf:=EL hy lf
  have pg:=EL hy YC
  have key:=pX hy lf YC rn [(C5 s1).1,(C5 s1).2] [(C5 t1).1,(C5 t1).2] (2*lg) 0 (Qax _) (Qax _) () ()
  have sa:fu y (sq s1.u s1.p) (a+1)≠fu y (sq t1.u t1.p) (a+1):=λw=>rn.hi (by
   unfold fu at w
   rw[show (a:Int)+1 - 1=a by lia, <-rn.rR a () ()]at w
   exact og (hy.cl _ (lf.cn _)) (lf.cn _) (YC.cn _) w)
  have sb:fu y (sq s1.u s1.p) (-(b:Int))≠fu y (sq t1.u t1.p) (-(b:Int)):=λw=>by
   have c:=CP hy lf YC (rn.rR (-(b:Int)) () ()) rn.lo
   unfold jf at c
   rw[w]at c
   simp at c
  have em:m=a:=EM ha (λk hk=>by
   rw[(ga k ()).1,(ga k ()).2]
   unfold fu
   rw[show (k:Int)+1 - 1=k by lia,rn.rR k () (),rn.rR (k+1) () ()]) (λw=>sa (EK (pf _) (pg _) (by rw[(ga a ha).1,(ga a ha).2]at w;exact Qal w))) aam Xs
  have en:n=b:=EM hb (λk hk=>by
   rw[(gb k ()).1,(gb k ()).2]
   unfold fu
   rw[rn.rR (-(k:Int)) () (),rn.rR (-(k:Int) - 1) () ()]) (λw=>sb (EK (pf _) (pg _) (by rw[(gb b hb).1,(gb b hb).2]at w;exact Qal w))) aan Xt
  subst em
  subst en
  refine cw (λz=>absurd (show ((s1.r:Int)+t1.r)<=(if (n:Int)<m then (n:Int) else m) from of_decide_eq_true z) (by split<;>lia)) (λz=>?_)
  walk_at "rd"
  have Ci:(m:Int)+1=((m+1:Nat):Int):=by lia
  have J4:(n:Int)+1=((n+1:Nat):Int):=by lia
  refine cw (λz2=>?_) (λz2=>?_)
  ·have z3:m<=n:=by have:=of_decide_eq_true z2;lia
   refine ⟨_,rfl,_,rfl,_,rfl,_,_,rfl,rfl,y,lg,s1,m,m+1,by rw[<-Ci];rfl,hz,hs,(),?_⟩
   refine ⟨_,rfl,_,rfl,_,rfl,_,_,rfl,rfl,y,lg,t1,m,m+1,by rw[<-Ci];rfl,hz,ht,(),?_⟩
   walk_at"Z"
   rw[if_pos z3]at key
   have e:decide (seg (Hb y lg s1) m (m+1)<seg (Hb y lg t1) m (m+1))=bA (mw y (2*lg) s1) (mw y (2*lg) t1):=by
    rw[r6 (ga m ha).1,r6 (ga m ha).2,Km]
    exact (decide_eq_decide.mpr (Kl (pf _) (pg _))).trans key.symm
   have kq:=q H (aq.refl H)
   rw[<-e]at kq
   exact kq
  ·have z3: ¬m<=n:=λw=>z2 (decide_eq_true ())
   refine ⟨_,rfl,_,rfl,_,rfl,_,_,rfl,rfl,y,lg,s1,n,n+1,by rw[<-J4];rfl,hz,hs,(),?_⟩
   refine ⟨_,rfl,_,rfl,_,rfl,_,_,rfl,rfl,y,lg,t1,n,n+1,by rw[<-J4];rfl,hz,ht,(),?_⟩
   walk_at"Z"
   rw[if_neg z3]at key
   have e:decide (seg (Hc y lg s1) n (n+1)<seg (Hc y lg t1) n (n+1))=bA (mw y (2*lg) s1) (mw y (2*lg) t1):=by
    rw[r6 (gb n hb).1,r6 (gb n hb).2,Km]
    exact (decide_eq_decide.mpr (Kl (pf _) (pg _))).trans key.symm
   have kq:=q H (aq.refl H)
   rw[<-e]at kq
   exact kq
theorem rB:bp P w K mg base eL 4 TL UB ["order","seen"] (jN K ba aM):=by
 have vW:=u7 (P:=P) (w:=w) (base:=base) T
 refine T.F26.fn.ok cB (λvs H Q E h=>qf h) 91
 refine let Z6:TS:=_;let Z5:TS:=_;let Z4:TS:=_;let Z3:TS:=_;let Z2:TS:=_;let Z1:TS:=_;let Z0:TS:=_;⟨_,(ab (ao (i:=2) cB.nd ak)
   (ah Z0 (ab (ao (i:=3) cB.nd (eI K T.z_len 124))
   (ah Z1 (ab (gz PassesOwn.never (bf mC (pv 2) (pv 3) (aW _)) (ah Z2 (ab (ao (i:=4) cB.nd (aC fO (aC bu (pv 2) (pv 3)) ak))
   (ah Z3 (aj (cM (fV (ai vW T.F25 hr (aa (aO (cE K rfl) (pv 0) (pv 4) (λ_ _=>rfl)) (ae (pv 1))))) (ah Z4 (aj (ao (i:=2) cB.nd (aC bu (pv 4) ak)))) (ah Z5 (aj (ao (i:=3) cB.nd (pv 4))))))))))
   (ah Z6 (aj (aG (pv 2))))))))),?_⟩
 obtain ⟨y,lg,a,ss,t1,rfl,hy,hz,ha,Lc,ht,up,hn,q⟩:=h
 have hs:=Zs1
 have key:=Qck.mp up
 refine ⟨_,rfl,a,_,rfl,.inl (bC.of ha),?_⟩
 walk_at "rd"
 refine ⟨λm σ H'=>∃(lo hi:Nat) (mv:Option V),σ=[some (.ref a),some (.ref t1.a),some (.int lo),some (.int hi),mv]/\m=hi - lo/\lo<=hi/\hi<=(ss:)/\(∀k s,ss[k]? =some s->k<lo->bA (mw y (2*lg) s) (mw y (2*lg) t1)=true)/\(∀k s,ss[k]? =some s->hi<=k->bA (mw y (2*lg) s) (mw y (2*lg) t1)=false)/\aq H H',⟨_,0,(ss:),none,by rw[oK];rfl,rfl,Qax _,Qad _,λk s _ hk=>absurd hk (Qfx _),(λk s e hk=>by rw[Qcx hk]at e;cases e),aq.refl H⟩,?_⟩
 rintro m σ H2 ⟨lo,hi,mv,rfl,rfl,h1,h2,h3,h4,s2⟩
 walk_at "rd"
 walk_at"j"
 ·have z1:(lo:Int)<hi:=of_decide_eq_true z
  have em:(((lo:Int)+hi) / 2)=(((lo+hi) / 2:Nat):Int):=by lia
  have hm:(lo+hi) / 2<(ss:):=by lia
  have hg:ss[(lo+hi) / 2]? =some ss[(lo+hi) / 2]:=Qy hm
  obtain ⟨ok,e0⟩:=Lc _ (Qb0 hm)
  walk_at "rd"
  refine ⟨a,_,((lo:Int)+hi) / 2,_,rfl,rfl,bC.of (s2 _ _ ha),by rw[em];exact cO (R5 hg),_,rfl,y,lg,ss[(lo+hi) / 2],t1,rfl,hy,hz,ok.same s2,ht.same s2,e0,λH3 s3=>?_⟩
  walk_at "rd"
  refine cw (λy1=>?_) (λy1=>?_)
  ·walk_at "rd"
   have e1:((lo:Int)+hi) / 2+1=(((lo+hi) / 2+1:Nat):Int):=by lia
   refine ⟨hi - ((lo+hi) / 2+1),(),(lo+hi) / 2+1,hi,_,by rw[<-e1];rfl,rfl,(),h2,λk s e hk=>?_,h4,s2.trans s3⟩
   by_cases q1:k=(lo+hi) / 2
   ·subst q1
    rw[hg]at e
    cases e
    exact y1
   ·obtain ⟨B8,ek⟩:=Qz.mp e
    have Xv:=key k ((lo+hi) / 2) B8 hm ()
    rw[ek]at Xv
    cases r:bA (mw y (2*lg) s) (mw y (2*lg) t1)
    ·have:=L2.rO _ _ _ r Xv
     rw[this]at y1
     cases y1
    ·rfl
  ·walk_at "rd"
   have y2:bA (mw y (2*lg) ss[(lo+hi) / 2]) (mw y (2*lg) t1)=false:=by simpa using y1
   refine ⟨(lo+hi) / 2 - lo,(),lo,(lo+hi) / 2,_,by rw[<-em];rfl,rfl,(),(),h3,λk s e hk=>?_,s2.trans s3⟩
   by_cases q1:k=(lo+hi) / 2
   ·subst q1
    rw[hg]at e
    cases e
    exact y2
   ·obtain ⟨B8,ek⟩:=Qz.mp e
    have Xv:=key ((lo+hi) / 2) k hm B8 ()
    rw[ek]at Xv
    exact L2.rO _ _ _ y2 Xv
 ·have z1: ¬(lo:Int)<hi:=λw=>z (decide_eq_true w)
  walk_at "rd"
  have e:hi=lo:=by lia
  subst e
  exact q hi H2 h2 h3 h4 s2
theorem vX:bp P w K mg base eL 5 TN UD ["words","ways","band"] (mO K ba aM):=by
 have zx:=vV (P:=P) (w:=w) (base:=base) T
 have vY:=u6 (P:=P) (w:=w) (base:=base) T
 have u9:=rB (P:=P) (w:=w) (base:=base) T
 refine T.F28.fn.ok fJ (λvs H Q E h=>uo h) 91
 refine ⟨_,(ab (ao (i:=3) fJ.nd (eK bV))
   (ab (cJ PassesOwn.never rfl (de K rfl (ai zx T.F13 hr (aa 124 (ae (pv 2))))) (aK (i:=4) fJ.nd rfl 125) (ab (ao (i:=5) fJ.nd (ai vY T.F27 hr (aa 124 (aa 138 (ae (pv 4))))))
   (aj (cW (bP K rfl Qbe PySem.F.slot_list_insert PySem.F.type_list_insert FP (pv 3) (aa (ai u9 T.F26 hr (aa (pv 3) (ae (pv 5)))) (ae (pv 5))))))))
   (aj (aG (cQ (cR K rfl) rfl T.z_tuple boot_tuple (ae (bW ["seen"] [none] (de K rfl (pv 3)) trivial (λ_ _ _ _=>(aK (i:=0) (by decide+kernel:List.Nodup (["seen"]:List Str)) rfl (Or.inl rfl))) (λ_ _ _ _=>eZ) (λ_ _ _ _=>(bU K rfl (pv 0) rfl))))))))),?_⟩
 obtain ⟨y,lg,wt,vt,ws,o8,band,rfl,hy,hz,xP,hfw,lX,hb,YB,wH,Xw,q⟩:=h
 have hs:=Zs1
 walk_at "rd"
 intro a na
 have s0:=aq.upd (o:= .lst []) na
 refine ⟨_,rfl,_,rfl,wt,ws,band,rfl,s0 _ _ xP,hfw,λw hw=>⟨λc hc=>hy.lt c ((lX w hw).1.cn c hc),(lX w hw).2⟩,hb,λb ps H1 nb LL tP lL s1=>?_⟩
 have Sw:=s0.trans s1
 have hba:b≠a:=λz=>by rw[z,ag]at nb;cases nb
 have aaQ:(ps:)<=48:=by
  have h1:(ps.map Pr.pair:)<=48:=by
   rw[lL]
   have:=kR band (λw hw=>(lX w hw).2) (ws:) (Qad _)
   lia
  rwa [Qaa]at h1
 have pin:∀p∈ps,∃w,ws[p.c]? =some w/\p.i<(w:)/\BK band (rd w p.i)=true:=λp hp=>by
  have hm:p.pair∈dG band ws (ws:):=by rw[<-lL];exact Qa4.mpr ⟨p,hp,rfl⟩
  exact C7 hm
 refine ⟨b,rfl,⟨_,bC.of LL⟩,?_⟩
 refine let gi:Nat->L2.St->Hp->Prop:=(λk σ H'=>∃(ss:List Sn) (sv nv:Option V),σ=[some (.ref wt),some (.ref vt),some (.str (S [band])),some (.ref a),sv,nv]/\H' a=some (.lst (EO ss))/\(∀s∈ss,kM H' ba aM y lg s/\rd s.u s.p=band/\∃w,ws[s.c]? =some w/\C6 w s.c s.i s/\s.i<(w:))/\(ss.map λs=>(s.c,s.i)).Perm ((ps.take k).map Pr.pair)/\GF y (2*lg) ss/\aV a H1 H');fM (K:=K) (a:=b) (xs:=xu ps) gi
  ⟨[],none,none,rfl,s1 _ _ ag,λ_ h=>absurd h Qav,.nil,List.Pairwise.nil,aV.refl _ _⟩ (λk σ H' _ ⟨_,_,_,_,_,_,_,_,h⟩=>bC.of (h _ _ LL hba)) ?_ ?_
 ·rintro k x σ H2 hx ⟨ss,sv,nv,rfl,ha,Lc,vO,U9,s2⟩
  show L1 _ _ _ _ _
  refine Jh λDx Xp=>?_
  obtain ⟨p,hp,rfl⟩:=JT hx
  have hk:k<(ps:):=(Qz.mp hp).1
  have Xx:=Qae hp
  obtain ⟨w,hw,hi,ho⟩:=pin p Xx
  have hwm:=Qae hw
  have N9:p.c<(o8:):=by rw[wH];exact (Qz.mp hw).1
  have cq:=Xw p.c w o8[p.c] hw (Qy N9)
  have go:∀c o,H c=some o->H2 c=some o:=λc o e=>s2 _ _ (Sw c o e) (au e na)
  have hpt:=(tP p Xx).tp
  have Ri:p.t≠a:=λz=>by rw[z,s1 _ _ ag]at hpt;cases hpt
  have aao:=s2 _ _ hpt Ri
  have ssl:(ss:)=k:=by
   have:=vO.length_eq
   rw[Qaa,Qaa,Qai]at this
   lia
  refine ⟨_,rfl,_,rfl,_,rfl,y,lg,wt,vt,p.t,w,ws,o8,o8[p.c],p.c,p.i,rfl,hy,go _ _ xP,go _ _ YB,aao,hw,Qy N9,cq.same go,hi,λs H3 PH qD hso hnn s3=>?_⟩
  have hsb:=PH.band hy (lX w hwm).1 hi hb ho
  refine ⟨_,rfl,.inl ⟨rfl,_,bC.of (s3 _ _ ha)⟩,_,rfl,_,rfl,y,lg,a,ss,s,rfl,hy,hz,s3 _ _ ha,λt ht=>⟨(Lc t ht).1.same s3,by rw[(Lc t ht).2.1,hsb]⟩,hso,U9,(),λn H4 hn h1 h2 s4=>?_⟩
  have ha4:=s4 _ _ (s3 _ _ ha)
  refine ⟨_,rfl,a,_,n,_,rfl,rfl,ha4,by rw[oK];exact hn,by rw[oK];lia,?_⟩
  have e1:(EO ss).take n++V.ref s.a::(EO ss).drop n=EO (ss.take n++s::ss.drop n):=by
   unfold EO
   rw[Qag,Qga,Qas,List.map_drop]
  rw[e1]
  have su:∀t,kM H4 ba aM y lg t->kM (L2.upd H4 a (.lst (EO (ss.take n++s::ss.drop n)))) ba aM y lg t:=λt ot=>by
   have ne:∀{c:Addr} {o:HO},H4 c=some o->(∀l,o≠ .lst l)->c≠a:=λ{c o} e no z=>by rw[z,ha4]at e;exact no _ (Qal e).symm
   obtain ⟨dx,eo⟩:=ot.ob
   obtain ⟨dw,ew⟩:=ot.wy.ob
   exact ⟨⟨dx,by rw[aA (ne eo (λl z=>by cases z))];exact eo⟩,by rw[aA (ne ot.st (λl z=>by cases z))];exact ot.st,⟨⟨dw,by rw[aA (ne ew (λl z=>by cases z))];exact ew⟩,ot.wy.sw,ot.wy.uz,ot.wy.lz,ot.wy.rt⟩,ot.pz⟩
  refine Xp _ _ ⟨ss.take n++s::ss.drop n,_,_,rfl,ag,λt ht=>?_,?_,R7 U9 h1 h2,λc o e z=>by rw[aA z];exact s4 _ _ (s3 _ _ (s2 c o e z))⟩
  ·have:t=s\/t∈ss:=by
    rcases Qan.mp ht with r | r
    ·exact .inr (Qb4 r)
    ·rcases Qaq.mp r with r | r
     ·exact .inl r
     ·exact .inr (Qca r)
   rcases this with r | r
   ·subst r
    refine ⟨su _ (hso.same s4),hsb,w,?_,?_,?_⟩
    ·rw[PH.ec];exact hw
    ·rw[PH.ec,PH.ei];exact PH
    ·rw[PH.ei];exact hi
   ·exact ⟨su _ (((Lc t r).1.same s3).same s4),(Lc t r).2⟩
  ·rw[Qag,Qas, <-take_snoc hp,Qag,PH.ec,PH.ei]
   have p1:(ss.take n).map (λs=>(s.c,s.i))++(p.c,p.i)::(ss.drop n).map (λs=>(s.c,s.i)) |>.Perm ((p.c,p.i)::ss.map λs=>(s.c,s.i)):=by
    refine List.perm_middle.trans (List.Perm.cons _ ?_)
    rw[<-Qag,Qaw]
   exact p1.trans ((List.Perm.cons _ vO).trans (Qe3 _ _).symm)
 ·rintro σ H2 ⟨ss,sv,nv,rfl,ha,Lc,vO,U9,s2⟩
  rw[yU,Qbi,lL]at vO
  have ssl:(ss:)<=48:=by
   have:=vO.length_eq
   rw[Qaa, <-lL,Qaa]at this
   lia
  have Lb:aq H H2:=λc o e=>s2 _ _ (Sw c o e) (au e na)
  refine ⟨_,rfl,a,rfl,⟨_,bC.of ha⟩,?_⟩
  refine let zw:Nat->List V->Hp->Prop:=(λi acc H'=>H'=H2/\acc=(ss.take i).map λs=>V.ref s.t);lK (K:=K) (a:=a) (xs:=EO ss) zw (by rw[oK];lia) (λi acc H' h=>by rw[h.1];exact bC.of ha) ⟨rfl,rfl⟩ ?_ ?_
  ·rintro i x acc H3 Nx hi hx hl ⟨rfl,rfl⟩ nx
   obtain ⟨t,ht,rfl⟩:=NK hx
   obtain ⟨dx,e⟩:=(Lc t (Qae ht)).1.ob
   refine ⟨trivial,dv ⟨_,rfl,t.a,aM,dx,_,_,rfl,e,T.eN,T.n_Seen_strand,xB,nx _ _ (by simpa using hl) ⟨rfl,?_⟩⟩⟩
   rw[<-take_snoc ht,Qag]
   rfl
  ·rintro acc H3 D hl ⟨rfl,rfl⟩ hD
   rw[oK,Qbi]
   walk_at"E"
   have sA:=(aq.upd (o:= .lst (ss.map λs=>V.ref s.t)) hD).trans (aq.upd (o:= .tup (ss.map λs=>V.ref s.t)) nt)
   have ep:(ss.map λs=>(⟨s.t,s.c,s.i⟩:Pr)).map Pr.pair=ss.map λs=>(s.c,s.i):=by rw[Qbj];rfl
   refine q t (ss.map λs=>(⟨s.t,s.c,s.i⟩:Pr)) _ (aq.free (Lb.trans (aq.upd hD)) nt) (by rw[ag];unfold xu;rw[Qbj];rfl) (λp hp=>?_) (by rw[ep];exact vO) ?_ (Lb.trans sA)
   ·obtain ⟨s,VY,rfl⟩:=Qa4.mp hp
    obtain ⟨ok,_,w,hw,_,hi⟩:=Lc s VY
    have h1:=(Qz.mp hw).1
    have h2:=(lX w (Qae hw)).2
    exact ⟨sA _ _ ok.st,by show s.c<1000;lia,by show s.i<1000;lia⟩
   ·rw[ep]
    unfold GG
    rw[Qco]
    refine Qfg (λ{s t} h1 h2 h=>?_) U9
    obtain ⟨o1,_,w1,e1,i1,l1⟩:=Lc s h1
    obtain ⟨o2,_,w2,e2,i2,l2⟩:=Lc t h2
    have g1:ws.getD s.c []=w1:=by rw[Qam,e1];rfl
    have g2:ws.getD t.c []=w2:=by rw[Qam,e2];rfl
    rw[<-ER hy (lX w1 (Qae e1)).1 l1 g1 i1 o1.wy.rt, <-ER hy (lX w2 (Qae e2)).1 l2 g2 i2 o2.wy.rt]
    exact h
theorem zy:bp P w K mg base eL 2 Tw Uq ["word"] (nX K):=by
 walk_at"m"
 refine T.F15.fn.ok jA (λvs H Q E h=>vK h) 91
 refine let Z4:TS:=_;let Z3:TS:=_;let Z2:TS:=_;let Z1:TS:=_;let Z0:TS:=_;⟨_,(ab (ao (i:=1) jA.nd (eK bV))
   (ah Z0 (ab (cJ PassesOwn.never rfl (j_ 124) (aK (i:=2) jA.nd rfl 125) (ah Z1 (aj (cM (PW.pt (xX (Mw K rfl 138) (rE (bf iB (aO (cE K rfl) 138 (wm pj ak) 129) (ai bo T.F0 hr (ae (pv 2))) (aW _))))) (ah Z2 (aj (cW (fF K rfl Qbe Qek Qej Qt 138)))) (ah Z3 (aj (cW (bP K rfl Qbe Qcn Qcm eQ 138 (ae (pv 2))))))))))
   (ah Z4 (aj (aG (bP K rfl Qa5 Qda Qc9 (gI K rfl) (mi [] ⋯) (ae (pv 1))))))))),?_⟩
 obtain ⟨l,rfl,hl,hz,q⟩:=h
 have hs:=Zs1
 walk_at "rd"
 intro p1 n1
 refine ⟨_,rfl,l,rfl,?_⟩
 refine let gi:Nat->L2.St->Hp->Prop:=(λi σ H'=>∃lv,σ=[some (.str (S l)),some (.ref p1),lv]/\H' p1=some (.lst (dU (red (l.take i))))/\aV p1 H H');DN (xs:=dU l) gi ⟨none,rfl,ag,aV.of (aq.upd n1)⟩ ?_ ?_
 ·rintro i x σ H1 hx ⟨lv,rfl,hp,s1⟩
  obtain ⟨c,hc,rfl⟩:=fE hx
  have hi:i<(l:):=(Qz.mp hc).1
  have h8:c<128:=(hl c (Qae hc)).lt
  have PJ:(red (l.take i):)<=1000:=Qbn (jj _) (by rw[Qai];lia)
  have fin:∀st,st=cG (red (l.take i)) c->∃lv,[some (V.str (S l)),some (V.ref p1),some (V.str (S [c]))]=[some (V.str (S l)),some (.ref p1),lv]/\(upd H1 p1 (.lst (dU st))) p1=some (.lst (dU (red (l.take (i+1)))))/\aV p1 H (upd H1 p1 (.lst (dU st))):=λst e=>
   ⟨_,rfl,by rw[ag,Jj hc,e],λb o e z=>by rw[aA z];exact s1 b o e z⟩
  refine ⟨_,rfl,p1,_,rfl,bC.of hp,?_⟩
  rcases snoc_cases (red (l.take i)) with e | ⟨m,a,e⟩
  ·rw[e]at hp ⊢
   refine M1 rfl ?_
   refine VT ?_
   refine ⟨_,rfl,.inl ⟨rfl,_,bC.of hp⟩,_,rfl,p1,_,_,rfl,rfl,hp,by rw[aX];exact (by decide:(0:Nat)<sizeLine),?_⟩
   rw[e_]
   refine fin _ ?_
   rw[e]
   unfold cG
   rw[if_neg (by simp)]
  ·rw[e]at hp PJ ⊢
   have YD:(m:)<=1000:=by simp at PJ;lia
   rw[<-e_]at hp ⊢
   refine Rz (by simp) ?_
   refine ⟨_,rfl,_,rfl,p1,_,_,_,rfl,rfl,bC.of hp,zY _ _,_,rfl,c,rfl,h8,[a],[az c],rfl,rfl,_,rfl,cw (λz=>?_) (λz=>?_)⟩
   ·have ea:a=az c:=by simpa using of_decide_eq_true z
    refine ⟨_,rfl,.inl ⟨rfl,_,bC.of hp⟩,p1,_,V.str (S [a]),rfl,rfl,hp,by simp,?_⟩
    rw[Qd2]
    refine fin _ ?_
    rw[e]
    unfold cG
    rw[if_pos (by simp[ea]),Qd2]
   ·have ea:a≠az c:=λw=>z (decide_eq_true (by rw[w]))
    refine ⟨_,rfl,.inl ⟨rfl,_,bC.of hp⟩,_,rfl,p1,_,_,rfl,rfl,hp,by rw[X4,aX];show (m:)+1<sizeLine;lia,?_⟩
    rw[e_,e_]
    refine fin _ ?_
    rw[e]
    unfold cG
    rw[if_neg (by simpa using ea)]
 ·rintro σ H1 ⟨lv,rfl,hp,s1⟩
  rw[nS]at hp
  refine ⟨rfl,_,rfl,p1,(red l).map λc=>[c],rfl,rfl,bC.of (by rw[<-gD];exact hp),?_,?_⟩
  ·rw[CB]
   have:=jj l
   lia
  ·rw[tU]
   exact q _ (λb o e=>s1 b o e (au e n1))
theorem lD:bp P w K mg base eL 3 Tx Ur ["word"] (qK K):=by
 have BB:=zy (P:=P) (w:=w) (base:=base) T
 walk_at"m"
 refine T.Yq.fn.ok eV (λvs H Q E h=>yB h) 91
 refine let Z5:TS:=_;let Z4:TS:=_;let Z3:TS:=_;let Z2:TS:=_;let Z1:TS:=_;let Z0:TS:=_;⟨_,(ab (ao (i:=1) eV.nd (ai BB T.F15 hr (ae 124)))
   (ah Z0 (ab (ao (i:=2) eV.nd ak)
   (ah Z1 (ab (ao (i:=3) eV.nd (aU bO rfl T.z_len Qb7 (ae 138)))
   (ah Z2 (ab (gz PassesOwn.never (PW.pt (xX (bf HC (aC cP (pv 3) (pv 2)) ak (aW _)) (rE (bf iB (aO pJ 138 (pv 2) 129) (ai bo T.F0 hr (ae (aO pJ 138 (aC cP (pv 3) ak) 129))) (aW _))))) (ah Z3 (ab (j5 (i:=2) eV.nd rfl 125 ak sF)
   (ah Z4 (aj (j5 (i:=3) eV.nd rfl (Or.inl rfl) ak Qb))))))
   (ah Z5 (aj (aG (cD qW (pv 1) (cb (pv 2)) (cb (pv 3))))))))))))),?_⟩
 obtain ⟨l,rfl,hl,hz,q⟩:=h
 have hs:=Zs1
 refine ⟨_,rfl,l,rfl,hl,hz,λH1 s1=>?_⟩
 have LK:=jj l
 have cH:=RB hl
 generalize red l=r at LK cH q ⊢
 have hrz:(r:)<=sizeLine:=by lia
 walk_at "rd"
 refine ⟨λm σ H'=>∃(a e:Nat),σ=[some (.str (S l)),some (.str (S r)),some (.int a),some (.int e)]/\m=e - a/\a<=e/\e<=(r:)/\core (G_ r a e)=core r/\H'=H1,⟨_,0,(r:),rfl,rfl,Qax _,Qad _,by rw[M5],rfl⟩,?_⟩
 rintro m σ H2 ⟨a,e,rfl,rfl,h1,h2,hc,rfl⟩
 have fin:core (G_ r a e)=G_ r a e->Q (.str (S (cut r (some (a:Int)) (some (e:Int))))) H2:=λz=>by
  have e1:cut r (some (a:Int)) (some (e:Int))=G_ r a e:=by
   unfold cut G_
   rw[HT.hJ,HT.hJ]
   have e1:min a (r:)=a:=by lia
   have e2:min e (r:)=e:=by lia
   rw[e1,e2]
  rw[e1, <-z,hc]
  exact q H2 s1
 walk_at "rd"
 walk_at"j"
 ·have z1:(2:Int)<=(e:Int) - (a:Int):=of_decide_eq_true z
  have ha:a<(r:):=by lia
  have he:e - 1<(r:):=by lia
  have g0:vp r (a:Int)=some r[a]:=cO (Qy ha)
  have g1:vp r ((e:Int) - 1)=some r[e - 1]:=by
   have:(e:Int) - 1=((e - 1:Nat):Int):=by lia
   rw[this];exact cO (Qy he)
  have h8:r[e - 1]<128:=(cH _ (Qb0 he)).lt
  have hw:=RC (l:=r) (s:=a) (e:=e) () h2
  refine ⟨_,rfl,_,rfl,r,_,_,rfl,rfl,hrz,g0,?_⟩
  walk_at "rd"
  refine ⟨r,_,_,rfl,rfl,hrz,g1,?_⟩
  walk_at "rd"
  refine cw (λy=>?_) (λy=>?_)
  ·have ey:r[a]=az r[e - 1]:=by simpa using of_decide_eq_true y
   walk_at "rd"
   refine ⟨(e - 1) - (a+1),(),a+1,e - 1,?_,rfl,(),(),?_,rfl⟩
   ·have e1:(a:Int)+1=((a+1:Nat):Int):=by lia
    have e2:(e:Int) - 1=((e - 1:Nat):Int):=by lia
    rw[<-e1, <-e2]
    rfl
   ·rw[<-hc,hw,yA ey]
  ·have ey:r[a]≠az r[e - 1]:=λw=>y (decide_eq_true (by rw[w]))
   walk_at "rd"
   exact fin (by rw[hw,lR ey])
 ·have z1: ¬(2:Int)<=(e:Int) - (a:Int):=λw=>z (decide_eq_true w)
  walk_at "rd"
  exact fin (gJ (by rw[M4 h2];lia))
theorem sj:bp P w K mg base eL 4 Tz Us ["word"] (Eg K):=by
 have gZ:=lD (P:=P) (w:=w) (base:=base) T
 refine T.Hh.fn.ok md (λvs H Q E h=>Jm h) 91
 refine let Z5:TS:=_;let Z4:TS:=_;let Z3:TS:=_;let Z2:TS:=_;let Z1:TS:=_;let Z0:TS:=_;⟨_,(ab (ao (i:=1) md.nd (ai gZ T.Yq hr (ae 124)))
   (ah Z0 (ab (ao (i:=2) md.nd 138)
   (ah Z1 (ab (cJ PassesOwn.never rfl (wj rfl T.z_range (aa ak (ae (aU bO rfl T.z_len Qb7 (ae 138))))) (aK (i:=3) md.nd rfl 125) (ah Z2 (ab (ao (i:=4) md.nd (aC lJ (cD qW 138 (cb (pv 3)) fB) (cD qW 138 fB (cb (pv 3)))))
   (ah Z3 (aj (cM (bf yg (pv 4) (pv 2) (aW _)) (ah Z4 (aj (ao (i:=2) md.nd (pv 4)))) bK))))))
   (ah Z5 (aj (aG (pv 2))))))))),?_⟩
 obtain ⟨l,rfl,hl,hz,q⟩:=h
 have hs:=Zs1
 refine ⟨_,rfl,l,rfl,hl,hz,λH1 s1=>?_⟩
 have hc1:(core (red l):)<=1000:=Qbn (km _) (Qbn (jj l) hz)
 unfold bL gj at q
 generalize core (red l)=c at hc1 q ⊢
 have Pd:(c:)<=sizeLine:=by lia
 walk_at "rd"
 refine ⟨_,_,rfl,⟨∅,∅,(),()⟩,?_⟩
 refine gw (λi σ H'=>H'=H1/\∃sv bv,σ=[some (.str (S l)),some (.str (S c)),some (.str (S (cF c (nY c i)))),sv,bv]) ⟨rfl,none,none,rfl⟩ ?_ ?_
 ·rintro i σ H2 hi ⟨rfl,sv,bv,rfl⟩
  have e1:(1:Int)+(i:Int)=((i+1:Nat):Int):=by lia
  rw[e1]
  have hlen:(cut c (some ((i+1:Nat):Int)) none:)+(cut c none (some ((i+1:Nat):Int)):)<=sizeLine:=by rw[ko,tY,Qaz,Qai];lia
  have aap:cut c (some ((i+1:Nat):Int)) none++cut c none (some ((i+1:Nat):Int))=dj c (i+1):=by rw[ko,tY];rfl
  walk_at "rd"
  rw[aap]
  walk_at"j"
  ·have z':dj c (i+1)<cF c (nY c i):=of_decide_eq_true z
   have hle:cF c (nY c (i+1))=dj c (i+1):=by rw[xk,jk];unfold bI;rw[if_pos z']
   refine ⟨_,rfl,?_⟩
   rw[hle]
   exact ⟨rfl,_,_,rfl⟩
  ·have z': ¬dj c (i+1)<cF c (nY c i):=λy=>z (decide_eq_true y)
   have hle:cF c (nY c (i+1))=cF c (nY c i):=by rw[xk,jk];unfold bI;rw[if_neg z']
   rw[hle]
   exact ⟨rfl,_,_,rfl⟩
 ·rintro σ H2 ⟨rfl,sv,bv,rfl⟩
  have e:(((c:):Int) - 1).toNat=(c:) - 1:=by lia
  rw[e]
  exact ⟨_,rfl,q _ s1⟩
theorem N_:bp P w K mg base eL 5 TC Uu ["word"] (Ei K):=by
 have iM:=sj (P:=P) (w:=w) (base:=base) T
 refine T.Yr.fn.ok si (λvs H Q E h=>Jp h) 91
 refine let Z4:TS:=_;let Z3:TS:=_;let Z2:TS:=_;let Z1:TS:=_;let Z0:TS:=_;⟨_,(ab (ao (i:=1) si.nd (ai iM T.Hh hr (ae 124)))
   (ah Z0 (ab (cJ PassesOwn.never rfl (wj rfl T.z_range (aa ak (ae (aC bu (aU bO rfl T.z_len Qb7 (ae 138)) ak)))) (aK (i:=2) si.nd rfl 125) (ah Z1 (ab (ao (i:=3) si.nd (aC fO (aU bO rfl T.z_len Qb7 (ae 138)) (pv 2)))
   (ah Z2 (aj (cM (bf iB (aC rJ (cD qW (pv 1) fB (cb (pv 2))) (pv 3)) (pv 1) (aW _)) (ah Z3 (aj (aG (dB (aa (cD qW (pv 1) fB (cb (pv 2))) (ae (pv 3))))))) bK))))))
   (ah Z4 (aj (aG (dB (aa (mi [] ⋯) (ae ak))))))))),?_⟩
 obtain ⟨l,rfl,hl,hz,q⟩:=h
 have hs:=Zs1
 walk_at "wk"
 intro H1 s1
 have hw:(bL l:)<=1000:=Qbn (pW l) hz
 generalize bL l=c at hw q ⊢
 have Pd:(c:)<=sizeLine:=by lia
 walk_at "wk"
 refine ⟨_,_,rfl,⟨∅,∅,(),()⟩,?_⟩
 refine let gi:Nat->L2.St->Hp->Prop:=(λi σ H'=>H'=H1/\(∀j,1<=j->j<=i-> ¬iU c j)/\∃sv tv,σ=[some (.str (S l)),some (.str (S c)),sv,tv]);gw gi ⟨rfl,λj h1 h2=>by lia,none,none,rfl⟩ ?_ ?_
 ·rintro i σ H2 hi ⟨rfl,YE,sv,tv,rfl⟩
  have e1:(1:Int)+(i:Int)=((i+1:Nat):Int):=by lia
  rw[e1]
  have e2:((c:):Int) / ((i+1:Nat):Int)=(((c:) / (i+1):Nat):Int):=(Qfm _ _).symm
  have hd:=Nat.div_le_self (c:) (i+1)
  have hmul:(c.take (i+1):)*((c:) / (i+1))<=sizeLine:=by
   have h1:(c.take (i+1):)<=i+1:=by rw[Qai];lia
   have h2:=Nat.mul_div_le (c:) (i+1)
   have h3:=Nat.mul_le_mul_right ((c:) / (i+1)) h1
   lia
  walk_at "wk"
  refine ⟨⟨by rw[e2];exact Qgd _,by rw[e2];exact Int.ofNat_le.mpr (Qbn hd (by lia:(c:)<=1000000))⟩,by rw[e2,ko,Qap];exact hmul,?_⟩
  walk_at "wk"
  walk_at"j"
  ·have z1:iU c (i+1):=by
    have:=of_decide_eq_true z
    rw[e2,ko,Qap]at this
    exact this
   walk_at "wk"
   intro p np
   refine q p (i+1) _ (aq.free s1 np) ?_ (.inr ⟨(),(),z1,λj j1 j2=>YE j j1 ()⟩) (s1.trans (aq.upd np))
   rw[ag]
   unfold O1
   rw[<-ko, <-e2]
  ·have z1: ¬iU c (i+1):=λy=>z (decide_eq_true (by
    rw[e2,ko,Qap]
    exact y))
   refine ⟨rfl,λj j1 j2=>?_,_,_,rfl⟩
   by_cases y:j=i+1
   ·rw[y];exact z1
   ·exact YE j j1 ()
 ·rintro σ H2 ⟨rfl,YE,sv,tv,rfl⟩
  have hc:c=[]:=by
   by_cases z:c=[]
   ·exact z
   ·have hl:0<(c:):=Qaf.mpr z
    exact absurd (Gk c z) (YE _ hl ())
  subst hc
  walk_at "wk"
  intro p np
  exact q p 0 _ (aq.free s1 np) (by rw[ag];rfl) (.inl ⟨rfl,rfl⟩) (s1.trans (aq.upd np))
theorem u_:bp P w K mg base eL 2 Tv Up ["word","place"] (kz K):=by
 walk_at"m"
 refine T.F14.fn.ok uV (λvs H Q E h=>q9 h) 91
 refine ⟨_,(aj (aG (dB (aa (ai bo T.F0 hr (ae (aO pJ 124 (aC cP 138 ak) 129))) (ae (aO pJ 124 138 129)))))),?_⟩
 obtain ⟨w,i,rfl,hl,hz,hi,q⟩:=h
 have hs:=Zs1
 have fq:w≠[]:=λz=>by rw[z]at hi;simp at hi
 refine ⟨_,rfl,_,rfl,_,_,rfl,rfl,w,_,_,rfl,rfl,(),Js () (),_,rfl,(hl _ (CF fq _)).lt,?_⟩
 refine ⟨_,rfl,_,rfl,w,_,_,rfl,rfl,(),Js () (),by show 2<=sizeLine;decide,λt nt=>?_⟩
 exact q t _ nt ag (aq.upd nt)
theorem lE:bp P w K mg base eL 1 f3 d3 ["yard","start","end"] (kx K):=by
 refine T.F3.fn.ok uU (λvs H Q E h=>q8 h) 91
 refine ⟨_,(aj (aG (aC eW (aC cP (bP K rfl Qa5 PySem.F.slot_str_find PySem.F.type_str_find Ae 124 (ae (pv 2))) (bP K rfl Qa5 PySem.F.slot_str_find PySem.F.type_str_find Ae 124 (ae 138))) (aU bO rfl T.z_len Qb7 (ae 124))))),?_⟩
 obtain ⟨y,a,b,rfl,ha,hb,hz,q⟩:=h
 have hs:(1000:Nat)<sizeLine:=by decide
 have hp:(0:Int)<((y:):Int):=by have:=List.length_pos_of_mem ha;lia
 refine ⟨_,rfl,rfl,_,rfl,y,b,rfl,rfl,?_⟩
 rw[if_pos hb]
 refine ⟨_,rfl,rfl,_,rfl,y,a,rfl,rfl,?_⟩
 rw[if_pos ha]
 exact ⟨_,_,rfl,rfl,_,rfl,y,rfl,(),_,_,rfl,rfl,hp,q⟩
theorem rC:bp P w K mg base eL 3 TF Uv ["yard","word","place"] (jL K):=by
 have vZ:=u_ (P:=P) (w:=w) (base:=base) T
 have fK:=lE (P:=P) (w:=w) (base:=base) T
 refine T.Ys.fn.ok jU (λvs H Q E h=>qe h) 91
 refine let Z0:TS:=_;⟨_,(ab (ao (i:=3) jU.nd (ai vZ T.F14 hr (aa 138 (ae (pv 2)))))
   (ah Z0 (aj (aG (ai fK T.F3 hr (aa (pv 0) (aa (aO (aP K rfl) (pv 3) ak (λ_ _=>rfl)) (ae (aO (aP K rfl) (pv 3) ak (λ_ _=>rfl)))))))))),?_⟩
 obtain ⟨y,w,i,rfl,hy,hz,hw,PD,hi,q⟩:=h
 refine ⟨_,rfl,_,rfl,w,i,rfl,λc hc=>hy.lt c (hw.cn c hc),PD,hi,λp H1 np hp s1=>?_⟩
 refine ⟨_,rfl,_,rfl,p,_,0,_,rfl,rfl,bY.of hp,rfl,_,rfl,p,_,1,_,rfl,rfl,bY.of hp,rfl,y,_,_,rfl,hy.cl _ (hw.rd _),hw.rd _,(),?_⟩
 have rg:=fy (hy.cl _ (hw.rd ((i:Int) - 1))) (hw.rd i) (Ne.symm (hw.red i))
 obtain ⟨n,hn⟩:∃n:Nat,cst y w i=n:=⟨(cst y w i).toNat,by have:=rg.1;unfold cst;lia⟩
 have:=rg.2.1
 have e:AQ y (az (rd w ((i:Int) - 1))) (rd w i)=n:=hn
 have key:=q n H1 hn () s1
 rw[<-e]at key
 exact key
theorem Ld:bp P w K mg base eL 6 mU Bx ["self","yard","word","longest"] (A7 K ba):=by
 have SA:=N_ (P:=P) (w:=w) (base:=base) T
 have iM:=sj (P:=P) (w:=w) (base:=base) T
 have g6:=mf (P:=P) (w:=w) (base:=base) T
 have va:=rC (P:=P) (w:=w) (base:=base) T
 refine T.Xi.ok uY (λvs H Q E h=>GD h) 91
 refine let Z5:TS:=_;let Z4:TS:=_;let Z3:TS:=_;let Z2:TS:=_;let Z1:TS:=_;let Z0:TS:=_;⟨_,(ab (j7 124 (aU bO rfl T.z_len Qb7 (aa (pv 2) bV)) rfl)
   (ah Z0 (ab (j7 124 (aU bO rfl T.z_len Qb7 (aa (aO (aP K rfl) (lH SA (hr.mono ∅) rfl T.Yr.mg T.Yr.fn.kp T.Yr.bd .nil hU (aa (pv 2) bV)) ak 129) bV)) rfl)
   (ah Z1 (ab (j7 124 (cX yg (lH iM (hr.mono ∅) rfl T.Hh.mg T.Hh.fn.kp T.Hh.bd .nil hU (aa (pv 2) bV)) (lH iM (hr.mono ∅) rfl T.Hh.mg T.Hh.fn.kp T.Hh.bd .nil hU (aa (lH g6 (hr.mono ∅) rfl T.F1.mg T.F1.fn.kp T.F1.bd .nil hU (aa (pv 2) bV)) bV)) (aW _)) rfl)
   (ah Z2 (ab (BN (i:=4) uY.nd rfl 125 (bP K rfl Qa5 Qda Qc9 (gI K rfl) (mi [] ⋯) (aa (bW ["place","yard","word"] [none,some 1,some 2] (gu rfl T.z_range (aa (aU bO rfl T.z_len Qb7 (aa (pv 2) bV)) bV)) ⟨123,⟨123,trivial⟩⟩ (λ_ _ _ _=>(aK (i:=0) (by decide+kernel:List.Nodup (["place","yard","word"]:List Str)) rfl 125)) (λ_ _ _ _=>eZ) (λ_ _ _ _=>(cQ FO rfl T.z_str boot_str (aa (lH va (hr.mono ∅) rfl T.Ys.mg T.Ys.fn.kp T.Ys.bd .nil hU (aa 138 (aa (pv 2) (aa 124 bV)))) bV)))) bV)))
   (ah Z3 (ab (BN (i:=5) uY.nd rfl 125 (aC bu ak (aC fO (pv 3) (aU (wu rfl) rfl T.z_max boot_max (aa (aU bO rfl T.z_len Qb7 (aa (pv 2) bV)) (aa ak bV))))))
   (ah Z4 (ab (j7 124 (aC rJ (pv 4) (pv 5)) rfl)
   (ah Z5 (aj (j7 (pv 0) (aC rJ (MQ (pv 4) (cb (wm pj ak))) (pv 5)) rfl)))))))))))))),?_⟩
 obtain ⟨x,dx,y,w',lg,rfl,hx,hy,hz,hw,wH,YF,q⟩:=h
 have hs:=Zs1
 have cH:∀c∈w',Lt c:=λc hc=>hy.lt c (hw.cn c hc)
 have h8:∀c∈w',c<128:=λc hc=>(cH c hc).lt
 have ht:=hw.di hy
 have YG:∀c∈di w',Lt c:=λc hc=>hy.lt c (ht.cn c hc)
 have h1:1<=(w':):=Qaf.mpr hw.ne
 have rl:=oH (lg:=lg) h1
 obtain ⟨rt,YH⟩:=Em hw.ne
 refine ⟨_,rfl,w',rfl,(),_,rfl,x,ba,dx,_,rfl,hx,T.iu,T.n_Way_size,by show 0<1000;decide,?_⟩
 refine ⟨_,rfl,w',rfl,cH,(),λp1 s1 H1 n1 xx LK Xu=>?_⟩
 obtain ⟨er,el⟩:=Gr hy hw LK YH
 subst er
 have et:((bL w').take s1:)=s1:=by
  rw[Qai,el]
  rcases YH with ⟨z,_⟩ | ⟨_,h2,_⟩
  ·exact absurd z hw.ne
  ·lia
 have aaR:s1<=(w':):=by
  rcases YH with ⟨z,_⟩ | ⟨_,h2,_⟩
  ·exact absurd z hw.ne
  ·exact h2
 have hx1:=Xu _ _ (ag (H:=H) (a:=x))
 refine ⟨p1,_,0,_,rfl,rfl,bY.of xx,rfl,_,rfl,by rw[et];lia,_,rfl,x,ba,dx,_,rfl,hx1,T.iu,T.n_Way_root_size,Qbt (dI _ _ _) (by show 0+1<1000;decide),?_⟩
 rw[et]
 refine ⟨_,rfl,w',rfl,cH,(),λH2 s2=>⟨_,rfl,w',rfl,h8,(),λH3 s3=>⟨di w',rfl,YG,by rw[bH];lia,λH4 s4=>?_⟩⟩⟩
 have s24:=s2.trans (s3.trans s4)
 have hx4:=s24 _ _ (ag (a:=x))
 refine ⟨_,_,rfl,rfl,_,rfl,x,ba,dx,_,rfl,hx4,T.iu,T.n_Way_leads,Qbt (dI _ _ _) (Qbt (Qdg (dI _ _ _)) (by show 0+1+1<1000;decide)),?_⟩
 have eld:decide (bL w'<bL (di w'))=leads w':=by
  unfold leads
  rw[hw.bL hy,ht.bL hy]
 refine ⟨rfl,_,rfl,w',rfl,(),_,rfl,(),(),?_⟩
 rw[Qap]
 refine let gi:Nat->List V->Hp->Prop:=(λi acc H'=>aq _ H'/\acc=dU ((stx y w').take i));Ag gi () ⟨aq.refl _,rfl⟩ ?_ ?_
 ·rintro i acc H5 Nx hi hl ⟨s5,rfl⟩ nx
  refine ⟨⟨rfl,rfl,trivial⟩,dv ⟨_,rfl,_,rfl,_,rfl,y,w',i,by rw[Qdv];rfl,hy,hz,hw,(),hi,λn H6 hn h8' s6=>⟨n,rfl,(),nx _ _ (by simpa using hl) ⟨s5.trans s6,?_⟩⟩⟩⟩
  have eg:(stx y w')[i]? =some (48+n):=by
   unfold stx
   rw[Qat,Qey hi]
   show some (BL (cst y w' i))=_
   rw[hn]
   unfold BL
   congr 1
  rw[R3 n (),e_,take_snoc eg]
 ·rintro acc H5 D hl ⟨s5,rfl⟩ hD
  have Xj:(stx y w').take (w':)=stx y w':=Qar (by rw[dP];exact Qad _)
  rw[Xj]at hl ⊢
  refine ⟨D,(stx y w').map λc=>[c],rfl,rfl,bC.of (by rw[ag, <-gD]),by rw[CB,dP];lia,?_⟩
  rw[tU]
  have s5':=s5.trans (aq.upd (o:= .lst (dU (stx y w'))) hD)
  have hx5:=s5' _ _ (ag (a:=x))
  have emx:(if (1:Int)>((w':):Int) then (1:Int) else ((w':):Int))=(max (w':) 1:Nat):=by split<;>lia
  have SD:(3:Int)+(lg:Int) / (if (1:Int)>((w':):Int) then (1:Int) else ((w':):Int))=(kL lg (w':):Nat):=by
   rw[emx]
   unfold kL
   rw[Qcf,Qfm]
   rfl
  have rb:kL lg (w':)<=1003:=by unfold kL;have:=Nat.div_le_self lg (max (w':) 1);lia
  refine ⟨_,rfl,_,rfl,w',rfl,(),_,_,rfl,_,_,rfl,rfl,⟨by rw[emx];lia,by rw[emx];lia⟩,_,_,rfl,rfl,?_⟩
  have l3:∀(a b c:V),(eX "leads" a (eX "root_size" b (eX "size" c [])):)<=3:=λa b c=>Qbn (dI _ _ _) (Qdg (Qbn (dI _ _ _) (Qdg (dI _ _ _))))
  refine ⟨_,rfl,_,rfl,stx y w',_,rfl,rfl,⟨by rw[SD];lia,by rw[SD];lia⟩,by rw[SD,Qap,dP];lia,_,rfl,x,ba,dx,_,rfl,hx5,T.iu,T.n_Way_onward,Qbt (l3 _ _ _) ∅,?_⟩
  refine ⟨_,rfl,1,rfl,_,rfl,rfl,stx y w',rfl,by rw[dP];lia,_,rfl,(stx y w').reverse,_,rfl,rfl,⟨by rw[SD];lia,by rw[SD];lia⟩,by rw[SD,Qap,Qa0,dP];lia,_,rfl,x,ba,dx,_,rfl,ag,T.iu,T.n_Way_backward,Qbt (dI _ _ _) (Qbt (Qdg (l3 _ _ _)) ∅),?_⟩
  refine q s1 _ YH ?_ λb o eb zb=>?_
  ·rw[ag]
   unfold qc
   rw[<-eld,SD,Qap]
  ·rw[aA zb,aA zb]
   refine s5' _ _ ?_
   rw[aA zb]
   refine s24 _ _ ?_
   rw[aA zb]
   refine Xu _ _ ?_
   rw[aA zb]
   exact eb
theorem E6:bp P w K mg base eL 8 TQ UE ["yard","words"] (ES K):=by
 have g6:=mf (P:=P) (w:=w) (base:=base) T
 walk_at"J"
 have zA:=vX (P:=P) (w:=w) (base:=base) T
 have E7:=Ld (P:=P) (w:=w) (base:=base) T
 refine T.F29.fn.ok zp (λvs H Q E h=>Kq h) 91
 refine let Z1:TS:=_;let Z0:TS:=_;⟨_,(ab (ao (i:=2) zp.nd (MU K rfl rfl rfl T.z_max (ae (bW ["word"] [none] (DO K rfl 138) trivial (λ_ _ _ _=>(aK (i:=0) (by decide+kernel:List.Nodup (["word"]:List Str)) rfl 125)) (λ_ _ _ _=>eZ) (λ_ _ _ _=>(aU bO rfl T.z_len Qb7 (ae 124)))))))
   (ah Z0 (ab (ao (i:=3) zp.nd (bW ["word","yard","longest"] [none,some 0,some 2] (DO K rfl 138) ⟨123,⟨123,trivial⟩⟩ (λ_ _ _ _=>(aK (i:=0) (by decide+kernel:List.Nodup (["word","yard","longest"]:List Str)) rfl 125)) (λ_ _ _ _=>eZ) (λ_ _ _ _=>(dB (aa (rF T.Pw E7 (hr.mono ∅) rfl T.Pu T.Px .nil hU (aa 138 (aa 124 (ae (pv 2))))) (ae (rF T.Pw E7 (hr.mono ∅) rfl T.Pu T.Px .nil hU (aa 138 (aa (ai g6 T.F1 hr (ae 124)) (ae (pv 2)))))))))))
   (ah Z1 (aj (aG (dB (aa (cQ (cR K rfl) rfl T.z_tuple boot_tuple (ae (pv 1))) (ae (cQ (cR K rfl) rfl T.z_tuple boot_tuple (ae (bW ["band","words","ways"] [none,some 1,some 3] (j_ (ai gs T.F2 hr (ae (pv 0)))) ⟨⟨rfl,rfl,by first | exact .inl rfl | exact .inr rfl⟩,⟨⟨rfl,rfl,by first | exact .inl rfl | exact .inr rfl⟩,trivial⟩⟩ (λ_ _ _ _=>(aK (i:=0) (by decide+kernel:List.Nodup (["band","words","ways"]:List Str)) rfl (Or.inl rfl))) (λ_ _ _ _=>eZ) (λ_ _ _ _=>(ai zA T.F28 hr (aa (pv 1) (aa (pv 2) (ae (pv 0)))))))))))))))))),?_⟩
 obtain ⟨y,wt,ws,rfl,hy,hz,xP,hfw,lX,q⟩:=h
 have hs:=Zs1
 have Yw:∀c∈y,c<128:=qJ hy.lt
 have U6:=eE hy
 obtain ⟨lg,elg,aaS,YF⟩:=C8 λw hw=>(lX w hw).2
 refine ⟨_,rfl,wt,rfl,⟨_,bY.of xP⟩,?_⟩
 refine let gi:Nat->List V->Hp->Prop:=(λi acc H'=>H'=H/\acc=(NL (ws.take i)).map V.int);An (K:=K) (a:=wt) (xs:=gE ws) gi (by rw[b7];omega) (λi acc H' h=>by rw[h.1];exact bY.of xP) ⟨rfl,rfl⟩ ?_ ?_
 ·rintro i x acc H1 Nx hi hx hl ⟨rfl,rfl⟩ nx
  rw[b7]at hi
  rw[pV hi]at hx
  cases hx
  have LV:=lX ws[i] (Qb0 hi)
  refine ⟨trivial,dv ⟨_,rfl,ws[i],rfl,by omega,nx _ _ (by simpa using hl) ⟨rfl,?_⟩⟩⟩
  rw[<-take_snoc (Qy hi)]
  unfold NL
  rw[Qag,Qag]
  rfl
 ·rintro acc H1 D hl ⟨rfl,rfl⟩ hD
  rw[b7,Qbi]
  refine ⟨D,NL ws,rfl,bC.of ag,?_⟩
  rw[elg]
  have sD:=aq.upd (o:= .lst ((NL ws).map V.int)) hD
  refine ⟨_,rfl,wt,rfl,⟨_,bY.of (sD _ _ xP)⟩,?_⟩
  refine let zw:Nat->List V->Hp->Prop:=(λi acc H'=>aq H1 H'/\∃o8:List Wp,acc=LR o8/\(o8:)=i/\∀(c:Nat) (w:c0) (p:Wp),ws[c]? =some w->o8[c]? =some p->y6 H' ba y lg w p);An (K:=K) (a:=wt) (xs:=gE ws) zw (by rw[b7];omega) (λi acc H' h=>bY.of (h.1 _ _ xP)) ⟨sD,[],rfl,rfl,λc w p _ h=>by simp at h⟩ ?_ ?_
  ·rintro i x acc H2 Nx hi hx DJ ⟨s2,o8,rfl,wH,Xw⟩ nx
   rw[b7]at hi
   rw[pV hi]at hx
   cases hx
   have LV:=lX ws[i] (Qb0 hi)
   have hge:ws[i]? =some ws[i]:=Qy hi
   have Oa:=YF ws[i] (Qb0 hi)
   generalize ws[i]=w' at LV hge Oa ⊢
   have h8:∀c∈w',c<128:=λc hc=>(hy.lt c (LV.1.cn c hc)).lt
   refine ⟨⟨rfl,rfl,trivial⟩,dv ?_⟩
   refine ⟨_,rfl,_,rfl,_,rfl,λx1 dx1 nx1 aaq ne1=>⟨x1,dx1,y,w',lg,rfl,ag,hy,hz,LV.1,Oa,by omega,λr H3 hr hx3 sm3=>⟨rfl,?_⟩⟩⟩
   have s23:=xF nx1 aaq sm3
   refine ⟨_,rfl,_,rfl,w',rfl,h8,by omega,λH4 s34=>⟨_,rfl,λx2 dx2 nx2 aar ne2=>⟨x2,dx2,y,di w',lg,rfl,ag,hy,hz,LV.1.di hy,by rw[bH];exact Oa,by omega,λr2 H5 OZ hx5 sm5=>⟨rfl,?_⟩⟩⟩⟩
   have s45:=xF nx2 aar sm5
   refine ⟨by show 2<=sizeLine;decide,λt nt=>?_⟩
   have s5t:=aq.upd (o:= .tup [.ref x1,.ref x2]) nt
   have s35:=s34.trans (s45.trans s5t)
   have all:=s23.trans s35
   refine nx _ _ (by simpa using DJ) ⟨s2.trans all,o8++[⟨t,x1,x2,r,r2⟩],Ko o8 ⟨t,x1,x2,r,r2⟩,by rw[X4,wH];rfl,NN wH (λc w p a b=>(Xw c w p a b).same all) hge ⟨ag,⟨⟨dx1,s35 _ _ hx3⟩,LV.1,Oa,by omega,hr⟩,⟨⟨dx2,s5t _ _ hx5⟩,LV.1.di hy,by rw[bH];exact Oa,by omega,OZ⟩⟩⟩
  ·rintro acc H2 D2 DJ ⟨s2,o8,rfl,wH,Xw⟩ Xy
   rw[b7]at wH
   have sD2:=aq.upd (o:= .lst (LR o8)) Xy
   have Lb:=s2.trans sD2
   refine ⟨_,rfl,wt,_,rfl,.inr ⟨bY.of (Lb _ _ xP),?_⟩⟩
   refine ⟨_,rfl,y,rfl,Yw,by omega,λl' H3 lF N7 s3=>?_⟩
   have el:=ou lF N7
   subst el
   refine ⟨_,rfl,?_⟩
   have K_:=Lb.trans s3
   have hv3:=s3 _ _ (ag (H:=H2) (a:=D2) (o:=HO.lst (LR o8)))
   refine let Xo:Nat->List V->Hp->Prop:=(λi acc H'=>aq H3 H'/\∃os:List Od,acc=Nw os/\(∀o∈os,Gx H' o)/\(os:)=i/\(∀(j:Nat) (o:Od) (b:Nat),os[j]? =some o->(aQ y)[j]? =some b->(o.ps.map Pr.pair).Perm (dG b ws (ws:)))/\∀o∈os,GG y ws (2*lg) (o.ps.map Pr.pair));fN (xs:=dU (aQ y)) Xo (by rw[aX];omega) ⟨aq.refl _,[],rfl,λ_ h=>absurd h Qav,rfl,λj o b h=>by simp at h,λ_ h=>absurd h Qav⟩ ?_ ?_
   ·rintro i x acc H4 Nx hi hx o9 ⟨s4,os,rfl,Wv,MN,hop,hou⟩ nx
    obtain ⟨b,hb,rfl⟩:=fE hx
    have hbs:=A_ hy (Qae hb)
    refine ⟨⟨rfl,rfl,trivial⟩,dv ?_⟩
    refine ⟨_,rfl,_,rfl,_,rfl,y,lg,wt,D2,ws,o8,b,rfl,hy,hz,s4 _ _ (K_ _ _ xP),hfw,lX,hbs,s4 _ _ hv3,wH,λc w p a1 a2=>(Xw c w p a1 a2).same (sD2.trans (s3.trans s4)),λt ps H5 nt ht tP vO U9 s5=>?_⟩
    have hlz:(ps:)<=100:=by
     have h1:=vO.length_eq
     have h2:=kR b (λw hw=>(lX w hw).2) (ws:) (Qad _)
     rw[Qaa]at h1
     omega
    refine nx _ _ (by simpa using o9) ⟨s4.trans s5,os++[⟨t,ps⟩],JU os ⟨t,ps⟩,λo ho=>?_,by rw[X4,MN];rfl,λj o b' ho O4=>?_,λo ho=>?_⟩
    ·rcases Qan.mp ho with g | g
     ·exact (Wv o g).same s5
     ·rw[Qab.mp g]
      exact ⟨ht,tP,hlz⟩
    ·by_cases z:j<(os:)
     ·rw[Qbg z]at ho
      exact hop j o b' ho O4
     ·rw[Qa2 (by omega)]at ho
      have:j=i:=by
       have:=(Qz.mp ho).1
       simp at this
       omega
      subst this
      rw[MN,Qdt]at ho
      cases ho
      rw[hb]at O4
      cases O4
      exact vO
    ·rcases Qan.mp ho with g | g
     ·exact hou o g
     ·rw[Qab.mp g]
      exact U9
   ·rintro acc H4 D3 o9 ⟨s4,os,rfl,Wv,MN,hop,hou⟩ hD3
    rw[aX]at MN
    refine ⟨D3,_,rfl,.inl ⟨bC.of ag,λt nt=>?_⟩⟩
    refine ⟨by show 2<=sizeLine;decide,λdr ndr=>?_⟩
    have sA:=(aq.upd (o:= .lst (Nw os)) hD3).trans ((aq.upd (o:= .tup (Nw os)) nt).trans (aq.upd (o:= .tup [.ref wt,.ref t]) ndr))
    have htd:t≠dr:=λz=>by rw[<-z,ag]at ndr;cases ndr
    have s04:=K_.trans s4
    exact q dr os _ ⟨⟨wt,t,ag,sA _ _ (s04 _ _ xP),by rw[aA htd,ag]⟩,λo ho=>(Wv o ho).same sA⟩ ⟨2*lg,λw hw v hv=>by have:=YF w hw;have:=YF v hv;omega,⟨MN,hop⟩,hou⟩ (s04.trans sA)
theorem Le:bp P w K mg base eL 9 TR UG ["yard","words"] (Bd K):=by
 have qz:=oY (P:=P) (w:=w) (base:=base) T
 have qA:=u5 (P:=P) (w:=w) (base:=base) T
 have Dt:=E6 (P:=P) (w:=w) (base:=base) T
 refine T.F30.fn.ok K6 (λvs H Q E h=>GJ h) 91
 refine ⟨_,(aj (aG (ai qz T.F12 hr (ae (ai qA T.F8 hr (aa 124 (ae (ai Dt T.F29 hr (aa 124 (ae 138)))))))))),?_⟩
 obtain ⟨y,wt,ws,rfl,hy,hz,hk,xP,q⟩:=h
 refine ⟨_,rfl,_,rfl,_,rfl,y,wt,ws,rfl,hy,hz,xP,hk.pU,hk.sw,λdr os H1 Ru ht s1=>?_⟩
 obtain ⟨nd,e⟩:=GH hy (λw hw=>(hk.sw w hw).1) ht
 obtain ⟨M,_,ok,_⟩:=id ht
 refine ⟨y,dr,ws,os,rfl,hy,hz,hk.ok,ok,Ru,λp qs H2 np hp PC GW s2=>?_⟩
 have hl:=GI (os:=os) hk
 have Yy:(qs:)<=24:=by rw[<-GW,Qaa]at hl;omega
 refine ⟨p,qs,rfl,hp,PC,Yy,by rw[GW];exact nd,λH3 s3=>?_⟩
 rw[GW]
 exact q _ H3 (s1.trans (s2.trans s3)) e
theorem SE:bp P w K mg base eL 10 TU UH ["yard","word"] (Kz K):=by
 have Ob:=Le (P:=P) (w:=w) (base:=base) T
 refine T.F31.fn.ok Ss (λvs H Q E h=>len_own h) 91
 refine ⟨_,(aj (aG (ai Ob T.F30 hr (aa 124 (ae (dB (ae 138))))))),?_⟩
 obtain ⟨y,w',rfl,hy,hz,hw,PD,q⟩:=h
 refine ⟨_,rfl,_,rfl,by show 1<=sizeLine;decide,λt nt=>?_⟩
 refine ⟨y,t,[w'],rfl,hy,hz,NQ hw PD,ag,λn H1 s1 e=>?_⟩
 exact q n H1 ((aq.upd nt).trans s1) (e.trans (Ky y w'))
theorem rD:bp P w K mg base eL 1 f9 d9 ["one","other"] (jJ K):=by
 refine T.F9.fn.ok gh (λvs H Q E h=>p8 h) 91
 refine let Z1:TS:=_;let Z0:TS:=_;⟨_,(ab (ao (i:=2) gh.nd (aU (lG rfl) rfl T.z_min boot_min (aa (aO (aP K rfl) 124 ak 129) (ae (aO (aP K rfl) 124 ak 129)))))
   (ah Z0 (ab (ao (i:=3) gh.nd (aU (wu rfl) rfl T.z_max boot_max (aa (aO (aP K rfl) 124 ak 129) (ae (aO (aP K rfl) 124 ak 129)))))
   (ah Z1 (aj (aG (cX Ij (zU mC mC (pv 2) (aO (aP K rfl) (pv 1) ak (λ_ _=>rfl)) (pv 3)) (zU mC mC (pv 2) (aO (aP K rfl) (pv 1) ak (λ_ _=>rfl)) (pv 3)) (aW _)))))))),?_⟩
 obtain ⟨a,b,rfl,ha,hb,q⟩:=h
 refine ⟨_,rfl,a.t,_,2,_,rfl,rfl,bY.of ha,rfl,_,rfl,a.t,_,3,_,rfl,rfl,bY.of ha,rfl,_,_,rfl,?_⟩
 refine ⟨_,rfl,a.t,_,2,_,rfl,rfl,bY.of ha,rfl,_,rfl,a.t,_,3,_,rfl,rfl,bY.of ha,rfl,_,_,rfl,?_⟩
 have key:∀X Y:Bool,X=ED (if (a.v.2.2.2:Int)<a.v.2.2.1 then (a.v.2.2.2:Int) else a.v.2.2.1) (if (a.v.2.2.2:Int)>a.v.2.2.1 then (a.v.2.2.2:Int) else a.v.2.2.1) b.v.2.2.1->Y=ED (if (a.v.2.2.2:Int)<a.v.2.2.1 then (a.v.2.2.2:Int) else a.v.2.2.1) (if (a.v.2.2.2:Int)>a.v.2.2.1 then (a.v.2.2.2:Int) else a.v.2.2.1) b.v.2.2.2->Q (.bl (!decide (X=Y))) H:=λX Y hX hY=>by
  rw[hX,hY]
  exact q
 refine ⟨_,rfl,_,rfl,b.t,_,2,_,rfl,rfl,bY.of hb,rfl,_,_,rfl,rfl,_,rfl,cw (λz1=>?_) (λz1=>?_)⟩
 ·refine ⟨_,rfl,_,_,rfl,rfl,?_⟩
  refine ⟨_,rfl,_,rfl,b.t,_,3,_,rfl,rfl,bY.of hb,rfl,_,_,rfl,rfl,_,rfl,cw (λz2=>?_) (λz2=>?_)⟩
  ·exact ⟨_,rfl,_,_,rfl,rfl,_,_,rfl,rfl,key _ _ (by unfold ED;rw[z1];rfl) (by unfold ED;rw[z2];rfl)⟩
  ·exact ⟨_,_,rfl,rfl,key _ _ (by unfold ED;rw[z1];rfl) (by unfold ED;rw[Qfd.mpr z2];rfl)⟩
 ·refine ⟨_,rfl,_,rfl,b.t,_,3,_,rfl,rfl,bY.of hb,rfl,_,_,rfl,rfl,_,rfl,cw (λz2=>?_) (λz2=>?_)⟩
  ·exact ⟨_,rfl,_,_,rfl,rfl,_,_,rfl,rfl,key _ _ (by unfold ED;rw[Qfd.mpr z1];rfl) (by unfold ED;rw[z2];rfl)⟩
  ·exact ⟨_,_,rfl,rfl,key _ _ (by unfold ED;rw[Qfd.mpr z1];rfl) (by unfold ED;rw[Qfd.mpr z2];rfl)⟩
theorem zB:bp P w K mg base eL 2 T1 UM ["corner","others","many"] (oV K):=by
 have vb:=rD (P:=P) (w:=w) (base:=base) T
 refine T.F36.fn.ok dR (λvs H Q E h=>vQ h) 91
 refine let Z6:TS:=_;let Z5:TS:=_;let Z4:TS:=_;let Z3:TS:=_;let Z2:TS:=_;let Z1:TS:=_;let Z0:TS:=_;⟨_,(ab (ao (i:=3) dR.nd (aC eW (aC cP (aO (aP K rfl) 124 ak 129) (aO (aP K rfl) 124 ak 129)) (pv 2)))
   (ah Z0 (ab (ao (i:=4) dR.nd (eK bV))
   (ah Z1 (ab (cJ PassesOwn.never rfl (de K rfl 138) (aK (i:=5) dR.nd rfl 125) (ah Z2 (aj (cM (fV (ai vb T.F9 hr (aa 124 (ae (pv 5))))) (ah Z3 (ab (ao (i:=6) dR.nd (aC eW (aC cP (aO (aP K rfl) (pv 5) ak 129) (aO (aP K rfl) 124 ak 129)) (pv 2)))
   (ah Z4 (ab (ao (i:=7) dR.nd (aC eW (aC cP (aO (aP K rfl) (pv 5) ak 129) (aO (aP K rfl) 124 ak 129)) (pv 2)))
   (ah Z5 (aj (cW (bP K rfl Qbe Qcn Qcm eQ (pv 4) (ae (dB (aa (aU (lG rfl) rfl T.z_min boot_min (aa (pv 6) (ae (pv 7)))) (aa (aO (aP K rfl) (pv 5) ak (λ_ _=>rfl)) (ae (cX wq (pv 7) (pv 3) (aW _))))))))))))))) bK))))
   (ah Z6 (aj (aG (bW ["each"] [none] (de K rfl (aU (vJ K rfl) rfl T.z_sorted boot_sorted (ae (pv 4)))) trivial (λ_ _ _ _=>(aK (i:=0) (by decide+kernel:List.Nodup (["each"]:List Str)) rfl (Or.inl rfl))) (λ_ _ _ _=>eZ) (λ_ _ _ _=>(dB (aa (aO (aP K rfl) (pv 0) ak (λ_ _=>rfl)) (ae (aO (aP K rfl) (pv 0) ak (λ_ _=>rfl))))))))))))))),?_⟩
 obtain ⟨a,D,ds,m,rfl,ha,hD,U_,hdl,Xn,hm,q⟩:=h
 have hs:=Zs1
 refine ⟨_,rfl,a.t,_,3,_,rfl,rfl,bY.of ha,rfl,_,rfl,a.t,_,2,_,rfl,rfl,bY.of ha,rfl,_,_,rfl,rfl,_,rfl,_,_,rfl,rfl,hm,?_⟩
 refine ⟨by show 0<=sizeLine;decide,λp n=>?_⟩
 have s0:=aq.upd (o:= .lst []) n
 refine ⟨_,rfl,D,rfl,⟨_,bC.of (s0 _ _ hD)⟩,?_⟩
 refine let gi:Nat->L2.St->Hp->Prop:=(λi σ H'=>∃(ts:List (Addr×NB)) (ov cv gv:Option V),σ=[some (.ref a.t),some (.ref D),some (.int m),some (.int ((a.v.2.2.2 - a.v.2.2.1:Int)%m)),some (.ref p),ov,cv,gv]/\H' p=some (.lst (BH ts))/\Jd H' ts/\ts.map (λx=>x.2.2)=(((ds.take i).map Q4.v).filter (meets a.v)).map (λo=>((o.2.1:Int),Hg m a.v o))/\(ts:)<=i/\aq H H');fM (K:=K) (a:=D) (xs:=mM ds) gi ⟨[],none,none,none,rfl,ag,λ_ h=>absurd h Qav,rfl,Qad _,s0⟩ (λi σ H' _ ⟨_,_,_,_,_,_,_,_,_,s⟩=>bC.of (s _ _ hD)) ?_ ?_
 ·rintro i x σ H1 hx ⟨ts,ov,cv,gv,rfl,hp,Xz,SF,YG,s1⟩
  obtain ⟨d,hdi,rfl⟩:=yY hx
  have XA:=Qae hdi
  have X5:i<(ds:):=(Qz.mp hdi).1
  have YI:=(U_ d XA).ts (eS.of s1)
  have hao:=ha.ts (eS.of s1)
  have e2:(ds.take (i+1)).map Q4.v=(ds.take i).map Q4.v++[d.v]:=by rw[<-take_snoc hdi,Qag];rfl
  refine ⟨_,rfl,_,rfl,a,d,rfl,hao,YI,_,rfl,cw (λz=>?_) (λz=>?_)⟩
  ·refine ⟨_,rfl,d.t,_,2,_,rfl,rfl,bY.of YI,rfl,_,rfl,a.t,_,2,_,rfl,rfl,bY.of hao,rfl,_,_,rfl,rfl,_,rfl,_,_,rfl,rfl,hm,?_⟩
   refine ⟨_,rfl,d.t,_,3,_,rfl,rfl,bY.of YI,rfl,_,rfl,a.t,_,2,_,rfl,rfl,bY.of hao,rfl,_,_,rfl,rfl,_,rfl,_,_,rfl,rfl,hm,?_⟩
   refine ⟨_,rfl,.inl ⟨rfl,_,bC.of hp⟩,_,rfl,_,rfl,_,_,rfl,?_⟩
   refine ⟨_,rfl,d.t,_,1,_,rfl,rfl,bY.of YI,rfl,_,rfl,_,rfl,_,_,rfl,rfl,by show 3<=sizeLine;decide,λT nT=>?_⟩
   have pT:p≠T:=au hp nT
   have sT:=aq.upd (o:= .tup [.int (if (d.v.2.2.2 - a.v.2.2.1:Int)%m<(d.v.2.2.1 - a.v.2.2.1:Int)%m then (d.v.2.2.2 - a.v.2.2.1:Int)%m else (d.v.2.2.1 - a.v.2.2.1:Int)%m),.int d.v.2.1,.bl (Hg m a.v d.v)]) nT
   refine ⟨p,_,_,rfl,rfl,sT _ _ hp,by unfold BH;rw[Qaa];lia,?_⟩
   refine ⟨ts++[(T,((if (d.v.2.2.2 - a.v.2.2.1:Int)%m<(d.v.2.2.1 - a.v.2.2.1:Int)%m then (d.v.2.2.2 - a.v.2.2.1:Int)%m else (d.v.2.2.1 - a.v.2.2.1:Int)%m),(d.v.2.1:Int),Hg m a.v d.v))],_,_,_,rfl,by rw[ag];unfold BH;rw[Qag];rfl,λx wJ=>?_,?_,by rw[X4];show (ts:)+1<=_;lia,aq.up2 (s1.trans sT) n⟩
   ·rcases Qan.mp wJ with g | g
    ·have h1:=Xz x g
     have xp:x.1≠p:=λe=>by rw[e,hp]at h1;cases h1
     rw[aA xp]
     exact sT _ _ h1
    ·rw[Qab.mp g]
     show upd _ p _ T=_
     rw[aA (Ne.symm pT),ag]
     rfl
   ·rw[Qag,SF,e2,Qcl,Pm _ d.v z,Qag]
    rfl
  ·refine ⟨ts,_,_,_,rfl,hp,Xz,?_,(),s1⟩
   rw[SF,e2,Qcl,Pn _ d.v 132,Qbh]
 ·rintro σ H1 ⟨ts,ov,cv,gv,rfl,hp,Xz,SF,YG,s1⟩
  rw[h_,Qbi]at SF
  rw[h_]at YG
  have aas:((ds.map Q4.v).map λo=>o.2.1).Nodup:=by rw[Qbj];exact Xn
  have Sv:(ts.map λx=>x.2.2.1).Nodup:=by
   have e:(ts.map λx=>x.2.2.1)=(ts.map λx=>x.2.2).map λz=>z.1:=by rw[Qbj];rfl
   rw[e,SF,Qbj]
   have e3:(((ds.map Q4.v).filter (meets a.v)).map ((λz:Int×Bool=>z.1) ∘ λo:C4=>((o.2.1:Int),Hg m a.v o)))=(((ds.map Q4.v).filter (meets a.v)).map λo=>o.2.1).map λn:Nat=>(n:Int):=by rw[Qbj];rfl
   rw[e3]
   exact List.Pairwise.map _ (λx z h e=>h ()) (aas.sublist (List.filter_sublist.map _))
  refine ⟨_,rfl,p,ts,rfl,bC.of hp,Xz,λx hx z hz e1 e2=>?_,λr xa nr pr=>?_⟩
  ·obtain ⟨i,hi,rfl⟩:=Qde hx
   obtain ⟨j,hj,rfl⟩:=Qde hz
   have nL:=Qck.mp Sv
   rcases Nat.lt_trichotomy i j with g | g | g
   ·exact absurd (by rw[Qc3,Qc3];exact e2) (nL i j (by rw[Qaa];exact hi) (by rw[Qaa];exact hj) g)
   ·subst g;rfl
   ·exact absurd (by rw[Qc3,Qc3];exact e2.symm) (nL j i (by rw[Qaa];exact hj) (by rw[Qaa];exact hi) g)
  have sr:=aq.upd (o:= .lst (BH xa)) nr
  have XB:Jd (upd H1 r (.lst (BH xa))) xa:=λx hx=>sr _ _ (Xz x (pr.mem_iff.mp hx))
  have hr:upd H1 r (.lst (BH xa)) r=some (.lst (BH xa)):=ag
  have pl:=pr.length_eq
  generalize upd H1 r (.lst (BH xa))=H2 at sr XB hr ⊢
  refine ⟨r,rfl,⟨_,bC.of hr⟩,?_⟩
  have rl:(BH xa:)=(xa:):=by unfold BH;rw[Qaa]
  refine let zw:Nat->List V->Hp->Prop:=(λi acc H'=>aq H2 H'/\∃ps:List Pb,acc=KS ps/\(∀p∈ps,N4 H' p)/\(ps.map λp=>((p.v.1:Int),p.v.2))=(xa.take i).map λx=>x.2.2);lK (K:=K) (a:=r) (xs:=BH xa) zw () (λi acc H' h=>bC.of (h.1 _ _ hr)) ⟨aq.refl _,[],rfl,λ_ h=>absurd h Qav,rfl⟩ ?_ ?_
  ·rintro i x acc H3 Nx hi hx hl ⟨s3,ps,rfl,tP,lL⟩ nx
   obtain ⟨z,hz,rfl⟩:∃z,xa[i]? =some z/\x=V.ref z.1:=by
    unfold BH at hx
    rw[Qat]at hx
    cases e:xa[i]? with
    | none=>rw[e]at hx;cases hx
    | some z=>rw[e]at hx;cases hx;exact ⟨z,rfl,rfl⟩
   have hzt:=s3 _ _ (XB z (Qae hz))
   obtain ⟨o,_,ho⟩:∃o∈(ds.map Q4.v).filter (meets a.v),((o.2.1:Int),Hg m a.v o)=z.2.2:=by
    have h1:z.2.2∈ts.map λx=>x.2.2:=Qa4.mpr ⟨z,pr.mem_iff.mp (Qae hz),rfl⟩
    rw[SF]at h1
    exact Qa4.mp h1
   refine ⟨trivial,dv ?_⟩
   refine ⟨_,rfl,z.1,_,1,_,rfl,rfl,bY.of hzt,rfl,_,rfl,z.1,_,2,_,rfl,rfl,bY.of hzt,rfl,by show 2<=sizeLine;decide,λT nT=>?_⟩
   have e0:z.2.2.1=(o.2.1:Int):=by rw[<-ho]
   rw[e0]
   refine nx _ _ (by simpa using hl) ⟨s3.trans (aq.upd nT),ps++[⟨T,o.2.1,z.2.2.2⟩],KU ps ⟨T,o.2.1,z.2.2.2⟩,λp hp=>?_,?_⟩
   ·rcases Qan.mp hp with g | g
    ·exact (aq.upd nT) _ _ (tP p g)
    ·rw[Qab.mp g];exact ag
   ·rw[Qag,lL, <-take_snoc hz,Qag]
    show _++[((o.2.1:Int),z.2.2.2)]=_++[z.2.2]
    rw[<-e0]
  ·rintro acc H3 D2 hl ⟨s3,ps,rfl,tP,lL⟩ Xy
   rw[rl,Qbi]at lL
   have s4:=s3.trans (aq.upd (o:= .lst (KS ps)) Xy)
   refine q D2 ps _ ?_ ag (λp hp=>(aq.upd Xy) _ _ (tP p hp)) ?_ (s1.trans (sr.trans s4))
   ·cases e:H D2 with
    | none=>rfl
    | some o=>exact absurd (((s1.trans (sr.trans s3)) _ _ e).symm.trans Xy) (λz=>by cases z)
   ·have p1:=(pr.map λx=>x.2.2)
    rw[<-lL,SF]at p1
    have p2:=p1.map λz:Int×Bool=>(z.1.toNat,z.2)
    rw[Qbj,Qbj]at p2
    have e5:(ps.map ((λz:Int×Bool=>(z.1.toNat,z.2)) ∘ λp=>((p.v.1:Int),p.v.2)))=ps.map Pb.v:=Qbl λp _=>by
     show (((p.v.1:Int)).toNat,p.v.2)=p.v
     rw[Qap]
    have e6:(((ds.map Q4.v).filter (meets a.v)).map ((λz:Int×Bool=>(z.1.toNat,z.2)) ∘ λo=>((o.2.1:Int),Hg m a.v o)))=Bv m a.v (ds.map Q4.v):=Qbl λo _=>by
     show (((o.2.1:Int)).toNat,Hg m a.v o)=(o.2.1,Hg m a.v o)
     rw[Qap]
    rw[e5,e6]at p2
    exact p2
theorem GY:bp P w K mg base eL 3 T3 UN ["along","times","place","leaves"] (xM K):=by
 have g6:=mf (P:=P) (w:=w) (base:=base) T
 refine T.F37.fn.ok qw (λvs H Q E h=>Dg h) 91
 refine let Z2:TS:=_;let Z1:TS:=_;let Z0:TS:=_;⟨_,(ab (ao (i:=4) qw.nd (aC lJ (cD qW 124 (cb (pv 2)) fB) (cD qW 124 fB (cb (pv 2)))))
   (ah Z0 (ab (cM (bf Ij (pv 3) (cX wq 138 ak (aW _)) (aW _)) (ah Z1 (aj (ao (i:=4) qw.nd (ai g6 T.F1 hr (ae (pv 4)))))) bK)
   (ah Z2 (aj (aG (aC rJ (pv 4) (aU HD rfl T.z_abs boot_abs (ae (pv 1)))))))))),?_⟩
 obtain ⟨a,t,p,b,rfl,ha,hl,hp,ht,q⟩:=h
 have hs:=Zs1
 have LK:∀c∈dj a p,c<128:=λc hc=>ha c (rP hc)
 have OZ:(dj a p:)<=12:=by rw[b8];exact hl
 have fin:∀(u:c0) H1,(u:)<=12->aq H H1->mB a t p b=dJ t.natAbs u->Z2 { nx:=λx H'=>Q V.g7 H',rt:=Q } [some (.str (S a)),some (.int t),some (.int p),some (.bl b),some (.str (S u))] H1:=λu H1 hu s1 e=>by
  refine ⟨_,rfl,_,rfl,_,rfl,?_⟩
  rw[N1]
  refine ⟨u,_,rfl,rfl,⟨(),()⟩,?_,?_⟩
  ·rw[Qap]
   have:(u:)*t.natAbs<=12*10:=Nat.mul_le_mul hu ht
   lia
  ·rw[Qap, <-e]
   exact q H1 s1
 walk_at "rd"
 refine ⟨by have:=(se (l:=a) p).2;lia,?_⟩
 rw[(se (l:=a) p).1]
 refine ⟨_,rfl,_,rfl,_,_,rfl,rfl,_,_,rfl,rfl,_,rfl,cw (λz=>?_) (λz=>?_)⟩
 ·refine ⟨_,rfl,_,rfl,LK,(),λH1 s1=>?_⟩
  refine fin _ H1 (by rw[bH];exact OZ) s1 ?_
  unfold mB
  rw[if_pos 132]
 ·refine fin _ H OZ (aq.refl _) ?_
  unfold mB
  rw[if_neg 132]
theorem v7:bp P w K mg base eL 9 T4 UO ["yard","along","times","word"] (mT K):=by
 have gZ:=lD (P:=P) (w:=w) (base:=base) T
 have iM:=sj (P:=P) (w:=w) (base:=base) T
 have qA:=u5 (P:=P) (w:=w) (base:=base) T
 have Dt:=E6 (P:=P) (w:=w) (base:=base) T
 have BC:=zB (P:=P) (w:=w) (base:=base) T
 have Lf:=GY (P:=P) (w:=w) (base:=base) T
 refine T.F38.fn.ok cj (λvs H Q E h=>uK h) 91
 refine let Z9:TS:=_;let Z8:TS:=_;let Z7:TS:=_;let Z6:TS:=_;let Z5:TS:=_;let Z4:TS:=_;let Z3:TS:=_;let Z2:TS:=_;let Z1:TS:=_;let Z0:TS:=_;⟨_,(ab (ao (i:=4) cj.nd (ai gZ T.Yq hr (ae (pv 3))))
   (ah Z0 (ab (cM (PW.pt (Vi (bf iB (pv 4) (mi [] ⋯) (aW _)) (P8 (bf m8 (pv 2) ak (aW _))))) (ah Z1 (aj (aG (ai iM T.Hh hr (ae (pv 4)))))) bK)
   (ah Z2 (ab (ao (i:=5) cj.nd (ai qA T.F8 hr (aa 124 (ae (ai Dt T.F29 hr (aa 124 (ae (dB (aa (pv 4) (ae 138))))))))))
   (ah Z3 (ab (Ie (i:=6) ["corner"] [none] cj.nd rfl 125 (de K rfl (pv 5)) trivial (λ_ _ _ _=>(aK (i:=0) (by decide+kernel:List.Nodup (["corner"]:List Str)) rfl 125)) (λ_ _ _ _=>(x_ (bf m8 (aO (aP K rfl) 124 ak 129) ak (aW _)))) (λ_ _ _ _=>(pv 0)))
   (ah Z4 (ab (ao (i:=7) cj.nd (eK bV))
   (ah Z5 (ab (cJ PassesOwn.never rfl (de K rfl (cD (Ah K rfl) (pv 5) fB (cb (aU bO rfl T.z_len Qb7 (ae (pv 4)))))) (aK (i:=8) cj.nd rfl 125) (ah Z6 (ab (cJ PassesOwn.never rfl (de K rfl (ai BC T.F36 hr (aa (pv 8) (aa (pv 6) (ae (aC fW ak (eI K T.z_len (pv 5)))))))) (hV (n:=2) K rfl rfl (b_ (aK (i:=9) cj.nd rfl 125) (b_ (aK (i:=10) cj.nd rfl 125) g_))) (ah Z7 (aj (cW (bP K rfl Qbe Qcn Qcm eQ (pv 7) (ae (ai Lf T.F37 hr (aa 138 (aa (pv 2) (aa (pv 9) (ae (pv 10))))))))))))
   (ah Z8 (aj (cW (bP K rfl Qbe Qcn Qcm eQ (pv 7) (ae (aO pJ (pv 4) (aO (aP K rfl) (pv 8) ak (λ_ _=>rfl)) (λ_ _=>rfl))))))))))
   (ah Z9 (aj (aG (ai iM T.Hh hr (ae (bP K rfl Qa5 Qda Qc9 (gI K rfl) (mi [] ⋯) (ae (pv 7))))))))))))))))))),?_⟩
 obtain ⟨y,a,l,t,rfl,hy,hz,hw,hl,hi,Hl,ht,q⟩:=h
 have hs:=Zs1
 have lt:∀c∈l,Lt c:=λc hc=>hy.lt c (hi c hc)
 refine ⟨_,rfl,l,rfl,lt,(),λH1 s1=>?_⟩
 have XC:∀c∈core (red l),c∈y:=λc hc=>hi c (oS (kj hc))
 have Xk:(core (red l):)<=12:=Qbn (km _) (Qbn (jj l) Hl)
 have YJ:∀x∈aQ y,bJ (core (red l)) x=bJ l x:=λx hx=>xK hy hx hi
 have OK:=E1 hy (Ee l) λc hc=>hi c (oS hc)
 generalize core (red l)=u at XC Xk YJ OK ⊢
 have hcr:ql y u a=ql y l a:=NX YJ λx _=>rfl
 have lu:∀c∈u,Lt c:=λc hc=>hy.lt c (XC c hc)
 have early:(u=[]\/t=0)->Z1 { nx:=λx H'=>Q V.g7 H',rt:=Q } [some (.str (S y)),some (.str (S a)),some (.int t),some (.str (S l)),some (.str (S u)),none,none,none,none,none,none] H1:=λh=>by
  refine ⟨_,rfl,u,rfl,lu,(),λH2 s2=>q (bL u) H2 ⟨E3 XC,by have:=pW u;lia,λx hx=>?_⟩ (s1.trans s2)⟩
  rw[Bt hy hx XC,YJ x hx]
  rcases h with e | e
  ·have:ql y u a=0:=by rw[e, <-EX hy (λ_ h=>absurd h Qav) hw.cn];rfl
   rw[<-hcr,this]
   simp
  ·rw[e];simp
 refine ⟨_,rfl,_,_,rfl,rfl,_,rfl,cw (λz=>Rz rfl (early (.inl (of_decide_eq_true z)))) (λz=>?_)⟩
 have une:u≠[]:=λe=>z (decide_eq_true e)
 refine ⟨_,rfl,_,_,rfl,rfl,_,rfl,cw (λz2=>early (.inr (of_decide_eq_true z2))) (λz2=>?_)⟩
 have sw:SW y u:=OK.resolve_left une
 have hk:=Na sw hw Xk (show (a:)<=12 by lia)
 refine ⟨_,rfl,_,rfl,_,rfl,_,rfl,by show 2<=sizeLine;decide,λW nW=>?_⟩
 have u0:=aq.upd (o:= .tup [.str (S u),.str (S a)]) nW
 refine ⟨y,W,[u,a],rfl,hy,hz,ag,hk.pU,hk.sw,λdr os H2 Ru htt s2=>?_⟩
 obtain ⟨M,_,ok,_⟩:=htt
 refine ⟨y,dr,[u,a],os,rfl,hy,hz,hk.ok,ok,Ru,λev qs H3 n3 h3 PC GW s3=>?_⟩
 have K_:aq H H3:=s1.trans (u0.trans (s2.trans s3))
 have hap:∀i j,i<(u:)->j<(a:)->Tq (bR y os:) (cT 127 0 u i) (cT 127 1 a j):=λi j hi hj=>EU hy ok hk.ok (w:=u) (v:=a) rfl rfl ∅ hi hj
 have jC:=EV hy ok
 have YK:ur (dH y [u,a] os) 0 1=ql y u a:=KJ (c:=0) (d:=1) hy ok hk.ok rfl rfl ∅
 have N9:dH y [u,a] os=bB 127 0 u (u:)++bB 127 1 a (a:):=by
  unfold dH
  show fj 127 [u,a] (1+1)=_
  rw[gq (w:=a) rfl,show (1:Nat)=0+1 from rfl,gq (w:=u) rfl]
  rfl
 have o0:Pk (dH y [u,a] os) 0=bB 127 0 u (u:):=lW rfl
 have o1:Pk (dH y [u,a] os) 1=bB 127 1 a (a:):=lW rfl
 unfold ur at YK
 rw[o0,o1]at YK
 have Yy:(qs:)=(u:)+(a:):=by
  have:=congrArg List.length GW
  rw[Qaa,N9,X4]at this
  unfold bB at this
  simpa using this
 have OB:(dH y [u,a] os:)=(qs:):=by rw[<-GW,Qaa]
 rw[OB]at YK jC
 clear Ru s2 s3 u0
 have h0n:=n3
 refine ⟨_,rfl,ev,rfl,⟨_,bC.of h3⟩,?_⟩
 refine let gi:Nat->List V->Hp->Prop:=(λi acc H'=>H'=H3/\acc=mM ((qs.take i).filter λx=>decide (x.v.1=1)));lK (K:=K) (a:=ev) (xs:=mM qs) gi (by rw[h_];lia) (λi acc H' h=>by rw[h.1];exact bC.of h3) ⟨rfl,rfl⟩ ?_ ?_
 ·rintro i x acc H4 Nx hi hx hl ⟨rfl,rfl⟩ nx
  obtain ⟨c,hc,rfl⟩:=yY hx
  have ho:=PC c (Qae hc)
  refine ⟨trivial,?_⟩
  refine ⟨_,rfl,c.t,_,0,_,rfl,rfl,bY.of ho,rfl,_,_,rfl,rfl,_,rfl,cw (λz=>?_) (λz=>?_)⟩
  ·have z':c.v.1=1:=by have:=of_decide_eq_true z;lia
   refine ⟨_,rfl,nx _ _ (by simpa using hl) ⟨rfl,?_⟩⟩
   rw[<-take_snoc hc,Qcl,Pm _ c (decide_eq_true z'),A2]
  ·have z': ¬c.v.1=1:=λy=>z (decide_eq_true ())
   refine nx _ _ () ⟨rfl,?_⟩
   rw[<-take_snoc hc,Qcl,Pn _ c (by simpa using z'),Qbh]
 ·rintro acc H4 D lF ⟨rfl,rfl⟩ hD
  rw[h_,Qbi]
  have sD:=aq.upd (o:=HO.lst (mM (qs.filter λx=>decide (x.v.1=1)))) hD
  have SG:upd H4 D (HO.lst (mM (qs.filter λx=>decide (x.v.1=1)))) D=some (HO.lst (mM (qs.filter λx=>decide (x.v.1=1)))):=ag
  have h5:=sD _ _ h3
  have s05:=K_.trans sD
  have SH:∀x∈qs,jq (upd H4 D (HO.lst (mM (qs.filter λx=>decide (x.v.1=1))))) x:=λx hx=>(PC x hx).ts (eS.of sD)
  generalize upd H4 D (HO.lst (mM (qs.filter λx=>decide (x.v.1=1))))=H5 at SG h5 s05 SH ⊢
  have U_:(qs.filter λx=>decide (x.v.1=1)).map Q4.v=bB 127 1 a (a:):=by
   rw[<-o1, <-GW]
   unfold Pk
   rw[Qg0]
   rfl
  have XA:∀x∈(qs.filter λx=>decide (x.v.1=1)),x∈qs:=λx hx=>(Qbr.mp hx).1
  generalize (qs.filter λx=>decide (x.v.1=1))=ds at SG U_ XA
  have hdl:(ds:)=(a:):=by
   have:=congrArg List.length U_
   unfold bB at this
   simpa using this
  have Xn:(ds.map λd=>d.v.2.1).Nodup:=by
   have e:(ds.map λd=>d.v.2.1)=(ds.map Q4.v).map λo=>o.2.1:=by rw[Qbj];rfl
   rw[e,U_]
   unfold bB
   rw[Qbj]
   have e2:((λo:C4=>o.2.1) ∘ cT 127 1 a)=id:=rfl
   rw[e2,Qe9]
   exact Qgr
  refine ⟨by show 0<=sizeLine;decide,λP0 nP=>?_⟩
  have sP:=aq.upd (o:= .lst []) nP
  have hP:upd H5 P0 (.lst []) P0=some (.lst (gE [])):=ag
  have YL:=s05.trans sP
  have h6:=sP _ _ h5
  have XD:=sP _ _ SG
  have GZ:∀x∈qs,jq (upd H5 P0 (.lst [])) x:=λx hx=>(SH x hx).ts (eS.of sP)
  generalize upd H5 P0 (.lst [])=H6 at sP hP YL h6 XD GZ ⊢
  refine ⟨_,rfl,_,rfl,u,rfl,(),?_⟩
  refine ⟨_,rfl,ev,_,rfl,bC.of h6,λp np=>?_⟩
  have aat:vn (mM qs) none (some (((u:):Nat):Int))=mM (qs.take (u:)):=by
   unfold mM
   rw[Qga]
   exact ko _ _
  rw[aat]
  have Pp:P0≠p:=au hP np
  have evP:ev≠P0:=au h5 nP
  have DP:D≠P0:=au SG nP
  have qP:∀x∈qs,x.t≠P0:=λx hx=>au (SH x hx) nP
  have sp:=aq.upd (o:= .lst (mM (qs.take (u:)))) np
  have hp:upd H6 p (.lst (mM (qs.take (u:)))) p=some (.lst (mM (qs.take (u:)))):=ag
  have hP:=sp _ _ hP
  have h6:=sp _ _ h6
  have XD:=sp _ _ XD
  have GZ:∀x∈qs,jq (upd H6 p (.lst (mM (qs.take (u:))))) x:=λx hx=>sp _ _ (GZ x hx)
  have s07:=YL.trans sp
  have hPn:H P0=none:=by
   cases e:H P0 with
   | none=>rfl
   | some o=>exact absurd ((s05 _ _ e).symm.trans nP) (λz=>by cases z)
  generalize upd H6 p (.lst (mM (qs.take (u:))))=H7 at hp hP h6 XD GZ s07 ⊢
  refine ⟨p,rfl,⟨_,bC.of hp⟩,?_⟩
  have tH:(2:Int)*((qs:):Int)=((2*(qs:):Nat):Int):=by lia
  have hcs:(qs.take (u:)).map Q4.v=bB 127 0 u (u:):=by
   rw[Qga,GW,N9]
   refine List.take_left' ?_
   unfold bB
   rw[Qaa,Qdp]
  have aau:(mM (qs.take (u:)):)=(u:):=by rw[h_,Qai];lia
  refine let zw:Nat->L2.St->Hp->Prop:=(λi σ H'=>∃(ps:List c0) (v8 v9 v10:Option V),σ=[some (.str (S y)),some (.str (S a)),some (.int t),some (.str (S l)),some (.str (S u)),some (.ref ev),some (.ref D),some (.ref P0),v8,v9,v10]/\H' P0=some (.lst (gE ps))/\(∀w∈ps,∀c∈w,c∈y)/\(ps:)<=5*i/\(ps.map List.length).sum<=49*i/\(∀x∈aQ y,bJ ps.flatten x=bJ (u.take i) x+t*(r9 (((List.range i).map (cT 127 0 u)).map λc=>C9 (2*((qs:):Int)) c (bB 127 1 a (a:)))*bJ a x))/\aV P0 H7 H');fM (K:=K) (a:=p) (xs:=mM (qs.take (u:))) zw
   ⟨[],none,none,none,rfl,hP,λ_ h=>absurd h Qav,Qad _,Qad _,λx _=>by show (0:Int)=bJ [] x+t*(0*bJ a x);rw[sd];simp,aV.refl _ _⟩ (λi σ H' _ ⟨_,_,_,_,_,_,_,_,_,_,s⟩=>bC.of (s _ _ hp (Ne.symm Pp))) ?_ ?_
  ·rintro i x σ H8 hx ⟨ps,v8,v9,v10,rfl,YM,hpy,SI,tP,Lg,s8⟩
   obtain ⟨c,hc,rfl⟩:=yY hx
   have qZ:i<(u:):=by have:=(Qz.mp hx).1;lia
   have XE:c∈qs:=Qb4 (Qae hc)
   have hcv:c.v=cT 127 0 u i:=by
    have h1:((qs.take (u:)).map Q4.v)[i]? =some c.v:=by rw[Qat,hc];rfl
    rw[hcs]at h1
    unfold bB at h1
    rw[Qat,Qey qZ]at h1
    exact (Qal h1).symm
   have hco:jq H8 c:=s8 _ _ (GZ c XE) (qP c XE)
   have hro:mP (Bv (2*((qs:):Int)) c.v (bB 127 1 a (a:)))=C9 (2*((qs:):Int)) c.v (bB 127 1 a (a:)):=by
    rw[tH]
    refine GO (k:=(bR y os:)) (λo ho=>?_) jC
    unfold bB at ho
    obtain ⟨j,hj,rfl⟩:=Qa4.mp ho
    rw[hcv]
    exact hap i j qZ (Qcp.mp hj)
   refine ⟨_,rfl,_,rfl,_,rfl,ev,_,rfl,.inl (bC.of (s8 _ _ h6 evP)),?_⟩
   rw[h_]
   refine ⟨_,_,rfl,rfl,.inl ⟨(),()⟩,c,D,ds,_,rfl,hco,s8 _ _ XD DP,λd hd=>s8 _ _ (GZ d (XA d hd)) (qP d (XA d hd)),(),Xn,(),λr es H9 nr hr hes lL s9=>?_⟩
   rw[U_]at lL
   have Sf:(es:)<=4:=by
    have:=lL.length_eq
    rw[Qaa]at this
    unfold Bv at this
    rw[Qaa]at this
    have h2:=Qel (meets c.v) (bB 127 1 a (a:))
    unfold bB at h2 this
    rw[Qaa,Qdp]at h2
    lia
   have hep:∀e∈es,e.v.1<=(a:):=λe he=>by
    have h1:e.v∈Bv (2*((qs:):Int)) c.v (bB 127 1 a (a:)):=lL.mem_iff.mp (Qa4.mpr ⟨e,he,rfl⟩)
    unfold Bv at h1
    obtain ⟨o,ho,e1⟩:=Qa4.mp h1
    have ho2:=(Qbr.mp ho).1
    unfold bB at ho2
    obtain ⟨j,hj,rfl⟩:=Qa4.mp ho2
    rw[<-e1]
    exact Qbz (Qcp.mp hj)
   have hP9:=s9 _ _ YM
   have Pr:P0≠r:=au YM nr
   have rt:∀e∈es,e.t≠P0:=λe he z=>by
    have:=hes e he
    unfold N4 at this
    rw[z,hP9]at this
    cases this
   refine ⟨r,rfl,⟨_,bC.of hr⟩,?_⟩
   refine let Xo:Nat->L2.St->Hp->Prop:=(λj σ H'=>∃(ms:List c0) (w9 w10:Option V),σ=[some (.str (S y)),some (.str (S a)),some (.int t),some (.str (S l)),some (.str (S u)),some (.ref ev),some (.ref D),some (.ref P0),some (.ref c.t),w9,w10]/\H' P0=some (.lst (gE ms))/\(∀w∈ms,∀c∈w,c∈y)/\(ms:)<=5*i+j/\(ms.map List.length).sum<=49*i+12*j/\(∀x∈aQ y,bJ ms.flatten x=bJ ps.flatten x+t*(mP ((es.take j).map Pb.v)*bJ a x))/\aV P0 H9 H');fM (K:=K) (a:=r) (xs:=KS es) Xo
    ⟨ps,v9,v10,rfl,hP9,hpy,SI,tP,λx _=>by show bJ ps.flatten x=bJ ps.flatten x+t*(0*bJ a x);simp,aV.refl _ _⟩ (λj σ H' _ ⟨_,_,_,_,_,_,_,_,_,s⟩=>bC.of (s _ _ hr (Ne.symm Pr))) ?_ ?_
   ·rintro j x σ XF aav ⟨ms,w9,w10,rfl,Lh,hmy,YD,U8,LP,Oc⟩
    obtain ⟨e,he,rfl⟩:=So aav
    have hem:=Qae he
    have hje:j<(es:):=(Qz.mp he).1
    have Oy:N4 XF e:=Oc _ _ (hes e hem) (rt e hem)
    have hpi:=NZ hy hw.cn t e.v.1 e.v.2
    have aaD:(mB a t e.v.1 e.v.2:)<=12:=by
     rw[KO]
     exact Nat.mul_le_mul ht hl
    refine ⟨e.t,_,rfl,bY.of Oy,rfl,_,_,rfl,_,_,rfl,rfl,?_⟩
    refine ⟨_,rfl,.inl ⟨rfl,_,bC.of Lh⟩,_,rfl,_,rfl,_,rfl,_,rfl,a,t,e.v.1,e.v.2,rfl,qJ λc hc=>hy.lt c (hw.cn c hc),(),hep e hem,(),λYN Va=>?_⟩
    refine ⟨P0,_,_,rfl,rfl,Va _ _ Lh,by rw[b7];lia,?_⟩
    refine ⟨ms++[mB a t e.v.1 e.v.2],_,_,rfl,by rw[ag,nU],λw N7=>?_,by rw[X4];show (ms:)+1<=_;lia,by rw[Qag,Qea];show _+((mB a t e.v.1 e.v.2:)+0)<=_;lia,λx wJ=>?_,Oc.trans λb o hb nb=>by rw[aA nb];exact Va _ _ hb⟩
    ·rcases Qan.mp N7 with g | g
     ·exact hmy w g
     ·rw[Qab.mp g];exact hpi
    ·rw[Qd9,c_,LP x wJ, <-take_snoc he,Qag]
     have e1:mP (((es.take j).map Pb.v)++[e.v])=mP ((es.take j).map Pb.v)+(if e.v.2=true then 1 else -1):=by
      unfold mP
      rw[Qag,y_]
      show _+((if e.v.2=true then (1:Int) else -1)+0)=_
      lia
     have e2:bJ [mB a t e.v.1 e.v.2].flatten x=t*((if e.v.2=true then 1 else -1)*bJ a x):=by
      rw[show [mB a t e.v.1 e.v.2].flatten=mB a t e.v.1 e.v.2 by simp]
      exact KP hy hw.cn wJ t e.v.1 e.v.2
     show _=_+t*(mP (((es.take j).map Pb.v)++[e.v])*_)
     rw[e1,e2,Qfc,Qet]
     lia
   ·rintro σ XF ⟨ms,w9,w10,rfl,Lh,hmy,YD,U8,LP,Oc⟩
    rw[N5]at YD U8 LP
    rw[Qbi]at LP
    have hc2:jq XF c:=Oc _ _ (s9 _ _ hco) (qP c XE)
    have hui:u[i]? =some (u.getD i 0):=by rw[Qam,Qy qZ];rfl
    have hc1:c.v.2.1=i:=by rw[hcv];rfl
    have huy:u.getD i 0∈y:=XC _ (Qae hui)
    refine ⟨_,rfl,.inl ⟨rfl,_,bC.of Lh⟩,_,rfl,_,rfl,c.t,_,1,_,rfl,rfl,bY.of hc2,rfl,?_⟩
    rw[hc1]
    refine ⟨u,_,_,rfl,rfl,(),cO hui,?_⟩
    refine ⟨P0,_,_,rfl,rfl,Lh,by rw[b7];lia,?_⟩
    refine ⟨ms++[[u.getD i 0]],_,_,_,rfl,by rw[ag,nU],λw N7=>?_,by rw[X4];show (ms:)+1<=_;lia,by rw[Qag,Qea];show _+(1+0)<=_;lia,λx wJ=>?_,s8.trans (aV.trans (aV.of s9) (Oc.trans (aV.upd _ _ _)))⟩
    ·rcases Qan.mp N7 with g | g
     ·exact hmy w g
     ·rw[Qab.mp g]
      intro d hd
      rw[Qab.mp hd];exact huy
    ·rw[Qd9,c_,LP x wJ,Lg x wJ, <-take_snoc hui,c_,Qcq,Qag,Qag,y_,Df lL,hro,hcv]
     show _+bJ [u.getD i 0] x=_+t*((_+(C9 (2*((qs:):Int)) (cT 127 0 u i) (bB 127 1 a (a:))+0))*_)
     rw[Qei,Qfc,Qet]
     lia
  ·rintro σ H8 ⟨ps,v8,v9,v10,rfl,YM,hpy,SI,tP,Lg,s8⟩
   rw[aau]at SI tP Lg
   rw[Qbi]at Lg
   have hfy:∀c∈ps.flatten,c∈y:=λc hc=>by
    obtain ⟨w,N7,sE⟩:=List.mem_flatten.mp hc
    exact hpy w N7 c sE
   have hfl:(ps.flatten:)<=1000:=by rw[List.length_flatten];lia
   refine ⟨rfl,_,rfl,P0,ps,rfl,rfl,bC.of YM,(),?_⟩
   refine ⟨ps.flatten,rfl,λc hc=>hy.lt c (hfy c hc),hfl,λH9 s9=>q _ H9 ⟨E3 hfy,Qbn (pW _) hfl,λx wJ=>?_⟩ ?_⟩
   ·rw[Bt hy wJ hfy,Lg x wJ,YJ x wJ, <-hcr, <-YK]
    rfl
   ·intro b o hb
    have nb:b≠P0:=au hb hPn
    exact s9 _ _ (s8 _ _ (s07 _ _ hb) nb)
theorem Li:bp P w K mg base eL 2 T7 UR ["yard","word"] (KG K):=by
 walk_at"J"
 walk_at"m"
 refine T.U5.fn.ok Su (λvs H Q E h=>NT h) 91
 refine ⟨_,(aj (aG (cQ (cR K rfl) rfl T.z_tuple boot_tuple (ae (bW ["band","word"] [none,some 1] (j_ (ai gs T.F2 hr (ae 124))) ⟨123,trivial⟩ (λ_ _ _ _=>(aK (i:=0) (by decide+kernel:List.Nodup (["band","word"]:List Str)) rfl 125)) (λ_ _ _ _=>eZ) (λ_ _ _ _=>(aC cP (bP K rfl Qa5 PySem.F.slot_str_count PySem.F.type_str_count w4 138 (ae 124)) (bP K rfl Qa5 PySem.F.slot_str_count PySem.F.type_str_count w4 138 (ae (ai bo T.F0 hr (ae 124))))))))))),?_⟩
 obtain ⟨y,w,rfl,hy,hz,q⟩:=h
 have hs:=Zs1
 have U6:=eE hy
 walk_at"V"
 have el:=ou hp hw
 subst el
 refine ⟨aQ y,rfl,?_⟩
 refine let gi:Nat->List V->Hp->Prop:=(λi acc H'=>H'=H1/\acc=oM (((aQ y).take i).map (bJ w)));fN (xs:=dU (aQ y)) gi (by rw[aX];lia) ⟨rfl,rfl⟩ ?_ ?_
 ·rintro i x acc H2 Nx hi hx o9 ⟨rfl,rfl⟩ nx
  obtain ⟨c,hc,rfl⟩:=fE hx
  have N9:Lt c:= .inl (lY hy (Qae hc)).2
  refine ⟨⟨rfl,trivial⟩,dv ?_⟩
  refine ⟨_,rfl,rfl,_,rfl,w,c,rfl,rfl,?_⟩
  refine ⟨_,rfl,rfl,_,rfl,c,rfl,N9.lt,w,az c,rfl,rfl,?_⟩
  walk_at"Z"
  exact nx _ _ (by simpa using o9) ⟨rfl,by rw[oN, <-take_snoc hc,Qag];rfl⟩
 rintro acc H2 D o9 ⟨rfl,rfl⟩ hD
 rw[nS]
 walk_at"E"
 exact q t _ (aq.free (s1.trans (aq.upd hD)) nt) ag ((s1.trans (aq.upd hD)).trans (aq.upd nt))
theorem v_:bp P w K mg base eL 2 f4 d4 ["yard","x","y","z"] (mK K):=by
 have fK:=lE (P:=P) (w:=w) (base:=base) T
 refine T.F4.fn.ok vS (λvs H Q E h=>t6 h) 91
 refine ⟨_,(aj (aG (cX mC (ai fK T.F3 hr (aa 124 (aa 138 (ae (pv 2))))) (ai fK T.F3 hr (aa 124 (aa 138 (ae (pv 3))))) (aW _)))),?_⟩
 obtain ⟨y,a,b,c,rfl,ha,hb,hc,hz,q⟩:=h
 refine ⟨_,rfl,_,rfl,_,rfl,y,a,b,rfl,ha,hb,hz,?_⟩
 refine ⟨_,rfl,_,rfl,_,rfl,y,a,c,rfl,ha,hc,hz,?_⟩
 exact ⟨_,_,rfl,rfl,q⟩
theorem Du:bp P w K mg base eL 3 T8 US ["yard","band","other"] (uw K):=by
 walk_at"m"
 have oZ:=v_ (P:=P) (w:=w) (base:=base) T
 refine T.F42.fn.ok nz (λvs H Q E h=>Bj h) 91
 refine let Z5:TS:=_;let Z4:TS:=_;let Z3:TS:=_;let Z2:TS:=_;let Z1:TS:=_;let Z0:TS:=_;⟨_,(ab (ao (i:=3) nz.nd (ai bo T.F0 hr (ae 138)))
   (ah Z0 (ab (cM (bf iB 138 (pv 2) (aW _)) (ah Z1 (aj (aG ak))) bK)
   (ah Z2 (ab (ao (i:=4) nz.nd (ai oZ T.F4 hr (aa 124 (aa (pv 3) (aa (ai bo T.F0 hr (ae (pv 2))) (ae 138))))))
   (ah Z3 (ab (cM (bf QJ (pv 4) (ai oZ T.F4 hr (aa 124 (aa (pv 3) (aa (pv 2) (ae 138))))) (aW _)) (ah Z4 (aj (aG ak))) bK)
   (ah Z5 (aj (aG (Hu (fV (pv 4)) ak (wm pj ak)))))))))))),?_⟩
 obtain ⟨y,x,z,rfl,hy,hl,hx,hz,q⟩:=h
 obtain ⟨mx,sx⟩:=lY hy hx
 obtain ⟨mz,sz⟩:=lY hy hz
 have lx:Lt x:= .inl sx
 have lz:Lt z:= .inl sz
 have cx:=hy.cl x mx
 have cz:=hy.cl z mz
 refine ⟨_,rfl,x,rfl,lx.lt,?_⟩
 refine ⟨_,rfl,_,rfl,_,_,rfl,rfl,_,rfl,cw (λe=>?_) (λe=>?_)⟩
 ·have e1:x=z:=by simpa [S]using of_decide_eq_true e
  rw[show sg y x z=0 by unfold sg;rw[if_pos e1]]at q
  exact q
 have e1:x≠z:=λg=>e (decide_eq_true (by rw[g]))
 refine ⟨_,rfl,_,rfl,_,rfl,z,rfl,lz.lt,_,rfl,y,az x,az z,x,rfl,cx,cz,mx,(),?_⟩
 refine ⟨_,rfl,_,rfl,_,rfl,_,rfl,_,rfl,y,az x,z,x,rfl,cx,mz,mx,(),?_⟩
 refine ⟨_,_,rfl,rfl,_,rfl,cw (λe2=>?_) (λe2=>?_)⟩
 ·rw[show sg y x z=0 by unfold sg;rw[if_neg e1,if_pos (of_decide_eq_true e2)]]at q
  exact q
 have e3: ¬gr y (az x) (az z) x=gr y (az x) z x:=λg=>e2 (decide_eq_true g)
 refine ⟨_,rfl,_,rfl,cw (λe4=>?_) (λe4=>?_)⟩
 ·rw[show sg y x z=1 by unfold sg;rw[if_neg e1,if_neg e3,if_pos e4]]at q
  exact q
 ·rw[show sg y x z= -1 by unfold sg;rw[if_neg e1,if_neg e3,if_neg e4]]at q
  exact ⟨_,rfl,q⟩
theorem zC:bp P w K mg base eL 4 T9 UT ["yard","band"] (oP K):=by
 walk_at"J"
 have G0:=Du (P:=P) (w:=w) (base:=base) T
 refine T.F43.fn.ok zr (λvs H Q E h=>vP h) 91
 refine ⟨_,(aj (aG (cQ (cR K rfl) rfl T.z_tuple boot_tuple (ae (bW ["other","yard","band"] [none,some 0,some 1] (j_ (ai gs T.F2 hr (ae 124))) ⟨123,⟨123,trivial⟩⟩ (λ_ _ _ _=>(aK (i:=0) (by decide+kernel:List.Nodup (["other","yard","band"]:List Str)) rfl 125)) (λ_ _ _ _=>eZ) (λ_ _ _ _=>(ai G0 T.F42 hr (aa 138 (aa (pv 2) (ae 124)))))))))),?_⟩
 obtain ⟨y,x,rfl,hy,hz,hx,q⟩:=h
 have hs:=Zs1
 have U6:=eE hy
 walk_at"V"
 have el:=ou hp hw
 subst el
 refine ⟨aQ y,rfl,?_⟩
 refine let gi:Nat->List V->Hp->Prop:=(λi acc H'=>H'=H1/\acc=oM (((aQ y).take i).map (sg y x)));fN (xs:=dU (aQ y)) gi (by rw[aX];lia) ⟨rfl,rfl⟩ ?_ ?_
 ·rintro i v acc H2 Nx hi hv o9 ⟨rfl,rfl⟩ nx
  obtain ⟨c,hc,rfl⟩:=fE hv
  refine ⟨⟨rfl,rfl,trivial⟩,dv ?_⟩
  refine ⟨_,rfl,_,rfl,_,rfl,y,x,c,rfl,hy,hz,hx,Qae hc,?_⟩
  exact nx _ _ (by simpa using o9) ⟨rfl,by rw[oN, <-take_snoc hc,Qag];rfl⟩
 rintro acc H2 D o9 ⟨rfl,rfl⟩ hD
 rw[nS]
 walk_at"E"
 exact q t _ (aq.free (s1.trans (aq.upd hD)) nt) ag ((s1.trans (aq.upd hD)).trans (aq.upd nt))
theorem Lj:bp P w K mg base eL 5 T_ UU ["yard"] (Bk K):=by
 walk_at"J"
 have BD:=zC (P:=P) (w:=w) (base:=base) T
 refine T.F44.fn.ok K8 (λvs H Q E h=>GK h) 91
 refine ⟨_,(aj (aG (cQ (cR K rfl) rfl T.z_tuple boot_tuple (ae (bW ["band","yard"] [none,some 0] (j_ (ai gs T.F2 hr (ae 124))) ⟨123,trivial⟩ (λ_ _ _ _=>(aK (i:=0) (by decide+kernel:List.Nodup (["band","yard"]:List Str)) rfl 125)) (λ_ _ _ _=>eZ) (λ_ _ _ _=>(ai BD T.F43 hr (aa 138 (ae 124))))))))),?_⟩
 obtain ⟨y,rfl,hy,hz,q⟩:=h
 have hs:=Zs1
 have U6:=eE hy
 walk_at"V"
 have el:=ou hp hw
 subst el
 refine ⟨aQ y,rfl,?_⟩
 refine let gi:Nat->List V->Hp->Prop:=(λi acc H'=>aq H1 H'/\∃rs:List Addr,acc=LS rs/\(rs:)=i/\∀(j:Nat) (a:Addr) (x:Nat),rs[j]? =some a->(aQ y)[j]? =some x->H' a=some (.tup (oM ((aQ y).map (sg y x)))));fN (xs:=dU (aQ y)) gi (by rw[aX];lia) ⟨aq.refl _,[],rfl,rfl,λj a x h=>by simp at h⟩ ?_ ?_
 ·rintro i v acc H2 Nx hi hv o9 ⟨s2,rs,rfl,PJ,hr⟩ nx
  obtain ⟨c,hc,rfl⟩:=fE hv
  refine ⟨⟨rfl,trivial⟩,dv ?_⟩
  refine ⟨_,rfl,_,rfl,y,c,rfl,hy,hz,Qae hc,λt H3 nt ht s3=>?_⟩
  refine nx _ _ (by simpa using o9) ⟨s2.trans s3,rs++[t],KD rs t,by rw[X4,PJ];rfl,λj a x hj hx=>?_⟩
  by_cases cH:j<(rs:)
  ·rw[Qbg cH]at hj
   exact s3 _ _ (hr j a x hj hx)
  ·have Rc:j=(rs:):=by
    have:=(Qz.mp hj).1
    rw[X4]at this
    have:j<(rs:)+1:=this
    lia
   subst Rc
   rw[Qa2 (Qad _),Qdt]at hj
   have ea:t=a:=by simpa using hj
   rw[PJ,hc]at hx
   have ex:c=x:=Qal hx
   subst ea
   subst ex
   exact ht
 rintro acc H2 D o9 ⟨s2,rs,rfl,PJ,hr⟩ hD
 rw[aX]at PJ
 walk_at"E"
 have sA:=(aq.upd (o:= .lst (LS rs)) hD).trans (aq.upd (o:= .tup (LS rs)) nt)
 exact q t rs _ (aq.free (s1.trans (s2.trans (aq.upd hD))) nt) ag ⟨PJ,λj a x h1 h2=>sA _ _ (hr j a x h1 h2)⟩ (s1.trans (s2.trans sA))
theorem Dv:bp P w K mg base eL 6 Ua UW ["yard","one","other"] (uA K):=by
 have xS:=Li (P:=P) (w:=w) (base:=base) T
 have Oe:=Lj (P:=P) (w:=w) (base:=base) T
 refine T.Yt.fn.ok fA (λvs H Q E h=>Bl h) 91
 refine let Z3:TS:=_;let Z2:TS:=_;let Z1:TS:=_;let Z0:TS:=_;⟨_,(ab (ao (i:=3) fA.nd (ai xS T.U5 hr (aa 124 (ae (pv 2)))))
   (ah Z0 (ab (ao (i:=4) fA.nd ak)
   (ah Z1 (ab (cJ PassesOwn.never rfl (tG K rfl rfl T.z_zip (aa (ai xS T.U5 hr (aa 124 (ae 138))) (ae (ai Oe T.F44 hr (ae 124))))) (hV (n:=2) K rfl rfl (b_ (aK (i:=5) fA.nd rfl 125) (b_ (aK (i:=6) fA.nd rfl 125) g_))) (ah Z2 (aj (j5 (i:=4) fA.nd rfl 125 (aC fW (pv 5) (aU (FJ K rfl rfl) rfl T.z_sum boot_sum (ae (bW ["number","entry"] [none,none] (tG K rfl rfl T.z_zip (aa (pv 3) (ae (pv 6)))) trivial (λ_ _ _ _=>(hV (n:=2) K rfl rfl (b_ (aK (i:=0) (by decide+kernel:List.Nodup (["number","entry"]:List Str)) rfl 125) (b_ (aK (i:=1) (by decide+kernel:List.Nodup (["number","entry"]:List Str)) rfl 125) g_)))) (λ_ _ _ _=>eZ) (λ_ _ _ _=>(aC fW 124 138)))))) sF))))
   (ah Z3 (aj (aG (pv 4))))))))),?_⟩
 obtain ⟨y,w,v,rfl,hy,hz,wH,q⟩:=h
 have hs:=Zs1
 have U6:=eE hy
 refine ⟨_,rfl,_,rfl,y,v,rfl,hy,hz,λt0 H1 n0 ht0 s1=>?_⟩
 refine ⟨_,rfl,_,rfl,y,w,rfl,hy,hz,λt1 H2 n1 Pz s2=>?_⟩
 refine ⟨_,rfl,y,rfl,hy,hz,λt2 rs H3 n2 U7 hr s3=>?_⟩
 have XG:=s3 _ _ Pz
 have XH:=s3 _ _ (s2 _ _ ht0)
 have K_:aq H H3:=s1.trans (s2.trans s3)
 refine ⟨t1,t2,rfl,⟨_,bY.of XG⟩,⟨_,bY.of U7⟩,?_⟩
 refine let gi:Nat->L2.St->Hp->Prop:=(λi σ H'=>∃(mv rv:Option V),σ=[some (.str (S y)),some (.str (S w)),some (.str (S v)),some (.ref t0),some (.int ((((aQ y).take i).map λx=>bJ w x*((aQ y).map λz=>bJ v z*sg y x z).sum).sum)),mv,rv]/\aq H3 H');MG (xs:=oM ((aQ y).map (bJ w))) (ys:=LS rs) gi (by rw[fI,NS,hr.1,Qaa]) ⟨none,none,rfl,aq.refl _⟩ (λi σ H' _ ⟨_,_,_,s⟩=>⟨bY.of (s _ _ XG),bY.of (s _ _ U7)⟩) ?_ ?_
 ·rintro i x r σ H4 T hx hrr ⟨mv,rv,rfl,s4⟩ nT
  obtain ⟨n,hn,rfl⟩:=uv hx
  obtain ⟨c,hc,rfl⟩:=qj hn
  obtain ⟨a,ha,rfl⟩:=qj hrr
  have XI:=s4 _ _ (hr.2 i a c ha hc)
  walk_at"B"
  have XJ:=aq.upd (o:= .tup [.int (bJ w c),.ref a]) nT
  refine ⟨_,rfl,?_⟩
  refine ⟨_,rfl,_,rfl,_,rfl,t0,a,rfl,⟨_,bY.of (XJ _ _ (s4 _ _ XH))⟩,⟨_,bY.of (XJ _ _ XI)⟩,?_⟩
  refine let zw:Nat->List V->Hp->Prop:=(λj acc H'=>aq (upd H4 T (.tup [.int (bJ w c),.ref a])) H'/\acc=oM (((aQ y).take j).map λz=>bJ v z*sg y c z));Au (xs:=oM ((aQ y).map (bJ v))) (ys:=oM ((aQ y).map (sg y c))) zw (by rw[fI,fI,Qaa,Qaa]) (by rw[fI,Qaa];lia) (λj acc H' h=>⟨bY.of (h.1 _ _ (XJ _ _ (s4 _ _ XH))),bY.of (h.1 _ _ (XJ _ _ XI))⟩) ⟨aq.refl _,rfl⟩ ?_ ?_
  ·rintro j x1 x2 acc H5 T2 Nx h1 h2 o9 ⟨s5,rfl⟩ Xq nx
   obtain ⟨m1,G9,rfl⟩:=uv h1
   obtain ⟨d,hd,rfl⟩:=qj G9
   obtain ⟨m2,tH,rfl⟩:=uv h2
   obtain ⟨d2,hd2,rfl⟩:=qj tH
   have ed:d=d2:=Qal (hd.symm.trans hd2)
   subst ed
   refine ⟨T2,_,rfl,bY.of ag,rfl,_,_,rfl,_,_,rfl,rfl,?_⟩
   refine ⟨trivial,dv ?_⟩
   refine ⟨_,rfl,_,rfl,_,_,rfl,rfl,Si,?_⟩
   exact nx _ _ (by simpa using o9) ⟨s5.trans (aq.upd Xq),by rw[oN, <-take_snoc hd,Qag];rfl⟩
  ·rintro acc H5 D o9 ⟨s5,rfl⟩ hD
   rw[fI,Qaa,Qbi]
   refine ⟨D,_,rfl,bC.of ag,?_⟩
   refine ⟨_,_,rfl,rfl,NV wH,?_⟩
   walk_at"Z"
   have es:(((aQ y).take (i+1)).map λx=>bJ w x*((aQ y).map λz=>bJ v z*sg y x z).sum).sum=(((aQ y).take i).map λx=>bJ w x*((aQ y).map λz=>bJ v z*sg y x z).sum).sum+bJ w c*((aQ y).map λz=>bJ v z*sg y c z).sum:=by
    rw[<-take_snoc hc,Qag,Qea]
    simp
   refine ⟨some (.int (bJ w c)),some (.ref a),?_,s4.trans (XJ.trans (s5.trans (aq.upd hD)))⟩
   rw[es]
   rfl
 ·rintro σ H4 ⟨mv,rv,rfl,s4⟩
  rw[fI,Qaa,Qbi]
  exact ⟨_,rfl,q _ (K_.trans s4)⟩
theorem o4:bp P w K mg base eL 1 Uc UY ["_law_box_here","_law_many"] (AG K):=by
 refine T.Hk.fn.ok uX (λvs H Q E h=>Gd h) 91
 refine let Z5:TS:=_;let Z4:TS:=_;let Z3:TS:=_;let Z2:TS:=_;let Z1:TS:=_;let Z0:TS:=_;⟨_,(ab (cM (bf wq (aO (cE K rfl) 124 ak 129) ak (aW _)) (ah Z0 (ab (ao (i:=2) uX.nd (aC eW (aO (cE K rfl) 124 ak 129) 138))
   (ah Z1 (ab (Hy (aC fO (aO (cE K rfl) 124 ak 129) 138) (Hw 124 ak set_list))
   (ah Z2 (aj (aG (pv 2)))))))) bK)
   (ah Z3 (ab (ao (i:=3) uX.nd (aC eW (aC fW (aO (cE K rfl) 124 ak 129) ak) ak))
   (ah Z4 (ab (Hy (aC bu (aC eW (aC bu (aC fW (pv 3) ak) ak) ak) ak) (Hw 124 ak set_list))
   (ah Z5 (aj (aG (aC eW (aC fO (aC bu (aC fW (pv 3) ak) (aO (cE K rfl) (pv 0) ak (λ_ _=>rfl))) ak) (pv 1)))))))))),?_⟩
 obtain ⟨b,m,rfl,⟨x,y,hb⟩,h1,h2,q⟩:=h
 have fin:∀(r x' y':Int),0<=r->r<m->Q (.int r) (upd H b (.lst [.int x',.int y'])):=λr x' y' h3 h4=>by
  have e:r=((r.toNat:Nat):Int):=by lia
  rw[e]
  exact q r.toNat _ () ⟨x',y',ag⟩ (aV.upd b H _)
 refine ⟨_,rfl,b,_,0,_,rfl,rfl,bC.of hb,rfl,_,_,rfl,rfl,_,rfl,cw (λe=>?_) (λe=>?_)⟩
 ·refine ⟨_,rfl,b,_,0,_,rfl,rfl,bC.of hb,rfl,_,rfl,_,_,rfl,rfl,(by lia:0<m),?_⟩
  refine ⟨_,rfl,b,_,0,_,rfl,rfl,bC.of hb,rfl,_,rfl,_,_,rfl,rfl,⟨(),()⟩,_,rfl,b,_,0,0,rfl,rfl,hb,rfl,_,rfl,?_⟩
  exact fin (x%m) (x / m) y (Qc8 _ ()) (Qcz _ ())
 ·refine ⟨_,rfl,b,_,1,_,rfl,rfl,bC.of hb,rfl,_,_,rfl,rfl,.inr ⟨∅,∅⟩,_,_,rfl,rfl,(by decide:(0:Int)<2147483647),?_⟩
  refine ⟨_,rfl,_,_,rfl,rfl,.inr ⟨∅,∅⟩,_,_,rfl,rfl,_,_,rfl,rfl,(by decide:(0:Int)<2147483629),_,_,rfl,rfl,_,rfl,b,_,1,1,rfl,rfl,hb,rfl,?_⟩
  refine ⟨_,rfl,_,_,rfl,rfl,.inr ⟨∅,∅⟩,_,rfl,b,_,1,_,rfl,rfl,bC.of ag,rfl,_,_,rfl,rfl,_,_,rfl,rfl,⟨∅,∅⟩,_,rfl,_,_,rfl,rfl,(by lia:0<m),?_⟩
  exact fin _ _ _ (Qc8 _ ()) (Qcz _ ())
theorem Lk:bp P w K mg base eL 2 Ug U1 ["_law_box_here","_law_yard_here","_law_top"] (AI K):=by
 have dz:=o4 (P:=P) (w:=w) (base:=base) T
 refine T.F50.fn.ok K9 (λvs H Q E h=>Gf h) 91
 refine ⟨_,(aj (aG (bP K rfl Qa5 Qda Qc9 (gI K rfl) (mi [] ⋯) (ae (bW ["_law_k","_law_yard_here","_law_box_here"] [none,some 1,some 0] (gu rfl T.z_range (ae (ai dz T.Hk hr (aa 124 (ae (aC bu (pv 2) ak)))))) ⟨123,⟨123,trivial⟩⟩ (λ_ _ _ _=>(aK (i:=0) (by decide+kernel:List.Nodup (["_law_k","_law_yard_here","_law_box_here"]:List Str)) rfl 125)) (λ_ _ _ _=>eZ) (λ_ _ _ _=>(aO pJ 138 (ai dz T.Hk hr (aa (pv 2) (ae (aU bO rfl T.z_len Qb7 (ae 138))))) 129))))))),?_⟩
 obtain ⟨b,y,top,rfl,hb,hy,hyl,ht,q⟩:=h
 have hs:=Zs1
 walk_at "rd"
 refine ⟨b,_,rfl,hb,by omega,by omega,λn H1 hn LL s1=>?_⟩
 walk_at "rd"
 refine let gi:Nat->List V->Hp->Prop:=(λi acc H'=>dW H' b/\aV b H H'/\∃l:c0,acc=dU l/\(l:)=i/\∀c∈l,c∈y);Ag gi (by simp;omega) ⟨LL,s1,[],rfl,rfl,by simp⟩ ?_ ?_
 ·rintro i acc H2 Nx hi hl ⟨vf,s2,l,rfl,DJ,hm⟩ nx
  have Cs:0<(y:):=Qaf.mpr hy
  refine ⟨⟨rfl,rfl,trivial⟩,dv ?_⟩
  walk_at "rd"
  refine ⟨b,_,rfl,vf,by omega,by omega,λr H3 hr3 Of s3=>?_⟩
  have PK:r<(y:):=by omega
  refine ⟨y,_,y[r],rfl,rfl,by omega,cO (Qy PK),?_⟩
  refine nx _ _ (by simpa using hl) ⟨Of,s2.trans s3,l++[y[r]],e_ _ _,by simp[DJ],λc hc=>?_⟩
  rcases Qan.mp hc with z | z
  ·exact hm c z
  ·rw[Qab.mp z];exact Qb0 PK
 ·rintro acc H2 D hl ⟨vf,s2,l,rfl,DJ,hm⟩ hD
  have hl3:(l:)<=top:=by simp at DJ;omega
  refine ⟨D,l.map λc=>[c],rfl,rfl,bC.of ?_,?_,?_⟩
  ·rw[ag, <-gD]
  ·rw[CB];omega
  ·rw[tU]
   exact q l _ hm hl3 (vf.same (aq.upd hD)) (s2.trans (aV.of (aq.upd hD)))
theorem vc:bp P w K mg base eL 11 TV UI ["yard","word"] (uF K):=by
 have gZ:=lD (P:=P) (w:=w) (base:=base) T
 have XM:=SE (P:=P) (w:=w) (base:=base) T
 refine T.F32.fn.ok uW (λvs H Q E h=>Bq h) 91
 refine let Z0:TS:=_;⟨_,(ab (ao (i:=2) uW.nd (ai gZ T.Yq hr (ae 138)))
   (ah Z0 (aj (aG (Ht (cX Ii (pv 2) (mi [] ⋯) (aW _)) (BM (cX m8 (ai XM T.F31 hr (aa (pv 0) (ae (pv 2)))) ak (aW _)))))))),?_⟩
 obtain ⟨y,w',c,rfl,hy,hz,hc,q⟩:=h
 have hs:=Zs1
 have pU:=hc.pU
 refine ⟨_,rfl,w',rfl,hc.lt,by omega,λH1 s1=>?_⟩
 rw[hc.is]
 have hn:=hc.sw.ne
 refine ⟨_,rfl,_,_,rfl,rfl,_,rfl,?_⟩
 refine Rz (by rw[decide_eq_false (show ¬c=[] from hn)];rfl) ?_
 refine ⟨_,rfl,_,rfl,y,c,rfl,hy,hz,hc.sw,hc.len,λn H2 s2 e=>?_⟩
 walk_at"Z"
 have ed:decide ((n:Int)=0)=Bp y c:=by
  unfold Bp
  exact decide_eq_decide.mpr ⟨λz=>by omega,λz=>by omega⟩
 show Q (.bl (decide ((n:Int)=0))) H2
 rw[ed]
 exact q H2 (s1.trans s2)
theorem zD:bp P w K mg base eL 12 T5 UP ["yard","along"] (oW K):=by
 have qB:=vc (P:=P) (w:=w) (base:=base) T
 refine T.F39.fn.ok zq (λvs H Q E h=>vR h) 91
 refine let Z0:TS:=_;⟨_,(aj (cM (Hs (fV (ai qB T.F32 hr (aa 124 (ae 138))))) (ah Z0 (aj Hv)) bK)),?_⟩
 obtain ⟨y,a,rfl,hy,hz,hw,hl,Ai,q⟩:=h
 refine ⟨_,rfl,_,rfl,y,a,a,rfl,hy,hz,Sh.of hy hw (),λH1 s1=>?_⟩
 rw[Ai]
 exact ⟨_,rfl,M1 rfl (q H1 s1)⟩
theorem Ll:bp P w K mg base eL 13 T6 UQ ["yard","along","times","word"] (Bw K):=by
 have BE:=zD (P:=P) (w:=w) (base:=base) T
 have zE:=v7 (P:=P) (w:=w) (base:=base) T
 refine T.F40.fn.ok K7 (λvs H Q E h=>GP h) 91
 refine let Z0:TS:=_;⟨_,(ab (cW (ai BE T.F39 hr (aa 124 (ae 138))))
   (ah Z0 (aj (aG (ai zE T.F38 hr (aa (pv 0) (aa (pv 1) (aa (pv 2) (ae (pv 3)))))))))),?_⟩
 obtain ⟨y,a,l,t,rfl,hy,hz,hw,hl,Ai,hi,Hl,ht,q⟩:=h
 refine ⟨_,rfl,_,rfl,y,a,rfl,hy,hz,hw,hl,Ai,λH1 s1=>?_⟩
 exact ⟨_,rfl,_,rfl,_,rfl,_,rfl,y,a,l,t,rfl,hy,hz,hw,hl,hi,Hl,ht,λu H2 wd s2=>q u H2 wd (s1.trans s2)⟩
theorem wa:bp P w K mg base eL 2 TX UJ ["word","letter"] (mQ K):=by
 walk_at"m"
 refine T.F33.fn.ok vT (λvs H Q E h=>uH h) 91
 refine ⟨_,(aj (aG (Vk (cX iB 124 (mi [] ⋯) (aW _)) (BM (Ht (cX Ii 138 (ai bo T.F0 hr (ae (aO pJ 124 (wm pj ak) 129))) (aW _)) (BM (cX Rx (aO pJ 124 ak 129) (aU (tu rfl) rfl T.z_min boot_min (aa 138 (ae (ai bo T.F0 hr (ae 138))))) (aW _)))))))),?_⟩
 obtain ⟨u,c,rfl,hu,hl,hc,q⟩:=h
 have hs:=Zs1
 refine ⟨_,rfl,_,_,rfl,rfl,_,rfl,cw (λz=>q true λ_=>rfl) (λz=>?_)⟩
 have hn:u≠[]:=λe=>z (decide_eq_true e)
 have q':∀b:Bool,Q (V.bl b) H:=λb=>q b λe=>absurd e hn
 have e0:vp u 0=some (u.head hn):=cO (j:=0) (by rw[<-Qft, List.head?_eq_some_head hn])
 have e1:vp u (-1)=some (u.getLast hn):=by
  have:=zY u.dropLast (u.getLast hn)
  rwa [List.dropLast_concat_getLast]at this
 refine ⟨_,rfl,_,rfl,_,rfl,u,_,_,rfl,rfl,hl,e1,_,rfl,hu _ (List.getLast_mem hn),_,_,rfl,rfl,_,rfl,cw (λz2=>?_) (λz2=>q' false)⟩
 refine ⟨_,rfl,u,_,_,rfl,rfl,hl,e0,_,rfl,_,rfl,c,rfl,hc,_,_,rfl,_,_,rfl,rfl,q' _⟩
theorem Og:bp P w K mg base eL 5 TB Ut ["word"] (Eh K):=by
 have iM:=sj (P:=P) (w:=w) (base:=base) T
 have g6:=mf (P:=P) (w:=w) (base:=base) T
 refine T.F18.fn.ok N6 (λvs H Q E h=>Jn h) 91
 refine ⟨_,(aj (aG (aU (tu rfl) rfl T.z_min boot_min (aa (ai iM T.Hh hr (ae 124)) (ae (ai iM T.Hh hr (ae (ai g6 T.F1 hr (ae 124))))))))),?_⟩
 obtain ⟨l,rfl,hl,hz,q⟩:=h
 refine ⟨_,rfl,l,rfl,hl,hz,λH1 s1=>?_⟩
 refine ⟨_,rfl,l,rfl,qJ hl,hz,λH2 s2=>?_⟩
 refine ⟨di l,rfl,RA hl,by rw[bH];exact hz,λH3 s3=>?_⟩
 exact ⟨_,_,rfl,q _ ((s1.trans s2).trans s3)⟩
theorem G1:bp P w K mg base eL 14 Ui U3 ["_law_yard_here","_law_along_here","_law_times","_law_one","_law_other_here"] (xO K):=by
 have E8:=Ll (P:=P) (w:=w) (base:=base) T
 have qC:=Dv (P:=P) (w:=w) (base:=base) T
 have xS:=Li (P:=P) (w:=w) (base:=base) T
 refine T.F52.fn.ok me (λvs H Q E h=>Di h) 91
 refine let Z4:TS:=_;let Z3:TS:=_;let Z2:TS:=_;let Z1:TS:=_;let Z0:TS:=_;⟨_,(ab (ao (i:=5) me.nd (ai E8 T.F40 hr (aa 124 (aa 138 (aa (pv 2) (ae (pv 3)))))))
   (ah Z0 (ab (ao (i:=6) me.nd (aC fW (pv 2) (ai qC T.Yt hr (aa 124 (aa (pv 3) (ae 138))))))
   (ah Z1 (ab (cM (bf (QK K rfl hr) (cQ (mH K rfl) rfl T.z_list boot_list (ae (ai xS T.U5 hr (aa 124 (ae (pv 5)))))) (bW ["_law_a","_law_b","_law_more"] [none,none,some 6] (tG K rfl rfl T.z_zip (aa (ai xS T.U5 hr (aa 124 (ae (pv 3)))) (ae (ai xS T.U5 hr (aa 124 (ae 138)))))) ⟨123,trivial⟩ (λ_ _ _ _=>(hV (n:=2) K rfl rfl (b_ (aK (i:=0) (by decide+kernel:List.Nodup (["_law_a","_law_b","_law_more"]:List Str)) rfl 125) (b_ (aK (i:=1) (by decide+kernel:List.Nodup (["_law_a","_law_b","_law_more"]:List Str)) rfl 125) g_)))) (λ_ _ _ _=>eZ) (λ_ _ _ _=>(aC bu 124 (aC fW (pv 2) 138)))) (aW _)) (ah Z2 (aj (aG Hr))) bK)
   (ah Z3 (ab (ao (i:=7) me.nd (ai E8 T.F40 hr (aa 124 (aa 138 (aa (aC cP ak (pv 2)) (ae (pv 4)))))))
   (ah Z4 (aj (aG (cX m8 (ai qC T.Yt hr (aa (pv 0) (aa (pv 5) (ae (pv 4))))) (ai qC T.Yt hr (aa (pv 0) (aa (pv 3) (ae (pv 7))))) (aW _)))))))))))),?_⟩
 obtain ⟨y,a,l,v,t,rfl,hy,hz,hw,hl,Ai,hi,Hl,hv,XN,ht,q⟩:=h
 have hs:=Zs1
 refine ⟨_,rfl,_,rfl,_,rfl,_,rfl,y,a,l,t,rfl,hy,hz,hw,hl,Ai,hi,Hl,ht,λu H1 wd s1=>?_⟩
 refine ⟨_,rfl,_,rfl,_,rfl,_,rfl,y,l,a,rfl,hy,hz,(),λH2 s2=>?_⟩
 rw[show cr (sg y) (bJ l) (bJ a) (aQ y) (aQ y)=ql y l a from rfl]
 refine ⟨_,_,rfl,rfl,.inl ⟨(),()⟩,?_⟩
 obtain ⟨wi,wl,wn⟩:=id wd
 refine ⟨_,rfl,_,rfl,y,u,rfl,hy,hz,λt1 H3 n1 Pz s3=>?_⟩
 have U6:=eE hy
 refine ⟨t1,_,rfl,.inr (bY.of Pz),λp1 np1=>?_⟩
 have s4:=aq.upd (o:= .lst (oM ((aQ y).map (bJ u)))) np1
 have xx:upd H3 p1 (.lst (oM ((aQ y).map (bJ u)))) p1=some (.lst (oM ((aQ y).map (bJ u)))):=ag
 generalize upd H3 p1 (.lst (oM ((aQ y).map (bJ u))))=H4 at s4 xx ⊢
 refine ⟨_,rfl,_,rfl,y,l,rfl,hy,hz,λt2 H5 n2 U7 s5=>?_⟩
 refine ⟨_,rfl,_,rfl,y,a,rfl,hy,hz,λt3 H6 n3 ht3 s6=>?_⟩
 have XO:=s6 _ _ U7
 have SJ:=s6 _ _ (s5 _ _ xx)
 have YL:aq H H6:=s1.trans (s2.trans (s3.trans (s4.trans (s5.trans s6))))
 refine ⟨t2,t3,rfl,⟨_,bY.of XO⟩,⟨_,bY.of ht3⟩,?_⟩
 refine let gi:Nat->List V->Hp->Prop:=(λj acc H'=>aq H6 H'/\acc=oM (((aQ y).take j).map (bJ u)));Au (xs:=oM ((aQ y).map (bJ l))) (ys:=oM ((aQ y).map (bJ a))) gi (by rw[fI,fI,Qaa,Qaa]) (by rw[fI,Qaa];lia) (λj acc H' h=>⟨bY.of (h.1 _ _ XO),bY.of (h.1 _ _ ht3)⟩) ⟨aq.refl _,rfl⟩ ?_ ?_
 ·rintro j x1 x2 acc H7 T2 Nx h1 h2 o9 ⟨s7,rfl⟩ Xq nx
  obtain ⟨m1,G9,rfl⟩:=uv h1
  obtain ⟨d,hd,rfl⟩:=qj G9
  obtain ⟨m2,tH,rfl⟩:=uv h2
  obtain ⟨d2,hd2,rfl⟩:=qj tH
  have ed:d=d2:=Qal (hd.symm.trans hd2)
  subst ed
  refine ⟨T2,_,rfl,bY.of ag,rfl,_,_,rfl,_,_,rfl,rfl,?_⟩
  refine ⟨⟨rfl,trivial⟩,dv ?_⟩
  have XE:BQ (t*ql y l a) (bJ a d):=by
   have h1:=uC d a
   have h2:=uC (az d) a
   unfold bJ
   exact .inr ⟨(),()⟩
  refine ⟨_,rfl,_,rfl,_,rfl,_,_,rfl,rfl,XE,_,_,rfl,rfl,?_⟩
  have ed2:bJ l d+t*ql y l a*bJ a d=bJ u d:=by rw[wn d (Qae hd),Qfh]
  show Nx (_++[V.int (bJ l d+t*ql y l a*bJ a d)]) _
  rw[ed2]
  exact nx _ _ (by simpa using o9) ⟨s7.trans (aq.upd Xq),by rw[oN, <-take_snoc hd,Qag];rfl⟩
 ·rintro acc H7 D o9 ⟨s7,rfl⟩ hD
  rw[fI,Qaa,Qbi]
  have s8:=s7.trans (aq.upd (o:= .lst (oM ((aQ y).map (bJ u)))) hD)
  have hp8:=s8 _ _ SJ
  have hD8:upd H7 D (.lst (oM ((aQ y).map (bJ u)))) D=some (.lst (oM ((aQ y).map (bJ u)))):=ag
  generalize upd H7 D (.lst (oM ((aQ y).map (bJ u))))=H8 at s8 hp8 hD8 ⊢
  refine ⟨_,_,.lst (bC.of hp8) (C_ K _ _),.lst (bC.of hD8) (C_ K _ _),⟨zc _,zc _⟩,NU _,_,rfl,M1 (by rw[eqv_refl _ (by show PyData.hasDictAll (LU _)=false;exact Bh _)];rfl) ?_⟩
  refine ⟨_,rfl,_,rfl,_,rfl,_,_,rfl,rfl,_,rfl,y,a,v,_,rfl,hy,hz,hw,hl,Ai,hv,XN,(),λu2 H9 wd2 s9=>?_⟩
  refine ⟨_,rfl,_,rfl,_,rfl,y,u,v,rfl,hy,hz,wl,λXF Oc=>?_⟩
  refine ⟨_,rfl,_,rfl,_,rfl,y,l,u2,rfl,hy,hz,(),λYN Va=>?_⟩
  walk_at"Z"
  have e:cr (sg y) (bJ u) (bJ v) (aQ y) (aQ y)=cr (sg y) (bJ l) (bJ u2) (aQ y) (aQ y):=by
   show ql y u v=ql y l u2
   rw[wd.cr v,oU hy l u2,wd2.cr l,oU hy v l,oU hy v a,oU hy a l]
   generalize ql y l a=p
   generalize ql y a v=q
   generalize ql y l v=r
   rw[show (0 - t)* -q* -p= - (t*p*q) by rw[Int.zero_sub,Int.neg_mul_neg,Qgx,Qfh,Qgm q p, <-Qfh]]
   lia
  show Q (.bl (decide _)) YN
  rw[decide_eq_true e]
  exact q YN (YL.trans (s8.trans (s9.trans (Oc.trans Va))))
theorem wb:bp P w K mg base eL 3 TY UK ["yard","words"] (mR K):=by
 have zF:=wa (P:=P) (w:=w) (base:=base) T
 refine T.F34.fn.ok iL (λvs H Q E h=>uI h) 91
 refine let Z2:TS:=_;let Z1:TS:=_;let Z0:TS:=_;⟨_,(ab (ao (i:=2) iL.nd (eK bV))
   (ah Z0 (ab (cJ PassesOwn.never rfl (de K rfl 138) (aK (i:=3) iL.nd rfl (Or.inr rfl)) (ah Z1 (aj (cW (bP K rfl Qbe PySem.F.slot_list_extend PySem.F.type_list_extend wG (pv 2) (ae (bW ["letter","word"] [none,some 3] (j_ 124) ⟨123,trivial⟩ (λ_ _ _ _=>(aK (i:=0) (by decide+kernel:List.Nodup (["letter","word"]:List Str)) rfl 125)) (λ_ _ _ _=>(x_ (fV (ai zF T.F33 hr (aa 138 (ae 124)))))) (λ_ _ _ _=>(aC lJ 138 124)))))))))
   (ah Z2 (aj (aG (pv 2))))))),?_⟩
 obtain ⟨y,wt,ls,rfl,hy,hz,hw,hl,hn,q⟩:=h
 have hs:=Zs1
 refine ⟨by show 0<=sizeLine;decide,λp n=>?_⟩
 have s0:=aq.upd (o:= .lst []) n
 refine ⟨_,rfl,wt,rfl,⟨_,bC.of (s0 _ _ hw)⟩,?_⟩
 refine let gi:Nat->L2.St->Hp->Prop:=(λi σ H'=>∃(ms:List c0) (wv:Option V),σ=[some (.str (S y)),some (.ref wt),some (.ref p),wv]/\H' p=some (.lst (gE ms))/\(∀m∈ms,∃l∈ls,∃c∈y,m=l++[c])/\([]∈ls.take i->∀c∈y,[c]∈ms)/\(ms:)<=8*i/\aq H H');fM (K:=K) (a:=wt) (xs:=gE ls) gi ⟨[],none,rfl,ag,λ_ h=>absurd h Qav,λh=>absurd h (by simp),Qax _,s0⟩ (λi σ H' _ ⟨_,_,_,_,_,_,_,s⟩=>bC.of (s _ _ hw)) ?_ ?_
 ·rintro i x σ H1 hx ⟨ms,wv,rfl,hp,hm,hc,hlen,s1⟩
  obtain ⟨l,Oa,rfl⟩:=E4 hx
  have Ye:=Qae Oa
  have hi:i<(ls:):=(Qz.mp Oa).1
  obtain ⟨SK,DJ⟩:=hl l Ye
  have hl8:∀a∈l,a<128:=λa ha=>hy a (SK a ha)
  refine ⟨_,rfl,.inl ⟨rfl,_,bC.of hp⟩,_,rfl,y,rfl,?_⟩
  refine let zw:Nat->List V->Hp->Prop:=(λj acc H'=>H'=H1/\∃ns:List c0,acc=gE ns/\(∀m∈ns,∃c∈y,m=l++[c])/\(l=[]->∀c∈y.take j,[c]∈ns)/\(ns:)<=j);fN (xs:=dU y) zw (by rw[aX];lia) ⟨rfl,[],rfl,λ_ h=>absurd h Qav,λ_ c h=>absurd h (by simp),Qad _⟩ ?_ ?_
  ·rintro j x acc H2 Nx hj QQ o9 ⟨rfl,ns,rfl,D5,mZ,LW⟩ nx
   obtain ⟨c,hcj,rfl⟩:=fE QQ
   have G7:=Qae hcj
   refine ⟨⟨rfl,trivial⟩,?_⟩
   refine ⟨_,rfl,_,rfl,l,c,rfl,hl8,(),hy c G7,λb hb=>⟨_,rfl,cw (λz=>?_) (λz=>?_)⟩⟩
   ·refine ⟨_,rfl,_,rfl,_,_,rfl,rfl,by show (l:)+1<=sizeLine;lia,?_⟩
    refine nx _ _ (by simpa using o9) ⟨rfl,ns++[l++[c]],nU _ _,λm w6=>?_,λe d hd=>?_,by simpa using LW⟩
    ·rcases Qan.mp w6 with g | g
     ·exact D5 m g
     ·exact ⟨c,G7,Qab.mp g⟩
    ·rw[<-take_snoc hcj]at hd
     rcases Qan.mp hd with g | g
     ·exact Qcj _ (mZ e d g)
     ·rw[Qab.mp g,e]
      exact Qa3 _ Qak
   ·refine nx _ _ () ⟨rfl,ns,rfl,D5,λe=>absurd (hb e) z,()⟩
  ·rintro acc H2 D o9 ⟨rfl,ns,rfl,D5,mZ,LW⟩ hD
   rw[aX]at mZ LW
   have pD:p≠D:=au hp hD
   refine ⟨p,D,_,_,rfl,rfl,by rw[aA pD];exact hp,ag,by rw[b7,b7];lia,?_⟩
   rw[E5]
   refine ⟨ms++ns,_,rfl,ag,λm w6=>?_,λe c G7=>?_,by rw[X4];lia,aq.up2 (s1.trans (aq.upd hD)) n⟩
   ·rcases Qan.mp w6 with g | g
    ·exact hm m g
    ·obtain ⟨c,G7,e⟩:=D5 m g
     exact ⟨l,Ye,c,G7,e⟩
   ·rw[<-take_snoc Oa]at e
    rcases Qan.mp e with g | g
    ·exact Qcj _ (hc g c G7)
    ·exact Qa3 _ (mZ (Qab.mp g).symm c (by rw[Qbi];exact G7))
 ·rintro σ H1 ⟨ms,wv,rfl,hp,hm,hc,hlen,s1⟩
  rw[b7]at hc hlen
  exact ⟨_,rfl,q p ms H1 n hp hm (λh=>hc (by rw[Qbi];exact h)) hlen s1⟩
theorem wc:bp P w K mg base eL 12 TZ UL ["yard","length"] (mS K):=by
 have zG:=wb (P:=P) (w:=w) (base:=base) T
 have SM:=Og (P:=P) (w:=w) (base:=base) T
 have qB:=vc (P:=P) (w:=w) (base:=base) T
 refine T.F35.fn.ok eF (λvs H Q E h=>uJ h) 91
 refine let Z4:TS:=_;let Z3:TS:=_;let Z2:TS:=_;let Z1:TS:=_;let Z0:TS:=_;⟨_,(ab (ao (i:=2) eF.nd (eK bV))
   (ah Z0 (ab (ao (i:=3) eF.nd (eK (ae (mi [] ⋯))))
   (ah Z1 (ab (cJ PassesOwn.never rfl (gu rfl T.z_range (ae 138)) (aK (i:=4) eF.nd rfl 125) (ah Z2 (ab (ao (i:=3) eF.nd (ai zG T.F34 hr (aa 124 (ae (pv 3)))))
   (ah Z3 (aj (cW (bP K rfl Qbe PySem.F.slot_list_extend PySem.F.type_list_extend wG (pv 2) (ae (aU (vG K rfl) rfl T.z_sorted boot_sorted (ae (bW ["word","yard"] [none,some 0] (de K rfl (pv 3)) ⟨⟨rfl,rfl,by first | exact .inl rfl | exact .inr rfl⟩,trivial⟩ (λ_ _ _ _=>(aK (i:=0) (by decide+kernel:List.Nodup (["word","yard"]:List Str)) rfl (Or.inl rfl))) (λ_ _ _ _=>(x_ (PW.pt (xX (bf iB (ai SM T.F18 hr (ae (pv 0))) (pv 0) (aW _)) (rE (fV (ai qB T.F32 hr (aa (pv 1) (ae (pv 0)))))))))) (λ_ _ _ _=>(pv 0)))))))))))))
   (ah Z4 (aj (aG (pv 2))))))))),?_⟩
 obtain ⟨y,m,rfl,hy,fq,hz,hm,q⟩:=h
 have hs:=Zs1
 refine ⟨by show 0<=sizeLine;decide,λp n=>?_⟩
 have s0:=aq.upd (o:= .lst []) n
 have hp0:upd H p (.lst []) p=some (.lst (gE [])):=ag
 generalize upd H p (.lst [])=H0 at s0 hp0 ⊢
 refine ⟨by show 1<=sizeLine;decide,λp2 n2=>?_⟩
 have s1:=aq.upd (o:= .lst [.str (S [])]) n2
 have nL:upd H0 p2 (.lst [.str (S [])]) p2=some (.lst (gE [[]])):=ag
 generalize upd H0 p2 (.lst [.str (S [])])=H1 at s1 nL ⊢
 have xx:=s1 _ _ hp0
 refine ⟨_,rfl,_,rfl,(),(),?_⟩
 rw[Qap]
 refine let gi:Nat->L2.St->Hp->Prop:=(λi σ H'=>∃(wt:Addr) (ws ls:List c0) (iv:Option V),σ=[some (.str (S y)),some (.int m),some (.ref p),some (.ref wt),iv]/\H' p=some (.lst (gE ls))/\H' wt=some (.lst (gE ws))/\(∀w∈ws,(∀c∈w,c∈y)/\(w:)=i)/\(i=0->[]∈ws)/\(ws:)<=8 ^ i/\(∀w∈ls,SW y w/\(w:)<=i/\Bp y w=true)/\(ls:)<=600*i/\(1<=i->ls≠[])/\aq H H');gw gi
  ⟨p2,[[]],[],none,rfl,xx,nL,λw hw=>by rw[Qab.mp hw];exact ⟨λc hc=>absurd hc Qav,rfl⟩,λ_=>Qak,Qad _,λ_ h=>absurd h Qav,Qad _,λh=>absurd h ∅,s0.trans s1⟩ ?_ ?_
 ·rintro i σ H2 hi ⟨wt,ws,ls,iv,rfl,jC,xP,lX,Wm,wH,XQ,Hl,SK,s2⟩
  have hi3:i<=2:=by lia
  have h64:8 ^ i<=64:=Nat.pow_le_pow_right ∅ hi3
  have aaT:8 ^ (i+1)=8*8 ^ i:=by rw[Nat.pow_succ,Qdf]
  refine ⟨_,rfl,_,rfl,y,wt,ws,rfl,qJ hy.lt,hz,xP,λl hl=>⟨(lX l hl).1,by have:=(lX l hl).2;lia⟩,(),λt ms H3 nt ht U8 G9 YD s3=>?_⟩
  have pt:p≠t:=au jC nt
  have SN:=s3 _ _ jC
  refine ⟨_,rfl,.inl ⟨rfl,_,bC.of SN⟩,_,rfl,t,rfl,⟨_,bC.of ht⟩,?_⟩
  refine let zw:Nat->List V->Hp->Prop:=(λj acc H'=>aq H3 H'/\∃ns:List c0,acc=gE ns/\(∀w∈ns,SW y w/\(w:)<=i+1/\Bp y w=true)/\(ns:)<=j/\(∀c∈y,[c]∈ms.take j->bI (bL [c]) (bL (di [c]))=[c]->[c]∈ns));lK (K:=K) (a:=t) (xs:=gE ms) zw (by rw[b7];lia) (λj acc H' h=>bC.of (h.1 _ _ ht)) ⟨aq.refl _,[],rfl,λ_ h=>absurd h Qav,Qad _,λc _ h=>absurd h (by simp)⟩ ?_ ?_
  ·rintro j x acc H4 Nx hj hx o9 ⟨s4,ns,rfl,D5,mZ,LW⟩ nx
   obtain ⟨v,hv,rfl⟩:=E4 hx
   obtain ⟨l,hl,c,hc,e⟩:=U8 v (Qae hv)
   have hvy:∀d∈v,d∈y:=λd hd=>by
    rw[e]at hd
    rcases Qan.mp hd with g | g
    ·exact (lX l hl).1 d g
    ·rw[Qab.mp g];exact hc
   have XN:(v:)=i+1:=by rw[e,X4,(lX l hl).2];rfl
   have hvn:v≠[]:=λz=>by rw[z]at XN;simp at XN
   have out:∀H',aq H3 H'->(bI (bL v) (bL (di v))=v->Bp y v=false)->Nx (gE ns) H':=λH' s' no=>nx _ _ () ⟨s',ns,rfl,D5,(),λd hd h1 h2=>by
    rw[<-take_snoc hv]at h1
    rcases Qan.mp h1 with g | g
    ·exact LW d hd g h2
    ·have:=Qab.mp g
     rw[<-this]at no
     rw[Sm hy hd]at no
     exact absurd (no h2) ∅⟩
   refine ⟨⟨rfl,trivial⟩,?_⟩
   refine ⟨_,rfl,v,rfl,λd hd=>hy.lt d (hvy d hd),(),λH5 s5=>?_⟩
   refine ⟨_,rfl,_,_,rfl,rfl,_,rfl,cw (λz=>?_) (λz=>?_)⟩
   ·have z':=of_decide_eq_true z
    have sw:=De hy hvn hvy z'
    refine ⟨_,rfl,_,rfl,y,v,v,rfl,hy,hz,Sh.of hy sw (),λH6 s6=>⟨_,rfl,cw (λz2=>?_) (λz2=>?_)⟩⟩
    ·refine ⟨_,rfl,nx _ _ (by simpa using o9) ⟨s4.trans (s5.trans s6),ns++[v],nU _ _,λw hw=>?_,by simpa using mZ,λd hd h1 h2=>?_⟩⟩
     ·rcases Qan.mp hw with g | g
      ·exact D5 w g
      ·rw[Qab.mp g];exact ⟨sw,(),z2⟩
     ·rw[<-take_snoc hv]at h1
      rcases Qan.mp h1 with g | g
      ·exact Qcj _ (LW d hd g h2)
      ·exact Qa3 _ g
    ·exact out H6 (s4.trans (s5.trans s6)) λ_=>by simpa using z2
   ·exact out H5 (s4.trans s5) λh=>absurd (decide_eq_true h) z
  ·rintro acc H4 D o9 ⟨s4,ns,rfl,D5,mZ,LW⟩ hD
   rw[b7]at mZ LW
   rw[Qbi]at LW
   have s5:=s4.trans (aq.upd (o:= .lst (gE ns)) hD)
   have SG:upd H4 D (.lst (gE ns)) D=some (.lst (gE ns)):=ag
   generalize upd H4 D (.lst (gE ns))=H5 at s5 SG ⊢
   refine ⟨D,ns,rfl,.inl (bC.of SG),(),λr YO nr pr _=>?_⟩
   have s6:=s5.trans (aq.upd (o:= .lst (gE YO)) nr)
   have hpr:p≠r:=au (s5 _ _ SN) nr
   have pl:=pr.length_eq
   refine ⟨p,r,_,_,rfl,rfl,s6 _ _ SN,ag,by rw[b7];show _+(gE YO:)<=_;rw[b7];lia,?_⟩
   refine ⟨t,ms,ls++YO,_,rfl,by rw[ag];exact congrArg (λx=>some (HO.lst x)) (E5 ls YO),by rw[aA (Ne.symm pt)];exact s6 _ _ ht,λw hw=>?_,λh=>absurd h (),(),λw hw=>?_,by rw[X4];lia,λ_ e=>?_,aq.up2 ((s2.trans s3).trans s6) n⟩
   ·obtain ⟨l,hl,c,hc,e⟩:=U8 w hw
    refine ⟨λd hd=>?_,by rw[e,X4,(lX l hl).2];rfl⟩
    rw[e]at hd
    rcases Qan.mp hd with g | g
    ·exact (lX l hl).1 d g
    ·rw[Qab.mp g];exact hc
   ·rcases Qan.mp hw with g | g
    ·have:=XQ w g
     exact ⟨this.1,(),this.2.2⟩
    ·exact D5 w (pr.mem_iff.mp g)
   ·by_cases i0:i=0
    ·obtain ⟨c,hc,ec⟩:=KL hy fq
     have:=LW c hc (G9 (Wm i0) c hc) ec
     have h2:=(List.append_eq_nil_iff.mp e).2
     rw[h2]at pr
     rw[List.nil_perm.mp pr]at this
     exact absurd this Qav
    ·exact absurd (List.append_eq_nil_iff.mp e).1 (SK ())
 ·rintro σ H2 ⟨wt,ws,ls,iv,rfl,jC,xP,lX,Wm,wH,XQ,Hl,SK,s2⟩
  exact ⟨_,rfl,q p ls H2 n jC XQ () SK s2⟩
theorem xT:bp P w K mg base eL 1 Ud UZ ["_law_letter"] (xb K):=by
 refine T.F48.fn.ok qx (λvs H Q E h=>Cz h) 91
 refine let Z3:TS:=_;let Z2:TS:=_;let Z1:TS:=_;let Z0:TS:=_;⟨_,(ab (ao (i:=1) qx.nd (mi [97,98,99,100,101,102,103,104,105,106,107,108,109,110,111,112,113,114,115,116,117,118,119,120,121,122] ⋯))
   (ah Z0 (ab (ao (i:=2) qx.nd (mi [65,66,67,68,69,70,71,72,73,74,75,76,77,78,79,80,81,82,83,84,85,86,87,88,89,90] ⋯))
   (ah Z1 (ab (cM (bf QE 124 138 (by with_unfolding_all rfl)) (ah Z2 (aj (aG (aO pJ (pv 2) (bP K rfl Qa5 Qfr Qfp pK 138 (ae 124)) 129)))) bK)
   (ah Z3 (aj (aG (aO pJ (pv 1) (bP K rfl Qa5 Qfr Qfp pK (pv 2) (ae (pv 0))) (λ_ _=>rfl)))))))))),?_⟩
 obtain ⟨c,rfl,hc,q⟩:=h
 refine ⟨_,rfl,_,rfl,c,aY,rfl,rfl,_,rfl,cw (λe=>?_) (λe=>?_)⟩
 ·have hm:c∈aY:=of_decide_eq_true e
  exact ⟨_,rfl,_,rfl,rfl,_,rfl,aY,c,rfl,rfl,hm,ki,_,az c,rfl,rfl,∅,AF c hm,q⟩
 ·have hm:c∈ki:=hc.resolve_left λz=>e (decide_eq_true z)
  exact ⟨_,rfl,_,rfl,rfl,_,rfl,ki,c,rfl,rfl,hm,aY,_,az c,rfl,rfl,∅,Gb c hm,q⟩
theorem G2:bp P w K mg base eL 13 Uh U2 ["_law_box_here","_law_yard_here"] (xN K):=by
 have zH:=wc (P:=P) (w:=w) (base:=base) T
 have dz:=o4 (P:=P) (w:=w) (base:=base) T
 have vd:=xT (P:=P) (w:=w) (base:=base) T
 refine T.F51.fn.ok je (λvs H Q E h=>Dh h) 91
 refine let Z5:TS:=_;let Z4:TS:=_;let Z3:TS:=_;let Z2:TS:=_;let Z1:TS:=_;let Z0:TS:=_;⟨_,(ab (ao (i:=2) je.nd (ai zH T.F35 hr (aa 138 (ae ak))))
   (ah Z0 (ab (ao (i:=3) je.nd (aO (cE K rfl) (pv 2) (ai dz T.Hk hr (aa 124 (ae (eI K T.z_len (pv 2))))) 129))
   (ah Z1 (ab (ao (i:=4) je.nd (ai dz T.Hk hr (aa 124 (ae (aU bO rfl T.z_len Qb7 (ae (pv 3)))))))
   (ah Z2 (ab (ao (i:=3) je.nd (aC lJ (cD qW (pv 3) (cb (pv 4)) fB) (cD qW (pv 3) fB (cb (pv 4)))))
   (ah Z3 (ab (cM (bf m8 (ai dz T.Hk hr (aa 124 (ae ak))) ak (aW _)) (ah Z4 (aj (aG (bP K rfl Qa5 Qda Qc9 (gI K rfl) (mi [] ⋯) (ae (bW ["_law_letter"] [none] (Ic rfl T.z_reversed (ae (pv 3))) trivial (λ_ _ _ _=>(aK (i:=0) (by decide+kernel:List.Nodup (["_law_letter"]:List Str)) rfl 125)) (λ_ _ _ _=>eZ) (λ_ _ _ _=>(ai vd T.F48 hr (ae 124))))))))) bK)
   (ah Z5 (aj (aG (pv 3))))))))))))),?_⟩
 obtain ⟨b,y,rfl,hb,hy,fq,hz,q⟩:=h
 have hs:=Zs1
 refine ⟨_,rfl,y,3,rfl,hy,fq,hz,∅,λt ls H1 nt ht XQ Hl SK s1=>?_⟩
 have tb:t≠b:=λe=>by obtain ⟨x1,x2,g⟩:=hb;rw[e,g]at nt;cases nt
 have hlp:0<(ls:):=Qaf.mpr (SK ∅)
 have LL:=hb.same s1
 refine ⟨_,rfl,_,rfl,_,rfl,t,_,rfl,.inl (bC.of ht),?_⟩
 rw[b7]
 refine ⟨b,_,rfl,LL,(),(),λk H2 hk vf s2=>?_⟩
 have B8:k<(ls:):=by lia
 have e0:vp (gE ls) k=some (V.str (S (ls|||k))):=cO (getD_at B8)
 have hm:=XQ _ (getD_in B8)
 generalize (ls|||k)=w0 at e0 hm
 obtain ⟨sw,wl,wo⟩:=hm
 refine ⟨t,_,_,_,rfl,rfl,bC.of (s2 _ _ ht tb),e0,?_⟩
 have wp:0<(w0:):=Qaf.mpr sw.ne
 refine ⟨_,rfl,_,rfl,_,rfl,(),?_⟩
 refine ⟨b,_,rfl,vf,(),(),λj H3 hj Of s3=>?_⟩
 have Xc:j<=(w0:):=by lia
 refine ⟨_,rfl,_,rfl,_,rfl,_,rfl,?_⟩
 refine ⟨(),_,rfl,_,rfl,_,rfl,_,rfl,(),_,_,rfl,rfl,by have:=(se (l:=w0) j).2;lia,?_⟩
 rw[(se (l:=w0) j).1]
 obtain ⟨g1,gl⟩:SW y (dj w0 j)/\(dj w0 j:)<=3:=⟨sw.dj Xc,by rw[b8];exact wl⟩
 have g2:Bp y (dj w0 j)=true:=by
  have g:=N2 hy sw Xc
  unfold Bp at wo ⊢
  rw[g];exact wo
 have K_:aV b H H3:=(aV.of s1).trans (s2.trans s3)
 generalize dj w0 j=r at g1 g2 gl ⊢
 refine ⟨_,rfl,b,_,rfl,Of,∅,∅,λk2 H4 ve YQ s4=>?_⟩
 refine ⟨_,_,rfl,rfl,_,rfl,cw (λz=>?_) (λz=>?_)⟩
 ·have lr:∀c∈r,Lt c:=λc hc=>hy.lt c (g1.cn c hc)
  have g3:Bp y (di r)=true:=by
   unfold Bp at g2 ⊢
   rw[N3 hy g1];exact g2
  refine ⟨rfl,_,rfl,r,rfl,(),?_⟩
  rw[Eb]
  refine let gi:Nat->List V->Hp->Prop:=(λi acc H'=>aq H4 H'/\acc=dU ((r.reverse.take i).map az));fN (xs:=dU r.reverse) gi (by rw[aX,Qa0];lia) ⟨aq.refl H4,rfl⟩ ?_ ?_
  ·rintro i x acc H7 Nx hi hx hl ⟨s7,rfl⟩ nx
   obtain ⟨c,sE,rfl⟩:=fE hx
   refine ⟨trivial,dv ⟨_,rfl,c,rfl,lr c (Qb9.mp (Qae sE)),nx _ _ (by simpa using hl) ⟨s7,?_⟩⟩⟩
   rw[e_, <-take_snoc sE,Qag]
   rfl
  ·rintro acc H7 D hl ⟨s7,rfl⟩ hD
   refine ⟨D,(di r).map λc=>[c],rfl,rfl,bC.of ?_,?_,?_⟩
   ·rw[ag, <-gD,aX,Qar (Qad _),Qd6]
    rfl
   ·rw[CB,bH]
    lia
   ·rw[tU]
    have s8:=s7.trans (aq.upd (o:= .lst (dU ((r.reverse.take (dU r.reverse:)).map az))) hD)
    exact q (di r) _ (g1.di hy) (by rw[bH];exact gl) g3 (YQ.same s8) ((K_.trans s4).trans (aV.of s8))
 ·exact ⟨_,rfl,q r H4 g1 gl g2 YQ (K_.trans s4)⟩
theorem Oh:bp P w K mg base eL 1 Ub UX ["_law_script","_law_k"] (Ea K):=by
 refine T.F46.fn.ok oX (λvs H Q E h=>Jf h) 91
 refine let Z5:TS:=_;let Z4:TS:=_;let Z3:TS:=_;let Z2:TS:=_;let Z1:TS:=_;let Z0:TS:=_;⟨_,(ab (ao (i:=2) oX.nd (aC bu (aC fW ak 138) ak))
   (ah Z0 (ab (cM (bf mC 138 (eI K T.z_len 124) (aW _)) (ah Z1 (aj (ao (i:=2) oX.nd (aO (cE K rfl) 124 138 129)))) (ah Z2 (aj (cM (bf wq (eI K T.z_len 124) ak (aW _)) (ah Z3 (aj (ao (i:=2) oX.nd (aC bu (pv 2) (aC fW (aC eW (aO (cE K rfl) 124 (aC eW 138 (eI K T.z_len 124)) 129) ak) ak))))) bK))))
   (ah Z4 (ab (ao (i:=3) oX.nd (aC eW (aC Hz (aC bu (aC bu (aC eW (pv 2) ak) (aC fW ak 138)) ak) ak) ak))
   (ah Z5 (aj (aG (eK (aa (aO (cE K rfl) (eK (aa ak (ae (pv 2)))) (cQ Fn rfl T.z_int boot_int (ae (cX HC (pv 2) (aC Hz ak ak) (aW _)))) (λ_ _=>rfl)) (ae (aC bu (aC eW (pv 3) ak) ak)))))))))))),?_⟩
 obtain ⟨a,ns,k,rfl,hS,hk,q⟩:=h
 have hp:(0:Int)<2147483629:=by decide
 walk_at "rd"
 refine ⟨a,_,rfl,.inl hS,?_⟩
 walk_at "rd"
 refine cw (λe=>?_) (λe=>?_)
 ·have e':(k:Int)<((ns.map V.int:):Nat):=of_decide_eq_true e
  rw[Qaa]at e'
  obtain ⟨z,hz⟩:=Ec (ns:=ns) (i:=k) ()
  walk_at "rd"
  refine ⟨a,_,k,_,rfl,rfl,hS,cO hz,?_⟩
  walk_at "rd"
  refine λp1 n1=>?_
  walk_at "rd"
  refine .inr ⟨_,rfl,?_⟩
  obtain ⟨y,hy⟩:=CC _ z
  refine ⟨p1,_,_,_,rfl,rfl,bC.of ag,hy,?_⟩
  walk_at "rd"
  walk_at"s"
 ·walk_at "rd"
  refine ⟨a,_,rfl,.inl hS,?_⟩
  walk_at "rd"
  refine cw (λe2=>?_) (λe2=>?_)
  ·have e':(0:Int)<((ns.map V.int:):Nat):=of_decide_eq_true e2
   have hl:(0:Int)<((ns:):Int):=by rw[Qaa]at e';exact e'
   have m1:0<=(k:Int)%((ns:):Int):=Qc8 _ ()
   have m2:(k:Int)%((ns:):Int)<((ns:):Int):=Qcz _ hl
   obtain ⟨z,hz⟩:=Ec (ns:=ns) (i:=((k:Int)%((ns:):Int)).toNat) ()
   have MM:vp (ns.map V.int) ((k:Int)%((ns.map V.int:):Nat))=some (V.int z):=by
    have:=cO hz
    rw[Int.toNat_of_nonneg m1]at this
    rw[Qaa]
    exact this
   walk_at "rd"
   refine ⟨a,_,rfl,.inl hS,?_⟩
   walk_at "rd"
   refine ⟨a,_,_,_,rfl,rfl,hS,MM,?_⟩
   walk_at "rd"
   refine λp1 n1=>?_
   walk_at "rd"
   refine .inr ⟨_,rfl,?_⟩
   obtain ⟨y,hy⟩:=CC _ _
   refine ⟨p1,_,_,_,rfl,rfl,bC.of ag,hy,?_⟩
   walk_at "rd"
   walk_at"s"
  ·walk_at "rd"
   refine λp1 n1=>?_
   walk_at "rd"
   refine .inr ⟨_,rfl,?_⟩
   obtain ⟨y,hy⟩:=CC _ _
   refine ⟨p1,_,_,_,rfl,rfl,bC.of ag,hy,?_⟩
   walk_at "rd"
   walk_at"s"
theorem Lm:bp P w K mg base eL 2 Ue U0 ["_law_box_here","_law_few","_law_top"] (AH K):=by
 have dz:=o4 (P:=P) (w:=w) (base:=base) T
 have vd:=xT (P:=P) (w:=w) (base:=base) T
 refine T.F49.fn.ok fU (λvs H Q E h=>Ge h) 91
 refine ⟨_,(ab (ao (i:=3) fU.nd (cQ (Cd rfl) rfl T.z_list boot_list (ae (mi [97,98,99,100,101,102,103,104,105,106,107,108,109,110,111,112,113,114,115,116,117,118,119,120,121,122] ⋯))))
   (ab (ao (i:=4) fU.nd (eK bV))
   (ab (cJ PassesOwn.never rfl (gu rfl T.z_range (ae (aC bu 138 (ai dz T.Hk hr (aa 124 (ae (aC bu (aC cP (pv 2) 138) ak))))))) (aK (i:=5) fU.nd rfl 125) (ab (ao (i:=6) fU.nd (bP K rfl Qbe Qek Qej sL (pv 3) (ae (ai dz T.Hk hr (aa 124 (ae (eI K T.z_len (pv 3))))))))
   (aj (ao (i:=4) fU.nd (aC Qv (pv 4) (eK (aa (pv 6) (ae (ai vd T.F48 hr (ae (pv 6)))))))))))
   (ab (ao (i:=7) fU.nd (mi [] ⋯))
   (ab (gz PassesOwn.never (bf wq (eI K T.z_len (pv 4)) ak (aW _)) (aj (ao (i:=7) fU.nd (aC lJ (pv 7) (bP K rfl Qbe Qek Qej sL (pv 4) (ae (ai dz T.Hk hr (aa 124 (ae (eI K T.z_len (pv 4)))))))))))
   (aj (aG (pv 7)))))))),?_⟩
 obtain ⟨b,pU,top,rfl,hb,h1,h2,h3,q⟩:=h
 have hs:=Zs1
 walk_at "rd"
 intro p1 n1
 walk_at "rd"
 intro p2 n2
 have s1:aq H (upd (upd H p1 (.lst (dU aY))) p2 (.lst [])):=(aq.upd n1).trans (aq.upd n2)
 have YR:p1≠b:=hb.ne n1
 have np2:H p2=none:=aq.free (aq.upd n1) n2
 have bp2:p2≠b:=hb.ne np2
 have p12:p1≠p2:=λz=>by rw[<-z,ag]at n2;cases n2
 walk_at "rd"
 refine ⟨b,_,rfl,hb.same s1,(),(),λn H1 hn LL s2=>?_⟩
 walk_at "rd"
 refine let gi:Nat->L2.St->Hp->Prop:=(λi σ H'=>∃(pe:Addr) (L E:c0) (kv lv:Option V),σ=[some (.ref b),some (.int pU),some (.int top),some (.ref p1),some (.ref pe),kv,lv,none]/\Ry i L E/\H' p1=some (.lst (dU L))/\H' pe=some (.lst (dU E))/\p1≠pe/\H pe=none/\dW H' b/\aV b H H');gw gi
  ⟨p2,aY,[],none,none,rfl,Ry.start,s2 _ _ (by rw[aA p12,ag];rfl) YR,s2 _ _ ag bp2,p12,np2,LL,(aV.of s1).trans s2⟩ ?_ ?_
 ·rintro i σ H2 hi ⟨pe,L,E,kv,lv,rfl,yw,xx,lL,n1e,YS,vf,s3⟩
  show L1 _ _ _ _ _
  refine Jh λDx Xp=>?_
  have DZ:i<26:=by simp at hi;lia
  have Hl:=yw.ll
  have Sf:=yw.el
  refine ⟨_,rfl,.inl ⟨rfl,_,bC.of xx⟩,?_⟩
  walk_at "rd"
  refine ⟨p1,_,rfl,.inl (bC.of xx),b,_,rfl,vf,by rw[aX];lia,by rw[aX];lia,λr H3 hr3 Of s4=>?_⟩
  rw[aX]at hr3
  have PK:r<L.length:=by lia
  have SJ:=s4 _ _ xx YR
  have aaw:=s4 _ _ lL (hb.ne YS)
  refine ⟨p1,_,_,r,_,rfl,rfl,SJ,(),(),by rw[aX,seqIndex_of () (),Qap],Jg PK,?_⟩
  rw[xg]
  have cH:Lt L[r]:= .inl (yw.sm _ (Qb0 PK))
  have XR:(upd H3 p1 (.lst (dU (L.eraseIdx r)))) pe=some (.lst (dU E)):=by rw[aA (Ne.symm n1e)];exact aaw
  walk_at "rd"
  intro p3 n3
  have e3:pe≠p3:=au XR n3
  refine ⟨pe,p3,_,_,rfl,rfl,by rw[aA e3];exact XR,ag,by rw[aX];show E.length+2<=_;lia,λp4 n4=>?_⟩
  have n3':H p3=none:=((s3.trans s4).tV n1).none n3 (Of.tV YR |>.ne n3)
  have bx3:=(Of.tV (o:= .lst (dU (L.eraseIdx r))) YR).tV (o:= .lst [V.str (S [L[r]]),V.str (S [az L[r]])]) (hb.ne n3')
  have sx3:=((s3.trans s4).tV (o:= .lst (dU (L.eraseIdx r))) n1).tV (o:= .lst [V.str (S [L[r]]),V.str (S [az L[r]])]) n3'
  have n4':H p4=none:=sx3.none n4 (bx3.ne n4)
  have h14:p1≠p4:=λz=>by rw[<-z]at n4;by_cases z3:p1=p3<;>simp[upd,z3]at n4
  have h13:p1≠p3:=λz=>by rw[<-z,ag]at n3;cases n3
  refine Xp _ _ ⟨p4,L.eraseIdx r,E++[L[r],az L[r]],_,_,rfl,yw.turn DZ PK,by rw[aA h14,aA h13,ag],?_,h14,n4',bx3.tV (hb.ne n4'),sx3.tV n4'⟩
  rw[ag, <-M0]
  rfl
 ·rintro σ H2 ⟨pe,L,E,kv,lv,rfl,yw,xx,lL,n1e,YS,vf,s3⟩
  have Sf:=yw.el
  have Ls:=hb.ne YS
  walk_at "rd"
  refine ⟨λm σ H'=>∃F E':c0,σ=[some (.ref b),some (.int pU),some (.int top),some (.ref p1),some (.ref pe),kv,lv,some (.str (S F))]/\m=E'.length/\(F++E').Perm E/\H' pe=some (.lst (dU E'))/\dW H' b/\aV b H H',⟨_,[],E,rfl,rfl,Qe5 _,lL,vf,s3⟩,?_⟩
  rintro m σ H3 ⟨F,E',rfl,rfl,vO,Oi,Of,s4⟩
  have hlen:=vO.length_eq
  rw[X4]at hlen
  have mZ:(pU:Int)+n<=9:=by lia
  have aaU:E.length<=100:=by rw[Sf];lia
  walk_at "rd"
  refine ⟨pe,_,rfl,.inl (bC.of Oi),_,_,rfl,rfl,_,rfl,cw (λe=>?_) (λe=>?_)⟩
  ·have e':(0:Int)<((dU E':):Nat):=of_decide_eq_true e
   rw[aX]at e'
   refine ⟨_,rfl,_,rfl,.inl ⟨rfl,_,bC.of Oi⟩,?_⟩
   walk_at "rd"
   refine ⟨pe,_,rfl,.inl (bC.of Oi),b,_,rfl,Of,by rw[aX];lia,by rw[aX];lia,λr H4 PK YQ s5=>?_⟩
   rw[aX]at PK
   have hr5:r<E'.length:=by lia
   refine ⟨pe,_,_,r,_,rfl,rfl,s5 _ _ Oi Ls,(),(),by rw[aX,seqIndex_of () (),Qap],Jg hr5,?_⟩
   rw[xg]
   have hp:=m_ (Qy hr5)
   have jC:=hp.length_eq
   rw[Qa9]at jC
   refine ⟨F,_,rfl,rfl,by show F.length+1<=_;lia,(E'.eraseIdx r:),(),F++[E'[r]],E'.eraseIdx r,rfl,rfl,?_,ag,YQ.tV Ls,(s4.trans s5).tV YS⟩
   rw[Qac]
   exact (Qcd F hp).trans vO
  ·have e':E'=[]:=by
    cases E' with
    | nil=>rfl
    | cons c r=>exact absurd (decide_eq_true (by rw[aX];show (0:Int)<(((r:)+1:Nat):Int);lia)) e
   subst e'
   rw[Qbh]at vO
   have DJ:=vO.length_eq
   refine ⟨_,rfl,q F H3 (yw.yd.perm vO.symm) ?_ ?_ Of s4⟩
   ·rw[DJ,Sf];lia
   ·rw[DJ,Sf];lia
theorem SO:bp P w K mg base eL 15 Uj U4 ["_law_script"] (pB K):=by
 have SQ:=Oh (P:=P) (w:=w) (base:=base) T
 have Oj:=Lm (P:=P) (w:=w) (base:=base) T
 have dz:=o4 (P:=P) (w:=w) (base:=base) T
 have Ln:=G2 (P:=P) (w:=w) (base:=base) T
 have E9:=Lk (P:=P) (w:=w) (base:=base) T
 have Lo:=G1 (P:=P) (w:=w) (base:=base) T
 refine T.F53.fn.ok lA (λvs H Q E h=>MZ h) 91
 refine let Z9:TS:=_;let Z8:TS:=_;let Z7:TS:=_;let Z6:TS:=_;let Z5:TS:=_;let Z4:TS:=_;let Z3:TS:=_;let Z2:TS:=_;let Z1:TS:=_;let Z0:TS:=_;⟨_,(ab (cJ PassesOwn.never rfl (gu rfl T.z_range (ae (aC bu ak (eI K T.z_len (cD (Ah K rfl) 124 (cb ak) (cb ak)))))) (aK (i:=1) lA.nd rfl 125) (ah Z0 (ab (ao (i:=2) lA.nd (ai SQ T.F46 hr (aa 124 (ae 138))))
   (ah Z1 (ab (ao (i:=3) lA.nd (ai Oj T.F49 hr (aa (pv 2) (aa ak (ae ak)))))
   (ah Z2 (ab (ao (i:=4) lA.nd (aC cP (ai dz T.Hk hr (aa (pv 2) (ae ak))) ak))
   (ah Z3 (ab (ao (i:=5) lA.nd (ai Ln T.F51 hr (aa (pv 2) (ae (pv 3)))))
   (ah Z4 (ab (ao (i:=6) lA.nd (ai E9 T.F50 hr (aa (pv 2) (aa (pv 3) (ae ak)))))
   (ah Z5 (ab (cM (bf m8 (ai dz T.Hk hr (aa (pv 2) (ae ak))) ak (aW _)) (ah Z6 (aj (ao (i:=6) lA.nd (aC lJ (pv 5) (cD qW (pv 5) fB (cb (aC fW ak (ai dz T.Hk hr (aa (pv 2) (ae ak)))))))))) bK)
   (ah Z7 (aj (cM (Hs (fV (ai Lo T.F52 hr (aa (pv 3) (aa (pv 5) (aa (pv 4) (aa (pv 6) (ae (ai E9 T.F50 hr (aa (pv 2) (aa (pv 3) (ae ak)))))))))))) (ah Z8 (aj (aG Hr))) bK))))))))))))))))
   (ah Z9 (aj (aG Hr)))),?_⟩
 obtain ⟨a,ns,rfl,hS,hl,q⟩:=h
 have hs:=Zs1
 refine ⟨_,rfl,_,rfl,_,rfl,a,_,rfl,hS,λp1 n1=>?_⟩
 have hc4:(vn (ns.map V.int) (some 2) (some 6):)<=4:=by unfold vn;rw[Qai];exact Qbn (Nat.min_le_left _ _) (by have e1:∀n d:Nat,HT.lI n d (some ((2:Nat):Int))=min 2 n:=λn d=>HT.hJ _ _ _;have e2:∀n d:Nat,HT.lI n d (some ((6:Nat):Int))=min 6 n:=λn d=>HT.hJ _ _ _;show HT.lI _ _ (some ((6:Nat):Int)) - HT.lI _ _ (some ((2:Nat):Int))<=4;rw[e1,e2];lia)
 refine ⟨p1,_,rfl,.inl (bC.of ag),_,_,rfl,rfl,?_⟩
 have s1:=aq.upd (o:= .lst (vn (ns.map V.int) (some 2) (some 6))) n1
 generalize (vn (ns.map V.int) (some 2) (some 6):)=m at hc4 ⊢
 generalize upd H p1 (.lst (vn (ns.map V.int) (some 2) (some 6)))=H1 at s1 ⊢
 refine ⟨_,rfl,(),(),?_⟩
 rw[show ((2:Int)+(m:Int)).toNat=2+m by lia]
 refine let gi:Nat->L2.St->Hp->Prop:=(λi σ H'=>∃v1 v2 v3 v4 v5 v6:Option V,σ=[some (.ref a),v1,v2,v3,v4,v5,v6]/\aq H H');gw gi ⟨none,none,none,none,none,none,rfl,s1⟩ ?_ ?_
 ·rintro i σ H2 hi ⟨v1,v2,v3,v4,v5,v6,rfl,s2⟩
  refine ⟨_,rfl,_,rfl,a,ns,i,by rw[Qdv];rfl,s2.seq hS,(),λb H3 nb bx s3=>?_⟩
  refine ⟨_,rfl,b,2,4,rfl,bx,∅,∅,∅,λy H4 hy hy1 hy2 bx4 s4=>?_⟩
  have OW:y≠[]:=λz=>by rw[z]at hy1;simp at hy1
  refine ⟨_,rfl,b,7,rfl,bx4,∅,∅,λtk H5 htk bx5 s5=>?_⟩
  walk_at"Z"
  have ht:((tk:Int) - 3).natAbs<=3:=by lia
  refine ⟨_,rfl,_,rfl,b,y,rfl,bx5,hy,OW,(),λal H6 sa o9 Ai bx6 sa_=>?_⟩
  refine ⟨_,rfl,_,rfl,b,y,6,rfl,bx6,OW,(),∅,λw H7 hw wH bx7 s7=>?_⟩
  refine ⟨_,rfl,b,4,rfl,bx7,∅,∅,λk1 H8 yp bx8 s8=>?_⟩
  have s38:=s4.trans (s5.trans (sa_.trans (s7.trans s8)))
  have nb2:=nb
  refine ⟨_,_,rfl,rfl,_,rfl,?_⟩
  refine aak (y:=y) (b:=b) (H2:=H3) (P:=λu H6=>Z7 { nx:=gi (i+1),rt:=Q,bk:=Z9 { nx:=λx H'=>Q V.g7 H',rt:=Q },ct:=gi (i+1) } [some (.ref a),some (.int (0+(i:Int))),some (.ref b),some (.str (S y)),some (.int ((tk:Int) - 3)),some (.str (S al)),some (.str (S u))] H6) ?_ ?_
  ·intro key
   refine cw (λz=>?_) (λz=>key w H8 hw () bx8 s38)
   refine ⟨_,rfl,_,rfl,_,rfl,b,2,rfl,bx8,∅,∅,λk2 H9 ve bx9 s9=>?_⟩
   refine ⟨_,_,rfl,rfl,.inl ⟨∅,∅⟩,_,rfl,al,rfl,(),?_⟩
   have N9:=Mp al none (some (3*(k2:Int)))
   have hci:∀c∈cut al none (some (3*(k2:Int))),c∈y:=λc hc=>sa.cn c (M3 hc)
   generalize cut al none (some (3*(k2:Int)))=r at N9 hci ⊢
   refine ⟨_,_,rfl,rfl,(),?_⟩
   refine key (al++r) H9 (λc hc=>(Qan.mp hc).elim (sa.cn c) (hci c)) (by rw[X4];lia) bx9 (s38.trans s9)
  ·intro u H9 hu Py bx9 s9
   refine ⟨_,rfl,_,rfl,_,rfl,_,rfl,_,rfl,_,rfl,b,y,6,rfl,bx9,OW,(),∅,λv XF hv XN aaV Oc=>?_⟩
   refine ⟨y,al,u,v,_,rfl,hy,(),sa,(),Ai,hu,Py,hv,(),ht,λYN Va=>?_⟩
   refine ⟨_,rfl,M1 rfl ?_⟩
   exact ⟨_,_,_,_,_,_,rfl,s2.trans (aV.same nb s3 (s9.trans (Oc.trans (aV.of Va))))⟩
 ·rintro σ H2 ⟨v1,v2,v3,v4,v5,v6,rfl,s2⟩
  exact q H2
end
theorem bS{M:List Value->Prop}(h:M []):∀us:List Value,(us:)=0->M us
 | [],_=>h
theorem aI{M:List Value->Prop}(h:∀(a:Value) (us:List Value),(us:)=n->M (a::us)):∀us:List Value,(us:)=n+1->M us
 | a::us,e=>h a us (Nat.succ.inj e)
def Dn(K:c7)(x:Str)(st:Stmt)(f:Addr)(fd:FuncData):Prop:=PySem.W.nsIn K mainGlobals x=some (some (.ref f))/\Mj K x x st f fd
theorem dn{x:Str}{st:Stmt}{f:Addr}{oc:Value}{od an:Option Addr}{Ly:Array (Option Value)}{kV doc pm cI ct:Value}(a:PySem.W.nsIn K mainGlobals x=some (some (.ref f)))(l:K.lookup f=some ⟨oc,od,.func (PySem.W.fnOf x x (gm st) (fD st) (ay st) .none kV doc pm an cI ct),Ly⟩)(c:PySem.W.codeIn K cI x=true)(k:PySem.W.keepIn K (.ref f)=true):Dn K x st f (PySem.W.fnOf x x (gm st) (fD st) (ay st) .none kV doc pm an cI ct):=⟨a,B7 l c k⟩
theorem fL{h:Heap}{x:Str}{st:Stmt}{f:Addr}{fd:FuncData}{ps:List Str}(X:K.In h)(G:h.Ns mainGlobals mg)(a:Dn K x st f fd)(b:∀(kV doc pm:Value) (an:Option Addr) (cI ct:Value) (us:List Value),(us:)=(ps:)->bindArgs (PySem.W.fnOf x x (gm st) (fD st) (ay st) .none kV doc pm an cI ct) ⟨us,[]⟩=pure (ps.zip us)):a_ K mg x st ps f fd:=⟨a.2,Qf8 X G a.1,a.2.binds b⟩
theorem all_mk{l:PySem.W.OpenLaw}{w:World}{h:Heap}{f0 f1 f2 f3 f4 f5 f6 f7 f8 f9 Tr Ts Tt Tu Tv Tw Tx Tz TB TC TF K0 K1 TH TJ TK TL TM TN TQ TR TU TV TX TY TZ T1 T3 T4 T5 T6 T7 T8 T9 T_ Ua Ub Uc Ud Ue Ug Uh Ui Uj aM ba mU iK:Addr}(X:K.In h)(G:h.Ns mainGlobals mg)(Yk:mg "law"=some (.ref fa))
  {d0 d1 d2 d3 d4 d5 d6 d7 d8 d9 Uk Ul Um Uo Up Uq Ur Us Ut Uu Uv Uw Ux Uy Uz UA UB UC UD UE UG UH UI UJ UK UL UM UN UO UP UQ UR US UT UU UW UX UY UZ U0 U1 U2 U3 U4:FuncData}
  {SR SU Ol Om:Option Addr} {SV Oo:Array (Option Value)} {S0 S3 S4 S5 Lp S6 Oq Ot Ou Ov E_ Ow:Value}
  (a0:Dn K "contrary" nq f0 d0)
  (a1:Dn K "turned" uM f1 d1)
  (a2:Dn K "bands" zg f2 d2)
  (a3:Dn K "steps_round" iF f3 d3)
  (a4:Dn K "goes_round" jr f4 d4)
  (a5:Dn K "strands_at" js f5 d5)
  (a6:Dn K "points" uN f6 d6)
  (a7:Dn K "corner_points" f_ f7 d7)
  (a8:Dn K "corners" qm f8 d8)
  (a9:Dn K "corners_meet" gT f9 d9)
  (a10:Dn K "chord_starts" gU Tr Uk)
  (a11:Dn K "number_in" kX Ts Ul)
  (a12:Dn K "count_meetings" fz Tt Um)
  (a13:Dn K "strands_in" jt Tu Uo)
  (a14:Dn K "corner_ends" iG Tv Up)
  (a15:Dn K "shortened" kY Tw Uq)
  (a16:Dn K "shortest" nu Tx Ur)
  (a17:Dn K "ring" Dj Tz Us)
  (a18:Dn K "loop" Dk TB Ut)
  (a19:Dn K "root" Dm TC Uu)
  (a20:Dn K "corner_steps" gW TF Uv)
  (a21:Dn K "steps_ahead" iH K0 Uw)
  (a22:Dn K "steps_back" ju K1 Ux)
  (a23:Dn K "parting" qp TH Uy)
  (a24:Dn K "side_of" qq TJ Uz)
  (a25:Dn K "comes_ahead" iI TK UA)
  (a26:Dn K "number_among" gX TL UB)
  (a27:Dn K "seen_strand" iJ TM UC)
  (a28:Dn K "taut_order" jv TN UD)
  (a29:Dn K "taut" Dp TQ UE)
  (a30:Dn K "least" zh TR UG)
  (a31:Dn K "own" KW TU UH)
  (a32:Dn K "is_lone" qt TV UI)
  (a33:Dn K "may_follow" jw TX UJ)
  (a34:Dn K "one_longer" jx TY UK)
  (a35:Dn K "lone_loops" jy TZ UL)
  (a36:Dn K "met_along" kZ T1 UM)
  (a37:Dn K "put_in" uO T3 UN)
  (a38:Dn K "wound_lone" jz T4 UO)
  (a39:Dn K "look_lone" k_ T5 UP)
  (a40:Dn K "wound" zi T6 UQ)
  (a41:Dn K "net" KY T7 UR)
  (a42:Dn K "crosses" qu T8 US)
  (a43:Dn K "table_row" lh T9 UT)
  (a44:Dn K "table" zj T_ UU)
  (a45:Dn K "crossed" qv Ua UW)
  (a46:Dn K "_law_box" Dq Ub UX)
  (a47:Dn K "_law_take" zk Uc UY)
  (a48:Dn K "_law_other" uQ Ud UZ)
  (a49:Dn K "_law_yard" zm Ue U0)
  (a50:Dn K "_law_word" zo Ug U1)
  (a51:Dn K "_law_along" uR Uh U2)
  (a52:Dn K "_law_right" uS Ui U3)
  (a53:Dn K "law" KZ Uj U4)
  (q_Seen:PySem.W.nsIn K mainGlobals "Seen"=some (some (.ref aM)))
  (pg_Seen:PySem.W.plainGet K aM Str.empty=true)
  (hd_Seen:PySem.W.hasDictIn K aM=true)
  (po_Seen:PySem.W.plainOver K aM=true)
  (sa_Seen:PySem.W.findIn K (.ref aM) "__setattr__"=some (some (.builtin "object.__setattr__")))
  (n_Seen_strand:PySem.W.findIn K (.ref aM) "strand"=some none)
  (n_Seen_way:PySem.W.findIn K (.ref aM) "way"=some none)
  (n_Seen_place:PySem.W.findIn K (.ref aM) "place"=some none)
  (q_Way:PySem.W.nsIn K mainGlobals "Way"=some (some (.ref ba)))
  (pg_Way:PySem.W.plainGet K ba Str.empty=true)
  (hd_Way:PySem.W.hasDictIn K ba=true)
  (po_Way:PySem.W.plainOver K ba=true)
  (sa_Way:PySem.W.findIn K (.ref ba) "__setattr__"=some (some (.builtin "object.__setattr__")))
  (n_Way_size:PySem.W.findIn K (.ref ba) "size"=some none)
  (n_Way_root_size:PySem.W.findIn K (.ref ba) "root_size"=some none)
  (n_Way_leads:PySem.W.findIn K (.ref ba) "leads"=some none)
  (n_Way_onward:PySem.W.findIn K (.ref ba) "onward"=some none)
  (n_Way_backward:PySem.W.findIn K (.ref ba) "backward"=some none)
  (mk_Way:PySem.W.makesIn K ba=true)
  (qi_Way:PySem.W.findIn K (.ref ba) "__init__"=some (some (.ref mU)))
  (fi_Way:PySem.W.isFn K (.ref mU)=true)
  (kc_Way:PySem.W.keepIn K (.ref ba)=true)
  (li_Way:K.lookup mU=some ⟨S0,SR,.func (PySem.W.fnOf "__init__" "Way.__init__" (gm lZ) (fD lZ) (ay lZ) .none S3 S4 S5 SU Lp S6),SV⟩)
  (ci_Way:PySem.W.codeIn K Lp "Way.__init__"=true)
  (ki_Way:PySem.W.keepIn K (.ref mU)=true)
  (mk_Seen:PySem.W.makesIn K aM=true)
  (qi_Seen:PySem.W.findIn K (.ref aM) "__init__"=some (some (.ref iK)))
  (fi_Seen:PySem.W.isFn K (.ref iK)=true)
  (kc_Seen:PySem.W.keepIn K (.ref aM)=true)
  (li_Seen:K.lookup iK=some ⟨Oq,Ol,.func (PySem.W.fnOf "__init__" "Seen.__init__" (gm jc) (fD jc) (ay jc) .none Ot Ou Ov Om E_ Ow),Oo⟩)
  (ci_Seen:PySem.W.codeIn K E_ "Seen.__init__"=true)
  (ki_Seen:PySem.W.keepIn K (.ref iK)=true)
  (z_abs:PySem.W.nsIn K mainGlobals "abs"=some none)
  (z_enumerate:PySem.W.nsIn K mainGlobals "enumerate"=some none)
  (z_int:PySem.W.nsIn K mainGlobals "int"=some none)
  (z_len:PySem.W.nsIn K mainGlobals "len"=some none)
  (z_list:PySem.W.nsIn K mainGlobals "list"=some none)
  (z_max:PySem.W.nsIn K mainGlobals "max"=some none)
  (z_min:PySem.W.nsIn K mainGlobals "min"=some none)
  (z_range:PySem.W.nsIn K mainGlobals "range"=some none)
  (z_reversed:PySem.W.nsIn K mainGlobals "reversed"=some none)
  (z_sorted:PySem.W.nsIn K mainGlobals "sorted"=some none)
  (z_str:PySem.W.nsIn K mainGlobals "str"=some none)
  (z_sum:PySem.W.nsIn K mainGlobals "sum"=some none)
  (z_tuple:PySem.W.nsIn K mainGlobals "tuple"=some none)
  (z_zip:PySem.W.nsIn K mainGlobals "zip"=some none):
  ∃fd:FuncData,(∀(s:Shared) (v:Value),BindsTo s fd ⟨[v],[]⟩ [("_law_script",v)])/\∀base:Heap,K.In base->base.Ns mainGlobals mg->bp l.prog w K mg base eL 15 fa fd ["_law_script"] (pB K):=by
 have e:=Yk.symm.trans (Qf8 X G a53.1)
 cases e
 obtain ⟨_,_,_,_,_,_,_,_,_,rfl,_⟩:=a53.2.ex
 have Lq:=B7 (st:=lZ) li_Way ci_Way ki_Way
 have S7:=Lq.binds (ps:=["self","yard","word","longest"]) λ_ _ _ _ _ _=>aI λ_=>aI λ_=>aI λ_=>aI λ_=>bS rfl
 have Fb:=B7 (st:=jc) li_Seen ci_Seen ki_Seen
 have Ox:=Fb.binds (ps:=["self","strand","way","place"]) λ_ _ _ _ _ _=>aI λ_=>aI λ_=>aI λ_=>aI λ_=>bS rfl
 have T:Txt K mg _ _ _ _ _ _ _ _ _ _ _ _ _ _ _ _ _ _ _ _ _ _ _ _ _ _ _ _ _ _ _ _ _ _ _ _ _ _ _ _ _ _ _ _ _ _ _ _ _ _ _ _ _ _ _ _ _ _ _ _ _ _ _ _ _ _ _ _ _ _ _ _ _ _ _ _ _ _ _ _ _ _ _ _ _ _ _ _ _ _ _ _ _ _ _ _ _ _ _ _ _ _ _ _ _ _ _ _ _ _ _ _ _ _:=⟨fL X G a0 λ_ _ _ _ _ _=>aI λ_=>bS rfl,fL X G a1 λ_ _ _ _ _ _=>aI λ_=>bS rfl,fL X G a2 λ_ _ _ _ _ _=>aI λ_=>bS rfl,fL X G a3 λ_ _ _ _ _ _=>aI λ_=>aI λ_=>aI λ_=>bS rfl,fL X G a4 λ_ _ _ _ _ _=>aI λ_=>aI λ_=>aI λ_=>aI λ_=>bS rfl,fL X G a5 λ_ _ _ _ _ _=>aI λ_=>aI λ_=>aI λ_=>bS rfl,fL X G a6 λ_ _ _ _ _ _=>aI λ_=>aI λ_=>bS rfl,fL X G a7 λ_ _ _ _ _ _=>aI λ_=>aI λ_=>aI λ_=>bS rfl,fL X G a8 λ_ _ _ _ _ _=>aI λ_=>aI λ_=>bS rfl,fL X G a9 λ_ _ _ _ _ _=>aI λ_=>aI λ_=>bS rfl,fL X G a10 λ_ _ _ _ _ _=>aI λ_=>bS rfl,fL X G a11 λ_ _ _ _ _ _=>aI λ_=>aI λ_=>bS rfl,fL X G a12 λ_ _ _ _ _ _=>aI λ_=>bS rfl,fL X G a13 λ_ _ _ _ _ _=>aI λ_=>aI λ_=>bS rfl,fL X G a14 λ_ _ _ _ _ _=>aI λ_=>aI λ_=>bS rfl,fL X G a15 λ_ _ _ _ _ _=>aI λ_=>bS rfl,fL X G a16 λ_ _ _ _ _ _=>aI λ_=>bS rfl,fL X G a17 λ_ _ _ _ _ _=>aI λ_=>bS rfl,fL X G a18 λ_ _ _ _ _ _=>aI λ_=>bS rfl,fL X G a19 λ_ _ _ _ _ _=>aI λ_=>bS rfl,fL X G a20 λ_ _ _ _ _ _=>aI λ_=>aI λ_=>aI λ_=>bS rfl,fL X G a21 λ_ _ _ _ _ _=>aI λ_=>aI λ_=>aI λ_=>bS rfl,fL X G a22 λ_ _ _ _ _ _=>aI λ_=>aI λ_=>aI λ_=>bS rfl,fL X G a23 λ_ _ _ _ _ _=>aI λ_=>aI λ_=>aI λ_=>aI λ_=>bS rfl,fL X G a24 λ_ _ _ _ _ _=>aI λ_=>bS rfl,fL X G a25 λ_ _ _ _ _ _=>aI λ_=>aI λ_=>bS rfl,fL X G a26 λ_ _ _ _ _ _=>aI λ_=>aI λ_=>bS rfl,fL X G a27 λ_ _ _ _ _ _=>aI λ_=>aI λ_=>aI λ_=>bS rfl,fL X G a28 λ_ _ _ _ _ _=>aI λ_=>aI λ_=>aI λ_=>bS rfl,fL X G a29 λ_ _ _ _ _ _=>aI λ_=>aI λ_=>bS rfl,fL X G a30 λ_ _ _ _ _ _=>aI λ_=>aI λ_=>bS rfl,fL X G a31 λ_ _ _ _ _ _=>aI λ_=>aI λ_=>bS rfl,fL X G a32 λ_ _ _ _ _ _=>aI λ_=>aI λ_=>bS rfl,fL X G a33 λ_ _ _ _ _ _=>aI λ_=>aI λ_=>bS rfl,fL X G a34 λ_ _ _ _ _ _=>aI λ_=>aI λ_=>bS rfl,fL X G a35 λ_ _ _ _ _ _=>aI λ_=>aI λ_=>bS rfl,fL X G a36 λ_ _ _ _ _ _=>aI λ_=>aI λ_=>aI λ_=>bS rfl,fL X G a37 λ_ _ _ _ _ _=>aI λ_=>aI λ_=>aI λ_=>aI λ_=>bS rfl,fL X G a38 λ_ _ _ _ _ _=>aI λ_=>aI λ_=>aI λ_=>aI λ_=>bS rfl,fL X G a39 λ_ _ _ _ _ _=>aI λ_=>aI λ_=>bS rfl,fL X G a40 λ_ _ _ _ _ _=>aI λ_=>aI λ_=>aI λ_=>aI λ_=>bS rfl,fL X G a41 λ_ _ _ _ _ _=>aI λ_=>aI λ_=>bS rfl,fL X G a42 λ_ _ _ _ _ _=>aI λ_=>aI λ_=>aI λ_=>bS rfl,fL X G a43 λ_ _ _ _ _ _=>aI λ_=>aI λ_=>bS rfl,fL X G a44 λ_ _ _ _ _ _=>aI λ_=>bS rfl,fL X G a45 λ_ _ _ _ _ _=>aI λ_=>aI λ_=>aI λ_=>bS rfl,fL X G a46 λ_ _ _ _ _ _=>aI λ_=>aI λ_=>bS rfl,fL X G a47 λ_ _ _ _ _ _=>aI λ_=>aI λ_=>bS rfl,fL X G a48 λ_ _ _ _ _ _=>aI λ_=>bS rfl,fL X G a49 λ_ _ _ _ _ _=>aI λ_=>aI λ_=>aI λ_=>bS rfl,fL X G a50 λ_ _ _ _ _ _=>aI λ_=>aI λ_=>aI λ_=>bS rfl,fL X G a51 λ_ _ _ _ _ _=>aI λ_=>aI λ_=>bS rfl,fL X G a52 λ_ _ _ _ _ _=>aI λ_=>aI λ_=>aI λ_=>aI λ_=>aI λ_=>bS rfl,fL X G a53 λ_ _ _ _ _ _=>aI λ_=>bS rfl,Qf8 X G q_Seen,⟨pg_Seen,hd_Seen,po_Seen,sa_Seen⟩,n_Seen_strand,n_Seen_way,n_Seen_place,Qf8 X G q_Way,⟨pg_Way,hd_Way,po_Way,sa_Way⟩,n_Way_size,n_Way_root_size,n_Way_leads,n_Way_onward,n_Way_backward,⟨mk_Way,qi_Way,fi_Way,kc_Way⟩,Lq,S7,⟨mk_Seen,qi_Seen,fi_Seen,kc_Seen⟩,Fb,Ox,Qb2 X G z_abs,Qb2 X G z_enumerate,Qb2 X G z_int,Qb2 X G z_len,Qb2 X G z_list,Qb2 X G z_max,Qb2 X G z_min,Qb2 X G z_range,Qb2 X G z_reversed,Qb2 X G z_sorted,Qb2 X G z_str,Qb2 X G z_sum,Qb2 X G z_tuple,Qb2 X G z_zip⟩
 exact ⟨_,λs v=> .of_eq rfl,λbase _ _=>SO T⟩
theorem walk{l:PySem.W.OpenLaw}{q:Program}{loose:List Str}{XP:(Str->Option Value)->Heap->Prop}{YP:World->Heap->Prop}{d:DefRec}{K:Params->c7}(hn:l.most=some 63)(VR:d.params.defaults=[])
  (hY:∀(w:World) (h:Heap),YP w h->(K w.params).In h)
  (F:∀(w:World) (mg:Str->Option Value) (fa:Addr) (h:Heap),(K w.params).In h->h.Ns mainGlobals mg->mg d.name=some (.ref fa)->
   ∃fd:FuncData,(∀(s:Shared) (u:Value),BindsTo s fd ⟨[u],[]⟩ [("_law_script",u)])/\∀base:Heap,(K w.params).In base->base.Ns mainGlobals mg->bp l.prog w (K w.params) mg base eL 15 fa fd ["_law_script"] (pB (K w.params))):
  PySem.W.WalkO q loose XP YP l.row.toRowW d [] (λf vs=>PySem.call f vs):=
 L2.DL (n:=63) (k:=15) (x:="_law_script") (CX:=λ_=>eL) (sp:=λw=>pB (K w.params)) hn ∅ VR ⟨rfl,∅,∅,rfl⟩ hY F (λ_ _ a ns hl _ hS=>⟨a,ns,rfl,hS,hl,λ_=>rfl⟩) λ_ _ _ _ _ z=>z
end My
structure PySem.W.Fast:Prop where (tw10012110330344135989 tw10167374426017862931 tw10225679260243681678 tw10293598670200433709 tw10493190560909112839 tw10684127303881413331 tw10708509023979828397 tw10838528794716052223 tw11080664955293615311 tw11149908359267752998 tw11180172345944402543 tw11252144294328925204 tw11257124622473987502 tw11274665707581623052 tw11400586101679891561 tw11469985130385413197 tw1163825106505635880 tw11663865141013587128 tw1169863213717048183 tw11730887685559418096 tw11778908860759044078 tw11968906888395177951 tw12083778870149003027 tw12384408895204470148 tw12475043794219311194 tw12478907757224715292 tw12623609624799669431 tw12905338683734093299 tw13085117146188722150 tw13096755943475410705 tw13211671084134340840 tw13435073616306024784 tw13498159447439048118 tw13972426360088843416 tw14002957014237002741 tw14010010539925780106 tw14204581596557875258 tw14236881630872560159 tw14280340386460917964 tw14325553692290379544 tw14429516000546131929 tw14436082590740060610 tw14463502656037857600 tw14501613644863654246 tw14556869775332364105 tw14568192297869899327 tw14652447935540735793 tw14661755442529553677 tw14719389675378002451 tw14762040992363127803 tw14869157321077854554 tw14935575128947190886 tw15011096175232581295 tw15031449149499124924 tw15169648838229570813 tw15380764981321759897 tw15399506765893462032 tw1553599821165012877 tw15642908632511095139 tw15717467217899795493 tw15739838542136330757 tw15750384179604313951 tw15798146826096329613 tw1588685958144257686 tw15913420468170763807 tw16125703578896319995 tw16213720412304063146 tw1632810166817224051 tw16407147148465928238 tw16508482634194465938 tw1654827384765497488 tw16648589220953076943 tw16709653899078760670 tw1671687726098729513 tw16736069512418076037 tw16749831633181952919 tw16784831166838085070 tw1708139073408341365 tw17200766345699539606 tw17250452114538565214 tw17388393489255711974 tw17529668909254339507 tw17562560480789321899 tw1758771183770908901 tw17680324073862646843 tw17681387886342751751 tw17737548997057764998 tw17741392807991597476 tw1778928332139665783 tw17920915208946198745 tw17964087059425400989 tw17982849144444329334 tw18096143773338220063 tw18208632094381345208 tw18257728217851419545 tw18296356893325830095 tw18395732457525600324 tw197969246361109924 tw2116364426461392959 tw2316586506429544326 tw2376026983910929850 tw2413250678173536400 tw2421174367431875905 tw2421360609653625684 tw2510445752601920963 tw2510877164214736399 tw2536458425611718230 tw2638227417031167234 tw2690424717588603858 tw2813749349043104159 tw2903401191687190989 tw2939119320949879976 tw3021465459790155628 tw306016881996779808 tw3111475205516137350 tw3395468750646780320 tw3498788970391684527 tw3720413245348031412 tw3729691756363272648 tw3804664047753611944 tw3955971973330678124 tw4103086187688509423 tw4175480231833065398 tw4203746426180373945 tw4241614894468880151 tw4337939714248804978 tw4357931462856919310 tw4538353505701054402 tw4609854242523286356 tw4752568541671366634 tw4771196607041671345 tw4791138547316734846 tw4805267117560069043 tw4835020199781937073 tw5038349913550774633 tw5194773184437939801 tw5329197144237558157 tw5407515510185060719 tw5461672827336316904 tw5465248924697725979 tw56731567705954354 tw5707106397216162099 tw5730771722049211161 tw5781054533278272351 tw5806097601693167811 tw5883003337747801410 tw6011114839068173775 tw6015972933018192482 tw6096299856727636718 tw6150534421973865453 tw6238348257763344797 tw625661843976247935 tw6263306054632644700 tw6313214333195359894 tw6349740351838723123 tw6405997758682331252 tw6519530433994874067 tw6648953698202156064 tw6706767444897778608 tw6888359179310640750 tw7023700109722329375 tw7046611518942992255 tw7279114350262495389 tw7343682098845574990 tw73555041567803295 tw7484714332638100602 tw7518107317329875111 tw7558898533781971632 tw760893791855742403 tw7692825397778486534 tw7711857962473982544 tw775169606310780532 tw7839918466127222978 tw7931050414019978036 tw8023863881741251246 tw8181864787035255930 tw8448485966489305819 tw8516583402602520502 tw8706448561505374518 tw8741115855964924227 tw8798721970130633458 tw8844866833450338879 tw8851151603193004478 tw8902924490755969051 tw8976132535848720990 tw8981658249375114588 tw9156830380714643276 tw9165254602980123071 tw9165324454769297150 tw9265678264068755240 tw9349432294478141497 tw9420170981301655133 tw9595077891664269065 tw9715063949759507008 tw9794422727249755808 tw9833519007009828058 tw991091267255127058 tw9913669784602211838 tw9960857187499932510 tw9963071086571137999:True)
open PySem PySem.W PyProof.Rows
set_option maxRecDepth 100000 in
set_option maxHeartbeats 0 in
theorem PySem.Challenge.cw_mustmeet_k84_whole_wound_nets_holds : PySem.Challenge.rw_mustmeet_k84_whole_wound_nets.Holds := by
 w_on;o_law;k_head;(case hw=>w_witness2)
 k_fill
 refine My.walk (l:=PySem.Challenge.rw_mustmeet_k84_whole_wound_nets) rfl rfl (fun w h Y=>PySem.W.kIn_of Y) ?F
 case F=>
  intro w mg fa h KX G hmg
  refine' My.all_mk KX G hmg (My.dn ?a0 ?l0 ?c0 ?k0) (My.dn ?a1 ?l1 ?c1 ?k1) (My.dn ?a2 ?l2 ?c2 ?k2) (My.dn ?a3 ?l3 ?c3 ?k3) (My.dn ?a4 ?l4 ?c4 ?k4) (My.dn ?a5 ?l5 ?c5 ?k5) (My.dn ?a6 ?l6 ?c6 ?k6) (My.dn ?a7 ?l7 ?c7 ?k7) (My.dn ?a8 ?l8 ?c8 ?k8) (My.dn ?a9 ?l9 ?c9 ?k9) (My.dn ?a10 ?l10 ?c10 ?k10) (My.dn ?a11 ?l11 ?c11 ?k11) (My.dn ?a12 ?l12 ?c12 ?k12) (My.dn ?a13 ?l13 ?c13 ?k13) (My.dn ?a14 ?l14 ?c14 ?k14) (My.dn ?a15 ?l15 ?c15 ?k15) (My.dn ?a16 ?l16 ?c16 ?k16) (My.dn ?a17 ?l17 ?c17 ?k17) (My.dn ?a18 ?l18 ?c18 ?k18) (My.dn ?a19 ?l19 ?c19 ?k19) (My.dn ?a20 ?l20 ?c20 ?k20) (My.dn ?a21 ?l21 ?c21 ?k21) (My.dn ?a22 ?l22 ?c22 ?k22) (My.dn ?a23 ?l23 ?c23 ?k23) (My.dn ?a24 ?l24 ?c24 ?k24) (My.dn ?a25 ?l25 ?c25 ?k25) (My.dn ?a26 ?l26 ?c26 ?k26) (My.dn ?a27 ?l27 ?c27 ?k27) (My.dn ?a28 ?l28 ?c28 ?k28) (My.dn ?a29 ?l29 ?c29 ?k29) (My.dn ?a30 ?l30 ?c30 ?k30) (My.dn ?a31 ?l31 ?c31 ?k31) (My.dn ?a32 ?l32 ?c32 ?k32) (My.dn ?a33 ?l33 ?c33 ?k33) (My.dn ?a34 ?l34 ?c34 ?k34) (My.dn ?a35 ?l35 ?c35 ?k35) (My.dn ?a36 ?l36 ?c36 ?k36) (My.dn ?a37 ?l37 ?c37 ?k37) (My.dn ?a38 ?l38 ?c38 ?k38) (My.dn ?a39 ?l39 ?c39 ?k39) (My.dn ?a40 ?l40 ?c40 ?k40) (My.dn ?a41 ?l41 ?c41 ?k41) (My.dn ?a42 ?l42 ?c42 ?k42) (My.dn ?a43 ?l43 ?c43 ?k43) (My.dn ?a44 ?l44 ?c44 ?k44) (My.dn ?a45 ?l45 ?c45 ?k45) (My.dn ?a46 ?l46 ?c46 ?k46) (My.dn ?a47 ?l47 ?c47 ?k47) (My.dn ?a48 ?l48 ?c48 ?k48) (My.dn ?a49 ?l49 ?c49 ?k49) (My.dn ?a50 ?l50 ?c50 ?k50) (My.dn ?a51 ?l51 ?c51 ?k51) (My.dn ?a52 ?l52 ?c52 ?k52) (My.dn ?a53 ?l53 ?c53 ?k53) ?q_Seen ?pg_Seen ?hd_Seen ?po_Seen ?sa_Seen ?n_Seen_strand ?n_Seen_way ?n_Seen_place ?q_Way ?pg_Way ?hd_Way ?po_Way ?sa_Way ?n_Way_size ?n_Way_root_size ?n_Way_leads ?n_Way_onward ?n_Way_backward ?mk_Way ?qi_Way ?fi_Way ?kc_Way ?li_Way ?ci_Way ?ki_Way ?mk_Seen ?qi_Seen ?fi_Seen ?kc_Seen ?li_Seen ?ci_Seen ?ki_Seen ?z_abs ?z_enumerate ?z_int ?z_len ?z_list ?z_max ?z_min ?z_range ?z_reversed ?z_sorted ?z_str ?z_sum ?z_tuple ?z_zip
  case a0|l0|c0|k0|a1|l1|c1|k1|a2|l2|c2|k2|a3|l3|c3|k3|a4|l4|c4|k4|a5|l5|c5|k5|a6|l6|c6|k6|a7|l7|c7|k7|a8|l8|c8|k8|a9|l9|c9|k9|a10|l10|c10|k10|a11|l11|c11|k11|a12|l12|c12|k12|a13|l13|c13|k13|a14|l14|c14|k14|a15|l15|c15|k15|a16|l16|c16|k16|a17|l17|c17|k17|a18|l18|c18|k18|a19|l19|c19|k19|a20|l20|c20|k20|a21|l21|c21|k21|a22|l22|c22|k22|a23|l23|c23|k23|a24|l24|c24|k24|a25|l25|c25|k25|a26|l26|c26|k26|a27|l27|c27|k27|a28|l28|c28|k28|a29|l29|c29|k29|a30|l30|c30|k30|a31|l31|c31|k31|a32|l32|c32|k32|a33|l33|c33|k33|a34|l34|c34|k34|a35|l35|c35|k35|a36|l36|c36|k36|a37|l37|c37|k37|a38|l38|c38|k38|a39|l39|c39|k39|a40|l40|c40|k40|a41|l41|c41|k41|a42|l42|c42|k42|a43|l43|c43|k43|a44|l44|c44|k44|a45|l45|c45|k45|a46|l46|c46|k46|a47|l47|c47|k47|a48|l48|c48|k48|a49|l49|c49|k49|a50|l50|c50|k50|a51|l51|c51|k51|a52|l52|c52|k52|a53|l53|c53|k53|q_Seen|pg_Seen|hd_Seen|po_Seen|sa_Seen|n_Seen_strand|n_Seen_way|n_Seen_place|q_Way|pg_Way|hd_Way|po_Way|sa_Way|n_Way_size|n_Way_root_size|n_Way_leads|n_Way_onward|n_Way_backward|mk_Way|qi_Way|fi_Way|kc_Way|li_Way|ci_Way|ki_Way|mk_Seen|qi_Seen|fi_Seen|kc_Seen|li_Seen|ci_Seen|ki_Seen|z_abs|z_enumerate|z_int|z_len|z_list|z_max|z_min|z_range|z_reversed|z_sorted|z_str|z_sum|z_tuple|z_zip=>k_is
