import PyProof.Rows.All
import Wide.All
import OpenK.AllK
import Wide.FinOn
import Lean
import PyProof.EqAt
import PyProof.EqKinds
import PyProof.TupleCall
import PySem.Challenge.RW_mustmeet_k34_whole_no_drawing_has_fewer
set_option maxHeartbeats 4000000
set_option Elab.async false
set_option linter.all false
set_option maxRecDepth 100000
set_option hygiene false
open PySem.W renaming Frag→Fr
abbrev Z:=List Nat
local macro_rules|`(term|($x :))=>`(($x).length)
local macro_rules|`(term|())=>`(by lia)
local macro_rules|`(term|$a|||$b)=>`(List.getD $a $b [])
local macro_rules|`(term|∅)=>`(by decide)
local macro_rules|`(term|⋯)=>`(by decide +kernel)
local macro_rules|`(tactic|walk_at"a")=>`(tactic|intro X hP hw hK hc i pins s σ H E I hf st hg)
local macro_rules|`(tactic|walk_at"b")=>`(tactic|intro pins s σ H x y v u Q I rx ry h)
local macro_rules|`(tactic|walk_at"c")=>`(tactic|have s0:∀(w:Z) (i:Int),sq w i 0=rd w i:=λw i=>by unfold sq;rw[show i+0=i by lia])
local macro_rules|`(tactic|walk_at"d")=>`(tactic|obtain ⟨f0,f1,f2,f3,f4,f5⟩:=hf it (by simp))
local macro_rules|`(tactic|walk_at"e")=>`(tactic|intro pins s σ H xs us Q I r h)
local macro_rules|`(tactic|walk_at"f")=>`(tactic|obtain ⟨t,rfl⟩:=rx)
local macro_rules|`(tactic|walk_at"g")=>`(tactic|refine bR (λz=>?_) (λz=>?_))
local macro_rules|`(tactic|walk_at"h")=>`(tactic|refine ⟨λi m σ H=>m=(xs:) - i/\i<=(xs:)/\Pv i σ H,⟨(xs:),by simp,Qac _,h0⟩,?_⟩)
local macro_rules|`(tactic|walk_at"i")=>`(tactic|intro pins s σ H Q I h)
local macro_rules|`(tactic|walk_at"j")=>`(tactic|have b0:∀(w:Z) (i:Int),bq w i 0=aB (rd w i):=λw i=>by unfold bq;rw[show i - 0=i by lia])
local macro_rules|`(tactic|walk_at"k")=>`(tactic|refine ⟨T,_,rfl,bW.of ae,rfl,_,_,rfl,_,_,rfl,rfl,?_⟩)
local macro_rules|`(tactic|walk_at"l")=>`(tactic|refine wpAny_bind (wpAny_callSpecial?_slot (name:=Str.ofString "__next__") hi.typeIs F.slot_tuple_iterator_next (wpAny_call_entry F.slot_tuple_iterator_next hi.typeIs F.entry_tuple_iterator_next ?_ (F.args_tuple_iterator_next_1 _))))
local macro_rules|`(tactic|walk_at"m")=>`(tactic|refine Call_ (gD I hg hm boot_enumerate (Qbj (cf (ha pos pins s σ H _ I h) λus s1 ⟨vs,H1,I1,r1,q1⟩=>?_) hs rfl)))
local macro_rules|`(tactic|walk_at"n")=>`(tactic|have W:=WalksT.enumerateD D e Aj (by simp;exact ⟨Aj,Ne.symm Qn⟩) (by simp))
local macro_rules|`(tactic|walk_at"o")=>`(tactic|refine wpAny_bind (wpAny_of_eq (a:=Unit.unit) (by first | rfl | kernel_rfl) ?_))
local macro_rules|`(tactic|walk_at"p")=>`(tactic|obtain ⟨z,its,n,r,hl,e⟩:=I.rH hH)
local macro_rules|`(tactic|walk_at"q")=>`(tactic|intro pins s σ H x xs v us Q I rx rv h)
local macro_rules|`(tactic|walk_at"r")=>`(tactic|intro pins s σ H x vs v us Q I rx rv h)
local macro_rules|`(tactic|walk_at"s")=>`(tactic|simp only[Qb6,Qbf,if_false])
local macro_rules|`(tactic|walk_at"t")=>`(tactic|have s0:∀(w:Z) (i:Int),sq w i 0=rd w i:=λw i=>by unfold sq;rw[show i+0=i by omega])
local macro_rules|`(tactic|walk_at"u")=>`(tactic|exact λp2 n2=>q p2 _ (aj.free (aj.upd n1) n2) ⟨_,_,ae⟩ ((aj.upd n1).trans (aj.upd n2)))
local macro_rules|`(tactic|walk_at"v")=>`(tactic|refine wpAny_bind (wpAny_field ho hd (x:=rawInt (i:Int)) rfl ?_))
local macro_rules|`(tactic|walk_at"x")=>`(tactic|rw[show its.toArray.any (wm x)=its.any (wm x) by simp,kY r fs])
local macro_rules|`(tactic|walk_at"y")=>`(tactic|intro pins s σ H D I h)
local macro_rules|`(tactic|walk_at"z")=>`(tactic|refine wpAny_bind (wpAny_of_eq (a:=(Value.ref it,[])) rfl ?_))
local macro_rules|`(tactic|walk_at"A")=>`(tactic|have cn:=gc (P:=P) (w:=w) (base:=base) T)
local macro_rules|`(tactic|walk_at"B")=>`(tactic|have lr:∀{x:Str} {c:Addr},(iR X.env scope.names []).lookup x=some c->X.env.cells.lookup x=some c:=λ{x c} e=>mO scope.names [] (λy d q=>by simp at q) e)
local macro_rules|`(tactic|walk_at"C")=>`(tactic|have e1:=h.Kx (a:=(aB (f (-1)),a)) (b:=(aB (g (-1)),a')) (c:=(f 0,b)) (by simp) (by simp) (by simp) (by show aB _=aB _;rw[z1]) (b6 ya (hf.bU 0) (Ne.symm r1)))
local macro_rules|`(tactic|walk_at"D")=>`(tactic|show wpAny _ _ (if (((cB items.size 0 lo:Nat):Int)==0&&(1:Int)==1&&(cB items.size items.size hi - cB items.size 0 lo)==items.size)=true then _ else _) _ _ s)
local macro_rules|`(tactic|walk_at"E")=>`(tactic|exact I1.oE (RP _) (I1.bX.fresh (RP _)))
local macro_rules|`(tactic|walk_at"F")=>`(tactic|refine wpAny_bind ?_)
local macro_rules|`(tactic|walk_at"G")=>`(tactic|exact ⟨o,e,λv z=>by rw[d]at z;cases z⟩)
local macro_rules|`(tactic|walk_at"H")=>`(tactic|rw[show eA f v ((k,x)::r)=(if k=f then (k,v)::r else (k,x)::eA f v r) from rfl])
local macro_rules|`(tactic|walk_at"I")=>`(tactic|refine wpAny_bind (wpAny_rule ?_))
local macro_rules|`(tactic|walk_at"J")=>`(tactic|refine W.go elts k pos i T { s with heap:=h',toks:=tk } _ _ wC λh2 wD yL=>?_)
local macro_rules|`(tactic|walk_at"K")=>`(tactic|rw[show (0:Int)=br (w:) (v:) (λ_ _=>0) by unfold br;rw[show (λ_:Int=>sm (v:) λ_=>0)=λ_=>0 from funext λ_=>de _,de]])
local macro_rules|`(tactic|walk_at"L")=>`(tactic|intro pins s σ H x v vl vu lo hi sl Q I rx hs pl pu h)
local macro_rules|`(tactic|walk_at"M")=>`(tactic|refine wpAny_bind (wpAny_setField ho hd (by simp) ?_))
local macro_rules|`(tactic|walk_at"N")=>`(tactic|intro value slice pins s σ H x y v u Q I rx ry h hs)
local macro_rules|`(tactic|walk_at"O")=>`(tactic|have e2:=h.same (a:=(aB (f (-1)),a)) (b:=(g 0,b')) (c:=(f 0,b)) (by simp) (by simp) (by simp) z0.symm (b6 ya (hf.bU 0) (Ne.symm r1)))
local macro_rules|`(tactic|walk_at"P")=>`(tactic|have lw:=VJ.mpr hw.ne)
local macro_rules|`(tactic|walk_at"Q")=>`(tactic|have cL:=fH (P:=P) (w:=w) (base:=base) T)
local macro_rules|`(tactic|walk_at"R")=>`(tactic|obtain ⟨t',rfl⟩:=ry)
local macro_rules|`(tactic|walk_at"S")=>`(tactic|intro pins s σ H R I h)
local macro_rules|`(tactic|walk_at"T")=>`(tactic|refine wpAny_bind (m:=firstArgMember _ _) (wpAny_of_eq (a:=Value.none) (by first | rfl | (simp only[firstArgMember];rfl)) ?_))
local macro_rules|`(tactic|walk_at"U")=>`(tactic|show iR env r (if (k==NameKind.free)=true then (match env.cells.lookup n with | some a=>(n,a)::acc | none=>acc) else acc)=_)
local macro_rules|`(tactic|walk_at"V")=>`(tactic|refine W.done s _ _ ?_ λh' tk hk=>⟨rfl,I.uI (t':=tk) hk hf⟩)
local macro_rules|`(tactic|walk_at"W")=>`(tactic|have I1:Inv X pins σ H { s with heap:=h',toks:=tk }:=I.turned (λb o hb e=>kk b o (by simpa using hb) e) f0 f1 f3 f4 f5)
local macro_rules|`(tactic|walk_at"X")=>`(tactic|refine wpAny_setField (Qbm _ ho (Obj.isFreed_of_fields (Obj.data_mapFields hd _))) (Obj.data_mapFields hd _) (by simp) ?_)
local macro_rules|`(tactic|walk_at"Y")=>`(tactic|refine wpAny_pure ?_)
local macro_rules|`(tactic|walk_at"Z")=>`(tactic|refine cf (hl pins s σ H _ I h) λv s1 ⟨x,H1,I1,r1,q1⟩=>?_)
local macro_rules|`(tactic|walk_at"0")=>`(tactic|refine Call_ (gD I hg hm boot_reversed (Qbj (cf (ha pos pins s σ H _ I h) λus s1 ⟨vs,H1,I1,r1,q1⟩=>?_) hs rfl)))
local macro_rules|`(tactic|walk_at"1")=>`(tactic|obtain ⟨t,rfl⟩:=r1)
local macro_rules|`(tactic|walk_at"2")=>`(tactic|have I1:Inv X pins σ H { s with heap:=h' }:=I.turned (t':=s.toks) (λb o hb e=>(sb.2 b hb).trans e) f0 f1 f3 f4 f5)
local macro_rules|`(tactic|walk_at"3")=>`(tactic|refine nx _ _ (by simpa using nR) ⟨s2.trans st,us++[⟨t,e,p⟩],xE us ⟨t,e,p⟩,λu hu=>?_,?_,by simp[pE]⟩)
local macro_rules|`(tactic|walk_at"4")=>`(tactic|have RQ:∀y∈scope.names,y.2= .free->∃c,X.env.cells.lookup y.1=some c:=λy hy e=>I.ok.has y.1 (NB y hy e))
local macro_rules|`(tactic|walk_at"5")=>`(tactic|have I1:Inv X pins σ H { s with heap:=h',toks:=tk }:=I.turned (λb o hb e=>(sb.2 b hb).trans e) f0 f1 f3 f4 f5)
local macro_rules|`(tactic|walk_at"6")=>`(tactic|refine w9 (n:=m) (by rw[hl];exact hm) (by rw[hl];exact hr) ?_)
open List renaming getElem?_eq_getElem→LK,getElem?_eq_some_iff→LL,length_map→NA,length_append→VG,mem_singleton→VH,length_pos_iff→VJ,map_append→Xs,mem_of_getElem?→Xu,size_toArray→Xv,getD_eq_getElem?_getD→Xw,getElem?_map→ZN,mem_cons_of_mem→ZO,mem_cons_self→ZP,mem_cons→ZQ,not_mem_nil→kb,mem_append→Qaa,idxOf_lt_length_of_mem→Qab,map_cons→Qad,length_take→Qai,mem_map→Qam,filter_cons_of_neg→Qao,length_cons→Qap,mem_append_right→Qaq,take_of_length_le→Qar,take_length→Qau,mem_range→Qav,length_drop→Qaw,filter_cons_of_pos→Qax,mem_filter→Qaz,getElem?_append_left→Qa0,length_reverse→Qa1,getElem?_append_right→Qa5,flatMap_cons→Qa6,getElem_mem→Qa7,nodup_cons→Qa9,append_nil→Qba,mem_flatMap→Qbc,flatMap_append→Qbd,lookup_cons→Qbh,sum_cons→Qbk,pairwise_map→Qbl,drop_eq_getElem_cons→Qbn,map_map→Qbo,range_succ→Qbq,append_assoc→Qbs,length_eq_zero_iff→Qbt,getElem_idxOf→Qbv,nodup_append→Qbx,take_append_drop→Qby,filter_append→Qb2,mem_append_left→Qb3,map_reverse→Qb4,flatMap_singleton→Qb8,map_congr_left→Qb9,find?_cons→Qca,pairwise_cons→Qcc,getElem?_drop→Qcd,any_cons→Qce,mem_of_mem_take→Qcg,drop_of_length_le→Qcj,getElem?_reverse→Qco,getElem?_eq_none→Qcp,pairwise_append→Qcu,length_range→Qcv,getElem_of_mem→Qcy,flatten_cons→Qc5,filter_congr→Qc6,getElem_map→Qda,pairwise_iff_getElem→Qdc,getLast?_eq_getElem?→Qdd,getElem?_take→Qdk,eraseIdx_cons_succ→Qdl,take_add_one→Qdn,lt_irrefl→Qdo,drop_eq_nil_of_le→Qdp,length_filter_le→Qdt,countP_mono_left→Qdu,nodup_range→Qdv,mem_reverse→Qdw,all_eq_true→Qdx,mem_of_mem_drop→Qdz,eq_nil_of_length_eq_zero→Qd0,forIn_cons→Qd2,foldl_cons→Qd3,map_take→Qeh,flatMap_nil→Qek,filter_cons→Qel,head?_eq_getElem?→Qey,filter_map→Qe2,perm_append_comm→Qe4,cons_lt_cons_iff→Qe5,nodup_nil→Qe7,length_dropLast→Qe8,idxOf_cons_self→Qe9,dropLast_concat→Qfa,replicate_succ→Qfd,mem_map_of_mem→Qfe,filterMap_cons→Qff,foldl_append→Qfr,ext_getElem?→Qfs,any_eq_false→Qft,any_eq_true→Qfx,map_id→Qfy,sum_append→Qf0,of_mem_zip→Qf1,length_nil→Qf2,idxOf_cons→Qf3
open Nat renaming le_refl→RP,zero_le→Qac,le_trans→Qak,ne_of_lt→Qal,lt_of_lt_of_le→Qat,lt_of_le_of_lt→Qa3,le_of_lt→Qa4,lt_irrefl→Qbe,mod_eq_of_lt→Qbg,min_eq_left→Qbp,min_eq_right→Qbr,lt_succ_self→Qcb,le_succ→Qcl,succ_le_succ→Qcm,lt_or_gt_of_ne→Qcn,max_eq_left→Qcq,succ_mul→Qcr,mul_comm→Qcs,lt_succ_of_lt→Qct,max_eq_right→Qcz,mod_lt→Qc0,le_succ_of_le→Qc4,mul_le_mul_right→Qc7,zero_add→Qc9,not_lt_zero→Qdh,lt_trans→Qdm,add_assoc→Qdy,div_add_mod→Qd1,lt_asymm→Qd4,mul_le_mul→Qd9,mul_one→Qec,succ_ne_self→Qej,zero_mul→Qev,sub_self→Qew,ne_of_gt→Qex,mod_add_div→Qe1,div_lt_iff_lt_mul→Qe3,mul_assoc→Qfi,mod_eq_sub_mod→Qfl,succ_pos→Qfo,mod_self→Qfp,add_comm→Qfq,le_add_right→Qfw,le_antisymm→Qfz
open PySem.Heap renaming get?_push_of_some→VI,get?_push_size→Qae,lt_size→Qag,get?_update_other→Qbb,get?_update_self→Qbm,size_push→Qdf
open Int renaming toNat_natCast→Xt,emod_eq_of_lt→Qay,natCast_add→Qa2,emod_lt_of_pos→Qbw,emod_nonneg→Qb1,emod_eq_emod_iff_emod_sub_eq_zero→Qch,zero_add→Qck,add_emod_right→Qc1,emod_emod_of_dvd→Qc8,natCast_mul→Qdi,emod_add_emod→Qdq,sub_emod→Qd5,mul_comm→Qd6,add_zero→Qd7,add_mul_emod_self_left→Qea,natCast_emod→Qem,natCast_ediv→Qen,sub_zero→Qez,emod_add_mul_ediv→Qe6,le_refl→Qfb,natCast_nonneg→Qfm,dvd_refl→Qfv
open Option.some renaming inj→Qaf
open Bool renaming false_ne_true→Qah,and_eq_true→Qa8,false_eq_true→Qbf,and_eq_true_iff→Qb5,not_true→Qb6,not_eq_true→Qdb,true_and→Qdg,eq_iff_iff→Qdj,not_false→Qeb,and_false→Qfc,or_false→Qfj,false_or→Qfk,decide_and→Qf4
open PySem renaming boot_len→Qaj,mem_of_lookup→Qde
open PySem.F renaming plainAttrs_list→Qan,plainAttrs_str→Qas,type_list_append→Qbz,slot_list_append→Qb0,plain_max_loop→Qb7,type_list_extend→Qcw,slot_list_extend→Qcx,type_str_join→Qc2,slot_str_join→Qc3,type_list_pop→Qdr,slot_list_pop→Qds,type_str_islower→Qee,slot_str_islower→Qef,args_tuple_add_2→Qeg,entry_tuple_add→Qei,type_str_lower→Qep,type_str_index→Qeq,slot_tuple_add→Qer,slot_str_lower→Qes,slot_str_index→Qet,entry_max_loop→Qeu
open PySem.W renaming mg_none_of→Qbi,callWith_K→Qd8,mg_of→Qfh
open PyProof.Rows renaming callWith_type1→Qbj,slot_tuple_getitem→Qbu
open List.Pairwise renaming imp_of_mem→Qcf,imp→Qfu
open Option renaming map_eq_some_iff→Qci,map_some→Qe0
open PySem.Heap.SameBut renaming update→Qed
open Array renaming toList_inj→Qeo,length_toList→Qfg,forIn_toList→Qfn
namespace L2
open PySem PySem.Spec PyProof.Rows
abbrev Key:=Sum Int Str
noncomputable def sk:Key->Value->Bool
 | .inl k,v=>Value.isInt k v
 | .inr x,v=>Value.isStrOf x v
noncomputable def S0(w:World):Key->Int
 | .inl k=>hashInt k
 | .inr x=>hashStr w x
theorem cb:∀{k:Key} {v:Value},sk k v=true->(∃i t,k=Sum.inl i/\v=Value.int i t)\/(∃x t,k=Sum.inr x/\v=Value.str x t)
 | .inl i,v,h=>by
  obtain ⟨t,e⟩:=Value.isInt_shape (k:=i) (v:=v) h
  exact .inl ⟨i,t,rfl,e⟩
 | .inr x,v,h=>by
  obtain ⟨t,e⟩:=Value.isStrOf_shape (x:=x) (v:=v) h
  exact .inr ⟨x,t,rfl,e⟩
theorem BF(i:Int)(t:Tok):sk (.inl i) (.int i t)=true:=by simp[sk,Value.isInt]
theorem BG(x:Str)(t:Tok):sk (.inr x) (.str x t)=true:=by simp[sk,Value.isStrOf]
theorem K2(a b:Int):decide ((Sum.inl a:Key)=Sum.inl b)=(a==b):=by
 by_cases e:a=b
 ·subst e;simp
 ·have h: ¬(Sum.inl a:Key)=Sum.inl b:=λq=>e (Sum.inl.inj q)
  rw[decide_eq_false h]
  exact (beq_eq_false_iff_ne.mpr e).symm
theorem K3(a b:Str):decide ((Sum.inr a:Key)=Sum.inr b)=decide (a=b):=by
 by_cases e:a=b
 ·subst e;simp
 ·have h: ¬(Sum.inr a:Key)=Sum.inr b:=λq=>e (Sum.inr.inj q)
  rw[decide_eq_false h,decide_eq_false e]
theorem K4(a:Int)(b:Str):decide ((Sum.inl a:Key)=Sum.inr b)=false:=decide_eq_false (λq=>nomatch q)
theorem K5(a:Str)(b:Int):decide ((Sum.inr a:Key)=Sum.inl b)=false:=decide_eq_false (λq=>nomatch q)
noncomputable def bz(prog:Program)(w:World):PySem.KeyKind prog w Key where
 is:=sk
 hash:=S0 w
 inj:=λv a b ha hb=>by
  rcases cb ha with ⟨i,t,rfl,rfl⟩ | ⟨x,t,rfl,rfl⟩
  ·rcases cb hb with ⟨j,u,rfl,e⟩ | ⟨y,u,rfl,e⟩
   ·injection e with e1 _;rw[e1]
   ·exact nomatch e
  ·rcases cb hb with ⟨j,u,rfl,e⟩ | ⟨y,u,rfl,e⟩
   ·exact nomatch e
   ·injection e with e1 _;rw[e1]
 byValue:=λk v h=>by
  rcases cb h with ⟨i,t,rfl,rfl⟩ | ⟨x,t,rfl,rfl⟩<;>rfl
 pyHash:=λhv h=>by
  rcases cb hv with ⟨i,t,rfl,rfl⟩ | ⟨x,t,rfl,rfl⟩
  ·exact wpAny_pyHash_int h
  ·exact wpAny_pyHash_str h
 eqBool:=λhu hv h=>by
  rcases cb hu with ⟨i,t,rfl,rfl⟩ | ⟨x,t,rfl,rfl⟩
  ·rcases cb hv with ⟨j,u,rfl,rfl⟩ | ⟨y,u,rfl,rfl⟩
   ·rw[K2]at h;exact wpAny_eqBool_int h
   ·rw[K4]at h;exact SeqAt.EqAt.int_str i t y u _ _ _ _ h
  ·rcases cb hv with ⟨j,u,rfl,rfl⟩ | ⟨y,u,rfl,rfl⟩
   ·rw[K5]at h;exact SeqAt.EqAt.str_int x t j u _ _ _ _ h
   ·rw[K3]at h;exact wpAny_eqBool_str h
 «strs» :=λk x t v h=>by
  rcases cb h with ⟨i,u,rfl,e⟩ | ⟨y,u,rfl,e⟩
  ·exact nomatch e
  ·injection e with e1 _
   subst e1
   cases v<;>rfl
theorem v7(prog:Program)(w:World)(i:Int)(t:Tok):(bz prog w).is (.inl i) (.int i t)=true:=BF i t
theorem v8(prog:Program)(w:World)(x:Str)(t:Tok):(bz prog w).is (.inr x) (.str x t)=true:=BG x t
inductive V where
 | fQ | bl (b:Bool) | int (i:Int) | str (x:Str) | zZ (b:Array UInt8) | RB (b:UInt64) | ref (a:Addr) | ty (n:String)
 deriving DecidableEq
def RelV:V->Value->Prop
 | .fQ,u=>u=Value.none
 | .bl b,u=>u=Value.bool b
 | .int i,u=>∃t,u=Value.int i t
 | .str x,u=>∃t,u=Value.str x t
 | .zZ b,u=>∃t,u=Value.bytes b t
 | .RB b,u=>∃t,u=Value.float b t
 | .ref a,u=>u=Value.ref a
 | .ty n,u=>u=Value.type n
abbrev Vals:List V->List Value->Prop:=Paired RelV
theorem Vals.length{xs:List V}{us:List Value}(r:Vals xs us):(xs:)=(us:):=Paired.length r
theorem Vals.get:∀{xs:List V} {us:List Value} {i:Nat} {x:V},Vals xs us->xs[i]? =some x->∃u,us[i]? =some u/\RelV x u
 | _,_,_,_,.nil,e=>by simp at e
 | _,_,0,_,.cons r _,e=>by simp at e;subst e;exact ⟨_,rfl,r⟩
 | _,_,i+1,x,.cons _ t,e=>by
  obtain ⟨u,h1,h2⟩:=Vals.get (i:=i) (x:=x) t (by simpa using e)
  exact ⟨u,by simpa using h1,h2⟩
theorem Vals.set{x:V}{u:Value}(r:RelV x u):∀{xs:List V} {us:List Value} (i:Nat),Vals xs us->Vals (xs.set i x) (us.set i u)
 | _,_,_,.nil=> .nil
 | _,_,0,.cons _ t=> .cons r t
 | _,_,i+1,.cons q t=> .cons q (Vals.set r i t)
theorem Vals.append:∀{xs ys:List V} {us ws:List Value},Vals xs us->Vals ys ws->Vals (xs++ys) (us++ws)
 | _,_,_,_,.nil,s=>s
 | _,_,_,_,.cons r t,s=> .cons r (Vals.append t s)
theorem Vals.take:∀{xs:List V} {us:List Value} (n:Nat),Vals xs us->Vals (xs.take n) (us.take n)
 | _,_,0,_=> .nil
 | _,_,_+1,.nil=> .nil
 | _,_,n+1,.cons r t=> .cons r (Vals.take n t)
theorem Vals.drop:∀{xs:List V} {us:List Value} (n:Nat),Vals xs us->Vals (xs.drop n) (us.drop n)
 | _,_,0,r=>r
 | _,_,_+1,.nil=> .nil
 | _,_,n+1,.cons _ t=>Vals.drop n t
def mH:Option V->Option Value->Prop
 | some v,some u=>RelV v u
 | none,none=>True
 | _,_=>False
def KV{κ:Type}:List (κ×V)->List (κ×Value)->Prop:=Paired λ(p:κ×V) (q:κ×Value)=>p.1=q.1/\RelV p.2 q.2
noncomputable def kV:Key->V
 | .inl i=> .int i
 | .inr x=> .str x
inductive HO where
  | lst (xs:List V)
  | tup (xs:List V)
  | dK (aH:List (Key×V)) | dT (aH:List (List Key×V))
  | set (S:Int->Bool) (n:Nat)
  | ins (C dx:Addr) (fs:List (Str×V))
  | own (x:Addr)
  | xd (fs:List (Str×V))
  | met (f x:Addr)
  | S3 (lo hi:Int)
  | GS (o:Obj) (u:HO)
  | K6 (ps:Array Value)
  | ext (φ:Heap->Prop)
abbrev Hp:=Addr->Option HO
noncomputable def upd(H:Hp)(a:Addr)(o:HO):Hp:=λb=>if b=a then some o else H b
theorem ae{H:Hp}{a:Addr}{o:HO}:upd H a o a=some o:=by unfold upd;rw[if_pos rfl]
theorem ar{H:Hp}{a b:Addr}{o:HO}(h:b≠a):upd H a o b=H b:=by unfold upd;rw[if_neg h]
theorem O0{H:Hp}{a b:Addr}{o u:HO}(h:H a=some o)(h':H b=some u)(d:o≠u):a≠b:=by
 intro e;subst e;rw[h]at h';exact d (Qaf h')
theorem ao{H:Hp}{a b:Addr}{o:HO}(h:H a=some o)(h':H b=none):a≠b:=by
 intro e;subst e;rw[h]at h';cases h'
section
variable(P:Program)(w:World)
def cw(H:Hp)(h:Heap)(a:Addr):HO->Prop
 | .lst xs=>(xs:)<=sizeLine/\∃(its:List Value) (n:Nat),Vals xs its/\h.get? a=some { cls:= .type "list",data:= .seq its.toArray n }
 | .tup xs=>(xs:)<=sizeLine/\∃its:List Value,Vals xs its/\IsTup h a its.toArray
 | .dK aH=>(aH:)<=sizeLine/\(a==sysModules)=false/\∃vs,KV aH vs/\h.DictOf (bz P w) a vs
 | .dT aH=>(aH:)<=sizeLine/\(a==sysModules)=false/\∃xs:List (List Key×Addr×Value),
   Paired (λ(p:List Key×V) (q:List Key×Addr×Value)=>p.1=q.1/\H q.2.1=some (.tup (p.1.map kV))/\RelV p.2 q.2.2) aH xs/\
   ∃o es ep,h.get? a=some o/\o.ExactDict/\o.data= .dict es ep/\es.toList=xs.map (entryOfKey (tupleKind (bz P w)))/\(xs.map (·.1)).Nodup
 | .set S n=>h.SetOf (intKind P w) a S n
 | .ins C dx fs=>H dx=some (.own a)/\(fs:)<=1000/\dx≠a/\h.get? a=some (PySem.W.instObj C dx)/\
   ∃mA,h.Ns1 dx mA/\(∀f,mH (fs.lookup f) (mA f))/\PySem.Within mA (fs.map (·.1))
 | .own _=>∃o,h.get? a=some o
 | .xd fs=>∃mA,h.Ns1 a mA/\∀f,mH (fs.lookup f) (mA f)
 | .S3 lo hi=>∃t u v,h.get? a=some { cls:= .type "range",data:= .fields #[.int lo t,.int hi u,.int 1 v] }
 | .GS o u=>h.get? a=some o/\cw H h a u
 | .K6 ps=>h.get? a=some { cls:= .none,data:= .fields ps }
 | .met f x=>h.get? a=some (PySem.W.methodObj (.ref f) (.ref x))
 | .ext φ=>φ h/\(∃o,h.get? a=some o)/\∀h1 h2:Heap,φ h1->(∀o,h1.get? a=some o->h2.get? a=some o)->φ h2
def jX(H:Hp)(h:Heap):Prop:=∀a o,H a=some o->cw P w H h a o
end
section
variable{P:Program}{w:World}{H H':Hp}{h h':Heap}{a:Addr}{o:HO}
theorem cw.lt(x:cw P w H h a o):a<h.objs.size:=by
 cases o with
 | lst xs=>obtain ⟨_,_,_,_,e⟩:=x;exact Qag e
 | tup xs=>obtain ⟨_,_,_,p⟩:=x;exact p.lt
 | dK aH=>obtain ⟨_,_,_,_,o,_,_,e,_⟩:=x;exact Qag e
 | dT aH=>obtain ⟨_,_,_,_,o,_,_,e,_⟩:=x;exact Qag e
 | set S n=>obtain ⟨o,_,_,_,e,_⟩:=x;exact Qag e
 | ins C dx fs=>obtain ⟨_,_,_,e,_⟩:=x;exact Qag e
 | own y=>obtain ⟨_,e⟩:=x;exact Qag e
 | xd fs=>obtain ⟨_,⟨_,_,_,e,_⟩,_⟩:=x;exact Qag e
 | S3 lo hi=>obtain ⟨_,_,_,e⟩:=x;exact Qag e
 | GS ob u=>obtain ⟨e,_⟩:=x;exact Qag e
 | K6 ps=>exact Qag (show h.get? a=some _ from x)
 | met f y=>exact Qag (show h.get? a=some _ from x)
 | ext φ=>obtain ⟨_,⟨_,e⟩,_⟩:=x;exact Qag e
theorem Paired.K7{α β:Type}{F G:α->β->Prop}:∀{l₁:List α} {l₂:List β},Paired F l₁ l₂->(∀a b,F a b->G a b)->Paired G l₁ l₂
 | _,_,.nil,_=> .nil
 | _,_,.cons r t,f=> .cons (f _ _ r) (Paired.K7 t f)
theorem cw.v9(x:cw P w H h a o)(k:∀b u,(b=a\/H b=some (.own a))->h.get? b=some u->h'.get? b=some u)
  (ho:∀b,H b=some (.own a)->H' b=some (.own a)) (ht:∀b xs,H b=some (.tup xs)->H' b=some (.tup xs)):cw P w H' h' a o:=by
 induction o with
 | lst xs=>obtain ⟨z,its,n,r,e⟩:=x;exact ⟨z,its,n,r,k _ _ (.inl rfl) e⟩
 | tup xs=>obtain ⟨z,its,r,ob,e,c⟩:=x;exact ⟨z,its,r,ob,k _ _ (.inl rfl) e,c⟩
 | dK aH=>obtain ⟨z,y,vs,r,ob,es,ep,e,c⟩:=x;exact ⟨z,y,vs,r,ob,es,ep,k _ _ (.inl rfl) e,c⟩
 | dT aH=>
  obtain ⟨z,y,xs,r,ob,es,ep,e,c⟩:=x
  exact ⟨z,y,xs,Paired.K7 r λp q z=>⟨z.1,ht _ _ z.2.1,z.2.2⟩,ob,es,ep,k _ _ (.inl rfl) e,c⟩
 | set S n=>obtain ⟨ob,es,ep,t,e,c⟩:=x;exact ⟨ob,es,ep,t,k _ _ (.inl rfl) e,c⟩
 | ins C dx fs=>
  obtain ⟨d,z,ne,e,mA,⟨od,es,ep,e2,c⟩,r⟩:=x
  exact ⟨ho _ d,z,ne,k _ _ (.inl rfl) e,mA,⟨od,es,ep,k _ _ (.inr d) e2,c⟩,r⟩
 | own y=>obtain ⟨ob,e⟩:=x;exact ⟨ob,k _ _ (.inl rfl) e⟩
 | xd fs=>obtain ⟨mA,⟨od,es,ep,e,c⟩,r⟩:=x;exact ⟨mA,⟨od,es,ep,k _ _ (.inl rfl) e,c⟩,r⟩
 | S3 lo hi=>obtain ⟨t,u,v,e⟩:=x;exact ⟨t,u,v,k _ _ (.inl rfl) e⟩
 | GS ob u ih=>obtain ⟨e,q⟩:=x;exact ⟨k _ _ (.inl rfl) e,ih q⟩
 | K6 ps=>
  have e:h.get? a=some { cls:= .none,data:= .fields ps }:=x
  show h'.get? a=some { cls:= .none,data:= .fields ps }
  exact k a _ (.inl rfl) e
 | met f y=>
  have e:h.get? a=some (PySem.W.methodObj (.ref f) (.ref y)):=x
  show h'.get? a=some (PySem.W.methodObj (.ref f) (.ref y))
  exact k a _ (.inl rfl) e
 | ext φ=>obtain ⟨p,⟨o,e⟩,st⟩:=x;exact ⟨st _ _ p λo q=>k _ _ (.inl rfl) q,⟨o,k _ _ (.inl rfl) e⟩,st⟩
theorem jX.lt(x:jX P w H h)(e:H a=some o):a<h.objs.size:=(x a o e).lt
theorem jX.fresh(x:jX P w H h)(e:h.objs.size<=a):H a=none:=by
 cases q:H a with
 | none=>rfl
 | some u=>exact absurd (Qat (x.lt q) e) (Qbe _)
theorem jX.kept(x:jX P w H h)(k:∀b u,h.get? b=some u->h'.get? b=some u):jX P w H h':=λa o e=>
 (x a o e).v9 (λb u _ q=>k b u q) (λ_ q=>q) λ_ _ q=>q
theorem jX.laid(x:jX P w H h)(k:∀b u,h.get? b=some u->h'.get? b=some u)(hp:h.objs.size<=a)(new:cw P w (upd H a o) h' a o):jX P w (upd H a o) h':=λb u e=>by
 have hn:=x.fresh hp
 by_cases hb:b=a
 ·subst hb;rw[ae]at e;cases e;exact new
 ·rw[ar hb]at e
  exact (x b u e).v9 (λc v _ q=>k c v q) (λc q=>by rw[ar (ao q hn)];exact q) λc xs q=>by rw[ar (ao q hn)];exact q
end
def Rd(H:Hp)(a:Addr)(u:HO):Prop:=H a=some u\/∃o,H a=some (.GS o u)
theorem Rd.ok{P:Program}{w:World}{H:Hp}{h:Heap}{a:Addr}{u:HO}(r:Rd H a u)(x:jX P w H h):cw P w H h a u:=by
 rcases r with r | ⟨o,r⟩
 ·exact x a u r
 ·obtain ⟨_,q⟩:=x a _ r
  exact q
def O1:Option HO->Prop
 | some (.lst _)=>True
 | some (.dK _)=>True
 | some (.dT _)=>True
 | some (.set _ _)=>True
 | some (.ins _ _ _)=>True
 | some (.ext _)=>True
 | _=>False
section
variable{P:Program}{w:World}{H:Hp}{h h':Heap}{x e:Addr}{o':HO}
theorem jX.write(ok:jX P w H h)(mu:O1 (H x))(he:e=x\/H e=some (.own x))(k:∀b u,b≠e->h.get? b=some u->h'.get? b=some u)(Nr:∃u,h'.get? e=some u)
  (new:cw P w (upd H x o') h' x o'):jX P w (upd H x o') h':=λb u q=>by
 have O2:∀c y,H c=some (.own y)->c≠x:=λc y r z=>by subst z;rw[r]at mu;exact mu
 have S4:∀c xs,H c=some (.tup xs)->c≠x:=λc xs r z=>by subst z;rw[r]at mu;exact mu
 by_cases hb:b=x
 ·subst hb;rw[ae]at q;cases q;exact new
 ·rw[ar hb]at q
  by_cases GU:b=e
  ·have q':H b=some (.own x):=by
    rcases he with z | z
    ·exact absurd (GU.trans z) hb
    ·rw[GU];exact z
   rw[q]at q';cases q'
   obtain ⟨v,hv⟩:=Nr
   exact ⟨v,by rw[GU];exact hv⟩
  ·refine (ok b u q).v9 (λc v hc r=>k c v ?_ r) (λc r=>by rw[ar (O2 c b r)];exact r) λc xs r=>by rw[ar (S4 c xs r)];exact r
   rcases hc with rfl | hc
   ·exact GU
   ·rintro rfl
    rcases he with z | z
    ·exact O2 c b hc z
    ·rw[hc]at z;cases z;exact hb rfl
end
structure Un(fs ex:List Addr)(H H':Hp)(h h':Heap):Prop where
 keep:∀b o,h.get? b=some o->H b=none->b∉fs->b∉ex->h'.get? b=some o
 slot:∀b o,h.get? b=some o->H b=none->b∈fs->b∉ex->∃sl,h'.get? b=some { o with slots:=sl }
 free:∀b o,h.get? b=some o->H b=none->b∉ex->H' b=none
 there:∀b o,h.get? b=some o->b∉ex->∃o',h'.get? b=some o'
 rA:∀b xs,H b=some (.tup xs)->H' b=some (.tup xs)
 pF:∀b o u,H b=some (.GS o u)->H' b=some (.GS o u)
 ug:∀b ps,H b=some (.K6 ps)->∃more,H' b=some (.K6 (ps++more))
section
variable{fs W_ ex ZI:List Addr}{H H1 H2:Hp}{h h1 h2 h':Heap}{a x e:Addr}{o:HO}
theorem Un.any(u:Un fs ex H H1 h h1){b:Addr}{ob:Obj}(q:h.get? b=some ob)(n:H b=none)(hx:b∉ex):∃sl,h1.get? b=some { ob with slots:=sl }:=by
 by_cases hb:b∈fs
 ·exact u.slot b ob q n hb hx
 ·exact ⟨ob.slots,u.keep b ob q n hb hx⟩
theorem Un.kept(k:∀b u,h.get? b=some u->h'.get? b=some u):Un fs ex H H h h':=
 ⟨λb ob q _ _ _=>k b ob q,λb ob q _ _ _=>⟨ob.slots,k b ob q⟩,λ_ _ _ n _=>n,λb ob q _=>⟨ob,k b ob q⟩,λ_ _ q=>q,λ_ _ _ q=>q,λ_ ps q=>⟨#[],by rw[q];simp⟩⟩
theorem Un.refl:Un fs ex H H h h:=Un.kept λ_ _ q=>q
theorem Un.laid(k:∀b u,h.get? b=some u->h'.get? b=some u)(hp:h.objs.size<=a)(hn:H a=none):Un fs ex H (upd H a o) h h' where
 keep:=λb u q _ _ _=>k b u q
 slot:=λb u q _ _ _=>⟨u.slots,k b u q⟩
 free:=λb u q n _=>by rw[ar (Qal (Qat (Qag q) hp))];exact n
 there:=λb u q _=>⟨u,k b u q⟩
 rA:=λb xs q=>by rw[ar (ao q hn)];exact q
 pF:=λb u xs q=>by rw[ar (ao q hn)];exact q
 ug:=λb ps q=>⟨#[],by rw[ar (ao q hn),q];simp⟩
theorem Un.write(mu:O1 (H x))(he:e=x\/H e=some (.own x))(k:∀b u,b≠e->h.get? b=some u->h'.get? b=some u)(Nr:∃u,h'.get? e=some u):Un fs ex H (upd H x o) h h':=by
 have hx:∀b,H b=none->b≠x:=λb n z=>by subst z;rw[n]at mu;exact mu
 have hb:∀b,H b=none->b≠e:=λb n z=>by
  subst z
  rcases he with r | r
  ·exact hx b n r
  ·rw[n]at r;cases r
 have hm:∀b u,H b=some u-> ¬O1 (some u)->b≠x:=λb u q nm z=>by subst z;rw[q]at mu;exact nm mu
 refine ⟨λb u q n _ _=>k b u (hb b n) q,λb u q n _ _=>⟨u.slots,k b u (hb b n) q⟩,λb u q n _=>by rw[ar (hx b n)];exact n,λb u q _=>?_,
  λb xs q=>by rw[ar (hm b _ q λz=>z)];exact q,λb u xs q=>by rw[ar (hm b _ q λz=>z)];exact q,λb ps q=>⟨#[],by rw[ar (hm b _ q λz=>z),q];simp⟩⟩
 by_cases GU:b=e
 ·subst GU;exact Nr
 ·exact ⟨u,k b u GU q⟩
end
noncomputable def RC(h:Heap)(H:Hp):List Addr:=(List.range h.objs.size).filter λa=>(H a).isSome
noncomputable def uh(h:Heap)(H:Hp):Heap:=PySem.W.hideAll h (RC h H)
theorem BH(h:Heap)(H:Hp):(uh h H).objs.size=h.objs.size:=PySem.W.hideAll_size _ _
theorem Du{h:Heap}{H:Hp}{b:Addr}{o:Obj}(e:h.get? b=some o)(n:H b=none):(uh h H).get? b=some o:=
 PySem.W.hideAll_get _ e λhm=>by
  have q:(H b).isSome=true:=(Qaz.mp hm).2
  rw[n]at q;simp at q
theorem Hl{h:Heap}{H:Hp}{b:Addr}{o:Obj}(e:(uh h H).get? b=some o):h.get? b=some o/\H b=none:=by
 have e':h.get? b=some o:=PySem.W.of_hideAll (RC h H) e
 refine ⟨e',?_⟩
 cases q:H b with
 | none=>rfl
 | some x=>
  have hm:b∈RC h H:=Qaz.mpr ⟨Qav.mpr (Qag e'),by simp[q]⟩
  have z:(uh h H).get? b=none:=PySem.W.hideAll_none (RC h H) hm
  rw[z]at e;cases e
structure Mod(K:Fr)(mg:Str->Option Value)(base:Heap):Prop where
 Nt:K.In base
 glob:base.Ns mainGlobals mg
 blt:∃mb,base.Ns builtinsNs mb/\∀x:Str,x≠"__name__"->mb x=bootBuiltins x
 nolimit:base.NoLimit
structure Cx where
 prog:Program
 w:World
 K:Fr
 mg:Str->Option Value
 base:Heap
 A:Around
 N:List Str
 s₀:Shared
 H₀:Hp
 env:Env
 outer:List Env
 stack:List Env
 ex:List Addr
 fn:Str->Bool
 calm:Bool
 pn:List (Addr×Obj)
 xe:Value->Shared->Prop
noncomputable def z4(l:List Env):List Addr:=l.filterMap (·.frame)
noncomputable abbrev Cx.fs(X:Cx):List Addr:=z4 X.outer
def O3(sc:Scope)(x:Str):Prop:=sc.names.lookup x=some .local\/sc.names.lookup x=some .cell\/sc.names.lookup x=some .free
def Loc(sc:Scope)(x:Str):Prop:=sc.names.lookup x=some .local\/sc.names.lookup x=some .cell
def Look(env:Env)(h:Heap)(m:Str->Option Value)(x:Str)(u:Value):Prop:=
 (env.kindOf x=some .local/\m x=some u)\/((env.kindOf x=some .cell\/env.kindOf x=some .free)/\∃c,env.cells.lookup x=some c/\h.IsCell c (some u))
structure Cx.Ok(X:Cx):Prop where
 mod:Mod X.K X.mg X.base
 kind:X.env.scope.kind= .function
 glob:X.env.globals=mainGlobals
 blt:X.env.builtins=builtinsNs
 above:X.s₀.heap.objs.size<=X.env.locals
 inj:∀x y c,X.env.cells.lookup x=some c->X.env.cells.lookup y=some c->x=y
 has:∀x,(X.env.kindOf x=some .cell\/X.env.kindOf x=some .free)->∃c,X.env.cells.lookup x=some c
 O4:∀x c,X.fn x=true->X.env.cells.lookup x=some c->X.s₀.heap.objs.size<=c
 hd:X.calm=true->X.A.handled=none
 frames:X.A.frames=some X.stack
 RD:X.stack=X.outer\/(X.stack=X.env::X.outer/\X.env.frame=some X.env.locals)
 Vu:∀b∈X.ex,b≠X.env.locals/\∀x c,X.env.cells.lookup x=some c->c≠b
 bs:∀b o,X.base.get? b=some o->X.s₀.heap.get? b=some o/\X.H₀ b=none
 Hm:X.base.objs.size<=X.s₀.heap.objs.size
 Dv:∀b o,X.base.get? b=some o->b∉X.ex
 Hn:∀b∈X.ex,b∉X.fs
 oz:X.s₀.heap.FunFrames X.base X.outer
 K8:∀b∈X.fs,X.H₀ b=none
structure Inv(X:Cx)(pins:List (Addr×Obj))(σ:List (Option V))(H:Hp)(s:Shared):Prop where
 ok:X.Ok
 os:s.os=X.s₀.os
 bare:AllBare s.gens
 base:Un X.fs X.ex X.H₀ H X.s₀.heap s.heap
 loc:∃m,s.heap.Ns X.env.locals m/\∀(i:Nat) (x:Str) (v:V),X.N[i]? =some x->σ[i]? =some (some v)->O3 X.env.scope x->∃u,RelV v u/\Look X.env s.heap m x u
 cell:∀x c,X.env.cells.lookup x=some c->∃v,s.heap.IsCell c v
 free:H X.env.locals=none
 i0:∀x c,X.env.cells.lookup x=some c->H c=none
 pin:∀p∈X.pn++pins,s.heap.get? p.1=some p.2/\H p.1=none/\p.1≠X.env.locals/\p.1∉X.fs/\∀v,p.2.data≠ .cell v
 bX:jX X.prog X.w H s.heap
 len:σ.length=X.N.length
section
variable{X:Cx}{pins:List (Addr×Obj)}{σ:List (Option V)}{H H':Hp}{s:Shared}{h':Heap}
theorem Cx.Ok.S5(ok:X.Ok){b:Addr}{o:Obj}(e:X.base.get? b=some o):b∉X.fs:=λhb=>by
 have:=(ok.oz.mem hb).1
 rw[e]at this;cases this
theorem Inv.bs(I:Inv X pins σ H s):∀b o,X.base.get? b=some o->s.heap.get? b=some o/\H b=none:=λb o e=>
 ⟨I.base.keep b o (I.ok.bs b o e).1 (I.ok.bs b o e).2 (I.ok.S5 e) (I.ok.Dv b o e),I.base.free b o (I.ok.bs b o e).1 (I.ok.bs b o e).2 (I.ok.Dv b o e)⟩
theorem Inv.bk(I:Inv X pins σ H s):∀b o,X.base.get? b=some o->s.heap.get? b=some o:=λb o e=>(I.bs b o e).1
theorem Inv.mod(I:Inv X pins σ H s):Mod X.K X.mg X.base:=I.ok.mod
theorem Inv.BI(I:Inv X pins σ H s):X.K.In s.heap:=I.ok.mod.Nt.keeps I.bk
theorem Inv.lt(I:Inv X pins σ H s):X.env.locals<s.heap.objs.size:=let ⟨_,hn,_⟩:=I.loc;hn.lt
theorem Inv.sz(I:Inv X pins σ H s):X.s₀.heap.objs.size<=s.heap.objs.size:=Qak I.ok.above (Qa4 I.lt)
theorem Inv.K9(I:Inv X pins σ H s){a:Addr}(h:s.heap.objs.size<=a):a∉X.fs:=λhb=>by
 obtain ⟨_,o,ho,_⟩:=I.ok.oz.mem hb
 exact absurd (Qat (Qag ho) (Qak I.sz h)) (Qbe _)
theorem Inv.K_(I:Inv X pins σ H s):∀x c,X.env.cells.lookup x=some c->c≠X.env.locals:=λx c e z=>by
 obtain ⟨v,o,ho,hd⟩:=I.cell x c e
 obtain ⟨m,⟨o',es,ep,kO,v_,_⟩,_⟩:=I.loc
 rw[z,kO]at ho;cases ho;rw[v_]at hd;cases hd
theorem Inv.oz(I:Inv X pins σ H s):s.heap.FunFrames X.base X.outer:=by
 have all:∀(l:List Env),(∀b∈z4 l,b∈X.fs)->X.s₀.heap.FunFrames X.base l->s.heap.FunFrames X.base l:=by
  intro l
  induction l with
  | nil=>intro _ _;trivial
  | cons env r ih=>
   intro hs hl
   obtain ⟨hk,⟨L,o,hf,hn,ho,hd⟩,hr⟩:=hl
   have hL:L∈X.fs:=hs L (by unfold z4;rw[Qff,hf];exact ZP)
   obtain ⟨sl,e⟩:=I.base.slot L o ho (I.ok.K8 L hL) hL λz=>I.ok.Hn L z hL
   exact ⟨hk,⟨L,_,hf,hn,e,hd⟩,ih (λb hb=>hs b (by unfold z4;rw[Qff,hf];exact ZO _ hb)) hr⟩
 exact all X.outer (λ_ hb=>hb) I.ok.oz
theorem Inv.stack(I:Inv X pins σ H s):s.heap.FunFrames X.base X.stack:=by
 rcases I.ok.RD with e | ⟨e,hf⟩
 ·rw[e];exact I.oz
 ·rw[e]
  obtain ⟨m,hn,_⟩:=I.loc
  refine .cons (by rw[I.ok.kind];decide) hf hn ?_ I.oz
  exact Heap.get?_none_of_le (Qak I.ok.Hm I.ok.above)
theorem Inv.pG(I:Inv X pins σ H s):∀b∈z4 X.stack,b∈X.env.locals::X.fs:=λb hb=>by
 rcases I.ok.RD with e | ⟨e,hf⟩
 ·rw[e]at hb;exact ZO _ hb
 ·rw[e]at hb
  unfold z4 at hb
  rw[Qff,hf]at hb
  exact hb
theorem Inv.z5(I:Inv X pins σ H s):∀b∈z4 X.stack,H b=none:=λb hb=>by
 rcases ZQ.mp (I.pG b hb) with e | hb
 ·rw[e];exact I.free
 ·obtain ⟨_,o,ho,_⟩:=I.ok.oz.mem hb
  exact I.base.free b o ho (I.ok.K8 b hb) λz=>I.ok.Hn b z hb
theorem Inv.step{g':Array GenState}{t':Nat}{d':Drawn}{ch:List Addr}(I:Inv X pins σ H s)
  (GV:∀b∈ch,(b∈X.ex\/X.s₀.heap.objs.size<=b)/\b≠X.env.locals/\(∀x c,X.env.cells.lookup x=some c->c≠b)/\∀p∈X.pn++pins,p.1≠b)
  (keep:∀b o,b≠X.env.locals->b∉X.fs->b∉ch->s.heap.get? b=some o->H b=none->h'.get? b=some o)
  (slot:∀b o,b≠X.env.locals->b∈X.fs->b∉ch->s.heap.get? b=some o->H b=none->∃sl,h'.get? b=some { o with slots:=sl }) (free:∀b o,b∉ch->s.heap.get? b=some o->H b=none->H' b=none)
  (there:∀b o,b∉ch->s.heap.get? b=some o->∃o',h'.get? b=some o')
  (rA:∀b xs,H b=some (.tup xs)->H' b=some (.tup xs)) (pF:∀b o u,H b=some (.GS o u)->H' b=some (.GS o u)) (ug:∀b ps,H b=some (.K6 ps)->∃more,H' b=some (.K6 (ps++more)))
  (ns:∀m,s.heap.Ns X.env.locals m->h'.Ns X.env.locals m) (bX:jX X.prog X.w H' h') (hg:AllBare g'):
  Inv X pins σ H' { s with heap:=h',gens:=g',drawn:=d',toks:=t' }:=by
 have Vv:∀b o,X.s₀.heap.get? b=some o->b≠X.env.locals:=λb o e=>Qal (Qat (Qag e) I.ok.above)
 have La:∀b o,X.s₀.heap.get? b=some o->b∉X.ex->b∉ch:=λb o e hx hb=>by
  rcases (GV b hb).1 with z | z
  ·exact hx z
  ·exact absurd (Qat (Qag e) z) (Qbe _)
 have cellK:∀x c,X.env.cells.lookup x=some c->∀v,s.heap.IsCell c v->h'.IsCell c v:=λx c e v ⟨o,ho,hd⟩=>by
  have O5:c∉ch:=λz=>(GV c z).2.2.1 x c e rfl
  by_cases hc:c∈X.fs
  ·obtain ⟨sl,q⟩:=slot c o (I.K_ x c e) hc O5 ho (I.i0 x c e)
   exact ⟨_,q,hd⟩
  ·exact ⟨o,keep c o (I.K_ x c e) hc O5 ho (I.i0 x c e),hd⟩
 refine ⟨I.ok,I.os,hg,⟨λb o e n hb hx=>?_,λb o e n hb hx=>?_,λb o e n hx=>?_,λb o e hx=>?_,λb xs e=>rA b xs (I.base.rA b xs e),λb o xs e=>pF b o xs (I.base.pF b o xs e),λb ps e=>?_⟩,?_,λx c e=>?_,?_,λx c e=>?_,λp hp=>?_,bX,I.len⟩
 ·exact keep b o (Vv b o e) hb (La b o e hx) (I.base.keep b o e n hb hx) (I.base.free b o e n hx)
 ·obtain ⟨sl,e1⟩:=I.base.slot b o e n hb hx
  obtain ⟨Xa,e2⟩:=slot b _ (Vv b o e) hb (La b o e hx) e1 (I.base.free b o e n hx)
  exact ⟨Xa,e2⟩
 ·obtain ⟨o',e1⟩:=I.base.there b o e hx
  exact free b o' (La b o e hx) e1 (I.base.free b o e n hx)
 ·obtain ⟨o',e1⟩:=I.base.there b o e hx
  exact there b o' (La b o e hx) e1
 ·obtain ⟨m1,e1⟩:=I.base.ug b ps e
  obtain ⟨m2,e2⟩:=ug b _ e1
  exact ⟨m1++m2,by rw[e2,Array.append_assoc]⟩
 ·obtain ⟨m,hn,hl⟩:=I.loc
  refine ⟨m,ns m hn,λi x v e1 e2 e3=>?_⟩
  obtain ⟨u,r,l⟩:=hl i x v e1 e2 e3
  refine ⟨u,r,?_⟩
  rcases l with l | ⟨k,c,e,z⟩
  ·exact .inl l
  ·exact .inr ⟨k,c,e,cellK x c e _ z⟩
 ·obtain ⟨v,z⟩:=I.cell x c e
  exact ⟨v,cellK x c e v z⟩
 ·obtain ⟨m,⟨o,_,_,ho,_⟩,_⟩:=I.loc
  exact free _ o (λz=>(GV _ z).2.1 rfl) ho I.free
 ·obtain ⟨v,o,ho,hd⟩:=I.cell x c e
  exact free c o (λz=>(GV c z).2.2.1 x c e rfl) ho (I.i0 x c e)
 ·obtain ⟨e,n,ne,nf,d⟩:=I.pin p hp
  have O5:p.1∉ch:=λz=>(GV p.1 z).2.2.2 p hp rfl
  exact ⟨keep p.1 p.2 ne nf O5 e n,free p.1 p.2 O5 e n,ne,nf,d⟩
theorem Inv.un{t':Nat}(I:Inv X pins σ H s)(u:Un X.fs [] H H' s.heap h')(bX:jX X.prog X.w H' h'):Inv X pins σ H' { s with heap:=h',toks:=t' }:=by
 obtain ⟨m,⟨o,es,ep,ho,r⟩,_⟩:=id I.loc
 obtain ⟨sl,hL⟩:=u.any ho I.free (by simp)
 exact I.step (g':=s.gens) (d':=s.drawn) (ch:=[]) (λ_ z=>nomatch z) (λb o _ hb _ e n=>u.keep b o e n hb (by simp)) (λb o _ hb _ e n=>u.slot b o e n hb (by simp)) (λb o _ e n=>u.free b o e n (by simp)) (λb o _ e=>u.there b o e (by simp)) u.rA u.pF u.ug (λm' hm=>by
  obtain ⟨o',O6,Ho,kO,r'⟩:=hm
  rw[ho]at kO;cases kO
  exact ⟨_,O6,Ho,hL,r'⟩) bX I.bare
theorem Inv.call{g':Array GenState}{t':Nat}{d':Drawn}{ch:List Addr}(I:Inv X pins σ H s)(u:Un (z4 X.stack) ch H H' s.heap h')(bX:jX X.prog X.w H' h')(hg:AllBare g')
  (GV:∀b∈ch,(b∈X.ex\/X.s₀.heap.objs.size<=b)/\b≠X.env.locals/\(∀x c,X.env.cells.lookup x=some c->c≠b)/\∀p∈X.pn++pins,p.1≠b):
  Inv X pins σ H' { s with heap:=h',gens:=g',drawn:=d',toks:=t' }:=by
 obtain ⟨m,⟨o,es,ep,ho,r⟩,_⟩:=id I.loc
 obtain ⟨sl,hL⟩:=u.any ho I.free λz=>(GV _ z).2.1 rfl
 exact I.step (ch:=ch) GV (λb o hL hb hc e n=>u.keep b o e n (λz=>(ZQ.mp (I.pG b z)).elim hL hb) hc) (λb o _ _ hc e n=>u.any e n hc) (λb o hc e n=>u.free b o e n hc) (λb o hc e=>u.there b o e hc) u.rA u.pF u.ug (λm' hm=>by
  obtain ⟨o',O6,Ho,kO,r'⟩:=hm
  rw[ho]at kO;cases kO
  exact ⟨_,O6,Ho,hL,r'⟩) bX hg
theorem Inv.turned{t':Nat}{it:Addr}(I:Inv X pins σ H s)(k:∀b o,b≠it->s.heap.get? b=some o->h'.get? b=some o)(hn:H it=none)(hL:it≠X.env.locals)
  (h1:it∈X.ex\/X.s₀.heap.objs.size<=it) (h2:∀x c,X.env.cells.lookup x=some c->c≠it) (h3:∀p∈X.pn++pins,p.1≠it):Inv X pins σ H { s with heap:=h',toks:=t' }:=by
 have JZ:∀b u,H b=some u->b≠it:=λb u e z=>by rw[z,hn]at e;cases e
 refine I.step (g':=s.gens) (d':=s.drawn) (ch:=[it]) (λb hb=>?_) (λb o _ _ hc e _=>k b o (λz=>hc (by simp[z])) e) (λb o _ _ hc e _=>⟨o.slots,k b o (λz=>hc (by simp[z])) e⟩) (λ_ _ _ _ n=>n)
  (λb o hc e=>⟨o,k b o (λz=>hc (by simp[z])) e⟩) (λ_ _ e=>e) (λ_ _ _ e=>e) (λb ps e=>⟨#[],by rw[e];simp⟩) (λm hm=>?_) (λb u e=>?_) I.bare
 ·have e:b=it:=by simpa using hb
  subst e
  exact ⟨h1,hL,h2,h3⟩
 ·obtain ⟨o,es,ep,ho,r⟩:=hm
  exact ⟨o,es,ep,k _ o (Ne.symm hL) ho,r⟩
 ·refine (I.bX b u e).v9 (λc v hc q=>k c v ?_ q) (λ_ q=>q) λ_ _ q=>q
  rcases hc with z | z
  ·rw[z];exact JZ b u e
  ·exact JZ c _ z
theorem Inv.tok(I:Inv X pins σ H s)(t:Nat):Inv X pins σ H { s with toks:=t }:=I.un (h':=s.heap) (t':=t) Un.refl I.bX
theorem Inv.kept{t':Nat}(I:Inv X pins σ H s)(k:∀b u,s.heap.get? b=some u->h'.get? b=some u):Inv X pins σ H { s with heap:=h',toks:=t' }:=I.un (Un.kept k) (I.bX.kept k)
theorem Inv.laid{a:Addr}{o:HO}{t':Nat}(I:Inv X pins σ H s)(k:∀b u,s.heap.get? b=some u->h'.get? b=some u)(hp:s.heap.objs.size<=a)(new:cw X.prog X.w (upd H a o) h' a o):
  Inv X pins σ (upd H a o) { s with heap:=h',toks:=t' }:=I.un (Un.laid k hp (I.bX.fresh hp)) (I.bX.laid k hp new)
theorem Inv.write{x e:Addr}{o:HO}{t':Nat}(I:Inv X pins σ H s)(mu:O1 (H x))(he:e=x\/H e=some (.own x))(k:∀b u,b≠e->s.heap.get? b=some u->h'.get? b=some u)(Nr:∃u,h'.get? e=some u)
  (new:cw X.prog X.w (upd H x o) h' x o):Inv X pins σ (upd H x o) { s with heap:=h',toks:=t' }:=I.un (Un.write mu he k Nr) (I.bX.write mu he k Nr new)
theorem Inv.weak{σ':List (Option V)}(I:Inv X pins σ H s)(hl:σ'.length=σ.length)(w:∀(i:Nat) v,σ'[i]? =some (some v)->σ[i]? =some (some v)):Inv X pins σ' H s:=
 ⟨I.ok,I.os,I.bare,I.base,let ⟨m,hn,wa⟩:=I.loc;⟨m,hn,λi x v e1 e2 e3=>wa i x v e1 (w i v e2) e3⟩,I.cell,I.free,I.i0,I.pin,I.bX,hl.trans I.len⟩
theorem Inv.kP{z6:List (Addr×Obj)}(I:Inv X pins σ H s)(h:∀p∈z6,s.heap.get? p.1=some p.2/\H p.1=none/\p.1≠X.env.locals/\p.1∉X.fs/\∀v,p.2.data≠ .cell v):Inv X z6 σ H s:=
 ⟨I.ok,I.os,I.bare,I.base,I.loc,I.cell,I.free,I.i0,λp hp=>(Qaa.mp hp).elim (λz=>I.pin p (Qb3 _ z)) (h p),I.bX,I.len⟩
theorem wb{N:List Str}(hN:N.Nodup){i j:Nat}{x:Str}(a:N[i]? =some x)(b:N[j]? =some x):i=j:=by
 obtain ⟨h1,e1⟩:=LL.mp a
 obtain ⟨h2,e2⟩:=LL.mp b
 exact (List.getElem_inj hN).mp (e1.trans e2.symm)
theorem BJ{M:Model}{A:Around}{E:Value->Shared->Prop}{i:Nat}{x:Str}{v:V}{u:Value}{Q:Unit->Shared->Prop}(I:Inv X pins σ H s)(hN:X.N.Nodup)(hi:X.N[i]? =some x)(hx:Loc X.env.scope x)(r:RelV v u)
  (h:∀s',Inv X pins (σ.set i (some v)) H s'->(∃a,Heap.SameBut a s.heap s'.heap/\(a=X.env.locals\/X.env.cells.lookup x=some a))->Q Unit.unit s') (hf:X.fn x=true\/X.env.scope.names.lookup x=some .local:=by first | exact .inl rfl | exact .inr rfl | assumption):wpAny M A (storeName X.env x u) Q E s:=by
 obtain ⟨m,hn,hl⟩:=id I.loc
 have S6:(X.env.scope.kind== .class||(X.env.scope.kind== .module&&X.env.locals != X.env.globals))=false:=by rw[I.ok.kind];rfl
 have Vw:i<σ.length:=by rw[I.len];exact (LL.mp hi).1
 have K_:=I.K_
 have tracked:∀{a:Addr} {h':Heap},(∃o,s.heap.get? a=some o/\H a=none)->Heap.SameBut a s.heap h'->jX X.prog X.w H h':=λ{a h'} ha hs b ob e=>by
  obtain ⟨_,_,J0⟩:=ha
  refine (I.bX b ob e).v9 (λc w' hc q=>(hs.2 c ?_).trans q) (λ_ q=>q) λ_ _ q=>q
  rintro rfl
  rcases hc with rfl | hc
  ·rw[J0]at e;cases e
  ·rw[J0]at hc;cases hc
 rcases hx with hk | hk
 ·refine wpAny_storeName_local hk hn (λh' RE hs=>?_) S6
  obtain ⟨oL,_,_,O7,_⟩:=id hn
  refine h _ ⟨I.ok,I.os,I.bare,⟨λb o e n hb hx=>?_,λb o e n hb hx=>?_,I.base.free,λb o e hx=>?_,I.base.rA,I.base.pF,I.base.ug⟩,⟨_,RE,λj y v' e1 e2 e3=>?_⟩,λy c e=>?_,I.free,I.i0,λp hp=>?_,tracked ⟨oL,O7,I.free⟩ hs,by simpa using I.len⟩ ⟨_,hs,.inl rfl⟩
  ·exact (hs.2 b (Qal (Qat (Qag e) I.ok.above))).trans (I.base.keep b o e n hb hx)
  ·obtain ⟨sl,e1⟩:=I.base.slot b o e n hb hx
   exact ⟨sl,(hs.2 b (Qal (Qat (Qag e) I.ok.above))).trans e1⟩
  ·obtain ⟨o',e1⟩:=I.base.there b o e hx
   exact ⟨o',(hs.2 b (Qal (Qat (Qag e) I.ok.above))).trans e1⟩
  ·by_cases hj:j=i
   ·subst hj
    rw[hi]at e1;cases e1
    rw[List.getElem?_set_self Vw]at e2
    cases e2
    exact ⟨u,r,.inl ⟨hk,by simp⟩⟩
   ·rw[List.getElem?_set_ne (Ne.symm hj)]at e2
    obtain ⟨u',r',q⟩:=hl j y v' e1 e2 e3
    refine ⟨u',r',?_⟩
    rcases q with ⟨k,e⟩ | ⟨k,c,e,z⟩
    ·refine .inl ⟨k,?_⟩
     have:y≠x:=λe=>hj (wb hN e1 (e▸hi))
     simp[this,e]
    ·exact .inr ⟨k,c,e,z.sameBut hs (K_ y c e)⟩
  ·obtain ⟨w',z⟩:=I.cell y c e
   exact ⟨w',z.sameBut hs (K_ y c e)⟩
  ·obtain ⟨e,n,ne,nf,d⟩:=I.pin p hp
   exact ⟨(hs.2 p.1 ne).trans e,n,ne,nf,d⟩
 ·have S7:X.fn x=true:=by
   rcases hf with z | z
   ·exact z
   ·rw[z]at hk;cases hk
  obtain ⟨c,hc⟩:=I.ok.has x (.inl hk)
  obtain ⟨w',z⟩:=I.cell x c hc
  refine wpAny_storeName_cell I.ok.kind hk hc z (λh' rB hs=>?_)
  obtain ⟨oc,Vx,S8⟩:=id z
  refine h { s with heap:=h' } ⟨I.ok,I.os,I.bare,⟨λb o e n hb hx=>?_,λb o e n hb hx=>?_,I.base.free,λb o e hx=>?_,I.base.rA,I.base.pF,I.base.ug⟩,⟨m,hn.sameBut hs (Ne.symm (K_ x c hc)),λj y v' e1 e2 e3=>?_⟩,λy c' e=>?_,I.free,I.i0,λp hp=>?_,tracked ⟨oc,Vx,I.i0 x c hc⟩ hs,by simpa using I.len⟩ ⟨c,hs,.inr hc⟩
  ·exact (hs.2 b (Qal (Qat (Qag e) (I.ok.O4 x c S7 hc)))).trans (I.base.keep b o e n hb hx)
  ·obtain ⟨sl,e1⟩:=I.base.slot b o e n hb hx
   exact ⟨sl,(hs.2 b (Qal (Qat (Qag e) (I.ok.O4 x c S7 hc)))).trans e1⟩
  ·obtain ⟨o',e1⟩:=I.base.there b o e hx
   exact ⟨o',(hs.2 b (Qal (Qat (Qag e) (I.ok.O4 x c S7 hc)))).trans e1⟩
  ·by_cases hj:j=i
   ·subst hj
    rw[hi]at e1;cases e1
    rw[List.getElem?_set_self Vw]at e2
    cases e2
    exact ⟨u,r,.inr ⟨.inl hk,c,hc,rB⟩⟩
   ·rw[List.getElem?_set_ne (Ne.symm hj)]at e2
    obtain ⟨u',r',q⟩:=hl j y v' e1 e2 e3
    refine ⟨u',r',?_⟩
    rcases q with q | ⟨k,c',e,z'⟩
    ·exact .inl q
    ·refine .inr ⟨k,c',e,z'.sameBut hs ?_⟩
     rintro rfl
     exact hj (wb hN e1 (I.ok.inj _ _ _ e hc▸hi))
  ·by_cases Nu:c'=c
   ·subst Nu;exact ⟨_,rB⟩
   ·obtain ⟨w2,z2⟩:=I.cell y c' e
    exact ⟨w2,z2.sameBut hs Nu⟩
  ·obtain ⟨e,n,ne,nf,d⟩:=I.pin p hp
   refine ⟨(hs.2 p.1 ?_).trans e,n,ne,nf,d⟩
   intro q
   rw[q,Vx]at e
   have q':oc=p.2:=Qaf e
   exact d w' (by rw[<-q'];exact S8)
theorem pH{M:Model}{A:Around}{E:Value->Shared->Prop}{i:Nat}{x:Str}{v:V}{u:Value}{Q:Unit->Shared->Prop}(I:Inv X pins σ H s)(hN:X.N.Nodup)(hi:X.N[i]? =some x)(hx:Loc X.env.scope x)(r:RelV v u)
  (h:∀s',Inv X pins (σ.set i (some v)) H s'->Q Unit.unit s') (hf:X.fn x=true\/X.env.scope.names.lookup x=some .local:=by first | exact .inl rfl | exact .inr rfl | assumption):wpAny M A (storeName X.env x u) Q E s:=
 BJ I hN hi hx r (λs' I' _=>h s' I') hf
theorem Inv.O8{s':Shared}{ch:List Addr}(I:Inv X pins σ H s)(ho:s'.os=s.os)(u:Un (z4 X.stack) ch H H' s.heap s'.heap)(bX:jX X.prog X.w H' s'.heap)(hg:AllBare s'.gens)
  (GV:∀b∈ch,(b∈X.ex\/X.s₀.heap.objs.size<=b)/\b≠X.env.locals/\(∀x c,X.env.cells.lookup x=some c->c≠b)/\∀p∈X.pn++pins,p.1≠b):Inv X pins σ H' s':=by
 obtain ⟨h',g',d',t',o'⟩:=s'
 have e:o'=s.os:=ho
 subst e
 exact I.call (g':=g') (t':=t') (d':=d') u bX hg GV
end
abbrev XK:=Value->Option Addr->Hp->Prop
abbrev St:=List (Option V)
abbrev VK:=V->Hp->Prop
abbrev TE:=St->Hp->VK->Prop
abbrev TT:=St->Hp->(Bool->Hp->Prop)->Prop
abbrev TA:=St->Hp->(List V->Hp->Prop)->Prop
structure Ends where
 nx:St->Hp->Prop
 rt:VK
 bk:St->Hp->Prop:=λ_ _=>False
 ct:St->Hp->Prop:=λ_ _=>False
abbrev TS:=Ends->St->Hp->Prop
def EP(X:Cx)(pins:List (Addr×Obj))(σ:St)(Q:VK)(u:Value)(s':Shared):Prop:=∃v H',Inv X pins σ H' s'/\RelV v u/\Q v H'
def TP(X:Cx)(pins:List (Addr×Obj))(σ:St)(Q:Bool->Hp->Prop)(b:Bool)(s':Shared):Prop:=∃H',Inv X pins σ H' s'/\Q b H'
def AP(X:Cx)(pins:List (Addr×Obj))(σ:St)(Q:List V->Hp->Prop)(us:List Value)(s':Shared):Prop:=∃vs H',Inv X pins σ H' s'/\Vals vs us/\Q vs H'
def SP(X:Cx)(pins:List (Addr×Obj))(D:Ends)(f:Flow)(s':Shared):Prop:=
 match f with
 | .next=>∃σ' H',Inv X pins σ' H' s'/\D.nx σ' H'
 | .brk=>∃σ' H',Inv X pins σ' H' s'/\D.bk σ' H'
 | .cont=>∃σ' H',Inv X pins σ' H' s'/\D.ct σ' H'
 | .ret u=>∃v σ' H',Inv X pins σ' H' s'/\RelV v u/\D.rt v H'
def PE(X:Cx)(e:Expr)(t:TE):Prop:=
 ∀(pins:List (Addr×Obj)) (s:Shared) (σ:St) (H:Hp) (Q:VK),Inv X pins σ H s->t σ H Q->wpAny (model X.prog X.w) X.A (eval e X.env) (EP X pins σ Q) X.xe s
def PT(X:Cx)(e:Expr)(t:TT):Prop:=
 ∀(pins:List (Addr×Obj)) (s:Shared) (σ:St) (H:Hp) (Q:Bool->Hp->Prop),Inv X pins σ H s->t σ H Q->wpAny (model X.prog X.w) X.A (isTrue e X.env (eval e X.env)) (TP X pins σ Q) X.xe s
def PW(X:Cx)(e:Expr)(t:TT):Prop:=
 ∀(whole:Sem Value) (pins:List (Addr×Obj)) (s:Shared) (σ:St) (H:Hp) (Q:Bool->Hp->Prop),Inv X pins σ H s->t σ H Q->wpAny (model X.prog X.w) X.A (isTrue e X.env whole) (TP X pins σ Q) X.xe s
theorem PW.pt{X:Cx}{e:Expr}{t:TT}(h:PW X e t):PT X e t:=h _
def PA(X:Cx)(es:List Expr)(t:TA):Prop:=
 ∀(pos:Pos) (pins:List (Addr×Obj)) (s:Shared) (σ:St) (H:Hp) (Q:List V->Hp->Prop),Inv X pins σ H s->t σ H Q->wpAny (model X.prog X.w) X.A (spliced (backTo pos (starEach es X.env))) (AP X pins σ Q) X.xe s
def PS(X:Cx)(st:Stmt)(t:TS):Prop:=
 ∀(pins:List (Addr×Obj)) (s:Shared) (σ:St) (H:Hp) (D:Ends),Inv X pins σ H s->t D σ H->wpAny (model X.prog X.w) X.A (exec st X.env) (SP X pins D) X.xe s
def x9(X:Cx)(st:List Stmt)(t:TS):Prop:=
 ∀(pins:List (Addr×Obj)) (s:Shared) (σ:St) (H:Hp) (D:Ends),Inv X pins σ H s->t D σ H->wpAny (model X.prog X.w) X.A (execs st X.env) (SP X pins D) X.xe s
theorem cf{α:Type}{t:Sem α}{Q Q':α->Shared->Prop}{M:Model}{A:Around}{E:Value->Shared->Prop}{s:Shared}(h:wpAny M A t Q E s)(hQ:∀a s,Q a s->Q' a s):wpAny M A t Q' E s:=wpAny_mono h hQ λ_ _ x=>x
section
variable{X:Cx}
def Lb(i:Nat):TE:=λσ H Q=>∃v,σ[i]? =some (some v)/\Q v H
def tC(v:V):TE:=λ_ H Q=>Q v H
theorem Lc{i:Nat}{x:Str}{pos:Pos}(hN:X.N[i]? =some x)(hv:O3 X.env.scope x)(hd:(x==("__debug__":Str))=false:=by decide)(oA:(x==("__classdict__":Str))=false:=by decide):PE X (.Name x pos) (Lb i):=by
 walk_at"i"
 obtain ⟨v,e,h⟩:=h
 obtain ⟨m,hn,hl⟩:=I.loc
 obtain ⟨u,r,l⟩:=hl i x v hN e hv
 have fin:EP X pins σ Q u s:=⟨v,H,I,r,h⟩
 rcases l with ⟨hk,hm⟩ | ⟨hk,c,hc,i3⟩
 ·exact wpAny_Name (wpAny_loadName_local I.ok.kind hk hn hm fin) hd
 ·rcases hk with hk | hk
  ·exact wpAny_Name (wpAny_loadName_cell I.ok.kind hk hc i3 fin) hd
  ·exact wpAny_Name (wpAny_loadName_free I.ok.kind hk hc i3 fin oA) hd
theorem ai{i j pos}:PE X (.Constant (.int i) j pos) (tC (.int i)):=λ_ _ _ H _ I h=>wpAny_Constant_int ⟨.int i,H,I.tok _,⟨_,rfl⟩,h⟩
theorem J1{b j pos}:PE X (.Constant (.bool b) j pos) (tC (.bl b)):=λ_ _ _ H _ I h=>Constant_bool ⟨.bl b,H,I,rfl,h⟩
theorem Ld{x j pos}:PE X (.Constant (.str x) j pos) (tC (.str x)):=λ_ _ _ H _ I h=>Calls.Constant_str ⟨.str x,H,I.tok _,⟨_,rfl⟩,h⟩
def Gl(X:Cx)(x:Str):Prop:=X.env.kindOf x=some .globalImplicit
theorem ui{E:Value->Shared->Prop}{pins:List (Addr×Obj)}{s:Shared}{σ:St}{H:Hp}{x:Str}{u:Value}{pos:Pos}{Q:Value->Shared->Prop}(I:Inv X pins σ H s)(hg:Gl X x)(hm:X.mg x=some u)(h:Q u s)
  (hd:(x==("__debug__":Str))=false:=by decide):wpAny (model X.prog X.w) X.A (eval (.Name x pos) X.env) Q E s:=
 Calls.Name_function_global I.ok.kind hg (Calls.loadGlobal_global (by rw[I.ok.glob];exact I.mod.glob.keeps I.bk) hm h) hd
theorem gD{E:Value->Shared->Prop}{pins:List (Addr×Obj)}{s:Shared}{σ:St}{H:Hp}{x:Str}{u:Value}{pos:Pos}{Q:Value->Shared->Prop}(I:Inv X pins σ H s)(hg:Gl X x)(hm:X.mg x=none)(hv:bootBuiltins x=some u)(h:Q u s)
  (hn:x≠"__name__":=by decide) (hd:(x==("__debug__":Str))=false:=by decide):wpAny (model X.prog X.w) X.A (eval (.Name x pos) X.env) Q E s:=by
 obtain ⟨mb,h1,h2⟩:=I.mod.blt
 exact Calls.Name_function_global I.ok.kind hg (Calls.loadGlobal_builtin (by rw[I.ok.glob];exact I.mod.glob.keeps I.bk) hm (by rw[I.ok.blt];exact h1.keeps I.bk) ((h2 x hn).trans hv) h) hd
theorem z7{x:Str}{v:V}{u:Value}{pos:Pos}(hg:Gl X x)(hm:X.mg x=some u)(r:RelV v u)(hd:(x==("__debug__":Str))=false:=by decide):PE X (.Name x pos) (tC v):=
 λ_ _ _ H _ I h=>ui I hg hm ⟨v,H,I,r,h⟩ hd
variable{a b:Expr}{ta tb:TE}{pos:Pos}
def tB(t:TE):TT:=λσ H Q=>t σ H λx H1=>∃c,x= .bl c/\Q c H1
theorem mI{e:Expr}{t:TE}(h:PE X e t)(he:∀whole,isTrue e X.env whole=(do let v <-whole;standAt e.pos;holding [v] (truthy v)):=by intro _;rfl):PT X e (tB t):=by
 intro pins s σ H Q I hw
 refine isTrue_plain (cf (h pins s σ H _ I hw) λv s1 ⟨x,H1,I1,r1,q1⟩=>?_) (he _)
 obtain ⟨d,rfl,q⟩:=q1
 cases r1
 exact wpAny_truthy_bool ⟨H1,I1,q⟩
variable{tA RF:TT}{rest:List Expr}
def S9(t u:TT):TT:=λσ H Q=>t σ H λc H1=>if c=true then u σ H1 Q else Q false H1
def Xb(t u:TT):TT:=λσ H Q=>t σ H λc H1=>if c=true then Q true H1 else u σ H1 Q
theorem hW(ha:PT X a tA):PW X (.BoolOp .And [a] pos) tA:=by
 intro wh pins s σ H Q I h
 refine isTrue_and (cf (ha pins s σ H Q I h) λc s1 e=>?_)
 cases c with
 | true=>exact isTrue_and_nil e
 | false=>exact e
theorem Dw(ha:PT X a tA):PW X (.BoolOp .Or [a] pos) tA:=by
 intro wh pins s σ H Q I h
 refine isTrue_or (cf (ha pins s σ H Q I h) λc s1 e=>?_)
 cases c with
 | false=>exact isTrue_or_nil e
 | true=>exact e
theorem i4(ha:PT X a tA)(hb:PW X (.BoolOp .And (b::rest) pos) RF):PW X (.BoolOp .And (a::b::rest) pos) (S9 tA RF):=by
 intro wh pins s σ H Q I h
 refine isTrue_and (cf (ha pins s σ H _ I h) λc s1 ⟨H1,I1,q1⟩=>?_)
 cases c with
 | true=>exact hb wh pins s1 σ H1 Q I1 q1
 | false=>exact ⟨H1,I1,q1⟩
theorem J2(ha:PT X a tA)(hb:PW X (.BoolOp .Or (b::rest) pos) RF):PW X (.BoolOp .Or (a::b::rest) pos) (Xb tA RF):=by
 intro wh pins s σ H Q I h
 refine isTrue_or (cf (ha pins s σ H _ I h) λc s1 ⟨H1,I1,q1⟩=>?_)
 cases c with
 | true=>exact ⟨H1,I1,q1⟩
 | false=>exact hb wh pins s1 σ H1 Q I1 q1
end
def a_(K:Fr)(H:Hp)(a:Addr)(xs:List V):Prop:=
 Rd H a (.lst xs)\/
  ∃(o:Obj) (its:Array Value) (n:Nat),K.lookup a=some o/\o.cls= .type "list"/\o.dict=none/\o.data= .seq its n/\its.size<=sizeLine/\Vals xs its.toList
def bW(K:Fr)(H:Hp)(a:Addr)(xs:List V):Prop:=
 Rd H a (.tup xs)\/
  ∃(o:Obj) (its:Array Value) (n:Nat),K.lookup a=some o/\o.cls= .type "tuple"/\o.data= .seq its n/\its.size<=sizeLine/\Vals xs its.toList
noncomputable def S_:Value->Option V
 | .none=>some .fQ
 | .bool b=>some (.bl b)
 | .int i _=>some (.int i)
 | .str x _=>some (.str x)
 | .bytes b _=>some (.zZ b)
 | .float b _=>some (.RB b)
 | .ref a=>some (.ref a)
 | .type n=>some (.ty n)
 | _=>none
theorem RelV.abs{x:V}{u:Value}(r:RelV x u):S_ u=some x:=by
 cases x with
 | fQ=>cases r;rfl
 | bl _=>cases r;rfl
 | int _=>obtain ⟨t,rfl⟩:=r;rfl
 | str _=>obtain ⟨t,rfl⟩:=r;rfl
 | zZ _=>obtain ⟨t,rfl⟩:=r;rfl
 | RB _=>obtain ⟨t,rfl⟩:=r;rfl
 | ref _=>cases r;rfl
 | ty _=>cases r;rfl
theorem RelV.inj{x y:V}{u:Value}(r:RelV x u)(q:RelV y u):x=y:=Qaf (r.abs.symm.trans q.abs)
theorem Vals.inj:∀{xs ys:List V} {us:List Value},Vals xs us->Vals ys us->xs=ys
 | _,_,_,.nil,.nil=>rfl
 | _,_,_,.cons r t,.cons r' t'=>by rw[r.inj r',Vals.inj t t']
section
variable{X:Cx}{pins:List (Addr×Obj)}{σ:St}{H:Hp}{s:Shared}{a:Addr}{xs ys:List V}
theorem a_.of{K:Fr}(h:H a=some (.lst xs)):a_ K H a xs:= .inl (.inl h)
theorem bW.of{K:Fr}(h:H a=some (.tup xs)):bW K H a xs:= .inl (.inl h)
theorem Inv.list(I:Inv X pins σ H s)(h:a_ X.K H a xs):∃its:List Value,Vals xs its/\PlainL s.heap a its.toArray/\(xs:)<=sizeLine:=by
 rcases h with h | ⟨o,its,n,hk,hc,hd,hs,hz,r⟩
 ·obtain ⟨z,its,n,r,e⟩:=h.ok I.bX
  exact ⟨its,r,⟨_,n,e,rfl,rfl,rfl⟩,z⟩
 ·refine ⟨its.toList,r,⟨o,n,I.BI a o hk,hc,hd,by simpa using hs⟩,?_⟩
  have e:=(r:)
  simp only[Qfg]at e
  lia
theorem Inv.tuple(I:Inv X pins σ H s)(h:bW X.K H a xs):∃its:List Value,Vals xs its/\IsTup s.heap a its.toArray/\(xs:)<=sizeLine:=by
 rcases h with h | ⟨o,its,n,hk,hc,hs,hz,r⟩
 ·obtain ⟨z,its,r,p⟩:=h.ok I.bX
  exact ⟨its,r,p,z⟩
 ·refine ⟨its.toList,r,⟨o,I.BI a o hk,hc,n,by simpa using hs⟩,?_⟩
  have e:=(r:)
  simp only[Qfg]at e
  lia
theorem Inv.wc(I:Inv X pins σ H s)(h:a_ X.K H a xs)(h':a_ X.K H a ys):xs=ys:=by
 obtain ⟨its,r,⟨o,n,e,_,_,d⟩,_⟩:=I.list h
 obtain ⟨its',r',⟨o',n',e',_,_,d'⟩,_⟩:=I.list h'
 rw[e]at e';cases e'
 rw[d]at d'
 injection d' with d1 _
 have:its=its':=by simpa using congrArg Array.toList d1
 subst this
 exact r.inj r'
theorem Inv.mJ(I:Inv X pins σ H s)(h:bW X.K H a xs)(h':bW X.K H a ys):xs=ys:=by
 obtain ⟨its,r,⟨o,e,_,n,d⟩,_⟩:=I.tuple h
 obtain ⟨its',r',⟨o',e',_,n',d'⟩,_⟩:=I.tuple h'
 rw[e]at e';cases e'
 rw[d]at d'
 injection d' with d1 _
 have:its=its':=by simpa using congrArg Array.toList d1
 subst this
 exact r.inj r'
end
noncomputable abbrev Cx.rC(X:Cx)(E:Value->Shared->Prop):Cx:={ X with xe:=E }
noncomputable abbrev Cx.RG(X:Cx):Cx:=X.rC λ_ _=>False
theorem Cx.Ok.rC{X:Cx}(ok:X.Ok)(E:Value->Shared->Prop):(X.rC E).Ok:=
 ⟨ok.mod,ok.kind,ok.glob,ok.blt,ok.above,ok.inj,ok.has,ok.O4,ok.hd,ok.frames,ok.RD,ok.Vu,ok.bs,ok.Hm,ok.Dv,ok.Hn,ok.oz,ok.K8⟩
theorem Cx.Ok.i5{X:Cx}{E:Value->Shared->Prop}(ok:(X.rC E).Ok):X.Ok:=
 ⟨ok.mod,ok.kind,ok.glob,ok.blt,ok.above,ok.inj,ok.has,ok.O4,ok.hd,ok.frames,ok.RD,ok.Vu,ok.bs,ok.Hm,ok.Dv,ok.Hn,ok.oz,ok.K8⟩
section
variable{X:Cx}{pins:List (Addr×Obj)}{σ:St}{H:Hp}{s:Shared}{E:Value->Shared->Prop}
theorem Inv.rC(I:Inv X pins σ H s)(E:Value->Shared->Prop):Inv (X.rC E) pins σ H s:=⟨I.ok.rC E,I.os,I.bare,I.base,I.loc,I.cell,I.free,I.i0,I.pin,I.bX,I.len⟩
theorem Inv.i5(I:Inv (X.rC E) pins σ H s):Inv X pins σ H s:=⟨I.ok.i5,I.os,I.bare,I.base,I.loc,I.cell,I.free,I.i0,I.pin,I.bX,I.len⟩
theorem SP.i5{D:Ends}{f:Flow}{s':Shared}(h:SP (X.rC E) pins D f s'):SP X pins D f s':=by
 cases f with
 | next=>obtain ⟨σ',H',I,q⟩:=h;exact ⟨σ',H',I.i5,q⟩
 | brk=>obtain ⟨σ',H',I,q⟩:=h;exact ⟨σ',H',I.i5,q⟩
 | cont=>obtain ⟨σ',H',I,q⟩:=h;exact ⟨σ',H',I.i5,q⟩
 | ret u=>obtain ⟨v,σ',H',I,r,q⟩:=h;exact ⟨v,σ',H',I.i5,r,q⟩
theorem x9.RG{st:List Stmt}{t:TS}(h:x9 X.RG st t):x9 X st t:=λpins s σ H D I hw=>
 wpAny_mono (h pins s σ H D (I.rC _) hw) (λ_ _ q=>q.i5) λ_ _ z=>False.elim z
end
section
variable{X:Cx}{st:Stmt}{rest:List Stmt}{t u:TS}{e:Expr}{te:TE}{pos:Pos}
def O9:TS:=λD σ H=>D.nx σ H
def x_(t u:TS):TS:=λD σ H=>t { D with nx:=u D } σ H
theorem bN:x9 X [] O9:=λ_ _ σ H _ I h=>wpAny_execs_nil ⟨σ,H,I,h⟩
theorem ag(h1:PS X st t)(h2:x9 X rest u):x9 X (st::rest) (x_ t u):=by
 walk_at"y"
 refine wpAny_execs_cons (cf (h1 pins s σ H { D with nx:=u D } I h) λf s1 q=>?_)
 cases f with
 | next=>
  obtain ⟨σ',H',I',q⟩:=q
  exact h2 pins s1 σ' H' D I' q
 | ret v=>exact q
 | brk=>exact q
 | cont=>exact q
theorem ah(h1:PS X st t):x9 X [st] t:=by
 walk_at"y"
 refine wpAny_execs_cons (cf (h1 pins s σ H D I h) λf s1 q=>?_)
 cases f with
 | next=>exact wpAny_execs_nil q
 | ret v=>exact q
 | brk=>exact q
 | cont=>exact q
theorem Inv.quiet{pins:List (Addr×Obj)}{σ:St}{H:Hp}{s:Shared}(I:Inv X pins σ H s):interactive X.env=false:=by simp[interactive,I.ok.kind]
def O_(te:TE):TS:=λD σ H=>te σ H λ_ H1=>D.nx σ H1
theorem cA(he:PE X e te)(hs:swapsWith e none pos.line X.env=pure false:=by rfl):PS X (.Expr e pos) (O_ te):=by
 walk_at"y"
 exact wpAny_Expr_any (cf (he pins s σ H _ I h) λv s1 ⟨x,H1,I1,r1,q1⟩=>⟨σ,H1,I1,q1⟩) I.quiet hs
def Ta(te:TE):TS:=λD σ H=>te σ H D.rt
theorem aG(he:PE X e te):PS X (.Return (some e) pos) (Ta te):=by
 walk_at"y"
 exact wpAny_Return_some (cf (he pins s σ H _ I h) λv s1 ⟨x,H1,I1,r1,q1⟩=>⟨x,σ,H1,I1,r1,q1⟩)
def Tb(c:TT)(t u:TS):TS:=λD σ H=>c σ H λb H1=>if b=true then t D σ H1 else u D σ H1
theorem cx{c:Expr}{a b:List Stmt}{tc:TT}(hc:PT X c tc)(ha:x9 X a t)(hb:x9 X b u):PS X (.If c a b pos) (Tb tc t u):=by
 walk_at"y"
 refine wpAny_If (cf (hc pins s σ H _ I h) λd s1 ⟨H1,I1,q1⟩=>?_)
 cases d with
 | true=>exact ha pins s1 σ H1 D I1 q1
 | false=>exact hb pins s1 σ H1 D I1 q1
end
abbrev TG:=V->St->Hp->(St->Hp->Prop)->Prop
abbrev J3:=List V->St->Hp->(St->Hp->Prop)->Prop
def PG(X:Cx)(target:Expr)(t:TG):Prop:=
 ∀(pins:List (Addr×Obj)) (s:Shared) (σ:St) (H:Hp) (v:V) (u:Value) (Q:St->Hp->Prop),Inv X pins σ H s->RelV v u->t v σ H Q->
  wpAny (model X.prog X.w) X.A (assign target X.env u) (λ_ s'=>∃σ' H',Inv X pins σ' H' s'/\Q σ' H') X.xe s
def Pa(X:Cx)(ts:List Expr)(t:J3):Prop:=
 ∀(pins:List (Addr×Obj)) (s:Shared) (σ:St) (H:Hp) (vs:List V) (us:List Value) (Q:St->Hp->Prop),Inv X pins σ H s->Vals vs us->t vs σ H Q->
  wpAny (model X.prog X.w) X.A (assignInOrder ((assignEach ts X.env).map (·.2)) us) (λ_ s'=>∃σ' H',Inv X pins σ' H' s'/\Q σ' H') X.xe s
abbrev Le:=V->V->V->Hp->(Hp->Prop)->Prop
def Pb(X:Cx)(t:Le):Prop:=
 ∀(pins:List (Addr×Obj)) (s:Shared) (σ:St) (H:Hp) (o i v:V) (ov iv u:Value) (Q:Hp->Prop),Inv X pins σ H s->RelV o ov->RelV i iv->RelV v u->t o i v H Q->
  wpAny (model X.prog X.w) X.A (setItem ov iv u) (λ_ s'=>∃H',Inv X pins σ H' s'/\Q H') X.xe s
abbrev RH:=V->V->Hp->VK->Prop
def Pc(X:Cx)(op:Operator)(t:RH):Prop:=
 ∀(pins:List (Addr×Obj)) (s:Shared) (σ:St) (H:Hp) (x y:V) (v u:Value) (Q:VK),Inv X pins σ H s->RelV x v->RelV y u->t x y H Q->
  wpAny (model X.prog X.w) X.A (inplaceOp op v u) (EP X pins σ Q) X.xe s
section
variable{X:Cx}{pos:Pos}
def z8(i:Nat):TG:=λv σ H Q=>Q (σ.set i (some v)) H
theorem aA{i:Nat}{x:Str}(hN:X.N.Nodup)(hi:X.N[i]? =some x)(hx:Loc X.env.scope x)(hf:X.fn x=true\/X.env.scope.names.lookup x=some .local:=by first | exact .inl rfl | exact .inr rfl | assumption):PG X (.Name x pos) (z8 i):=by
 intro pins s σ H v u Q I r h
 exact wpAny_assign_Name (pH I hN hi hx r (λs' I'=>⟨_,H,I',h⟩) hf)
def Tc:J3:=λvs σ H Q=>vs=[]/\Q σ H
def Pd(t:TG)(u:J3):J3:=λvs σ H Q=>∃v r,vs=v::r/\t v σ H λσ' H'=>u r σ' H' Q
theorem eh:Pa X [] Tc:=by
 intro pins s σ H vs us Q I r h
 obtain ⟨e,h⟩:=h
 subst e
 cases r
 exact assignInOrder_nil ⟨σ,H,I,h⟩
theorem bf{e:Expr}{es:List Expr}{t:TG}{u:J3}(h1:PG X e t)(h2:Pa X es u)
  (hs:(assignEach (e::es) X.env).map (·.2)=assign e X.env::(assignEach es X.env).map (·.2):=by rfl):Pa X (e::es) (Pd t u):=by
 intro pins s σ H vs us Q I r h
 obtain ⟨v,vr,e1,h⟩:=h
 subst e1
 cases r with
 | cons r rr=>
  rw[hs]
  refine assignInOrder_cons (cf (h1 pins s σ H _ _ _ I r h) λ_ s1 ⟨σ1,H1,I1,q1⟩=>?_)
  exact h2 pins s1 σ1 H1 _ _ Q I1 rr q1
def Pe(K:Fr)(n:Nat)(t:J3):TG:=λv σ H Q=>∃a xs,v= .ref a/\bW K H a xs/\(xs:)=n/\t xs σ H Q
theorem Lf{es:List Expr}{k:Nat}{t:J3}{n:Nat}(hc:X.calm=true)(h:Pa X es t)
  (hn:(assignEach es X.env:)=n:=by rfl) (kL:(assignEach es X.env).findIdx? (·.1)=none:=by rfl):PG X (.Tuple es k pos) (Pe X.K n t):=by
 intro pins s σ H v u Q I r hw
 obtain ⟨a,xs,e1,hq,hl,hw⟩:=hw
 subst e1
 cases r
 obtain ⟨its,rv,ht,hz⟩:=I.tuple hq
 refine assign_Tuple_tuple (I.ok.hd hc) ht (by simp[hn, <-hl,(rv:)]) kL λh' hx=>?_
 have I1:Inv X pins σ H { s with heap:=h' }:=I.kept (t':=s.toks) λb o e=>hx b o (Qal (Qag e)) e
 exact h pins _ σ H xs _ Q I1 (by simpa using rv) hw
def Td(to ti:TE)(t:Le):TG:=λv σ H Q=>to σ H λo H1=>ti σ H1 λi H2=>t o i v H2 λH3=>Q σ H3
theorem Dy{o i:Expr}{to ti:TE}{t:Le}(ho:PE X o to)(hi:PE X i ti)(hs:Pb X t)
  (ha:∀v,assign (.Subscript o i pos) X.env v=(do
   let ov <-holding [v] (eval o X.env)
   let iv <-holding [v,ov] (eval i X.env)
   standAt pos
   holding [v,ov,iv] (setItem ov iv v)
   release [v,ov,iv] []):=by intro _;rfl):PG X (.Subscript o i pos) (Td to ti t):=by
 intro pins s σ H v u Q I r h
 rw[ha]
 refine wpAny_bind (wpAny_holding (cf (ho pins s σ H _ I h) λov s1 ⟨x,H1,I1,r1,q1⟩=>?_))
 refine wpAny_bind (wpAny_holding (cf (hi pins s1 σ H1 _ I1 q1) λiv s2 ⟨y,H2,I2,r2,q2⟩=>?_))
 refine wpAny_bind (wpAny_standAt (wpAny_bind (wpAny_holding (cf (hs pins s2 σ H2 x y v ov iv u _ I2 r1 r2 r q2) λ_ s3 ⟨H3,I3,q3⟩=>?_))))
 exact wpAny_release ⟨σ,H3,I3,q3⟩
def Ph(te:TE)(g:TG):TS:=λD σ H=>te σ H λx H1=>g x σ H1 D.nx
theorem yf{tg e:Expr}{te:TE}{g:TG}(he:PE X e te)(hg:PG X tg g)(hs:swapsWithSole [tg] e pos.line X.env=pure false:=by rfl)(hw:swappedStores [tg] e X.env=pure none:=by rfl)
  (h1:(assignEach [tg] X.env).map (·.2)=[assign tg X.env]:=by rfl):PS X (.Assign [tg] e pos) (Ph te g):=by
 walk_at"y"
 refine wpAny_Assign_stores (cf (he pins s σ H _ I h) λv s1 ⟨x,H1,I1,r1,q1⟩=>?_) hs hw
 rw[h1]
 exact cf (hg pins s1 σ H1 x v _ I1 r1 q1) λ_ s2 q=>q
theorem ak{i:Nat}{x:Str}{e:Expr}{te:TE}{pos':Pos}(hN:X.N.Nodup)(hi:X.N[i]? =some x)(hx:Loc X.env.scope x)(he:PE X e te)(hs:swapsWith e (some (.Name x pos')) pos.line X.env=pure false:=by rfl)(hf:X.fn x=true\/X.env.scope.names.lookup x=some .local:=by first | exact .inl rfl | exact .inr rfl | assumption):
  PS X (.Assign [.Name x pos'] e pos) (Ph te (z8 i)):=by
 walk_at"y"
 refine wpAny_Assign_Name (cf (he pins s σ H _ I h) λv s1 ⟨y,H1,I1,r1,q1⟩=>?_) hs
 exact pH I1 hN hi hx r1 (λs2 I2=>⟨_,H1,I2,q1⟩) hf
def Te(i:Nat)(te:TE)(ti:RH):TS:=λD σ H=>∃x,σ[i]? =some (some x)/\te σ H λy H1=>ti x y H1 λz H2=>D.nx (σ.set i (some z)) H2
theorem kh{i:Nat}{x:Str}{e:Expr}{te:TE}{op:Operator}{ti:RH}{pos':Pos}(hN:X.N.Nodup)(hi:X.N[i]? =some x)(hx:Loc X.env.scope x)(he:PE X e te)(ho:Pc X op ti)(hf:X.fn x=true\/X.env.scope.names.lookup x=some .local:=by first | exact .inl rfl | exact .inr rfl | assumption):
  PS X (.AugAssign (.Name x pos') op e pos) (Te i te ti):=by
 walk_at"y"
 obtain ⟨v,e1,h⟩:=h
 obtain ⟨m,hn,hl⟩:=I.loc
 have Xc:O3 X.env.scope x:=by rcases hx with k | k;exact .inl k;exact .inr (.inl k)
 obtain ⟨u,r,l⟩:=hl i x v hi e1 Xc
 refine wpAny_AugAssign_Name ?_
 have go:wpAny (model X.prog X.w) X.A (eval e X.env) (λw s₂=>wpAny (model X.prog X.w) X.A (inplaceOp op u w) (λr s₃=>wpAny (model X.prog X.w) X.A (storeName X.env x r) (λ_=>SP X pins D .next) X.xe s₃) X.xe s₂) X.xe s:=by
  refine cf (he pins s σ H _ I h) λw s1 ⟨y,H1,I1,r1,q1⟩=>?_
  refine cf (ho pins s1 σ H1 v y u w _ I1 r r1 q1) λz s2 ⟨zv,H2,I2,r2,q2⟩=>?_
  exact pH I2 hN hi hx r2 (λs3 I3=>⟨_,H2,I3,q2⟩) hf
 rcases l with ⟨hk,hm⟩ | ⟨hk,c,hc,i3⟩
 ·exact wpAny_loadName_local I.ok.kind hk hn hm go
 ·rcases hk with hk | hk
  ·exact wpAny_loadName_cell I.ok.kind hk hc i3 go
  ·rcases hx with k | k
   ·have:X.env.scope.names.lookup x=some .free:=hk
    rw[k]at this;cases this
   ·have:X.env.scope.names.lookup x=some .free:=hk
    rw[k]at this;cases this
def Vy(f:Int->Int->Int):RH:=λx y H Q=>∃i j,x= .int i/\y= .int j/\Q (.int (f i j)) H
theorem uj:Pc X .Add (Vy λi j=>i+j):=by
 intro pins s σ H x y v u Q I r1 r2 h
 obtain ⟨i,j,e1,e2,q⟩:=h
 subst e1;subst e2
 walk_at"1"
 obtain ⟨t',rfl⟩:=r2
 exact iadd_int ⟨.int _,H,I.tok _,⟨_,rfl⟩,q⟩
theorem Lg:Pc X .Sub (Vy λi j=>i - j):=by
 intro pins s σ H x y v u Q I r1 r2 h
 obtain ⟨i,j,e1,e2,q⟩:=h
 subst e1;subst e2
 walk_at"1"
 obtain ⟨t',rfl⟩:=r2
 exact isub_int ⟨.int _,H,I.tok _,⟨_,rfl⟩,q⟩
end
structure It where
 go:Nat->Hp->Prop
 Dz:Nat->Hp->V->Hp->Prop
 stop:Nat->Hp->Prop
def oB(X:Cx)(pins:List (Addr×Obj))(H:Hp)(b:Addr):Prop:=
 H b=none/\b≠X.env.locals/\b∉X.fs/\(b∈X.ex\/X.s₀.heap.objs.size<=b)/\(∀x c,X.env.cells.lookup x=some c->c≠b)/\∀p∈X.pn++pins,p.1≠b
theorem Inv.oE{X:Cx}{pins:List (Addr×Obj)}{σ:St}{H H':Hp}{s:Shared}{b:Addr}(I:Inv X pins σ H s)(hb:s.heap.objs.size<=b)(hn:H' b=none):oB X pins H' b:=by
 refine ⟨hn,Qex (Qat I.lt hb),I.K9 hb,.inr (Qak I.sz hb),λx c e z=>?_,λp hp z=>?_⟩
 ·obtain ⟨v,q⟩:=I.cell x c e
  exact absurd (Qat q.lt (by rw[z];exact hb)) (Qbe _)
 ·exact absurd (Qat (Qag (I.pin p hp).1) (by rw[z];exact hb)) (Qbe _)
structure Turn(P:Program)(w:World)(K:Fr)(tg:Expr)(J:It)(fp:List Addr)(it:Addr)(tn:Nat->Heap->Prop):Prop where
 mem:it∈fp
 obj:∀i h,tn i h->∀b∈fp,∃o,h.get? b=some o/\∀v,o.data≠ .cell v
 keep:∀i h h',tn i h->(∀b∈fp,∀o,h.get? b=some o->h'.get? b=some o)->tn i h'
 item:∀(X:Cx),X.prog=P->X.w=w->X.K=K->X.calm=true->∀(i:Nat) (pins:List (Addr×Obj)) (s:Shared) (σ:St) (H:Hp) (E:Value->Shared->Prop),Inv X pins σ H s->(∀b∈fp,oB X pins H b)->tn i s.heap->J.go i H->
  wpAny (model P w) X.A (pyNext (.ref it)) (λr s1=>∃u,r=some u/\
   wpAny (model P w) X.A (letOwnedTupleGo tg (.ref it) u) (λ_ s2=>∃x H',Inv X pins σ H' s2/\RelV x u/\J.Dz i H x H'/\tn (i+1) s2.heap/\∀b∈fp,H' b=none) E s1) E s
 done:∀(X:Cx),X.prog=P->X.w=w->X.K=K->X.calm=true->∀(i:Nat) (pins:List (Addr×Obj)) (s:Shared) (σ:St) (H:Hp) (E:Value->Shared->Prop),Inv X pins σ H s->(∀b∈fp,oB X pins H b)->tn i s.heap->J.stop i H->
  wpAny (model P w) X.A (pyNext (.ref it)) (λr s1=>r=none/\Inv X pins σ H s1) E s
 self:∀(A:Around) (i:Nat) (s:Shared) (Q:Value->Shared->Prop) (E:Value->Shared->Prop),tn i s.heap->Q (.ref it) s->wpAny (model P w) A (pyIter (.ref it)) Q E s
abbrev TI:=St->Hp->(It->Hp->Prop)->Prop
def Vz(X:Cx)(pins:List (Addr×Obj))(σ:St)(tg:Expr)(R:It->Hp->Prop)(Tf:Value)(s2:Shared):Prop:=
 ∃(it:Addr) (fp:List Addr) (tn:Nat->Heap->Prop) (J:It) (H':Hp),Tf= .ref it/\Inv X pins σ H' s2/\Turn X.prog X.w X.K tg J fp it tn/\tn 0 s2.heap/\(∀b∈fp,oB X pins H' b)/\R J H'
def PI(X:Cx)(tg iter:Expr)(wi:TI):Prop:=
 ∀(pins:List (Addr×Obj)) (s:Shared) (σ:St) (H:Hp) (R:It->Hp->Prop),Inv X pins σ H s->wi σ H R->
  wpAny (model X.prog X.w) X.A (eval iter X.env) (λv s1=>wpAny (model X.prog X.w) X.A (pyIter v) (Vz X pins σ tg R) X.xe s1) X.xe s
theorem so{M:Model}{A:Around}{E:Value->Shared->Prop}{s:Shared}{tg:Expr}{it:Addr}{u:Value}{o:Obj}{n:String}{vs:Array Value}{Q:Unit->Shared->Prop}(ho:s.heap.get? it=some o)(hc:o.cls= .type n)(hd:o.data= .fields vs)
  (hn:["enumerate","zip","dict_itemiterator","dict_reverseitemiterator","odict_iterator","itertools.zip_longest","itertools.pairwise"].contains n=false) (hQ:Q Unit.unit s):wpAny M A (letOwnedTupleGo tg (.ref it) u) Q E s:=by
 unfold letOwnedTupleGo
 cases tg<;>first
  | exact wpAny_pure hQ
  |(cases u<;>first
    | exact wpAny_pure hQ
    |(refine wpAny_bind (wpAny_load ho ?_)
      rw[hc,hd]
      show wpAny M A (if (["enumerate","zip","dict_itemiterator","dict_reverseitemiterator","odict_iterator","itertools.zip_longest","itertools.pairwise"].contains n&&vs[0]? ==some (rawInt _))=true then _ else _) Q E s
      rw[if_neg (by intro h;rw[hn,Bool.false_and]at h;cases h)]
      exact wpAny_pure hQ))
noncomputable def Nv(K:Fr)(a:Addr):It:=
 ⟨λi H=>∃xs x,a_ K H a xs/\xs[i]? =some x,λi H x H'=>H'=H/\∀xs,a_ K H a xs->xs[i]? =some x,λi H=>∃xs,a_ K H a xs/\(xs:)<=i⟩
noncomputable def Tg(K:Fr)(a:Addr):It:=
 ⟨λi H=>∃xs x,bW K H a xs/\xs[i]? =some x,λi H x H'=>H'=H/\∀xs,bW K H a xs->xs[i]? =some x,λi H=>∃xs,bW K H a xs/\(xs:)<=i⟩
noncomputable def J4(lo:Int)(n:Nat):It:=⟨λi _=>i<n,λi H x H'=>H'=H/\x= .int (lo+i),λi _=>n<=i⟩
theorem BK{P:Program}{w:World}{K:Fr}{tg:Expr}(a it:Addr):Turn P w K tg (Nv K a) [it] it (λi h=>h.IsListIter it a i) where
 mem:=by simp
 obj:=λi h st b hb=>by
  have e:b=it:=by simpa using hb
  subst e
  obtain ⟨o,e,c,d⟩:=st
  walk_at"G"
 keep:=λi h h' st k=>st.at λo e=>k it (by simp) o e
 item:=by
  walk_at"a"
  subst hP hw hK
  obtain ⟨xs,x,hq,hx⟩:=hg
  obtain ⟨its,rv,p,hz⟩:=I.list hq
  obtain ⟨u,hu,ru⟩:=rv.get hx
  walk_at"d"
  refine wpAny_pyNext_list_item st p.isList (x:=u) (by simpa using hu) λh' rD sb=>?_
  walk_at"2"
  obtain ⟨o,e,c,d⟩:=id rD
  exact ⟨u,rfl,so (s:={ s with heap:=h' }) e c d ∅ ⟨x,H,I1,ru,⟨rfl,λys hy=>by rw[I.wc hy hq];exact hx⟩,rD,λb hb=>(hf b hb).1⟩⟩
 done:=by
  walk_at"a"
  subst hP hw hK
  obtain ⟨xs,hq,hx⟩:=hg
  obtain ⟨its,rv,p,hz⟩:=I.list hq
  walk_at"d"
  have hl:=(rv:)
  exact wpAny_pyNext_list_end (I.ok.hd hc) st p.isList (by simp;lia) λh' eb=>⟨rfl,I.turned (t':=s.toks) (λb o hb e=>eb b o hb e) f0 f1 f3 f4 f5⟩
 self:=λ_ _ _ _ _ st h=>wpAny_pyIter_listiter st h
theorem yg{P:Program}{w:World}{K:Fr}{tg:Expr}(a it:Addr):Turn P w K tg (Tg K a) [it] it (λi h=>h.IsTupleIter it a i) where
 mem:=by simp
 obj:=λi h st b hb=>by
  have e:b=it:=by simpa using hb
  subst e
  obtain ⟨o,e,c,d⟩:=st
  walk_at"G"
 keep:=λi h h' st k=>st.at λo e=>k it (by simp) o e
 item:=by
  walk_at"a"
  subst hP hw hK
  obtain ⟨xs,x,hq,hx⟩:=hg
  obtain ⟨its,rv,p,hz⟩:=I.tuple hq
  obtain ⟨u,hu,ru⟩:=rv.get hx
  walk_at"d"
  refine wpAny_pyNext_tuple_item st (show s.heap.IsTuple a its.toArray from p) (x:=u) (by simpa using hu) λh' rD sb=>?_
  walk_at"2"
  obtain ⟨o,e,c,d⟩:=id rD
  exact ⟨u,rfl,so (s:={ s with heap:=h' }) e c d ∅ ⟨x,H,I1,ru,⟨rfl,λys hy=>by rw[I.mJ hy hq];exact hx⟩,rD,λb hb=>(hf b hb).1⟩⟩
 done:=by
  walk_at"a"
  subst hP hw hK
  obtain ⟨xs,hq,hx⟩:=hg
  obtain ⟨its,rv,p,hz⟩:=I.tuple hq
  walk_at"d"
  have hl:=(rv:)
  exact wpAny_pyNext_tuple_end (I.ok.hd hc) st (show s.heap.IsTuple a its.toArray from p) (by simp;lia) λh' eb=>⟨rfl,I.turned (t':=s.toks) (λb o hb e=>eb b o hb e) f0 f1 f3 f4 f5⟩
 self:=λ_ _ _ _ _ st h=>wpAny_pyIter_tupleiter st h
theorem yh{P:Program}{w:World}{K:Fr}{tg:Expr}(it:Addr)(lo:Int)(n:Nat):Turn P w K tg (J4 lo n) [it] it (λi h=>IsRangeIter h it (lo+(i:Nat)*1) ((n:Int) - (i:Nat)) 1) where
 mem:=by simp
 obj:=λi h st b hb=>by
  have e:b=it:=by simpa using hb
  subst e
  exact ⟨_,st,λv z=>by
   have z':Data.fields _=Data.cell v:=z
   cases z'⟩
 keep:=λi h h' st k=>k it (by simp) _ st
 item:=by
  walk_at"a"
  subst hP hw hK
  walk_at"d"
  have W:=Walks.range (prog:=X.prog) (w:=X.w) (I.ok.hd hc) it lo 1 n
  refine W.item i s _ _ hg st λv h' tk hv rD kk=>?_
  obtain ⟨t,rfl⟩:=hv
  walk_at"W"
  refine ⟨_,rfl,so (s:={ s with heap:=h',toks:=tk }) (n:="range_iterator") rD rfl rfl ∅ ⟨.int (lo+i),H,I1,⟨t,?_⟩,⟨rfl,rfl⟩,rD,λb hb=>(hf b hb).1⟩⟩
  rw[Int.mul_one]
 done:=by
  walk_at"a"
  subst hP hw hK
  walk_at"d"
  exact wpAny_pyNext_range_end (I.ok.hd hc) st (by have:n<=i:=hg;lia) λh' eb=>⟨rfl,I.turned (t':=s.toks) (λb o hb e=>eb b o hb e) f0 f1 f3 f4 f5⟩
 self:=λ_ _ _ _ _ st h=>wpAny_pyIter_rangeiter st h
section
variable{X:Cx}{tg:Expr}
def J5(K:Fr)(tl:TE):TI:=λσ H R=>tl σ H λx H1=>∃a,x= .ref a/\(∃xs,a_ K H1 a xs)/\R (Nv K a) H1
def Pj(K:Fr)(tl:TE):TI:=λσ H R=>tl σ H λx H1=>∃a,x= .ref a/\(∃xs,bW K H1 a xs)/\R (Tg K a) H1
theorem Hq{l:Expr}{tl:TE}(hl:PE X l tl):PI X tg l (J5 X.K tl):=by
 walk_at"S"
 walk_at"Z"
 obtain ⟨a,e,⟨xs,hq⟩,q⟩:=q1
 subst e
 cases r1
 obtain ⟨its,rv,p,hz⟩:=I1.list hq
 refine wpAny_pyIter_list p.isList ?_
 refine ⟨s1.heap.objs.size,[s1.heap.objs.size],_,_,H1,rfl,I1.kept (t':=s1.toks) λb o e=>VI _ e,BK a _,⟨_,Qae _ rfl,rfl,rfl⟩,λb hb=>?_,q⟩
 have e:b=s1.heap.objs.size:=by simpa using hb
 subst e
 walk_at"E"
theorem Lh{l:Expr}{tl:TE}(hl:PE X l tl):PI X tg l (Pj X.K tl):=by
 walk_at"S"
 walk_at"Z"
 obtain ⟨a,e,⟨xs,hq⟩,q⟩:=q1
 subst e
 cases r1
 obtain ⟨its,rv,p,hz⟩:=I1.tuple hq
 refine wpAny_pyIter_tuple (show s1.heap.IsTuple a its.toArray from p) ?_
 refine ⟨s1.heap.objs.size,[s1.heap.objs.size],_,_,H1,rfl,I1.kept (t':=s1.toks) λb o e=>VI _ e,yg a _,⟨_,Qae _ rfl,rfl,rfl⟩,λb hb=>?_,q⟩
 have e:b=s1.heap.objs.size:=by simpa using hb
 subst e
 walk_at"E"
theorem wd{pins:List (Addr×Obj)}{σ:St}{H:Hp}{s:Shared}{R:It->Hp->Prop}{E:Value->Shared->Prop}{lo hi:Int}{t u v:Tok}{tk:Nat}(I:Inv X pins σ H s)(h1: -(2 ^ 62)<=lo)(h2:lo<2 ^ 62)(h3: -(2 ^ 62)<=hi)(h4:hi<2 ^ 62)
  (q:R (J4 lo (hi - lo).toNat) H):wpAny (model X.prog X.w) X.A (pyIter (.ref s.heap.objs.size)) (Vz X pins σ tg R) E { s with heap:=s.heap.push { cls:= .type "range",data:= .fields #[.int lo t,.int hi u,.int 1 v] },toks:=tk }:=by
 refine wpAny_pyIter_range (IsRange.new ..) (small_one h1 h2 h3 h4) ?_
 have I1:Inv X pins σ H { s with heap:=s.heap.push { cls:= .type "range",data:= .fields #[.int lo t,.int hi u,.int 1 v] },toks:=tk }:=I.kept λb o e=>VI _ e
 refine ⟨(s.heap.push { cls:= .type "range",data:= .fields #[.int lo t,.int hi u,.int 1 v] }).objs.size,[(s.heap.push { cls:= .type "range",data:= .fields #[.int lo t,.int hi u,.int 1 v] }).objs.size],_,_,H,rfl,
  I1.kept (t':=tk) λb o e=>VI _ e,yh _ lo (hi - lo).toNat,?_,λb hb=>?_,q⟩
 ·have e1:lo+((0:Nat):Int)*1=lo:=by simp
  have e2:(((hi - lo).toNat:Nat):Int) - ((0:Nat):Int)=Builtin.Range.rangeSize lo hi 1:=by rw[rangeSize_one];split<;>lia
  show IsRangeIter _ _ (lo+((0:Nat):Int)*1) ((((hi - lo).toNat:Nat):Int) - ((0:Nat):Int)) 1
  rw[e1,e2]
  exact Qae _ rfl
 ·have e:b=(s.heap.push { cls:= .type "range",data:= .fields #[.int lo t,.int hi u,.int 1 v] }).objs.size:=by simpa using hb
  subst e
  walk_at"E"
def Pk(ta:TA):TI:=λσ H R=>ta σ H λvs H1=>∃j:Int,vs=[.int j]/\ -(2 ^ 62)<=j/\j<2 ^ 62/\R (J4 0 j.toNat) H1
def Pl(ta:TA):TI:=λσ H R=>ta σ H λvs H1=>∃i j:Int,vs=[.int i,.int j]/\(-(2 ^ 62)<=i/\i<2 ^ 62/\ -(2 ^ 62)<=j/\j<2 ^ 62)/\R (J4 i (j - i).toNat) H1
theorem fX{a:Expr}{ta:TA}{p pos:Pos}(hg:Gl X "range")(hm:X.mg "range"=none)(ha:PA X [a] ta)(hs:starEach [a] X.env=[(false,eval a X.env)]:=by rfl):PI X tg (.Call (.Name "range" p) [a] [] pos) (Pk ta):=by
 walk_at"S"
 refine Call_ (gD I hg hm boot_range (Qbj (cf (ha pos pins s σ H _ I h) λus s1 ⟨vs,H1,I1,r1,q1⟩=>?_) hs rfl))
 obtain ⟨j,e,q1,q2,q⟩:=q1
 subst e
 cases r1 with
 | cons r rr=>
  cases rr
  obtain ⟨t,rfl⟩:=r
  exact call_range_1 (wd I1 () () q1 q2 (by simpa using q))
theorem sr{a b:Expr}{ta:TA}{p pos:Pos}(hg:Gl X "range")(hm:X.mg "range"=none)(ha:PA X [a,b] ta)(hs:starEach [a,b] X.env=[(false,eval a X.env),(false,eval b X.env)]:=by rfl)(Pm:starEach [b] X.env=[(false,eval b X.env)]:=by rfl):
  PI X tg (.Call (.Name "range" p) [a,b] [] pos) (Pl ta):=by
 walk_at"S"
 refine Call_ (gD I hg hm boot_range (Qbj (cf (ha pos pins s σ H _ I h) λus s1 ⟨vs,H1,I1,r1,q1⟩=>?_) (by rw[hs,Pm]) (by rw[Pm];rfl)))
 obtain ⟨i,j,e,⟨q1,q2,q3,q4⟩,q⟩:=q1
 subst e
 cases r1 with
 | cons r rr=>
  cases rr with
  | cons r' rr=>
   cases rr
   obtain ⟨t,rfl⟩:=r
   obtain ⟨t',rfl⟩:=r'
   exact call_range_2 (wd I1 q1 q2 q3 q4 q)
def Th(wi:TI)(g:TG)(tb:TS):TS:=λD σ H=>wi σ H λJ H1=>∃W:Nat->Nat->St->Hp->Prop,(∃m,W 0 m σ H1)/\∀i m σ H,W i m σ H->
 (J.stop i H/\D.nx σ H)\/(J.go i H/\∃N:St->Hp->Prop,(∀σ' H',N σ' H'->∃m',m'<m/\W (i+1) m' σ' H')/\∀x H',J.Dz i H x H'->g x σ H' λσ2 H2=>tb { D with nx:=N,ct:=N,bk:=D.nx } σ2 H2)
noncomputable def pJ(fp:List Addr)(h:Heap):List (Addr×Obj):=fp.filterMap λb=>(h.get? b).map λo=>(b,o)
theorem hX{fp:List Addr}{h:Heap}{b:Addr}{o:Obj}(hb:b∈fp)(e:h.get? b=some o):(b,o)∈pJ fp h:=List.mem_filterMap.mpr ⟨b,hb,by rw[e];rfl⟩
theorem BL{fp:List Addr}{h:Heap}{p:Addr×Obj}(hp:p∈pJ fp h):p.1∈fp/\h.get? p.1=some p.2:=by
 obtain ⟨b,hb,e⟩:=List.mem_filterMap.mp hp
 cases q:h.get? b with
 | none=>rw[q]at e;cases e
 | some o=>
  rw[q]at e
  have e':(b,o)=p:=Qaf e
  subst e'
  exact ⟨hb,q⟩
theorem Inv.pinned{pins:List (Addr×Obj)}{σ:St}{H:Hp}{s:Shared}{fp:List Addr}(I:Inv X pins σ H s)(hf:∀b∈fp,oB X pins H b)(ho:∀b∈fp,∃o,s.heap.get? b=some o/\∀v,o.data≠ .cell v):Inv X (pins++pJ fp s.heap) σ H s:=
 I.kP λp hp=>(Qaa.mp hp).elim (λz=>I.pin p (Qaq _ z)) λz=>by
  obtain ⟨hb,e⟩:=BL z
  obtain ⟨f0,f1,f2,_⟩:=hf p.1 hb
  obtain ⟨o,e',d⟩:=ho p.1 hb
  rw[e]at e';cases e'
  exact ⟨e,f0,f1,f2,d⟩
theorem Inv.kQ{pins pl:List (Addr×Obj)}{σ:St}{H:Hp}{s:Shared}(I:Inv X (pins++pl) σ H s):Inv X pins σ H s:=I.kP λp hp=>I.pin p (Qaq _ (Qb3 _ hp))
theorem bJ{iter:Expr}{body:List Stmt}{wi:TI}{g:TG}{tb:TS}{pos:Pos}(hp:PassesOwn (model X.prog X.w) X.A X.env X.xe)(hc:X.calm=true)(hi:PI X tg iter wi)(hg:PG X tg g)(hb:x9 X body tb)
  (hs:∀x,foldedSetIterable iter X.env x=pure x:=by intro _;rfl):PS X (.For tg iter body [] pos) (Th wi g tb):=by
 walk_at"y"
 refine wpAny_For (cf (hi pins s σ H _ I h) λv s1 h1=>cf h1 λTf s2 h2=>?_) hs
 obtain ⟨it,fp,tn,J,H2,e,I2,T,uk,f2,W,⟨m0,w0⟩,turn⟩:=h2
 subst e
 -- Xd stays true of GW Li objects through GW loop
 have Lj:∀{H':Hp},(∀b∈fp,H' b=none)->∀b∈fp,oB X pins H' b:=λhn b hb=>⟨hn b hb,(f2 b hb).2⟩
 refine codeAny_forLoop_any (λn s'=>∃i σ' H',Inv X pins σ' H' s'/\tn i s'.heap/\(∀b∈fp,H' b=none)/\W i n σ' H') ?_ m0 ⟨0,σ,H2,I2,uk,λb hb=>(f2 b hb).1,w0⟩
 rintro n s3 ⟨i,σ3,H3,I3,Lk,Pn,w3⟩
 rcases turn i n σ3 H3 w3 with ⟨stop,qn⟩ | ⟨go,N,hN,step⟩
 ·refine wpAny_passesOwn hp (cf (T.done X rfl rfl rfl hc i pins s3 σ3 H3 X.xe I3 (Lj Pn) Lk stop) λr s4 ⟨hr,I4⟩=>?_)
  subst hr
  exact wpAny_execs_nil ⟨σ3,H3,I4,qn⟩
 ·refine wpAny_passesOwn hp (cf (T.item X rfl rfl rfl hc i pins s3 σ3 H3 X.xe I3 (Lj Pn) Lk go) λr s4 ⟨u,hr,h4⟩=>?_)
  subst hr
  refine wpAny_passesOwn hp (cf h4 λ_ s5 ⟨x,H5,I5,r5,y5,GX,Ti⟩=>?_)
  have Tj:=I5.pinned (Lj Ti) (T.obj _ _ GX)
  refine wpAny_passesOwn hp (cf (hg _ s5 σ3 H5 x u _ Tj r5 (step x H5 y5)) λ_ s6 ⟨σ6,H6,I6,q6⟩=>?_)
  refine wpAny_passesOwn hp (cf (hb _ s6 σ6 H6 _ I6 q6) λf s7 q7=>?_)
  have again:∀{σ7:St} {H7:Hp},Inv X (pins++pJ fp s5.heap) σ7 H7 s7->N σ7 H7->∃m,m<n/\∃i σ' H',Inv X pins σ' H' s7/\tn i s7.heap/\(∀b∈fp,H' b=none)/\W i m σ' H':=λ{σ7 H7} I7 n7=>by
   obtain ⟨m',hm,w7⟩:=hN σ7 H7 n7
   refine ⟨m',hm,i+1,σ7,H7,I7.kQ,T.keep _ _ _ GX λb hb o e=>(I7.pin (b,o) (Qaq _ (Qaq _ (hX hb e)))).1,λb hb=>?_,w7⟩
   obtain ⟨o,e,d⟩:=T.obj _ _ GX b hb
   exact (I7.pin (b,o) (Qaq _ (Qaq _ (hX hb e)))).2.1
  cases f with
  | next=>obtain ⟨σ7,H7,I7,n7⟩:=q7;exact again I7 n7
  | cont=>obtain ⟨σ7,H7,I7,n7⟩:=q7;exact again I7 n7
  | brk=>obtain ⟨σ7,H7,I7,q7⟩:=q7;exact ⟨σ7,H7,I7.kQ,q7⟩
  | ret v=>obtain ⟨x7,σ7,H7,I7,r7,q7⟩:=q7;exact ⟨x7,σ7,H7,I7.kQ,r7,q7⟩
end
theorem dG{K:Fr}{a:Addr}{xs:List V}{g:TG}{tb:TS}{D:Ends}{σ:St}{H:Hp}(Pv:Nat->St->Hp->Prop)(h0:Pv 0 σ H)(hl:∀i σ H,i<=(xs:)->Pv i σ H->a_ K H a xs)
  (hs:∀i x σ H,xs[i]? =some x->Pv i σ H->g x σ H λσ2 H2=>tb { D with nx:=Pv (i+1),ct:=Pv (i+1),bk:=D.nx } σ2 H2) (hd:∀σ H,Pv (xs:) σ H->D.nx σ H):
  ∃W:Nat->Nat->St->Hp->Prop,(∃m,W 0 m σ H)/\∀i m σ H,W i m σ H->
   ((Nv K a).stop i H/\D.nx σ H)\/((Nv K a).go i H/\∃N:St->Hp->Prop,(∀σ' H',N σ' H'->∃m',m'<m/\W (i+1) m' σ' H')/\∀x H',(Nv K a).Dz i H x H'->g x σ H' λσ2 H2=>tb { D with nx:=N,ct:=N,bk:=D.nx } σ2 H2):=by
 walk_at"h"
 rintro i m σ H ⟨rfl,hi,p⟩
 have q:=hl i σ H hi p
 by_cases di:i<(xs:)
 ·refine .inr ⟨⟨xs,xs[i],q,by simp[di]⟩,Pv (i+1),λσ' H' p'=>⟨(xs:) - (i+1),(),rfl,di,p'⟩,λx H' y=>?_⟩
  obtain ⟨e,y⟩:=y
  subst e
  exact hs i x σ _ (y xs q) p
 ·have e:i=(xs:):=by lia
  subst e
  exact .inl ⟨⟨xs,q,RP _⟩,hd σ H p⟩
theorem fZ{lo:Int}{n:Nat}{g:TG}{tb:TS}{D:Ends}{σ:St}{H:Hp}(Pv:Nat->St->Hp->Prop)(h0:Pv 0 σ H)
  (hs:∀i σ H,i<n->Pv i σ H->g (.int (lo+i)) σ H λσ2 H2=>tb { D with nx:=Pv (i+1),ct:=Pv (i+1),bk:=D.nx } σ2 H2) (hd:∀σ H,Pv n σ H->D.nx σ H):
  ∃W:Nat->Nat->St->Hp->Prop,(∃m,W 0 m σ H)/\∀i m σ H,W i m σ H->
   ((J4 lo n).stop i H/\D.nx σ H)\/((J4 lo n).go i H/\∃N:St->Hp->Prop,(∀σ' H',N σ' H'->∃m',m'<m/\W (i+1) m' σ' H')/\∀x H',(J4 lo n).Dz i H x H'->g x σ H' λσ2 H2=>tb { D with nx:=N,ct:=N,bk:=D.nx } σ2 H2):=by
 refine ⟨λi m σ H=>m=n - i/\i<=n/\Pv i σ H,⟨n,by simp,Qac _,h0⟩,?_⟩
 rintro i m σ H ⟨rfl,hi,p⟩
 by_cases di:i<n
 ·refine .inr ⟨di,Pv (i+1),λσ' H' p'=>⟨n - (i+1),(),rfl,di,p'⟩,λx H' y=>?_⟩
  obtain ⟨e,y⟩:=y
  subst e y
  exact hs i σ _ di p
 ·have e:i=n:=by lia
  subst e
  exact .inl ⟨RP _,hd σ H p⟩
abbrev R2:=V->V->Hp->VK->Prop
def gR(X:Cx)(f:Value->Value->Sem Value)(r:R2):Prop:=
 ∀(pins:List (Addr×Obj)) (s:Shared) (σ:St) (H:Hp) (x y:V) (v u:Value) (Q:VK),Inv X pins σ H s->RelV x v->RelV y u->r x y H Q->
  wpAny (model X.prog X.w) X.A (f v u) (EP X pins σ Q) X.xe s
def Tn(X:Cx)(f:Value->Sem Value)(r:V->Hp->VK->Prop):Prop:=
 ∀(pins:List (Addr×Obj)) (s:Shared) (σ:St) (H:Hp) (x:V) (v:Value) (Q:VK),Inv X pins σ H s->RelV x v->r x H Q->
  wpAny (model X.prog X.w) X.A (f v) (EP X pins σ Q) X.xe s
def dH(X:Cx)(f:Value)(r:List V->Hp->VK->Prop):Prop:=
 ∀(pins:List (Addr×Obj)) (s:Shared) (σ:St) (H:Hp) (xs:List V) (us:List Value) (Q:VK),Inv X pins σ H s->Vals xs us->r xs H Q->
  wpAny (model X.prog X.w) X.A (call f us) (EP X pins σ Q) X.xe s
def To(X:Cx)(r:V->Hp->(Bool->Hp->Prop)->Prop):Prop:=
 ∀(pins:List (Addr×Obj)) (s:Shared) (σ:St) (H:Hp) (x:V) (v:Value) (Q:Bool->Hp->Prop),Inv X pins σ H s->RelV x v->r x H Q->
  wpAny (model X.prog X.w) X.A (truthy v) (TP X pins σ Q) X.xe s
def RI(r:R2)(ta tb:TE):TE:=λσ H Q=>ta σ H λx H1=>tb σ H1 λy H2=>r x y H2 Q
def Xe(r:V->Hp->VK->Prop)(ta:TE):TE:=λσ H Q=>ta σ H λx H1=>r x H1 Q
def rI(C:Int->Int->Prop)(g:Int->Int->V):R2:=λx y H Q=>∃i j,x= .int i/\y= .int j/\C i j/\Q (g i j) H
def GY(g:Int->Int->V):R2:=λx y H Q=>∃i j,x= .int i/\y= .int j/\Q (g i j) H
def rU(g:Int->V):V->Hp->VK->Prop:=λx H Q=>∃i,x= .int i/\Q (g i) H
section
variable{X:Cx}{a b c:Expr}{ta tb tc:TE}{pos:Pos}
theorem Ll(ha:PE X a ta)(hb:PE X b tb){pins:List (Addr×Obj)}{s:Shared}{σ:St}{H:Hp}{R:V->V->Hp->Prop}(I:Inv X pins σ H s)
  (h:ta σ H λx H1=>tb σ H1 λy H2=>R x y H2) {Q:Value->Shared->Prop} {f:Value->Value->Sem Value}
  (hf:∀v u s2 x y H2,Inv X pins σ H2 s2->RelV x v->RelV y u->R x y H2->wpAny (model X.prog X.w) X.A (f v u) Q X.xe s2):
  wpAny (model X.prog X.w) X.A (eval a X.env) (λv s₁=>wpAny (model X.prog X.w) X.A (eval b X.env) (λu s₂=>wpAny (model X.prog X.w) X.A (f v u) Q X.xe s₂) X.xe s₁) X.xe s:=by
 refine cf (ha pins s σ H _ I h) λv s1 ⟨x,H1,I1,r1,q1⟩=>?_
 refine cf (hb pins s1 σ H1 _ I1 q1) λu s2 ⟨y,H2,I2,r2,q2⟩=>?_
 exact hf v u s2 x y H2 I2 r1 r2 q2
theorem az{op:Operator}{r:R2}(ho:gR X (binaryOp op) r)(ha:PE X a ta)(hb:PE X b tb):PE X (.BinOp a op b pos) (RI r ta tb):=by
 walk_at"i"
 exact wpAny_BinOp (Ll ha hb I h λv u s2 x y H2 I2 rx ry q=>ho pins s2 σ H2 x y v u Q I2 rx ry q)
theorem kR{op:UnaryOp}{r:V->Hp->VK->Prop}(ho:Tn X (unaryOp op) r)(ha:PE X a ta):PE X (.UnaryOp op a pos) (Xe r ta):=by
 walk_at"i"
 exact UnaryOp_ (cf (ha pins s σ H _ I h) λv s1 ⟨x,H1,I1,r1,q1⟩=>ho pins s1 σ H1 x v Q I1 r1 q1)
theorem RJ{f:Value->Value->Sem Value}{C:Int->Int->Prop}{g:Int->Int->Int}
  (rule:∀(i j:Int) (t u:Tok) (s:Shared) (Q:Value->Shared->Prop) (E:Value->Shared->Prop),C i j->Q (.int (g i j) s.toks) { s with toks:=s.toks+1 }->wpAny (model X.prog X.w) X.A (f (.int i t) (.int j u)) Q E s):
  gR X f (rI C λi j=> .int (g i j)):=by
 walk_at"b"
 obtain ⟨i,j,rfl,rfl,hc,q⟩:=h
 walk_at"f"
 walk_at"R"
 exact rule i j t t' s _ _ hc ⟨.int (g i j),H,I.tok _,⟨_,rfl⟩,q⟩
theorem Po{f:Value->Value->Sem Value}{g:Int->Int->Int}
  (rule:∀(i j:Int) (t u:Tok) (s:Shared) (Q:Value->Shared->Prop) (E:Value->Shared->Prop),Q (.int (g i j) s.toks) { s with toks:=s.toks+1 }->wpAny (model X.prog X.w) X.A (f (.int i t) (.int j u)) Q E s):
  gR X f (GY λi j=> .int (g i j)):=by
 walk_at"b"
 obtain ⟨i,j,rfl,rfl,q⟩:=h
 walk_at"f"
 walk_at"R"
 exact rule i j t t' s _ _ ⟨.int (g i j),H,I.tok _,⟨_,rfl⟩,q⟩
theorem Hr{f:Value->Value->Sem Value}{g:Int->Int->Bool}
  (rule:∀(i j:Int) (t u:Tok) (s:Shared) (Q:Value->Shared->Prop) (E:Value->Shared->Prop),Q (.bool (g i j)) s->wpAny (model X.prog X.w) X.A (f (.int i t) (.int j u)) Q E s):
  gR X f (GY λi j=> .bl (g i j)):=by
 walk_at"b"
 obtain ⟨i,j,rfl,rfl,q⟩:=h
 walk_at"f"
 walk_at"R"
 exact rule i j t t' s _ _ ⟨.bl (g i j),H,I,rfl,q⟩
def Tp(i j:Int):Prop:=0<j/\j<1073741824
def Tq(i j:Int):Prop:=0<=j/\j<=1000000/\i.natAbs<2 ^ 64
def Hs(i j:Int):Prop:=(-(2 ^ 64)<i/\i<2 ^ 64)\/(-(2 ^ 64)<j/\j<2 ^ 64)
theorem Hs.ok{i j:Int}(h:Hs i j):IntMulOk i j:=by
 rcases h with ⟨h1,h2⟩ | ⟨h1,h2⟩
 ·exact .of_left (intBits_le_64 h1 h2)
 ·exact .of_right (intBits_le_64 h1 h2)
theorem ba:gR X (binaryOp .Add) (GY λi j=> .int (i+j)):=Po λ_ _ _ _ _ _ _ q=>add_int q
theorem dQ:gR X (binaryOp .Sub) (GY λi j=> .int (i - j)):=Po λ_ _ _ _ _ _ _ q=>sub_int q
theorem i6:gR X (binaryOp .Mult) (rI Hs λi j=> .int (i*j)):=RJ λ_ _ _ _ _ _ _ hc q=>mul_int q hc.ok
theorem eO:gR X (binaryOp .Mod) (rI (λ_ j=>0<j) λi j=> .int (i%j)):=RJ λi j _ _ _ _ _ hc q=>by
 have h1:(0:Int)<j:=hc
 exact mod_int' () (by rw[Int.fmod_eq_emod_of_nonneg i ()];exact q)
theorem DA:gR X (binaryOp .Pow) (rI Tq λi j=> .int (i ^ j.toNat)):=RJ λ_ _ _ _ _ _ _ hc q=>pow_int_small hc.1 hc.2.1 hc.2.2 q
theorem Xf{f:Value->Sem Value}{g:Int->Int}
  (rule:∀(i:Int) (t:Tok) (s:Shared) (Q:Value->Shared->Prop) (E:Value->Shared->Prop),Q (.int (g i) s.toks) { s with toks:=s.toks+1 }->wpAny (model X.prog X.w) X.A (f (.int i t)) Q E s):
  Tn X f (rU λi=> .int (g i)):=by
 intro pins s σ H x v Q I rx h
 obtain ⟨i,rfl,q⟩:=h
 walk_at"f"
 exact rule i t s _ _ ⟨.int (g i),H,I.tok _,⟨_,rfl⟩,q⟩
theorem hZ:Tn X (unaryOp .USub) (rU λi=> .int (-i)):=Xf λ_ _ _ _ _ q=>neg_int q
end
noncomputable def Pp:V->V->Bool
 | .fQ,.fQ=>true | .fQ,.int _=>true | .int _,.fQ=>true | .fQ,.bl _=>true | .bl _,.fQ=>true | .fQ,.str _=>true | .str _,.fQ=>true
 | .int _,.int _=>true | .bl _,.bl _=>true | .str _,.str _=>true | .zZ _,.zZ _=>true
 | .int _,.str _=>true | .str _,.int _=>true | .bl _,.str _=>true | .str _,.bl _=>true
 | _,_=>false
def Xg:R2:=λx y H Q=>Pp x y=true/\Q (.bl (decide (x=y))) H
def Xh:R2:=λx y H Q=>Pp x y=true/\Q (.bl (!decide (x=y))) H
theorem z9{i j:Int}:decide (V.int i=V.int j)=(i==j):=by
 rw[Qdj]
 simp
theorem DB{i j:Bool}:decide (V.bl i=V.bl j)=(i==j):=by
 rw[Qdj]
 simp
theorem z_{i j:Str}:decide (V.str i=V.str j)=(i==j):=by
 rw[Qdj]
 simp
theorem Aa{i j:Array UInt8}:decide (V.zZ i=V.zZ j)=(i.toList==j.toList):=by
 rw[Qdj]
 cases i
 cases j
 simp
section
variable{X:Cx}{a b c:Expr}{ta tb tc:TE}{pos:Pos}
theorem bo{pins:List (Addr×Obj)}{σ:St}{H:Hp}{s:Shared}{Q:VK}{k k':Bool}(I:Inv X pins σ H s)(q:Q (.bl k) H)(e:k=k'):EP X pins σ Q (.bool k') s:=by
 subst e
 exact ⟨.bl k,H,I,rfl,q⟩
theorem J6:gR X (compareOp .Eq) Xg:=by
 walk_at"b"
 obtain ⟨hs,q⟩:=h
 cases x with
 | fQ=>
  cases rx
  cases y with
  | fQ=>cases ry;exact PySem.EqNone.eq_none_none (bo I q (by simp))
  | bl j=>cases ry;exact PySem.EqNone.eq_none_bool (bo I q (by simp))
  | int j=>obtain ⟨t',rfl⟩:=ry;exact PySem.EqNone.eq_none_int (bo I q (by simp))
  | str j=>obtain ⟨t',rfl⟩:=ry;exact PySem.EqNone.eq_none_str (bo I q (by simp))
  | _=>exact absurd (show false=true from hs) Qah
 | bl i=>
  cases rx
  cases y with
  | fQ=>cases ry;exact PySem.EqNone.eq_bool_none (bo I q (by simp))
  | bl j=>cases ry;exact eq_bool (bo I q DB)
  | str j=>obtain ⟨t',rfl⟩:=ry;exact PySem.EqMixed.eq_bool_str (bo I q (by simp))
  | _=>exact absurd (show false=true from hs) Qah
 | int i=>
  walk_at"f"
  cases y with
  | fQ=>cases ry;exact PySem.EqNone.eq_int_none (bo I q (by simp))
  | int j=>obtain ⟨t',rfl⟩:=ry;exact eq_int (bo I q z9)
  | str j=>obtain ⟨t',rfl⟩:=ry;exact PySem.EqMixed.eq_int_str (bo I q (by simp))
  | _=>exact absurd (show false=true from hs) Qah
 | str i=>
  walk_at"f"
  cases y with
  | fQ=>cases ry;exact PySem.EqNone.eq_str_none (bo I q (by simp))
  | bl j=>cases ry;exact PySem.EqMixed.eq_str_bool (bo I q (by simp))
  | int j=>obtain ⟨t',rfl⟩:=ry;exact PySem.EqMixed.eq_str_int (bo I q (by simp))
  | str j=>obtain ⟨t',rfl⟩:=ry;exact eq_str (bo I q z_)
  | _=>exact absurd (show false=true from hs) Qah
 | zZ i=>
  walk_at"f"
  cases y with
  | zZ j=>obtain ⟨t',rfl⟩:=ry;exact PySem.W.eq_bytes (bo I q Aa)
  | _=>exact absurd (show false=true from hs) Qah
 | _=>cases y<;>exact absurd (show false=true from hs) Qah
theorem DC:gR X (compareOp .NotEq) Xh:=by
 walk_at"b"
 obtain ⟨hs,q⟩:=h
 cases x with
 | fQ=>
  cases rx
  cases y with
  | fQ=>cases ry;exact PySem.EqNone.ne_none_none (bo I q (by simp))
  | bl j=>cases ry;exact PySem.EqNone.ne_none_bool (bo I q (by simp))
  | int j=>obtain ⟨t',rfl⟩:=ry;exact PySem.EqNone.ne_none_int (bo I q (by simp))
  | str j=>obtain ⟨t',rfl⟩:=ry;exact PySem.EqNone.ne_none_str (bo I q (by simp))
  | _=>exact absurd (show false=true from hs) Qah
 | bl i=>
  cases rx
  cases y with
  | fQ=>cases ry;exact PySem.EqNone.ne_bool_none (bo I q (by simp))
  | bl j=>cases ry;exact ne_bool (bo I q (congrArg not DB))
  | str j=>obtain ⟨t',rfl⟩:=ry;exact PySem.EqMixed.ne_bool_str (bo I q (by simp))
  | _=>exact absurd (show false=true from hs) Qah
 | int i=>
  walk_at"f"
  cases y with
  | fQ=>cases ry;exact PySem.EqNone.ne_int_none (bo I q (by simp))
  | int j=>obtain ⟨t',rfl⟩:=ry;exact ne_int (bo I q (congrArg not z9))
  | str j=>obtain ⟨t',rfl⟩:=ry;exact PySem.EqMixed.ne_int_str (bo I q (by simp))
  | _=>exact absurd (show false=true from hs) Qah
 | str i=>
  walk_at"f"
  cases y with
  | fQ=>cases ry;exact PySem.EqNone.ne_str_none (bo I q (by simp))
  | bl j=>cases ry;exact PySem.EqMixed.ne_str_bool (bo I q (by simp))
  | int j=>obtain ⟨t',rfl⟩:=ry;exact PySem.EqMixed.ne_str_int (bo I q (by simp))
  | str j=>obtain ⟨t',rfl⟩:=ry;exact ne_str (bo I q (congrArg not z_))
  | _=>exact absurd (show false=true from hs) Qah
 | zZ i=>
  walk_at"f"
  cases y with
  | zZ j=>obtain ⟨t',rfl⟩:=ry;exact PySem.W.ne_bytes (bo I q (congrArg not Aa))
  | _=>exact absurd (show false=true from hs) Qah
 | _=>cases y<;>exact absurd (show false=true from hs) Qah
theorem i7:gR X (compareOp .Lt) (GY λi j=> .bl (decide (i<j))):=Hr λ_ _ _ _ _ _ _ q=>lt_int q
theorem J9:gR X (compareOp .LtE) (GY λi j=> .bl (decide (i<=j))):=Hr λ_ _ _ _ _ _ _ q=>le_int q
theorem kS:gR X (compareOp .Gt) (GY λi j=> .bl (decide (j<i))):=Hr λ_ _ _ _ _ _ _ q=>gt_int q
theorem DD:gR X (compareOp .GtE) (GY λi j=> .bl (decide (j<=i))):=Hr λ_ _ _ _ _ _ _ q=>ge_int q
theorem BM:gR X (compareOp .Lt) (λx y H Q=>∃i j,x= .str i/\y= .str j/\Q (.bl (decide (i.cps.toList<j.cps.toList))) H):=by
 walk_at"b"
 obtain ⟨i,j,rfl,rfl,q⟩:=h
 walk_at"f"
 walk_at"R"
 exact lt_str (bo I q rfl)
theorem BN:gR X (compareOp .In) (λx y H Q=>∃i j,x= .str i/\y= .str j/\Q (.bl (!(Builtin.Str.occurrences j i 0 (j:) 1).isEmpty)) H):=by
 walk_at"b"
 obtain ⟨i,j,rfl,rfl,q⟩:=h
 walk_at"f"
 walk_at"R"
 exact in_str (bo I q rfl)
theorem aP(b:Expr){op:CmpOp}(h:op≠ .In:=by decide)(h2:op≠ .NotIn:=by decide):behindInMarks op b=false:=by
 have e1:(op==CmpOp.In)=false:=by cases op<;>first | rfl | exact absurd rfl h
 have e2:(op==CmpOp.NotIn)=false:=by cases op<;>first | rfl | exact absurd rfl h2
 cases b<;>simp[behindInMarks,e1,e2]
theorem kT{op:CmpOp}{r:R2}(ho:gR X (compareOp op) r)(ha:PE X a ta)(hb:PE X b tb)(hm:behindInMarks op b=false):PE X (.Compare a [op] [b] pos) (RI r ta tb):=by
 walk_at"i"
 exact wpAny_Compare1 (Ll ha hb I h λv u s2 x y H2 I2 rx ry q=>ho pins s2 σ H2 x y v u Q I2 rx ry q) hm
def Pq(t:TE):TT:=λσ H Q=>t σ H λx H'=>∃k,x= .bl k/\Q k H'
theorem aF{op:CmpOp}{r:R2}(ho:gR X (compareOp op) r)(ha:PE X a ta)(hb:PE X b tb)(hm:behindInMarks op b=false):PT X (.Compare a [op] [b] pos) (Pq (RI r ta tb)):=by
 walk_at"i"
 refine wpAny_isTrue_Compare1 (cf (ha pins s σ H _ I h) λv s1 ⟨x,H1,I1,r1,q1⟩=>cf (hb pins s1 σ H1 _ I1 q1) λu s2 ⟨y,H2,I2,r2,q2⟩=>
  cf (ho pins s2 σ H2 x y v u _ I2 r1 r2 q2) λc s3 ⟨z,H3,I3,r3,k,e,q3⟩=>?_) hm
 subst e
 cases r3
 exact wpAny_truthy_bool ⟨H3,I3,q3⟩
def Lm(r r':R2)(ta tb tc:TE):TE:=λσ H Q=>ta σ H λx H1=>tb σ H1 λy H2=>r x y H2 λz H3=>∃k,z= .bl k/\
 (if k=true then tc σ H3 λw' H4=>r' y w' H4 Q else Q (.bl false) H3)
theorem we{op Tr:CmpOp}{r r':R2}(ho:gR X (compareOp op) r)(kO:gR X (compareOp Tr) r')(ha:PE X a ta)(hb:PE X b tb)(hc:PE X c tc)
  (hm:lastMarks [op,Tr] [b,c]=false:=by with_unfolding_all rfl):PE X (.Compare a [op,Tr] [b,c] pos) (Lm r r' ta tb tc):=by
 walk_at"i"
 refine Compare_chain (cf (ha pins s σ H _ I h) λv s1 ⟨x,H1,I1,r1,q1⟩=>chain_link (cf (hb pins s1 σ H1 _ I1 q1) λu s2 ⟨y,H2,I2,r2,q2⟩=>
  cf (ho pins s2 σ H2 x y v u _ I2 r1 r2 q2) λd s3 ⟨z,H3,I3,r3,k,e,q3⟩=>?_)) hm
 subst e
 cases r3
 refine wpAny_truthy_bool ?_
 cases k with
 | false=>exact ite_ff ⟨.bl false,H3,I3,rfl,q3⟩
 | true=>exact ite_tt (chain_last (cf (hc pins s3 σ H3 _ I3 q3) λw' s4 ⟨z',H4,I4,r4,q4⟩=>kO pins s4 σ H4 y z' u w' Q I4 r2 r4 q4))
def Ts(K:Fr)(x:V)(H:Hp)(k:Bool):Prop:=
 match x with
 | .fQ=>k=false
 | .bl b=>k=b
 | .int i=>k=(i != 0)
 | .str y=>(y:)<=sizeLine/\k=(((y:):Int) != 0)
 | .zZ y=>y.size<=sizeLine/\k=((y.size:Int) != 0)
 | .ref p=>(∃xs,a_ K H p xs/\k=!xs.isEmpty)\/(∃xs,bW K H p xs/\k=!xs.isEmpty)\/∃aH,H p=some (.dK aH)/\k=!aH.isEmpty
 | _=>False
theorem yi{κ:Type}{aH:List (κ×V)}{vs:List (κ×Value)}(r:KV aH vs):(!vs.isEmpty)=!aH.isEmpty:=by
 cases r<;>rfl
theorem pK{xs:List V}{its:List Value}(r:Vals xs its):(!its.toArray.isEmpty)=!xs.isEmpty:=by
 cases r<;>simp
theorem eQ:(sizeLine:Nat)<2 ^ 63:=by rw[sizeLine_eq];decide
theorem Ln:To X (λx H Q=>∃k,Ts X.K x H k/\Q k H):=by
 intro pins s σ H x v Q I rx h
 obtain ⟨k,e,q⟩:=h
 have hl:=eQ
 have hs:sizeLine=16777216:=sizeLine_eq
 cases x with
 | fQ=>
  cases rx
  have e':k=false:=e
  subst e'
  exact truthy_none ⟨H,I,q⟩
 | bl b=>
  cases rx
  have e':k=b:=e
  subst e'
  exact wpAny_truthy_bool ⟨H,I,q⟩
 | int i=>
  walk_at"f"
  have e':k=(i != 0):=e
  subst e'
  exact PySem.P.truthy_int ⟨H,I,q⟩
 | str y=>
  walk_at"f"
  obtain ⟨hy,e'⟩:(y:)<=sizeLine/\k=(((y:):Int) != 0):=e
  subst e'
  exact PySem.P.truthy_str () ⟨H,I.tok _,q⟩
 | zZ y=>
  walk_at"f"
  obtain ⟨hy,e'⟩:y.size<=sizeLine/\k=((y.size:Int) != 0):=e
  subst e'
  exact PySem.W.truthy_bytes () ⟨H,I.tok _,q⟩
 | ref p=>
  cases rx
  have e':(∃xs,a_ X.K H p xs/\k=!xs.isEmpty)\/(∃xs,bW X.K H p xs/\k=!xs.isEmpty)\/∃aH,H p=some (.dK aH)/\k=!aH.isEmpty:=e
  rcases e' with ⟨xs,hx,e'⟩ | ⟨xs,hx,e'⟩ | ⟨aH,hx,e'⟩
  ·subst e'
   obtain ⟨its,r,pl,hz⟩:=I.list hx
   have hlen:=(r:)
   exact wpAny_truthy_list pl.isList (by simp only[Xv];lia) ⟨H,I.tok _,by rw[pK r];exact q⟩
  ·subst e'
   obtain ⟨its,r,pl,hz⟩:=I.tuple hx
   have hlen:=(r:)
   exact truthy_tuple pl (by simp only[Xv];lia) ⟨H,I.tok _,by rw[pK r];exact q⟩
  ·subst e'
   obtain ⟨hz,hS,vs,r,m⟩:(aH:)<=sizeLine/\(p==sysModules)=false/\∃vs,KV aH vs/\s.heap.DictOf (bz X.prog X.w) p vs:=I.bX p _ hx
   have hlen:(aH:)=(vs:):=Paired.length r
   exact wpAny_truthy_dict hS m () ⟨H,I.tok _,by rw[yi r];exact q⟩
 | _=>exact (show False from e).elim
theorem yj:gR X (binaryOp .Add) (λx y H Q=>∃i j,x= .str i/\y= .str j/\(i:)+(j:)<=sizeLine/\Q (.str (i++j)) H):=by
 walk_at"b"
 obtain ⟨i,j,rfl,rfl,hz,q⟩:=h
 walk_at"f"
 walk_at"R"
 exact add_str (λt' tk=>⟨.str (i++j),H,I.tok _,⟨_,rfl⟩,q⟩) hz
theorem vals1{x:V}{us:List Value}(r:Vals [x] us):∃u,us=[u]/\RelV x u:=by
 cases r with
 | cons r1 r2=>cases r2;exact ⟨_,rfl,r1⟩
theorem vals2{x y:V}{us:List Value}(r:Vals [x,y] us):∃u w',us=[u,w']/\RelV x u/\RelV y w':=by
 cases r with
 | cons r1 r2=>
  cases r2 with
  | cons r3 r4=>cases r4;exact ⟨_,_,rfl,r1,r3⟩
theorem BO(hc:X.calm=true):dH X (.builtin "max") (λxs H Q=>∃i j,xs=[.int i,.int j]/\Q (.int (if j>i then j else i)) H):=by
 walk_at"e"
 obtain ⟨i,j,rfl,q⟩:=h
 obtain ⟨u,w',rfl,⟨t,rfl⟩,⟨t',rfl⟩⟩:=vals2 r
 refine max_two_ints (I.ok.hd hc) λh' tk k=>⟨_,H,I.kept k,?_,q⟩
 by_cases hj:j>i
 ·rw[if_pos hj,if_pos hj];exact ⟨_,rfl⟩
 ·rw[if_neg hj,if_neg hj];exact ⟨_,rfl⟩
theorem sx(hc:X.calm=true):dH X (.builtin "min") (λxs H Q=>∃i j,xs=[.int i,.int j]/\Q (.int (if j<i then j else i)) H):=by
 walk_at"e"
 obtain ⟨i,j,rfl,q⟩:=h
 obtain ⟨u,w',rfl,⟨t,rfl⟩,⟨t',rfl⟩⟩:=vals2 r
 refine min_two_ints (I.ok.hd hc) λh' tk k=>⟨_,H,I.kept k,?_,q⟩
 by_cases hj:j<i
 ·rw[if_pos hj,if_pos hj];exact ⟨_,rfl⟩
 ·rw[if_neg hj,if_neg hj];exact ⟨_,rfl⟩
theorem BP:dH X (.type "int") (λxs H Q=>(∃i,xs=[.int i]/\Q (.int i) H)\/∃k,xs=[.bl k]/\Q (.int (if k then 1 else 0)) H):=by
 walk_at"e"
 rcases h with ⟨i,rfl,q⟩ | ⟨k,rfl,q⟩
 ·obtain ⟨u,rfl,t,rfl⟩:=vals1 r
  exact call_int_int ⟨.int i,H,I,⟨_,rfl⟩,q⟩
 ·obtain ⟨u,rfl,r1⟩:=vals1 r
  cases r1
  exact call_int_bool ⟨.int (if k then 1 else 0),H,I.tok _,⟨_,rfl⟩,q⟩
theorem uo:dH X (.type "str") (λxs H Q=>∃i,xs=[.int i]/\i.natAbs.log2<1920/\Q (.str (toString i)) H):=by
 walk_at"e"
 obtain ⟨i,rfl,hz,q⟩:=h
 obtain ⟨u,rfl,t,rfl⟩:=vals1 r
 exact PySem.P.str_of_int hz ⟨.str _,H,I.tok _,⟨_,rfl⟩,q⟩
end
structure BQ(h:Heap)(x dx C:Addr)(mA:Str->Option Value):Prop where
 obj:h.get? x=some (PySem.W.instObj C dx)
 ns:h.Ns1 dx mA
 ne:dx≠x
theorem BR{h:Heap}{dx:Addr}{mA:Str->Option Value}(n:h.Ns1 dx mA):∃od,h.get? dx=some od/\∀name,PySem.W.lookIn name od=some (mA name):=by
 obtain ⟨o,es,ep,ho,hd,hk,_,hm⟩:=n
 refine ⟨o,ho,λname=>?_⟩
 have e:=hm name
 unfold nsFind findBy at e
 rw[<-Array.find?_toList]at e
 unfold PySem.W.lookIn
 rw[hd]
 dsimp only
 split
 ·rename_i y q
  rw[q]at e
  exact congrArg some e
 ·rename_i q
  rw[q]at e
  have a:es.toList.any (·.refKey)=false:=by
   rw[Qft]
   intro y hy
   obtain ⟨z,t,Tt⟩:=hk y (Array.mem_toList_iff.mp hy)
   simp[DictEntry.refKey,Tt]
  have a': ¬es.toList.any (·.refKey)=true:=by rw[a];exact Qah
  rw[if_neg a']
  exact congrArg some e
theorem BQ.look{h:Heap}{x dx C:Addr}{mA:Str->Option Value}(I:BQ h x dx C mA):∃od,PySem.W.InstAt h x (PySem.W.instObj C dx) C (some od)/\∀name,PySem.W.lookIn name od=some (mA name):=
 let ⟨od,ho,hl⟩:=BR I.ns
 ⟨od,⟨I.obj,rfl,rfl,ho⟩,hl⟩
section
variable{prog:Program}{w:World}{A:Around}{E:Value->Shared->Prop}{s:Shared}{K:Fr}{x dx C f:Addr}{mA:Str->Option Value}{name:Str}{v:Value}
theorem get_map{expr:Bool}{Q:Value->Shared->Prop}(X:K.In s.heap)(I:BQ s.heap x dx C mA)(hg:PySem.W.plainGet K C name=true)(hh:PySem.W.hasDictIn K C=true)
  (ha:PySem.W.findIn K (.ref C) name=some none) (hv:mA name=some v) (Xi:PySem.W.handedIn v=true) (h:Q v { s with toks:=s.toks+1 }):
  wpAny (model prog w) A (getAttr (.ref x) name expr) Q E s:=by
 obtain ⟨od,J,hl⟩:=I.look
 exact PySem.W.get_value X J (PySem.W.plainGet_of hg).1 (PySem.W.findObj_own hh ha rfl (by rw[hl,hv])) Xi h
theorem Ht{ns:List Str}{Q:Unit->Shared->Prop}(X:K.In s.heap)(I:BQ s.heap x dx C mA)
  (hs:PySem.W.findIn K (.ref C) "__setattr__"=some (some (.builtin "object.__setattr__"))) (hp:PySem.W.plainOver K C=true) (ht:PySem.W.takerIn K C name=some none) (hh:PySem.W.hasDictIn K C=true)
  (hw:PySem.Within mA ns) (hsz:(ns:)<=sizeLine)
  (h:∀h',BQ h' x dx C (λy=>if y=name then some v else mA y)->Heap.SameBut dx s.heap h'->Q Unit.unit { s with heap:=h',toks:=s.toks+2 }):
  wpAny (model prog w) A (setAttr (.ref x) name v) Q E s:=by
 obtain ⟨od,J,hl⟩:=I.look
 refine PySem.W.set_plain X J hs (PySem.W.osa_open (s:={ s with toks:=s.toks+1 }) (r:=none) X J hp ht λb=>?_)
 obtain ⟨cd,hc,v_⟩:=PySem.W.any_some hh
 have hx:s.heap.get? x=some ⟨.ref C,some dx,.plain, #[]⟩:=I.obj
 refine wpAny_bind (wpAny_pure (wpAny_bind (wpAny_bind (wpAny_loadPart hx (wpAny_bind (PySem.W.Looks.here (s:={ s with toks:=s.toks+1 }) (PySem.W.looks_clsIn X hc) ?_))))))
 rw[v_]
 refine wpAny_pure (a:=some dx) (wpAny_bind (wpAny_pure (wpAny_bind ?_)))
 refine wpAny_nsSet1 (s:={ s with toks:=s.toks+1 }) I.ns λh' uq Pm=>?_
 obtain ⟨oD,ZJ,ZK,Xj,Xk,Xl⟩:=uq.count (PySem.Within.cons name v hw)
 refine wpAny_bind (wpAny_lookBehind Xj (by rw[Xk];exact pastItsLine_dict (Qak Xl (by rw[Qap];lia))) ?_)
 exact wpAny_pure (h _ ⟨(Pm.2 _ (Ne.symm I.ne)).trans I.obj,uq,I.ne⟩ Pm)
theorem DE{R:Result->Shared->Prop}{vs:List Value}{kw:List (Str×Value)}(X:K.In s.heap)(hm:PySem.W.makesIn K C=true)
  (hi:PySem.W.findIn K (.ref C) "__init__"=some (some (.ref f))) (hf:PySem.W.typeIn K (.ref f)=some (.type "function"))
  (h:codeAny (model prog w) (A.under (.builtin "type.__call__" ⟨.ref C::vs,kw⟩)) (.call (.ref f) ⟨.ref (s.heap.objs.size+1)::vs,kw⟩) (PySem.W.InitBack (s.heap.objs.size+1) R)
   { s with heap:=(s.heap.push PySem.W.emptyDict).push (PySem.W.instObj C s.heap.objs.size) }):
  codeAny (model prog w) A (.call (.ref C) ⟨vs,kw⟩) R s:=by
 obtain ⟨hh,g,d,t,os⟩:=s
 exact PySem.W.make_core (PySem.W.makes_of X hm) (PySem.W.looks_findIn X hi) (λself=>PySem.W.bind_fn X self hf) (.inl rfl) h
end
noncomputable def eA(f:Str)(v:V):List (Str×V)->List (Str×V)
 | []=>[(f,v)]
 |(g,x)::r=>if g=f then (g,v)::r else (g,x)::eA f v r
theorem aI(f g:Str)(v:V):∀fs:List (Str×V),(eA f v fs).lookup g=if g=f then some v else fs.lookup g
 | []=>by
  show List.lookup g [(f,v)]=_
  by_cases h:g=f
  ·have hb:(g==f)=true:=beq_iff_eq.mpr h
   simp only[List.lookup,hb,if_pos h]
  ·have hb:(g==f)=false:=beq_eq_false_iff_ne.mpr h
   simp only[List.lookup,hb,if_neg h]
 |(k,x)::r=>by
  have ih:=aI f g v r
  walk_at"H"
  by_cases hk:k=f
  ·rw[if_pos hk]
   by_cases h:g=k
   ·have hb:(g==k)=true:=beq_iff_eq.mpr h
    simp only[List.lookup,hb,if_pos (h.trans hk)]
   ·have hb:(g==k)=false:=beq_eq_false_iff_ne.mpr h
    simp only[List.lookup,hb,if_neg (λe:g=f=>h (e.trans hk.symm))]
  ·rw[if_neg hk]
   by_cases h:g=k
   ·have hb:(g==k)=true:=beq_iff_eq.mpr h
    simp only[List.lookup,hb,if_neg (λe:g=f=>hk (h.symm.trans e))]
   ·have hb:(g==k)=false:=beq_eq_false_iff_ne.mpr h
    simp only[List.lookup,hb]
    exact ih
theorem mK(f:Str)(v:V):∀fs:List (Str×V),f∈(eA f v fs).map (·.1)/\∀g,g∈fs.map (·.1)->g∈(eA f v fs).map (·.1)
 | []=>⟨by simp[eA],λg h=>by simp at h⟩
 |(k,x)::r=>by
  obtain ⟨i1,i2⟩:=mK f v r
  walk_at"H"
  by_cases hk:k=f
  ·rw[if_pos hk]
   subst hk
   exact ⟨by simp,λg h=>by simpa using h⟩
  ·rw[if_neg hk]
   refine ⟨?_,λg h=>?_⟩
   ·rw[Qad]
    exact ZO _ i1
   ·rw[Qad]at h ⊢
    rcases ZQ.mp h with e | e
    ·exact ZQ.mpr (.inl e)
    ·exact ZO _ (i2 g e)
theorem nP(f:Str)(v:V):∀fs:List (Str×V),(eA f v fs:)<=(fs:)+1
 | []=>by simp[eA]
 |(k,x)::r=>by
  have ih:=nP f v r
  walk_at"H"
  by_cases hk:k=f
  ·rw[if_pos hk,Qap,Qap];lia
  ·rw[if_neg hk,Qap,Qap];lia
theorem mH.some_of{v:V}{o:Option Value}(r:mH (some v) o):∃u,o=some u/\RelV v u:=by
 cases o with
 | none=>exact (show False from r).elim
 | some u=>exact ⟨u,rfl,r⟩
theorem BS{v:V}{u:Value}(r:RelV v u):PySem.W.handedIn u=true:=by
 cases v with
 | fQ=>cases (show u=Value.none from r);rfl
 | bl b=>cases (show u=Value.bool b from r);rfl
 | int i=>obtain ⟨t,e⟩:=(show ∃t,u=Value.int i t from r);cases e;rfl
 | str x=>obtain ⟨t,e⟩:=(show ∃t,u=Value.str x t from r);cases e;rfl
 | zZ b=>obtain ⟨t,e⟩:=(show ∃t,u=Value.bytes b t from r);cases e;rfl
 | RB b=>obtain ⟨t,e⟩:=(show ∃t,u=Value.float b t from r);cases e;rfl
 | ref a=>cases (show u=Value.ref a from r);rfl
 | ty n=>cases (show u=Value.type n from r);rfl
section
variable{P:Program}{w:World}{H H':Hp}{h h':Heap}{a C dx:Addr}{fs W_:List (Str×V)}
theorem Ab(bX:jX P w H h)(e:H a=some (.ins C dx fs)):∃mA,BQ h a dx C mA/\(∀f,mH (fs.lookup f) (mA f))/\PySem.Within mA (fs.map (·.1))/\(fs:)<=1000/\H dx=some (.own a):=by
 obtain ⟨d,z,ne,ob,mA,n,r,q⟩:=(show cw P w H h a (.ins C dx fs) from bX a _ e)
 exact ⟨mA,⟨ob,n,ne⟩,r,q,z,d⟩
end
structure J_(K:Fr)(C:Addr):Prop where
 pg:PySem.W.plainGet K C Str.empty=true
 hd:PySem.W.hasDictIn K C=true
 po:PySem.W.plainOver K C=true
 sa:PySem.W.findIn K (.ref C) "__setattr__"=some (some (.builtin "object.__setattr__"))
theorem J_.get{K:Fr}{C:Addr}(c:J_ K C)(f:Str):PySem.W.plainGet K C f=true:=c.pg
def eB(K:Fr)(C:Addr)(f:Str):Prop:=PySem.W.findIn K (.ref C) f=some none
theorem eB.Pw{K:Fr}{C:Addr}{f:Str}(n:eB K C f):PySem.W.takerIn K C f=some none:=by
 unfold PySem.W.takerIn
 rw[show PySem.W.findIn K (.ref C) f=some none from n]
 rfl
section
variable{X:Cx}{pins:List (Addr×Obj)}{σ:St}{H:Hp}{s:Shared}{a C dx:Addr}{fs:List (Str×V)}{f:Str}{v:V}{A:Around}{E:Value->Shared->Prop}
theorem yk{b:Bool}{Q:Value->Shared->Prop}(I:Inv X pins σ H s)(e:H a=some (.ins C dx fs))(c:J_ X.K C)(n:eB X.K C f)(l:fs.lookup f=some v)
  (h:∀u s',Inv X pins σ H s'->RelV v u->Q u s'):wpAny (model X.prog X.w) A (getAttr (.ref a) f b) Q E s:=by
 obtain ⟨mA,O,r,_,_,_⟩:=Ab I.bX e
 obtain ⟨u,hu,ru⟩:=mH.some_of (v:=v) (o:=mA f) (by rw[<-l];exact r f)
 exact get_map I.BI O (c.get f) c.hd n hu (BS ru) (h u _ (I.tok _) ru)
theorem yl{y:V}{u:Value}{Q:Unit->Shared->Prop}(I:Inv X pins σ H s)(e:H a=some (.ins C dx fs))(c:J_ X.K C)(n:eB X.K C f)(hl:(fs:)<1000)(ry:RelV y u)
  (h:∀s',Inv X pins σ (upd H a (.ins C dx (eA f y fs))) s'->Q Unit.unit s'):wpAny (model X.prog X.w) A (setAttr (.ref a) f u) Q E s:=by
 obtain ⟨mA,O,r,wi,_,ho⟩:=Ab I.bX e
 have hz:(fs.map (·.1):)<=sizeLine:=by rw[NA,sizeLine_eq];lia
 refine Ht I.BI O c.sa c.po n.Pw c.hd wi hz λh' O' sb=>h _ ?_
 have hd:∃o,h'.get? dx=some o:=let ⟨o,_,_,e',_⟩:=O'.ns;⟨o,e'⟩
 refine I.write (x:=a) (e:=dx) (by rw[e];exact True.intro) (.inr ho) (λb q hb z=>(sb.2 b hb).trans z) hd ?_
 refine ⟨by rw[ar O.ne];exact ho,?_,O.ne,O'.obj,_,O'.ns,λg=>?_,λg hg=>?_⟩
 ·have:=nP f y fs;lia
 ·show mH ((eA f y fs).lookup g) (if g=f then some u else mA g)
  rw[aI]
  by_cases q:g=f
  ·rw[if_pos q,if_pos q];exact ry
  ·rw[if_neg q,if_neg q];exact r g
 ·by_cases q:g=f
  ·rw[q];exact (mK f y fs).1
  ·refine (mK f y fs).2 g (wi g λz=>hg ?_)
   show (if g=f then some u else mA g)=none
   rw[if_neg q];exact z
theorem Inv.made(I:Inv X pins σ H s):Inv X pins σ (upd (upd H s.heap.objs.size (.own (s.heap.objs.size+1))) (s.heap.objs.size+1) (.ins C s.heap.objs.size []))
  { s with heap:=(s.heap.push PySem.W.emptyDict).push (PySem.W.instObj C s.heap.objs.size) }:=by
 have e1:(s.heap.push PySem.W.emptyDict).get? s.heap.objs.size=some PySem.W.emptyDict:=Qae s.heap rfl
 have e2:((s.heap.push PySem.W.emptyDict).push (PySem.W.instObj C s.heap.objs.size)).get? (s.heap.objs.size+1)=some (PySem.W.instObj C s.heap.objs.size):=by
  have:=Qae (s.heap.push PySem.W.emptyDict) (o:=PySem.W.instObj C s.heap.objs.size) rfl
  rwa [Qdf]at this
 have e3:(s.heap.push PySem.W.emptyDict).Ns s.heap.objs.size (λ_=>none):=⟨PySem.W.emptyDict, #[],_,e1,rfl,(λe he=>absurd he (by simp)),λ_=>rfl⟩
 have I1:=I.laid (a:=s.heap.objs.size) (o:= .own (s.heap.objs.size+1)) (h':=s.heap.push PySem.W.emptyDict) (t':=s.toks) (λb u q=>VI _ q) (RP _) ⟨_,e1⟩
 refine I1.laid (a:=s.heap.objs.size+1) (o:= .ins C s.heap.objs.size []) (t':=s.toks) (λb u q=>VI _ q) (Nat.le_of_eq (Qdf _ _)) ?_
 have ne:s.heap.objs.size≠s.heap.objs.size+1:=Qal (Qcb _)
 refine ⟨by rw[ar ne,ae],Qac _,ne,e2,λ_=>none,(Heap.Ns1.of_empty e3).at λo q=>VI _ q,λ_=>True.intro,λy hy=>absurd rfl hy⟩
theorem Hu{prog:Program}{w:World}{env:Env}{e:Expr}{f:Str}{pos:Pos}{s:Shared}{Q:Value->Shared->Prop}(hb:attributeBase e f env (eval e env)=eval e env)
  (h:wpAny (model prog w) A (eval e env) (λo s₁=>wpAny (model prog w) A (getAttr o f true) Q E s₁) E s):wpAny (model prog w) A (eval (.Attribute e f pos) env) Q E s:=
 Attribute_any_ h (by rw[arm_eval_Attribute,hb])
end
def Px(K:Fr)(ta:TE)(f:Str):TE:=λσ H Q=>ta σ H λx H1=>∃a C dx fs v,x= .ref a/\H1 a=some (.ins C dx fs)/\J_ K C/\eB K C f/\fs.lookup f=some v/\Q v H1
def Tu(K:Fr)(ta tv:TE)(f:Str):TS:=λD σ H=>tv σ H λy H1=>ta σ H1 λx H2=>∃a C dx fs,x= .ref a/\H2 a=some (.ins C dx fs)/\J_ K C/\eB K C f/\(fs:)<1000/\
 D.nx σ (upd H2 a (.ins C dx (eA f y fs)))
section
variable{X:Cx}{o e value:Expr}{f:Str}{pos pos' Py:Pos}{ta tv:TE}
theorem Lo(he:PE X e ta)(hb:attributeBase e f X.env (eval e X.env)=eval e X.env):PE X (.Attribute e f pos) (Px X.K ta f):=by
 walk_at"i"
 refine Hu hb (cf (he pins s σ H _ I h) λu s1 ⟨x,H1,I1,rx,a,C,dx,fs,v,ex,ea,c,n,l,q⟩=>?_)
 subst ex
 obtain rfl:u=Value.ref a:=rx
 exact yk I1 ea c n l λu' s2 I2 ru=>⟨v,H1,I2,ru,q⟩
theorem i8(ha:PE X o ta)(hv:PE X value tv)(hs:swapsWith value (some (.Attribute o f pos')) pos.line X.env=pure false):PS X (.Assign [.Attribute o f pos'] value pos) (Tu X.K ta tv f):=by
 walk_at"y"
 refine plainObj_wpAny_Assign_Attribute (cf (hv pins s σ H _ I h) λu s1 ⟨y,H1,I1,ry,q⟩=>cf (ha pins s1 σ H1 _ I1 q) λov s2 ⟨x,H2,I2,rx,a,C,dx,fs,ex,ea,c,n,l,q2⟩=>?_) hs
 subst ex
 obtain rfl:ov=Value.ref a:=rx
 exact yl I2 ea c n l ry λs3 I3=>⟨σ,_,I3,q2⟩
end
structure eN(k:Nat)(A:Around):Prop where
 hd:A.handled=none
 dp:A.depth+3*k+5<recursionLimit
 un:A.units+16*k+200<cLine
 gd:A.guards=some []
theorem eN.mono{j k:Nat}{A:Around}(r:eN k A)(h:j<=k):eN j A:=⟨r.hd,by have:=r.dp;lia,by have:=r.un;lia,r.gd⟩
theorem eN.deeper{k:Nat}{A:Around}(r:eN (k+1) A)(env:Env):eN k (A.deeper env):=
 ⟨r.hd,by have:=r.dp;show A.depth+1+3*k+5<_;lia,by have:=r.un;show A.units+3+16*k+200<_;lia,r.gd⟩
theorem ym{A:Around}{C:Addr}{us:List Value}{kw:List (Str×Value)}:(A.under (.builtin "type.__call__" ⟨.ref C::us,kw⟩)).depth=A.depth+1:=by
 first | rfl | simp[Around.under,Code.weight,Code.isCreation,Code.isGuard,Code.isCaller,Code.frames,Code.isFrame,guardIds]
theorem yn{A:Around}{C:Addr}{us:List Value}{kw:List (Str×Value)}:(A.under (.builtin "type.__call__" ⟨.ref C::us,kw⟩)).units=A.units+1:=by
 first | rfl | simp[Around.under,Code.cUnits,Code.frames,Code.isFrame]
theorem eN.make{k:Nat}{A:Around}(r:eN (k+1) A)(C:Addr)(us:List Value)(kw:List (Str×Value)):eN k (A.under (.builtin "type.__call__" ⟨.ref C::us,kw⟩)):=
 ⟨r.hd,by have:=r.dp;rw[ym];lia,by have:=r.un;rw[yn];lia,by first | exact r.gd | (simpa [Around.under,Code.guards,Code.isGuard,pushGuards,guardIds]using r.gd)⟩
theorem eN.depth{k:Nat}{A:Around}(r:eN k A):A.depth<recursionLimit:=by have:=r.dp;lia
theorem eN.units{k:Nat}{A:Around}(r:eN k A):A.units+64<cLine:=by have:=r.un;lia
def Tv:TA:=λ_ H Q=>Q [] H
def Pz(ta:TE)(tr:TA):TA:=λσ H Q=>ta σ H λx H1=>tr σ H1 λxs H2=>Q (x::xs) H2
section
variable{X:Cx}{e:Expr}{es:List Expr}{te:TE}{t:TA}{pos:Pos}
theorem ab:PA X [] Tv:=λ_ _ _ _ H Q I h=>Calls.spliced_nil ⟨[],H,I,.nil,h⟩
theorem aa(ha:PE X e te)(hr:PA X es t)(hs:starEach (e::es) X.env=(false,eval e X.env)::starEach es X.env:=by rfl):PA X (e::es) (Pz te t):=by
 intro pos pins s σ H Q I h
 rw[hs]
 show wpAny _ _ (spliced ((false,eval e X.env)::backTo pos (starEach es X.env))) _ _ s
 refine Calls.spliced_cons (cf (ha pins s σ H _ I h) λu s1 ⟨x,H1,I1,r1,q1⟩=>?_)
 exact cf (hr pos pins s1 σ H1 _ I1 q1) λus s2 ⟨xs,H2,I2,r2,q2⟩=>⟨x::xs,H2,I2,.cons r1 r2,q2⟩
def Tw(t:TA):TE:=λσ H Q=>t σ H λxs H1=>(xs:)<=sizeLine/\∀p,H1 p=none->Q (.ref p) (upd H1 p (.tup xs))
def Tx(t:TA):TE:=λσ H Q=>t σ H λxs H1=>(xs:)<=sizeLine/\∀p,H1 p=none->Q (.ref p) (upd H1 p (.lst xs))
theorem bp{x1}(h:PA X es t):PE X (.Tuple es x1 pos) (Tw t):=by
 intro pins s σ H Q I hq
 refine wpAny_Tuple_spliced (cf (h pos pins s σ H _ I hq) λus s1 ⟨xs,H1,I1,r,z,q⟩=>⟨by rw[<-(r:)];exact z,?_⟩)
 have hf:H1 s1.heap.objs.size=none:=I1.bX.fresh (RP _)
 refine ⟨.ref s1.heap.objs.size,upd H1 s1.heap.objs.size (.tup xs),I1.laid (t':=s1.toks) (λb u e=>VI _ e) (RP _) ?_,rfl,q _ hf⟩
 exact ⟨z,us,r,⟨_,Qae _ rfl,rfl,_,rfl⟩⟩
theorem cE(h:PA X es t):PE X (.List es pos) (Tx t):=by
 intro pins s σ H Q I hq
 refine wpAny_List_spliced (cf (h pos pins s σ H _ I hq) λus s1 ⟨xs,H1,I1,r,z,q⟩=>⟨by rw[<-(r:)];exact z,?_⟩)
 have hf:H1 s1.heap.objs.size=none:=I1.bX.fresh (RP _)
 refine ⟨.ref s1.heap.objs.size,upd H1 s1.heap.objs.size (.lst xs),I1.laid (t':=s1.toks) (λb u e=>VI _ e) (RP _) ?_,rfl,q _ hf⟩
 exact ⟨z,us,0,r,Qae _ rfl⟩
end
abbrev Sp:=List V->Hp->VK->XK->Prop
abbrev BU:=List Env->Hp->Shared->XK->Value->Shared->Prop
structure yo(P:Program)(w:World)(K:Fr)(mg:Str->Option Value)(base:Heap)(A:Around)(outer:List Env)(s:Shared)(H:Hp):Prop where
 frames:A.frames=some outer
 mod:Mod K mg base
 bs:∀b o,base.get? b=some o->s.heap.get? b=some o/\H b=none
 Hm:base.objs.size<=s.heap.objs.size
 oz:s.heap.FunFrames base outer
 K8:∀b∈z4 outer,H b=none
 bX:jX P w H s.heap
 bare:AllBare s.gens
def CE(outer:List Env)(P:Program)(w:World)(H:Hp)(s:Shared)(Q:VK)(u:Value)(s':Shared):Prop:=
 ∃v H',s'.os=s.os/\AllBare s'.gens/\Un (z4 outer) [] H H' s.heap s'.heap/\jX P w H' s'.heap/\RelV v u/\Q v H'
def CR(CX:BU)(outer:List Env)(P:Program)(w:World)(H:Hp)(s:Shared)(Q:VK)(E:XK)(r:Result)(s':Shared):Prop:=
 match r with
 | .ok (.ret u)=>CE outer P w H s Q u s'
 | .ok _=>False
 | .error e=>CX outer H s E e s'
structure bE(P:Program)(w:World)(K:Fr)(mg:Str->Option Value)(base:Heap)(CX:BU)(k:Nat)(f:Addr)(fd:FuncData)(ps:List Str)(sp:Sp):Prop where
 len:∀vs H Q E,sp vs H Q E->(vs:)=(ps:)
 run:∀(A:Around) (outer:List Env) (s:Shared) (H:Hp) (args:Args) (us:List Value) (vs:List V) (Q:VK) (E:XK),eN k A->yo P w K mg base A outer s H->BindsTo s fd args (ps.zip us)->Vals vs us->sp vs H Q E->
  codeAny (model P w) A (.call (.ref f) args) (CR CX outer P w H s Q E) s
theorem yo.make{P:Program}{w:World}{K:Fr}{mg:Str->Option Value}{base:Heap}{A:Around}{outer:List Env}{s:Shared}{H:Hp}(e:yo P w K mg base A outer s H)(C:Addr)(us:List Value)(kw:List (Str×Value)):
  yo P w K mg base (A.under (.builtin "type.__call__" ⟨.ref C::us,kw⟩)) outer s H:=⟨by first | exact e.frames | (simpa [Around.under,Code.envs,Code.isFrame,pushEnvs]using e.frames),e.mod,e.bs,e.Hm,e.oz,e.K8,e.bX,e.bare⟩
section
variable{X:Cx}{pins:List (Addr×Obj)}{σ:St}{H:Hp}{s s':Shared}
theorem Inv.PB(I:Inv X pins σ H s):yo X.prog X.w X.K X.mg X.base X.A X.stack s H:=
 ⟨I.ok.frames,I.ok.mod,I.bs,Qak I.ok.Hm I.sz,I.stack,I.z5,I.bX,I.bare⟩
theorem Inv.after{Q:VK}{u:Value}(I:Inv X pins σ H s)(h:CE X.stack X.prog X.w H s Q u s'):EP X pins σ Q u s':=by
 obtain ⟨v,H',os,bare,un,bX,r,q⟩:=h
 obtain ⟨hh,g,d,t,BV⟩:=s'
 obtain rfl:BV=s.os:=os
 exact ⟨v,H',I.call (h':=hh) (g':=g) (d':=d) (t':=t) (ch:=[]) un bX bare (λb z=>absurd z (by simp)),r,q⟩
end
def PC(sp:Sp)(dvs:List V)(E:XK)(t:TA):TE:=λσ H Q=>t σ H λvs H1=>sp (vs++dvs) H1 Q E
def PD(C:Addr)(sp:Sp)(dvs:List V)(E:XK)(t:TA):TE:=λσ H Q=>t σ H λvs H1=>∀x dx,H1 x=none->H1 dx=none->dx≠x->
 sp (.ref x::(vs++dvs)) (upd (upd H1 dx (.own x)) x (.ins C dx [])) (λv H2=>v= .fQ/\Q (.ref x) H2) E
def Binds(K:Fr)(fd:FuncData)(ps:List Str)(ds:List Value):Prop:=
 ∀(s:Shared) (us:List Value),K.In s.heap->(us++ds:)=(ps:)->BindsTo s fd ⟨us,[]⟩ (ps.zip (us++ds))
theorem Binds.all{K:Fr}{fd:FuncData}{ps:List Str}(h:∀us:List Value,(us:)=(ps:)->bindArgs fd ⟨us,[]⟩=pure (ps.zip us)):Binds K fd ps []:=λs us _ hl=>by
 rw[Qba]at hl ⊢
 exact .of_eq (h us hl)
def Passes(CX:BU)(X:Cx)(E:XK):Prop:=∀(pins:List (Addr×Obj)) (σ:St) (H:Hp) (s:Shared) (e:Value) (s':Shared),Inv X pins σ H s->CX X.stack H s E e s'->X.xe e s'
section
variable{X:Cx}{CX:BU}{k:Nat}{f C:Addr}{fd:FuncData}{ps:List Str}{sp:Sp}{dvs:List V}{ds:List Value}{E:XK}{x m:Str}{p pos apos:Pos}{e o:Expr}{es:List Expr}{ta:TE}{t:TA}
theorem yp{pins:List (Addr×Obj)}{σ:St}{H:Hp}{s:Shared}{Q:VK}{us:List Value}{vs:List V}(F:bE X.prog X.w X.K X.mg X.base CX k f fd ps sp)(hr:eN k X.A)(hb:Binds X.K fd ps ds)(hd:Vals dvs ds)(hx:Passes CX X E)
  (I:Inv X pins σ H s) (r:Vals vs us) (h:sp (vs++dvs) H Q E):wpAny (model X.prog X.w) X.A (call (.ref f) us) (EP X pins σ Q) X.xe s:=by
 have r2:Vals (vs++dvs) (us++ds):=r.append hd
 have hl:(us++ds:)=(ps:):=by rw[<-(r2:)];exact F.len _ _ _ _ h
 refine wpAny_call (codeAny_mono (F.run X.A X.stack s H ⟨us,[]⟩ (us++ds) (vs++dvs) Q E hr I.PB (hb s us I.BI hl) r2 h) λr s' hq=>?_)
 cases r with
 | error e=>exact hx pins σ H s e s' I hq
 | ok fl=>
  cases fl with
  | ret u=>exact I.after hq
  | next=>exact False.elim hq
  | brk=>exact False.elim hq
  | cont=>exact False.elim hq
theorem aq(F:bE X.prog X.w X.K X.mg X.base CX k f fd ps sp)(hr:eN k X.A)(hg:Gl X x)(hm:X.mg x=some (.ref f))(hk:PySem.W.keepIn X.K (.ref f)=true)(hb:Binds X.K fd ps ds)(hd:Vals dvs ds)(hx:Passes CX X E)
  (ha:PA X (e::es) t) (Hv:(x==("__debug__":Str))=false:=by decide) (he:starEach (e::es) X.env=(false,eval e X.env)::starEach es X.env:=by rfl) (h7:(backTo pos (starEach es X.env)).any (·.1)=false:=by rfl):
  PE X (.Call (.Name x p) (e::es) [] pos) (PC sp dvs E t):=by
 walk_at"i"
 refine wpAny_Call_Name_kw (ui I hg hm ?_ Hv)
 refine Qd8 (h₀:=X.base) I.ok.mod.Nt hk (cf (ha pos pins s σ H _ I h) λus s1 ⟨vs,H1,I1,r,q⟩=>⟨I1.BI,?_⟩) he h7
 exact yp F hr hb hd hx I1 r q
structure Mk(K:Fr)(C f:Addr):Prop where
 makes:PySem.W.makesIn K C=true
 init:PySem.W.findIn K (.ref C) "__init__"=some (some (.ref f))
 fn:PySem.W.isFn K (.ref f)=true
 kp:PySem.W.keepIn K (.ref C)=true
theorem DF{pins:List (Addr×Obj)}{σ:St}{H:Hp}{s:Shared}{Q:VK}{us:List Value}{vs:List V}(M:Mk X.K C f)(F:bE X.prog X.w X.K X.mg X.base CX k f fd ps sp)(hr:eN (k+1) X.A)(hb:Binds X.K fd ps ds)(hd:Vals dvs ds)
  (hx:Passes CX X E) (I:Inv X pins σ H s) (r:Vals vs us)
  (h:∀x dx,H x=none->H dx=none->dx≠x->sp (.ref x::(vs++dvs)) (upd (upd H dx (.own x)) x (.ins C dx [])) (λv H2=>v= .fQ/\Q (.ref x) H2) E):
  wpAny (model X.prog X.w) X.A (call (.ref C) us) (EP X pins σ Q) X.xe s:=by
 have hq:=h (s.heap.objs.size+1) s.heap.objs.size (I.bX.fresh (Qcl _)) (I.bX.fresh (RP _)) (Qal (Qcb _))
 have I2:=Inv.made (C:=C) I
 have r2:Vals (V.ref (s.heap.objs.size+1)::(vs++dvs)) (Value.ref (s.heap.objs.size+1)::(us++ds)):= .cons rfl (r.append hd)
 have hl:((Value.ref (s.heap.objs.size+1)::us++ds):)=(ps:):=by
  have e:=(r2:)
  rw[F.len _ _ _ _ hq]at e
  exact e.symm
 refine wpAny_call (DE (f:=f) I.BI M.makes M.init (beq_iff_eq.mp M.fn) (codeAny_mono (F.run _ X.stack _ _ ⟨Value.ref (s.heap.objs.size+1)::us,[]⟩ (Value.ref (s.heap.objs.size+1)::(us++ds)) _ _ E (hr.make C us [])
  (I2.PB.make C us []) (hb _ (Value.ref (s.heap.objs.size+1)::us) I2.BI hl) r2 hq) λr s' PH=>?_))
 cases r with
 | error e=>exact hx pins σ _ _ e s' I2 PH
 | ok fl=>
  cases fl with
  | ret u=>
   obtain ⟨v,H',I3,rv,ev,q3⟩:=I2.after PH
   subst ev
   exact ⟨rv,⟨V.ref (s.heap.objs.size+1),H',I3,rfl,q3⟩⟩
  | next=>exact False.elim PH
  | brk=>exact False.elim PH
  | cont=>exact False.elim PH
theorem oY(M:Mk X.K C f)(F:bE X.prog X.w X.K X.mg X.base CX k f fd ps sp)(hr:eN (k+1) X.A)(hg:Gl X x)(hm:X.mg x=some (.ref C))(hb:Binds X.K fd ps ds)(hd:Vals dvs ds)(hx:Passes CX X E)
  (ha:PA X (e::es) t) (Hv:(x==("__debug__":Str))=false:=by decide) (he:starEach (e::es) X.env=(false,eval e X.env)::starEach es X.env:=by rfl) (h7:(backTo pos (starEach es X.env)).any (·.1)=false:=by rfl):
  PE X (.Call (.Name x p) (e::es) [] pos) (PD C sp dvs E t):=by
 walk_at"i"
 refine wpAny_Call_Name_kw (ui I hg hm ?_ Hv)
 refine Qd8 (h₀:=X.base) I.ok.mod.Nt M.kp (cf (ha pos pins s σ H _ I h) λus s1 ⟨vs,H1,I1,r,q⟩=>⟨I1.BI,?_⟩) he h7
 exact DF M F hr hb hd hx I1 r q
end
structure aE(N P:List Str)(sc:Scope):Prop where
 kind:sc.kind= .function
 co:sc.isCoroutine=false
 gen:sc.isGenerator=false
 nd:N.Nodup
 pre:N.take P.length=P
 par:∀x∈P,sc.names.lookup x=some .local\/sc.names.lookup x=some .cell
 Lp:∀y∈sc.names,y.2≠ .free
theorem sE{kindOf:Str->Option NameKind}{x:Str}:∀{binds:List (Str×Value)} {m:Str->Option Value},(∀v,(x,v)∉binds)->bindL kindOf binds m x=m x
 | [],_,_=>rfl
 |(n,v)::r,m,h=>by
  unfold bindL
  rw[sE λw hw=>h w (ZO _ hw)]
  split
  ·have:x≠n:=by rintro rfl;exact h v ZP
   simp[this]
  ·rfl
theorem sF{kindOf:Str->Option NameKind}{x:Str}:∀{binds:List (Str×Value)} {m:Str->Option Value},(∀v,(x,v)∉binds)->bindC kindOf binds m x=m x
 | [],_,_=>rfl
 |(n,v)::r,m,h=>by
  unfold bindC
  rw[sF λw hw=>h w (ZO _ hw)]
  split
  ·rfl
  ·have:x≠n:=by rintro rfl;exact h v ZP
   simp[this]
theorem sG{kindOf:Str->Option NameKind}{x:Str}{v:Value}:∀{P:List Str} {vs:List Value} {i:Nat} {m:Str->Option Value},P.Nodup->P[i]? =some x->vs[i]? =some v->kindOf x=some .local->
  bindL kindOf (P.zip vs) m x=some v
 | [],_,_,_,_,h,_,_=>by simp at h
 | _::_,[],_,_,_,_,h,_=>by simp at h
 | p::P,w::vs,0,m,nd,h1,h2,hk=>by
  simp at h1 h2;subst h1;subst h2
  show bindL kindOf ((p,w)::P.zip vs) m p=_
  unfold bindL
  rw[sE λv hv=>(Qa9.mp nd).1 (Qf1 hv).1,if_pos hk]
  simp
 | p::P,w::vs,i+1,m,nd,h1,h2,hk=>by
  show bindL kindOf ((p,w)::P.zip vs) m x=_
  unfold bindL
  exact sG (i:=i) (Qa9.mp nd).2 (by simpa using h1) (by simpa using h2) hk
theorem sI{kindOf:Str->Option NameKind}{x:Str}{v:Value}:∀{P:List Str} {vs:List Value} {i:Nat} {m:Str->Option Value},P.Nodup->P[i]? =some x->vs[i]? =some v->kindOf x≠some .local->
  bindC kindOf (P.zip vs) m x=some v
 | [],_,_,_,_,h,_,_=>by simp at h
 | _::_,[],_,_,_,_,h,_=>by simp at h
 | p::P,w::vs,0,m,nd,h1,h2,hk=>by
  simp at h1 h2;subst h1;subst h2
  show bindC kindOf ((p,w)::P.zip vs) m p=_
  unfold bindC
  rw[sF λv hv=>(Qa9.mp nd).1 (Qf1 hv).1,if_neg hk]
  simp
 | p::P,w::vs,i+1,m,nd,h1,h2,hk=>by
  show bindC kindOf ((p,w)::P.zip vs) m x=_
  unfold bindC
  exact sI (i:=i) (Qa9.mp nd).2 (by simpa using h1) (by simpa using h2) hk
noncomputable def start(N:List Str)(vs:List V):St:=vs.map some++List.replicate (N.length - (vs:)) none
noncomputable def BW(CX:BU)(P:Program)(w:World)(K:Fr)(mg:Str->Option Value)(base:Heap)(N:List Str)(qual:Str)(scope:Scope)(f:Addr)(cd:Value)(A:Around)(outer:List Env)(s:Shared)(H:Hp)(E:XK):Cx where
 prog:=P
 w:=w
 K:=K
 mg:=mg
 base:=base
 A:=A.deeper (envOfC qual scope s.heap.objs.size f cd)
 N:=N
 s₀:=s
 H₀:=H
 env:=envOfC qual scope s.heap.objs.size f cd
 outer:=outer
 stack:=envOfC qual scope s.heap.objs.size f cd::outer
 ex:=[]
 calm:=true
 fn:=λ_=>true
 pn:=[]
 xe:=λe s'=>wpAny (model P w) (A.deeper (envOfC qual scope s.heap.objs.size f cd)) (leaving (envOfC qual scope s.heap.objs.size f cd) e) (λ_ PJ=>CX outer H s E e PJ) (λe' PJ=>CX outer H s E e' PJ) s'
theorem wg{sc:Scope}{n:Nat}{x:Str}(h:sc.names.lookup x=some .cell):∃c,(cellsFrom n sc.names []).lookup x=some c:=by
 have q:=PySem.W.cellsFrom_some sc.names n [] (.inl h)
 exact Option.isSome_iff_exists.mp q
theorem BX{CX:BU}{P:Program}{w:World}{K:Fr}{mg:Str->Option Value}{base:Heap}{N ps:List Str}{qual:Str}{scope:Scope}{f:Addr}{cd:Value}{A:Around}{outer:List Env}{s s1:Shared}{H:Hp}{E:XK}{us:List Value}{vs:List V}
  (S:aE N ps scope) (hd:A.handled=none) (e0:yo P w K mg base A outer s H) (hl:(vs:)=(ps:)) (r:Vals vs us)
  (x:InCallC s s.heap.objs.size (bindL (envOfC qual scope s.heap.objs.size f cd).kindOf (ps.zip us) λ_=>none) (cellsFrom (s.heap.objs.size+1) scope.names []) (bindC (envOfC qual scope s.heap.objs.size f cd).kindOf (ps.zip us) λ_=>none) s1):
  Inv (BW CX P w K mg base N qual scope f cd A outer s H E) [] (start N vs) H s1:=by
 have h7:(ps:)<=N.length:=by have:=congrArg List.length S.pre;rw[Qai]at this;lia
 obtain ⟨h1,tk,rfl,hk⟩:=x.done
 have PK:∀b:Addr,b∉(BW CX P w K mg base N qual scope f cd A outer s H E).ex:=λb z=>absurd (show b∈([]:List Addr) from z) (by simp)
 refine ⟨⟨e0.mod,S.kind,rfl,rfl,RP _,λy z c h1 h2=>?_,λy hy=>?_,λy c _ h=>?_,λ_=>hd,Around.frames_deeper e0.frames,.inr ⟨rfl,rfl⟩,λb z=>absurd z (PK b),e0.bs,e0.Hm,λb _ _=>PK b,λb z=>absurd z (PK b),e0.oz,e0.K8⟩,
  rfl,e0.bare,Un.kept hk,⟨_,x.toInCall.ns,λi y v h1 h2 h3=>?_⟩,λy c h=>⟨_,x.cell y c h⟩,e0.bX.fresh (RP _),λy c h=>?_,λp hp=>absurd (show p∈([]:List (Addr×Obj)) from hp) (by simp),e0.bX.kept hk,?_⟩
 ·exact name_of_addr x.apart (Qde h1) (Qde h2)
 ·have hy:scope.names.lookup y=some .cell\/scope.names.lookup y=some .free:=hy
  rcases hy with hy | hy
  ·exact wg hy
  ·exact absurd rfl (S.Lp _ (Qde hy))
 ·exact Qa4 (x.above y c (Qde h))
 ·have hi:i<(vs:):=by
   unfold start at h2
   by_cases hi:i<(vs:)
   ·exact hi
   ·rw[Qa5 (by simpa using hi)]at h2
    rw[List.getElem?_replicate]at h2
    split at h2<;>cases h2
  have ha:vs[i]? =some v:=by
   unfold start at h2
   rw[Qa0 (by simpa using hi),ZN]at h2
   cases e:vs[i]? with
   | none=>rw[e]at h2;cases h2
   | some a=>rw[e]at h2;cases h2;rfl
  obtain ⟨u,hu,rv⟩:=r.get ha
  have hp:ps[i]? =some y:=by
   rw[<-S.pre,List.getElem?_take_of_lt ()];exact h1
  have VA:ps.Nodup:=by rw[<-S.pre];exact S.nd.sublist (List.take_sublist _ _)
  refine ⟨u,rv,?_⟩
  rcases S.par y (Xu hp) with k | k
  ·exact .inl ⟨k,sG VA hp hu k⟩
  ·obtain ⟨c,e⟩:=wg (n:=s.heap.objs.size+1) k
   refine .inr ⟨.inl k,c,e,?_⟩
   have q:=x.cell y c e
   rw[sI VA hp hu (by show scope.names.lookup y≠_;rw[k];decide)]at q
   exact q
 ·exact e0.bX.fresh (Qa4 (x.above y c (Qde h)))
 ·unfold start
  show _=N.length
  rw[VG,NA,List.length_replicate]
  lia
theorem PL{CX:BU}{P:Program}{w:World}{K:Fr}{mg:Str->Option Value}{base:Heap}{k:Nat}{f:Addr}{name qual:Str}{params:Arguments}{body:List Stmt}{scope:Scope}{dV kV doc pm cN ct oc:Value}{an od:Option Addr}
  {GZ:Array (Option Value)} {N ps:List Str} {sp:Sp} (lk:K.lookup f=some ⟨oc,od,.func (PySem.W.fnOf name qual params body scope dV kV doc pm an cN ct),GZ⟩) (oA:PySem.W.codeIn K cN qual=true) (S:aE N ps scope)
  (len:∀vs H Q E,sp vs H Q E->(vs:)=(ps:))
  (DG:∀(A:Around) (outer:List Env) (s:Shared) (H:Hp) (vs:List V) (Q:VK) (E:XK),eN k (A.deeper (envOfC qual scope s.heap.objs.size f cN))->sp vs H Q E->
   ∃t,x9 (BW CX P w K mg base N qual scope f cN A outer s H E) body t/\t { nx:=λ_ H'=>Q .fQ H',rt:=Q } (start N vs) H):
  bE P w K mg base CX (k+1) f (PySem.W.fnOf name qual params body scope dV kV doc pm an cN ct) ps sp:=by
 refine ⟨len,λA outer s H args us vs Q E hr e0 hb r DH=>?_⟩
 have hl:=len _ _ _ _ DH
 have KX:K.In s.heap:=e0.mod.Nt.keeps λb o e=>(e0.bs b o e).1
 have lim:s.heap.NoLimit:=e0.mod.nolimit.keeps λb o e=>(e0.bs b o e).1
 have kU:∀y∈ps.zip us,scope.names.lookup y.1=some .local\/(scope.names.lookup y.1=some .cell/\((cellsFrom (s.heap.objs.size+1) scope.names []).lookup y.1).isSome=true):=λ⟨n,v⟩ hy=>by
  rcases S.par n (Qf1 hy).1 with q | q
  ·exact .inl q
  ·exact .inr ⟨q,PySem.W.cellsFrom_some _ _ _ (.inl q)⟩
 refine codeAny_call_function hr.depth (KX _ _ lk) rfl S.co S.gen rfl (PySem.W.codeRec_of KX oA) (hb _ _ _ _ ?_)
 refine wpAny_newFunctionEnv_cells S.kind kU λenv he s1 x=>?_
 subst he
 refine ⟨lim.keeps x.toInCall.keep,codeAny_func ?_⟩
 obtain ⟨t,ht,hq⟩:=DG A outer s H vs Q E (hr.deeper _) DH
 have I:Inv (BW CX P w K mg base N qual scope f cN A outer s H E) [] (start N vs) H s1:=BX S hr.hd e0 hl r x
 refine wpAny_mono (ht [] s1 (start N vs) H _ I hq) (λfl s' hs=>?_) λe s' hs=>hs
 have fin:∀{σ':St} {H':Hp} {v:V} {u:Value},Inv (BW CX P w K mg base N qual scope f cN A outer s H E) [] σ' H' s'->RelV v u->Q v H'->CE outer P w H s Q u s':=
  λ{σ' H' v u} J rv q=>⟨v,H',J.os,J.bare,J.base,J.bX,rv,q⟩
 cases fl with
 | ret u=>
  obtain ⟨v,σ',H',J,rv,q⟩:=hs
  exact fin J rv q
 | next=>
  obtain ⟨σ',H',J,q⟩:=hs
  exact fin (v:=V.fQ) (u:=Value.none) J rfl q
 | brk=>
  obtain ⟨_,_,_,q⟩:=hs
  exact False.elim q
 | cont=>
  obtain ⟨_,_,_,q⟩:=hs
  exact False.elim q
section
variable{X:Cx}{x:Str}{p pos:Pos}{e:Expr}{es:List Expr}{t:TA}{id T:String}{r:List V->Hp->VK->Prop}
def VB(r:List V->Hp->VK->Prop)(t:TA):TE:=λσ H Q=>t σ H λvs H1=>r vs H1 Q
theorem aC(hc:dH X (.builtin id) r)(hg:Gl X x)(hm:X.mg x=none)(hv:bootBuiltins x=some (.builtin id))(ha:PA X (e::es) t)(hn:x≠"__name__":=by decide)(Hv:(x==("__debug__":Str))=false:=by decide)
  (he:starEach (e::es) X.env=(false,eval e X.env)::starEach es X.env:=by rfl) (h7:(backTo pos (starEach es X.env)).any (·.1)=false:=by rfl):PE X (.Call (.Name x p) (e::es) [] pos) (VB r t):=by
 walk_at"i"
 refine wpAny_Call_Name_kw (gD I hg hm hv ?_ hn Hv)
 exact PyProof.Rows.callWith_builtin1 (cf (ha pos pins s σ H _ I h) λus s1 ⟨vs,H1,I1,r1,q1⟩=>hc pins s1 σ H1 vs us Q I1 r1 q1) he h7
theorem dX(hc:dH X (.type T) r)(hg:Gl X x)(hm:X.mg x=none)(hv:bootBuiltins x=some (.type T))(ha:PA X (e::es) t)(hn:x≠"__name__":=by decide)(Hv:(x==("__debug__":Str))=false:=by decide)
  (he:starEach (e::es) X.env=(false,eval e X.env)::starEach es X.env:=by rfl) (h7:(backTo pos (starEach es X.env)).any (·.1)=false:=by rfl):PE X (.Call (.Name x p) (e::es) [] pos) (VB r t):=by
 walk_at"i"
 refine wpAny_Call_Name_kw (gD I hg hm hv ?_ hn Hv)
 exact Qbj (cf (ha pos pins s σ H _ I h) λus s1 ⟨vs,H1,I1,r1,q1⟩=>hc pins s1 σ H1 vs us Q I1 r1 q1) he h7
end
end L2
namespace HT
open PySem PyProof.Rows
section
variable{prog:Program}{w:World}{A:Around}{E:Value->Shared->Prop}{s:Shared}
theorem Ac{t b:Addr}{vs ws:List Value}{Q:Value->Shared->Prop}(ht:IsTup s.heap t vs.toArray)(hb:IsTup s.heap b ws.toArray)(hv:vs≠[])
  (h1:ws=[]->Q (.ref t) s) (h2:ws≠[]->Q (.ref s.heap.objs.size) { s with heap:=s.heap.push { cls:= .type "tuple",data:= .seq (vs++ws).toArray } })
  (hsz:(vs:)+(ws:)<=sizeLine):wpAny (model prog w) A (binaryOp .Add (.ref t) (.ref b)) Q E s:=by
 obtain ⟨⟨cls,dd,data,sl⟩,ho,hc,n,hd⟩:=id ht
 obtain ⟨⟨Tz,RK,data2,RL⟩,Lq,Lr,n2,hd2⟩:=id hb
 simp only at hc hd Lr hd2
 subst hc hd Lr hd2
 have e:vs.toArray++ws.toArray=(vs++ws).toArray:=by simp
 by_cases hw:ws=[]
 ·exact concat_meets ⟨_,ho,rfl⟩ ⟨_,Lq,rfl⟩ noFill_tuple_add seq_tuple_add Qer Qei (Qeg _ _)
   (tuple_addW1 t b vs.toArray ws.toArray n n2 dd RK sl RL (by simpa using hv) (by simp[hw])) ⟨ho,Lq,h1 hw⟩
 ·refine concat_meets ⟨_,ho,rfl⟩ ⟨_,Lq,rfl⟩ noFill_tuple_add seq_tuple_add Qer Qei (Qeg _ _)
   (tuple_addW2 t b vs.toArray ws.toArray n n2 dd RK sl RL (by simpa using hv) (by simpa using hw) (by rw[Xv,Xv];exact hsz)) ⟨ho,Lq,?_⟩
  rw[e]
  exact h2 hw
noncomputable def cB(n d:Nat):Option Int->Nat
 | none=>d
 | some v=>if v<0 then (v+(n:Int)).toNat else min v.toNat n
theorem kW(n d:Nat):cB n d none=d:=rfl
theorem fR(n d k:Nat):cB n d (some (k:Int))=min k n:=by
 show (if (k:Int)<0 then ((k:Int)+(n:Int)).toNat else min (k:Int).toNat n)=min k n
 rw[if_neg (),Xt]
theorem DI(n d:Nat)(hd:d<=n)(o:Option Int):cB n d o<=n:=by
 cases o with
 | none=>exact hd
 | some v=>
  show (if v<0 then (v+(n:Int)).toNat else min v.toNat n)<=n
  by_cases hv:v<0
  ·rw[if_pos hv];lia
  ·rw[if_neg hv];exact Nat.min_le_right _ _
theorem Ad(v:Int)(n d:Nat):(if v<0 then max (v+(n:Int)) 0 else min v (n:Int))=((cB n d (some v):Nat):Int):=by
 show (if v<0 then max (v+(n:Int)) 0 else min v (n:Int))=(((if v<0 then (v+(n:Int)).toNat else min v.toNat n):Nat):Int)
 by_cases hv:v<0
 ·simp only[if_pos hv];lia
 ·simp only[if_neg hv];lia
theorem yq(lo hi:Option Int)(n:Nat):Builtin.Slice.sliceAdjust lo hi 1 (n:Int)=(((cB n 0 lo:Nat):Int),((cB n n hi:Nat):Int)):=by
 have h1: ¬((1:Int)<0):=by lia
 unfold Builtin.Slice.sliceAdjust
 simp only[h1,if_false]
 refine Prod.ext ?_ ?_
 ·cases lo with
  | none=>rfl
  | some v=>exact Ad v n 0
 ·cases hi with
  | none=>rfl
  | some v=>exact Ad v n n
theorem yr(i j:Nat):Builtin.Slice.slicePlaces (i:Int) (j:Int) 1=j - i:=by
 unfold Builtin.Slice.slicePlaces
 have h1:(1:Int)>0:=by lia
 simp only[h1,if_true,Int.ediv_one]
 split<;>lia
theorem pM{v:Value}{o:Option Int}{Q:Option Int->Shared->Prop}(p:IsPart v o)(h:Q o s):wpAny (model prog w) A (Builtin.Slice.slicePartIndex v) Q E s:=by
 cases p with
 | none=>exact slicePart_none h
 | int i t=>exact slicePart_int h
theorem gS{sl:Addr}{vl vu:Value}{lo hi:Option Int}{n:Nat}{Q:Int×Int×Nat->Shared->Prop}(hs:s.heap.IsSliceOf sl vl vu .none)(pl:IsPart vl lo)(pu:IsPart vu hi)
  (h:Q (((cB n 0 lo:Nat):Int),1,cB n n hi - cB n 0 lo) s):wpAny (model prog w) A (Builtin.Slice.sliceApplied (.ref sl) (pure (n:Int))) Q E s:=by
 obtain ⟨os,mL,Nw,Ka⟩:=id hs
 unfold Builtin.Slice.sliceApplied Builtin.Slice.sliceFields
 refine wpAny_bind (wpAny_bind (wpAny_field mL Ka (x:=vl) rfl (wpAny_bind (wpAny_field mL Ka (x:=vu) rfl (wpAny_bind (wpAny_field mL Ka (x:= .none) rfl (wpAny_pure ?_)))))))
 refine wpAny_bind (slicePart_none ?_)
 show wpAny _ _ (if ((1:Int)==0)=true then _ else _) _ _ s
 rw[if_neg ∅]
 refine wpAny_bind (pM pl (wpAny_bind (pM pu (wpAny_bind (wpAny_pure ?_)))))
 show wpAny _ _ (match Builtin.Slice.sliceAdjust lo hi 1 (n:Int) with | (lo,hi)=>pure (lo,(1:Int),Builtin.Slice.slicePlaces lo hi 1)) _ _ s
 rw[yq lo hi n]
 show wpAny _ _ (pure (((cB n 0 lo:Nat):Int),(1:Int),Builtin.Slice.slicePlaces ((cB n 0 lo:Nat):Int) ((cB n n hi:Nat):Int) 1)) _ _ s
 rw[yr]
 exact wpAny_pure h
theorem DJ(xs:Array Value)(i k:Nat):((List.range k).filterMap λ(m:Nat)=>xs[((i:Int)+(m:Int)*1).toNat]?).toArray=((xs.toList.drop i).take k).toArray:=by
 have e:(λ(m:Nat)=>xs[((i:Int)+(m:Int)*1).toNat]?)=λm=>xs[i+m]?:= by
  funext m
  have:((i:Int)+(m:Int)*1).toNat=i+m:=by lia
  rw[this]
 rw[e]
 have:=pick_run xs i k
 rw[List.filterMap_map]at this
 have e2:((λx=>xs[x]?) ∘ λx=>i+x)=λm=>xs[i+m]?:= rfl
 rw[e2]at this
 rw[this]
theorem gv{t sl:Addr}{items:Array Value}{vl vu:Value}{lo hi:Option Int}{Q:Value->Shared->Prop}(ht:IsTup s.heap t items)(hs:s.heap.IsSliceOf sl vl vu .none)(pl:IsPart vl lo)(pu:IsPart vu hi)
  (hw: ¬(cB items.size 0 lo=0/\cB items.size items.size hi=items.size))
  (h:Q (.ref s.heap.objs.size) { s with heap:=s.heap.push { cls:= .type "tuple",data:= .seq ((items.toList.drop (cB items.size 0 lo)).take (cB items.size items.size hi - cB items.size 0 lo)).toArray } })
  (hsz:items.size<=sizeLine):wpAny (model prog w) A (getItem (.ref t) (.ref sl)) Q E s:=by
 have Ae:sizeOk (.seq ((items.toList.drop (cB items.size 0 lo)).take (cB items.size items.size hi - cB items.size 0 lo)).toArray):=by
  show ((items.toList.drop (cB items.size 0 lo)).take (cB items.size items.size hi - cB items.size 0 lo)).toArray.size<=sizeLine
  rw[Xv,Qai,Qaw,Qfg]
  lia
 have hj:cB items.size items.size hi<=items.size:=DI _ _ (RP _) hi
 obtain ⟨os,mL,Nw,Ka⟩:=id hs
 have TB:s.TypeIs (.ref sl) "slice":=⟨os,mL,Nw⟩
 unfold getItem
 try with_reducible refine wpAny_holding ?_
 first | refine wpAny_bind (wpAny_pure ?_) | skip
 refine wpAny_bind (wpAny_sequenceKey ht.typeIs ∅ ?_)
 refine wpAny_bind (wpAny_callSpecial?_slot (name:=Str.ofString "__getitem__") ht.typeIs Qbu
  (wpAny_call_entry Qbu ht.typeIs entry_tuple_getitem ?_ (args_tuple_getitem _ _)))
 show wpAny _ _ (Builtin.Tuple.tupleItemsOf (.ref t) >>= _) _ _ s
 refine wpAny_bind (tupleItemsOf_ ht ?_)
 refine wpAny_bind (wpAny_typeOf TB ?_)
 rw[if_pos ∅]
 refine wpAny_bind (gS hs pl pu ?_)
 have Ny: ¬((((cB items.size 0 lo:Nat):Int)==0&&(1:Int)==1&&(cB items.size items.size hi - cB items.size 0 lo)==items.size)=true):=by
  intro q
  rw[Qa8,Qa8]at q
  have q1:((cB items.size 0 lo:Nat):Int)=0:=eq_of_beq q.1.1
  have q2:cB items.size items.size hi - cB items.size 0 lo=items.size:=eq_of_beq q.2
  exact hw ⟨(),()⟩
 walk_at"D"
 rw[if_neg Ny,DJ]
 first
  | exact wpAny_bind (m:=Builtin.Tuple.tupleExact _) (wpAny_newObj_type (wpAny_pure ⟨_,rfl,wpAny_pure h⟩) Ae)
  | exact wpAny_bind (m:=Builtin.Tuple.tupleExact _) (wpAny_newObj_type (wpAny_bind (wpAny_pure (wpAny_pure ⟨_,rfl,wpAny_pure h⟩))) Ae)
  | exact wpAny_bind (wpAny_bind (m:=Builtin.Tuple.tupleExact _) (wpAny_newObj_type (wpAny_pure (wpAny_pure ⟨_,rfl,wpAny_pure h⟩)) Ae))
  | exact wpAny_bind (wpAny_bind (m:=Builtin.Tuple.tupleExact _) (wpAny_newObj_type (wpAny_pure ⟨_,rfl,wpAny_pure h⟩) Ae))
end
end HT
namespace L2
open PySem PySem.Spec PyProof.Rows
abbrev TO:=St->Hp->(Option Int->Hp->Prop)->Prop
def PO(X:Cx)(e:Option Expr)(t:TO):Prop:=
 ∀(pins:List (Addr×Obj)) (s:Shared) (σ:St) (H:Hp) (Q:Option Int->Hp->Prop),Inv X pins σ H s->t σ H Q->
  wpAny (model X.prog X.w) X.A (evalPart e X.env) (λu s'=>∃o H',Inv X pins σ H' s'/\IsPart u o/\Q o H') X.xe s
def Hw:TO:=λ_ H Q=>Q none H
def PM(t:TE):TO:=λσ H Q=>t σ H λx H1=>∃i,x= .int i/\Q (some i) H1
section
variable{X:Cx}{e:Expr}{te:TE}{lo hi:Option Expr}{tl th:TO}{pos p2:Pos}
theorem cZ:PO X none Hw:=by
 walk_at"i"
 rw[evalPart_none]
 exact wpAny_pure ⟨none,H,I,.none,h⟩
theorem bA(h:PE X e te):PO X (some e) (PM te):=by
 intro pins s σ H Q I hw
 rw[evalPart_some]
 refine cf (h pins s σ H _ I hw) λu s1 ⟨x,H1,I1,r1,q1⟩=>?_
 obtain ⟨i,rfl,q⟩:=q1
 walk_at"1"
 exact ⟨some i,H1,I1,.int i t,q⟩
def Ls(X:Cx)(r:V->Option Int->Option Int->Hp->VK->Prop):Prop:=
 ∀(pins:List (Addr×Obj)) (s:Shared) (σ:St) (H:Hp) (x:V) (v vl vu:Value) (lo hi:Option Int) (sl:Addr) (Q:VK),Inv X pins σ H s->RelV x v->s.heap.IsSliceOf sl vl vu .none->IsPart vl lo->IsPart vu hi->r x lo hi H Q->
  ∃T id,typeLookup (.type T) "__getitem__"=pure (some (.builtin id))/\s.TypeIs v T/\wpAny (model X.prog X.w) X.A (getItem v (.ref sl)) (EP X pins σ Q) X.xe s
def Xn(r:V->Option Int->Option Int->Hp->VK->Prop)(te:TE)(tl th:TO):TE:=λσ H Q=>te σ H λx H1=>tl σ H1 λl H2=>th σ H2 λu H3=>r x l u H3 Q
theorem bG{r:V->Option Int->Option Int->Hp->VK->Prop}(hr:Ls X r)(he:PE X e te)(hl:PO X lo tl)(hu:PO X hi th):PE X (.Subscript e (.Slice lo hi none p2) pos) (Xn r te tl th):=by
 walk_at"i"
 refine Subscript_ (cf (he pins s σ H _ I h) λv s1 ⟨x,H1,I1,r1,q1⟩=>?_)
 refine wpAny_Slice (cf (hl pins s1 σ H1 _ I1 q1) λvl s2 ⟨l,H2,I2,pl,q2⟩=>cf (hu pins s2 σ H2 _ I2 q2) λvu s3 ⟨u,H3,I3,pu,q3⟩=>?_)
 rw[evalPart_none]
 walk_at"Y"
 have I4:Inv X pins σ H3 { s3 with heap:=s3.heap.push { cls:= .type "slice",data:= .fields #[vl,vu,.none] } }:=I3.kept (t':=s3.toks) λb ob q=>VI _ q
 obtain ⟨T,id,hT,ht,hg⟩:=hr pins { s3 with heap:=s3.heap.push { cls:= .type "slice",data:= .fields #[vl,vu,.none] } } σ H3 x v vl vu l u s3.heap.objs.size Q I4 r1 (Heap.IsSliceOf.new ..) pl pu q3
 show wpAny (model X.prog X.w) X.A (subscriptTail e (.Slice lo hi none p2) v (.ref s3.heap.objs.size)) (EP X pins σ Q) X.xe { s3 with heap:=s3.heap.push { cls:= .type "slice",data:= .fields #[vl,vu,.none] } }
 exact tail_any (ops:=[.ref s3.heap.objs.size,v]) ht hT hg (by with_unfolding_all rfl)
noncomputable def gq(xs:List V)(lo hi:Option Int):List V:=(xs.drop (HT.cB (xs:) 0 lo)).take (HT.cB (xs:) (xs:) hi - HT.cB (xs:) 0 lo)
theorem ft(xs:List V)(lo hi:Option Int):(gq xs lo hi:)<=(xs:):=by
 unfold gq
 rw[Qai,Qaw]
 lia
def PN(K:Fr):V->Option Int->Option Int->Hp->VK->Prop:=λx lo hi H Q=>∃a xs,x= .ref a/\bW K H a xs/\
 ¬(HT.cB (xs:) 0 lo=0/\HT.cB (xs:) (xs:) hi=(xs:))/\∀p,H p=none->Q (.ref p) (upd H p (.tup (gq xs lo hi)))
theorem Lu:Ls X (PN X.K):=by
 walk_at"L"
 obtain ⟨a,xs,rfl,hx,hw,q⟩:=h
 cases rx
 obtain ⟨its,r,ht,hz⟩:=I.tuple hx
 have hlen:its.toArray.size=(xs:):=by rw[Xv];exact (r:).symm
 refine ⟨"tuple",_,Qbu.lookup,ht.typeIs,?_⟩
 refine HT.gv ht hs pl pu (by rw[hlen];exact hw) ?_ (by rw[hlen];exact hz)
 rw[hlen]
 refine ⟨.ref s.heap.objs.size,_,I.laid (t':=s.toks) (o:= .tup (gq xs lo hi)) (λb ob q=>VI _ q) (RP _) ?_,rfl,q _ (I.bX.fresh (RP _))⟩
 exact ⟨Qak (ft xs lo hi) hz,_,(r.drop (HT.cB (xs:) 0 lo)).take (HT.cB (xs:) (xs:) hi - HT.cB (xs:) 0 lo),IsTup.new _ _⟩
def Kb(K:Fr):R2:=λx y H Q=>∃a b xs ys,x= .ref a/\y= .ref b/\bW K H a xs/\bW K H b ys/\xs≠[]/\(xs:)+(ys:)<=sizeLine/\
 (ys=[]->Q (.ref a) H)/\(ys≠[]->∀p,H p=none->Q (.ref p) (upd H p (.tup (xs++ys))))
theorem Vals.kX{xs:List V}{us:List Value}(r:Vals xs us):us=[]↔xs=[]:=by
 cases r with
 | nil=>simp
 | cons _ _=>simp
theorem Hx:gR X (binaryOp .Add) (Kb X.K):=by
 walk_at"b"
 obtain ⟨a,b,xs,ys,rfl,rfl,ha,hb,hx,hz,q1,q2⟩:=h
 cases rx
 cases ry
 obtain ⟨its,r1,p1,_⟩:=I.tuple ha
 obtain ⟨rE,r2,p2,_⟩:=I.tuple hb
 refine HT.Ac p1 p2 (λz=>hx (r1.kX.mp z)) (λz=>⟨.ref a,H,I,rfl,q1 (r2.kX.mp z)⟩) (λz=>?_) (by rw[<-(r1:), <-(r2:)];exact hz)
 refine ⟨.ref s.heap.objs.size,_,I.laid (t':=s.toks) (o:= .tup (xs++ys)) (λb ob q=>VI _ q) (RP _) ?_,rfl,q2 (λw=>z (r2.kX.mpr w)) _ (I.bX.fresh (RP _))⟩
 exact ⟨by rw[VG];exact hz,_,r1.append r2,IsTup.new _ _⟩
end
noncomputable def G0(n:Nat)(i:Int):Option Nat:=if 0<=i then (if i<n then some i.toNat else none) else if -(n:Int)<=i then some (i+n).toNat else none
noncomputable def rz{α:Type}(xs:List α)(i:Int):Option α:=(G0 (xs:) i).bind λj=>xs[j]?
theorem Af{n:Nat}{i:Int}{j:Nat}(h:G0 n i=some j):seqIndex? i n=some j/\j<n/\ -(n:Int)<=i/\i<n:=by
 unfold G0 at h
 by_cases h0:0<=i
 ·rw[if_pos h0]at h
  by_cases h1:i<n
  ·rw[if_pos h1]at h
   have e:i.toNat=j:=Qaf h
   exact ⟨by rw[seqIndex_of h0 h1,e],(),(),h1⟩
  ·rw[if_neg h1]at h;cases h
 ·rw[if_neg h0]at h
  by_cases h1: -(n:Int)<=i
  ·rw[if_pos h1]at h
   have e:(i+n).toNat=j:=Qaf h
   exact ⟨by rw[seqIndex_neg () h1,e],(),h1,()⟩
  ·rw[if_neg h1]at h;cases h
theorem ur{α:Type}{xs:List α}{i:Int}{v:α}(h:rz xs i=some v):∃j,seqIndex? i (xs:)=some j/\xs[j]? =some v/\j<(xs:)/\ -((xs:):Int)<=i/\i<(xs:):=by
 unfold rz at h
 cases e:G0 (xs:) i with
 | none=>rw[e]at h;cases h
 | some j=>
  rw[e]at h
  obtain ⟨h1,h2,h3,h4⟩:=Af e
  exact ⟨j,h1,h,h2,h3,h4⟩
theorem b4{α:Type}{xs:List α}{j:Nat}{v:α}(h:xs[j]? =some v):rz xs (j:Int)=some v:=by
 have hj:j<(xs:):=(LL.mp h).1
 have e:G0 (xs:) (j:Int)=some j:=by
  unfold G0
  rw[if_pos (),if_pos ()];simp
 unfold rz;rw[e];exact h
theorem DK{α:Type}(xs:List α)(v:α):rz (xs++[v]) (-1)=some v:=by
 have hl:(xs++[v]:)=(xs:)+1:=by simp
 have e:G0 (xs++[v]:) (-1)=some (xs:):=by
  unfold G0
  rw[hl,if_neg ∅,if_pos ()]
  congr 1
  lia
 unfold rz
 rw[e]
 show (xs++[v])[(xs:)]? =some v
 simp
def Hy(b:Expr):Prop:=∀o i,subscripted b false o i=operate [o,i] (getItem o i)
def Lv(X:Cx)(r:R2):Prop:=
 ∀(value slice:Expr) (pins:List (Addr×Obj)) (s:Shared) (σ:St) (H:Hp) (x y:V) (v u:Value) (Q:VK),Inv X pins σ H s->RelV x v->RelV y u->r x y H Q->
  subscripted slice false v u=operate [v,u] (getItem v u)->wpAny (model X.prog X.w) X.A (subscriptTail value slice v u) (EP X pins σ Q) X.xe s
def Ag(X:Cx)(id:String)(r:V->List V->Hp->VK->Prop):Prop:=
 ∀(pins:List (Addr×Obj)) (s:Shared) (σ:St) (H:Hp) (x:V) (xs:List V) (v:Value) (us:List Value) (Q:VK),Inv X pins σ H s->RelV x v->Vals xs us->r x xs H Q->
  wpAny (model X.prog X.w) X.A (call (.builtin id) (v::us)) (EP X pins σ Q) X.xe s
section
variable{X:Cx}{a b:Expr}{ta tb:TE}{pos:Pos}
theorem aM{r:R2}(hr:Lv X r)(ha:PE X a ta)(hb:PE X b tb)(hs:Hy b):PE X (.Subscript a b pos) (RI r ta tb):=by
 walk_at"i"
 exact Subscript_ (Ll ha hb I h λv u s2 x y H2 I2 rx ry q=>hr a b pins s2 σ H2 x y v u Q I2 rx ry q (hs _ _))
def PQ(K:Fr):R2:=λx y H Q=>∃p xs i v,x= .ref p/\y= .int i/\a_ K H p xs/\rz xs i=some v/\Q v H
def PR(K:Fr):R2:=λx y H Q=>∃p xs i v,x= .ref p/\y= .int i/\bW K H p xs/\rz xs i=some v/\Q v H
def TC:R2:=λx y H Q=>∃z i c,x= .str z/\y= .int i/\(z:)<=sizeLine/\rz z.cps.toList i=some c/\Q (.str ⟨#[c]⟩) H
theorem Hz:Lv X (PQ X.K):=by
 walk_at"N"
 obtain ⟨p,xs,i,z,rfl,rfl,hq,he,q⟩:=h
 cases rx
 obtain ⟨t,rfl⟩:=ry
 obtain ⟨its,r,pl,hz⟩:=I.list hq
 obtain ⟨j,h1,h2,h3,h4,h5⟩:=ur he
 obtain ⟨w,ew,wj⟩:=r.get h2
 have hl:=(r:)
 have hn:=eQ
 have fin:EP X pins σ Q w s:=⟨z,H,I,wj,q⟩
 by_cases h0:0<=i
 ·have hj:i.toNat=j:=by
   rw[seqIndex_of h0 h5]at h1
   exact Qaf h1
  exact item_listR pl.isList h0 () (by rw[hj];simpa using ew) fin hs
 ·have hj:(i+(its.toArray.size:Int)).toNat=j:=by
   rw[seqIndex_neg () h4]at h1
   rw[Xv, <-hl]
   exact Qaf h1
  exact subscriptTail_builtinR (x:=w) pl.isList.typeIs slot_list_getitem.lookup
   (wpAny_getItem_list_neg (Q:=λr s'=>r=w/\EP X pins σ Q r s') pl.isList () (by rw[Xv]<;>lia) () (by rw[hj];simpa using ew) ⟨rfl,fin⟩) hs
theorem Lw:Lv X (PR X.K):=by
 walk_at"N"
 obtain ⟨p,xs,i,z,rfl,rfl,hq,he,q⟩:=h
 cases rx
 obtain ⟨t,rfl⟩:=ry
 obtain ⟨its,r,pl,hz⟩:=I.tuple hq
 obtain ⟨j,h1,h2,h3,h4,h5⟩:=ur he
 obtain ⟨w,ew,wj⟩:=r.get h2
 have hl:=(r:)
 have hn:=eQ
 have fin:EP X pins σ Q w s:=⟨z,H,I,wj,q⟩
 exact subscriptTail_builtinR (x:=w) pl.typeIs slot_tuple_getitem.lookup
  (getItem_tuple (j:=j) (Q:=λr s'=>r=w/\EP X pins σ Q r s') pl () () (by rw[Xv, <-hl];exact h1) (by simpa using ew) ⟨rfl,fin⟩) hs
theorem Ly:Lv X TC:=by
 walk_at"N"
 obtain ⟨z,i,c,rfl,rfl,hz,he,q⟩:=h
 walk_at"f"
 walk_at"R"
 obtain ⟨j,h1,h2,h3,h4,h5⟩:=ur he
 have hl:(z.cps.toList:)=(z:):=by simp[Str.length]
 rw[hl]at h1 h4 h5
 have hn:=eQ
 exact tail_any (typeIs_str s z t) slot_str_getitem.lookup (getItem_str (c:=c) (by
  have e1:decide (i< -(2 ^ 63:Int))=false:=decide_eq_false ()
  have e2:decide (i ≥ 2 ^ 63)=false:=decide_eq_false ()
  rw[e1,e2,Qfj]) (by rw[h1];simpa using h2) ⟨.str ⟨#[c]⟩,H,I.tok _,⟨_,rfl⟩,q⟩) hs
theorem yt(its:List Value)(n j:Nat)(u:Value):Obj.mapSeq (·.setIfInBounds j u) { cls:= .type "list",data:= .seq its.toArray n }={ cls:= .type "list",data:= .seq (its.set j u).toArray n }:=by
 simp[Obj.mapSeq]
theorem Inv.lst{pins:List (Addr×Obj)}{σ:St}{H:Hp}{s:Shared}{p:Addr}{xs:List V}(I:Inv X pins σ H s)(h:H p=some (.lst xs)):
  ∃(its:List Value) (n:Nat),Vals xs its/\s.heap.get? p=some { cls:= .type "list",data:= .seq its.toArray n }/\(xs:)<=sizeLine:=by
 obtain ⟨z,its,n,r,e⟩:=I.bX p _ h
 exact ⟨its,n,r,e,z⟩
theorem Inv.Lz{pins:List (Addr×Obj)}{σ:St}{H:Hp}{s:Shared}{p:Addr}{xs ys:List V}{its its':List Value}{n n':Nat}{f:Obj->Obj}(I:Inv X pins σ H s)(h:H p=some (.lst xs))
  (ho:s.heap.get? p=some { cls:= .type "list",data:= .seq its.toArray n }) (hf:f { cls:= .type "list",data:= .seq its.toArray n }={ cls:= .type "list",data:= .seq its'.toArray n' }) (r:Vals ys its') (hz:(ys:)<=sizeLine) (t:Nat):
  Inv X pins σ (upd H p (.lst ys)) { s with heap:=s.heap.update p f,toks:=t }:=by
 have e:(s.heap.update p f).get? p=some { cls:= .type "list",data:= .seq its'.toArray n' }:=by
  rw[Qbm f ho (by rw[hf]<;>rfl),hf]
 refine I.write (x:=p) (e:=p) (by rw[h];trivial) (.inl rfl) (λb u hb q=>(Qbb _ _ (Ne.symm hb)).trans q) ⟨_,e⟩ ?_
 exact ⟨hz,its',n',r,e⟩
def PU:V->V->V->Hp->(Hp->Prop)->Prop:=λo i v H Q=>∃p xs k j,o= .ref p/\i= .int k/\H p=some (.lst xs)/\G0 (xs:) k=some j/\Q (upd H p (.lst (xs.set j v)))
theorem set_list:Pb X PU:=by
 intro pins s σ H o i v ov iv u Q I ro ri rv h
 obtain ⟨p,xs,k,j,rfl,rfl,hp,hj,q⟩:=h
 cases ro
 obtain ⟨t,rfl⟩:=ri
 obtain ⟨its,n,r,ho,hz⟩:=I.lst hp
 obtain ⟨h1,h2,h3,h4⟩:=Af hj
 have hl:=(r:)
 have hn:=eQ
 have I':Inv X pins σ (upd H p (.lst (xs.set j v))) { s with heap:=s.heap.update p (Obj.mapSeq (·.setIfInBounds j u)) }:=
  I.Lz hp ho (yt its n j u) (r.set rv j) (by rw[List.length_set];exact hz) s.toks
 by_cases h0:0<=k
 ·have hk:k.toNat=j:=by
   rw[seqIndex_of h0 h4]at h1
   exact Qaf h1
  exact PySem.W.ki_setAt ho h0 () (by rw[Xv, <-hl];exact h4) (by rw[hk];exact ⟨_,I',q⟩)
 ·have hk:(k+(its.toArray.size:Int)).toNat=j:=by
   rw[seqIndex_neg () h3]at h1
   rw[Xv, <-hl]
   exact Qaf h1
  exact PySem.W.ki_setBack ho () (by rw[Xv, <-hl];exact h3) () (by rw[hk];exact ⟨_,I',q⟩)
theorem uu(lo hi:Option Int)(n:Nat):(sliceBounds lo hi none n).1=((HT.cB n 0 lo:Nat):Int)/\(sliceBounds lo hi none n).2.1=((HT.cB n n hi:Nat):Int)/\(sliceBounds lo hi none n).2.2=1:=by
 refine ⟨?_,?_,rfl⟩
 ·cases lo with
  | none=>simp[sliceBounds,HT.cB]
  | some i=>
   simp only[sliceBounds,HT.cB,Option.getD_none,show (1:Int)>0 by decide,if_true]
   by_cases h:i<0
   ·simp only[h,if_true]<;>lia
   ·simp only[h,if_false]<;>lia
 ·cases hi with
  | none=>simp[sliceBounds,HT.cB]
  | some i=>
   simp only[sliceBounds,HT.cB,Option.getD_none,show (1:Int)>0 by decide,if_true]
   by_cases h:i<0
   ·simp only[h,if_true]<;>lia
   ·simp only[h,if_false]<;>lia
theorem rF(its:List Value)(lo hi:Option Int):slicePick its.toArray lo hi none=((its.drop (HT.cB (its:) 0 lo)).take (HT.cB (its:) (its:) hi - HT.cB (its:) 0 lo)).toArray:=by
 obtain ⟨h1,h2,h3⟩:=uu lo hi its.toArray.size
 unfold slicePick
 rw[h1,h2,h3]
 simp only[sliceRange_one,pick_run,Xv]<;>rfl
def PV(K:Fr):V->Option Int->Option Int->Hp->VK->Prop:=λx lo hi H Q=>∃a xs,x= .ref a/\a_ K H a xs/\∀p,H p=none->Q (.ref p) (upd H p (.lst (gq xs lo hi)))
theorem HB:Ls X (PV X.K):=by
 walk_at"L"
 obtain ⟨a,xs,rfl,hx,q⟩:=h
 cases rx
 obtain ⟨its,r,ht,hz⟩:=I.list hx
 have hlen:=(r:)
 refine ⟨"list",_,slot_list_getitem.lookup,ht.isList.typeIs,?_⟩
 refine wpAny_getItem_list_slice ht.isList hs pl pu .none (by simp) ?_ (by rw[Xv]<;>lia)
 rw[rF, <-hlen]
 refine ⟨.ref s.heap.objs.size,_,I.laid (t':=s.toks) (o:= .lst (gq xs lo hi)) (λb ob q=>VI _ q) (RP _) ?_,rfl,q _ (I.bX.fresh (RP _))⟩
 exact ⟨Qak (ft xs lo hi) hz,_,0,(r.drop (HT.cB (xs:) 0 lo)).take (HT.cB (xs:) (xs:) hi - HT.cB (xs:) 0 lo),Qae _ rfl⟩
noncomputable def j5:V->Bool
 | .fQ=>true
 | .bl _=>true
 | .int _=>true
 | .str _=>true
 | _=>false
noncomputable def G1:V->V->Bool
 | .fQ,.fQ=>true
 | .bl a,.bl b=>a==b
 | .bl a,.int b=>(if a then 1 else 0)==b
 | .int a,.bl b=>a==(if b then 1 else 0)
 | .int a,.int b=>a==b
 | .str a,.str b=>a==b
 | _,_=>false
theorem LA{A:Around}{s:Shared}{y x:V}{u v:Value}(ry:RelV y u)(rx:RelV x v)(fy:j5 y=true)(fx:j5 x=true):SeqAt.EqAt A s u v (G1 y x):=by
 cases y with
 | fQ=>
  cases ry
  cases x with
  | fQ=>cases rx;exact SeqAt.EqAt.same _
  | bl b=>cases rx;exact SeqAt.EqAt.none_bool b
  | int b=>obtain ⟨t,rfl⟩:=rx;exact SeqAt.EqAt.none_int b t
  | str b=>obtain ⟨t,rfl⟩:=rx;exact SeqAt.EqAt.none_str b t
  | _=>exact absurd (show false=true from fx) Qah
 | bl a=>
  cases ry
  cases x with
  | fQ=>cases rx;exact SeqAt.EqAt.bool_none a
  | bl b=>cases rx;exact SeqAt.EqAt.bool_bool a b
  | int b=>obtain ⟨t,rfl⟩:=rx;exact SeqAt.EqAt.bool_int a b t
  | str b=>obtain ⟨t,rfl⟩:=rx;exact SeqAt.EqAt.bool_str a b t
  | _=>exact absurd (show false=true from fx) Qah
 | int a=>
  walk_at"R"
  cases x with
  | fQ=>cases rx;exact SeqAt.EqAt.int_none a t'
  | bl b=>cases rx;exact SeqAt.EqAt.int_bool a t' b
  | int b=>obtain ⟨t,rfl⟩:=rx;exact SeqAt.EqAt.int_int a t' b t
  | str b=>obtain ⟨t,rfl⟩:=rx;exact SeqAt.EqAt.int_str a t' b t
  | _=>exact absurd (show false=true from fx) Qah
 | str a=>
  walk_at"R"
  cases x with
  | fQ=>cases rx;exact SeqAt.EqAt.str_none a t'
  | bl b=>cases rx;exact SeqAt.EqAt.str_bool a t' b
  | int b=>obtain ⟨t,rfl⟩:=rx;exact SeqAt.EqAt.str_int a t' b t
  | str b=>obtain ⟨t,rfl⟩:=rx;exact SeqAt.EqAt.str_str a t' b t
  | _=>exact absurd (show false=true from fx) Qah
 | _=>exact absurd (show false=true from fy) Qah
noncomputable def wm(x:V)(u:Value):Bool:=match u with
 | .none=>G1 .fQ x
 | .bool b=>G1 (.bl b) x
 | .int i _=>G1 (.int i) x
 | .str z _=>G1 (.str z) x
 | _=>false
theorem yu{x y:V}{u:Value}(r:RelV y u)(f:j5 y=true):wm x u=G1 y x:=by
 cases y with
 | fQ=>cases r;rfl
 | bl b=>cases r;rfl
 | int i=>obtain ⟨t,rfl⟩:=r;rfl
 | str z=>obtain ⟨t,rfl⟩:=r;rfl
 | _=>exact absurd (show false=true from f) Qah
theorem kY{x:V}:∀{xs:List V} {us:List Value},Vals xs us->xs.all j5=true->us.any (wm x)=xs.any λy=>G1 y x
 | _,_,.nil,_=>rfl
 | y::xs,u::us,.cons r t,f=>by
  rw[List.all_cons,Qa8]at f
  rw[Qce,Qce,yu r f.1,kY t f.2]
theorem gT{A:Around}{s:Shared}{x:V}{v:Value}(rx:RelV x v)(fx:j5 x=true):∀{xs:List V} {us:List Value},Vals xs us->xs.all j5=true->∀u∈us,SeqAt.EqAt A s u v (wm x u)
 | _,_,.nil,_=>λu hu=>by cases hu
 | y::xs,u::us,.cons r t,f=>λu' hu=>by
  rw[List.all_cons,Qa8]at f
  rcases ZQ.mp hu with rfl | hu
  ·rw[yu r f.1];exact LA r rx f.1 fx
  ·exact gT rx fx t f.2 u' hu
noncomputable def DL(x:V)(xs:List V):Bool:=xs.any λy=>G1 y x
def RM(K:Fr)(neg:Bool):R2:=λx y H Q=>∃p xs,y= .ref p/\(a_ K H p xs\/bW K H p xs)/\j5 x=true/\xs.all j5=true/\Q (.bl (if neg then !DL x xs else DL x xs)) H
theorem BY:gR X (compareOp .In) (RM X.K false):=by
 walk_at"b"
 obtain ⟨p,xs,rfl,hq,fx,fs,q⟩:=h
 cases ry
 rcases hq with hq | hq
 ·obtain ⟨its,r,pl,hz⟩:=I.list hq
  refine SeqAt.in_listAt (wm x) pl.isList (λw hw=>gT rx fx r fs w (by simpa using hw)) ⟨.bl _,H,I,rfl,?_⟩
  walk_at"x"
  exact q
 ·obtain ⟨its,r,pl,hz⟩:=I.tuple hq
  refine SeqAt.in_tupleAt (wm x) pl (λw hw=>gT rx fx r fs w (by simpa using hw)) ⟨.bl _,H,I,rfl,?_⟩
  walk_at"x"
  exact q
theorem uv:gR X (compareOp .NotIn) (RM X.K true):=by
 walk_at"b"
 obtain ⟨p,xs,rfl,hq,fx,fs,q⟩:=h
 cases ry
 rcases hq with hq | hq
 ·obtain ⟨its,r,pl,hz⟩:=I.list hq
  refine SeqAt.notIn_listAt (wm x) pl.isList (λw hw=>gT rx fx r fs w (by simpa using hw)) ⟨.bl _,H,I,rfl,?_⟩
  walk_at"x"
  exact q
 ·obtain ⟨its,r,pl,hz⟩:=I.tuple hq
  refine SeqAt.notIn_tupleAt (wm x) pl (λw hw=>gT rx fx r fs w (by simpa using hw)) ⟨.bl _,H,I,rfl,?_⟩
  walk_at"x"
  exact q
theorem uw:dH X (.builtin "len") (λxs H Q=>∃p ys,xs=[.ref p]/\(a_ X.K H p ys\/bW X.K H p ys)/\Q (.int (ys:)) H):=by
 walk_at"e"
 obtain ⟨p,ys,rfl,hq,q⟩:=h
 obtain ⟨u,rfl,rx⟩:=vals1 r
 cases rx
 have hn:=eQ
 rcases hq with hq | hq
 ·obtain ⟨its,r',pl,hz⟩:=I.list hq
  have hlen:=(r':)
  exact Calls.call_len_list pl.isList (by simp only[Xv]<;>lia) ⟨.int (ys:),H,I.tok _,⟨s.toks+1,by rw[Xv,hlen]⟩,q⟩
 ·obtain ⟨its,r',pl,hz⟩:=I.tuple hq
  have hlen:=(r':)
  exact len_tuple pl (by simp only[Xv]<;>lia) ⟨.int (ys:),H,I.tok _,⟨s.toks+1,by rw[Xv,hlen]⟩,q⟩
theorem uy:dH X (.builtin "len") (λxs H Q=>∃z,xs=[.str z]/\(z:)<=sizeLine/\Q (.int (z:)) H):=by
 walk_at"e"
 obtain ⟨z,rfl,hz,q⟩:=h
 obtain ⟨u,rfl,t,rfl⟩:=vals1 r
 have hn:=eQ
 exact len_str () ⟨.int (z:),H,I.tok _,⟨_,rfl⟩,q⟩
theorem uA:dH X (.type "list") (λxs H Q=>∃p ys,xs=[.ref p]/\(a_ X.K H p ys\/bW X.K H p ys)/\∀l,H l=none->Q (.ref l) (upd H l (.lst ys))):=by
 walk_at"e"
 obtain ⟨p,ys,rfl,hq,q⟩:=h
 obtain ⟨u,rfl,rx⟩:=vals1 r
 cases rx
 have fin:∀(its:List Value),Vals ys its->(ys:)<=sizeLine->∀(h':Heap) (c':Nat),(∀b o',s.heap.get? b=some o'->h'.get? b=some o')->
   h'.get? s.heap.objs.size=some { cls:= .type "list",dict:=none,data:= .seq its.toArray c',slots:= #[] }->EP X pins σ Q (.ref s.heap.objs.size) { s with heap:=h' }:=λits r' hz h' c' kp e=>
  ⟨.ref s.heap.objs.size,_,I.laid (t':=s.toks) kp (RP _) (show cw X.prog X.w _ h' _ (.lst ys) from ⟨hz,its,c',r',e⟩),rfl,q _ (I.bX.fresh (RP _))⟩
 rcases hq with hq | hq
 ·obtain ⟨its,r',pl,hz⟩:=I.list hq
  have hlen:=(r':)
  obtain ⟨o,ho,hc,n,hd⟩:=pl.isList
  exact call_list_seq p (.inl rfl) ho hc hd (λh' c' kp e=>fin its r' hz h' c' kp e) (by simp only[Xv]<;>lia)
 ·obtain ⟨its,r',pl,hz⟩:=I.tuple hq
  have hlen:=(r':)
  obtain ⟨o,ho,hc,n,hd⟩:=pl
  exact call_list_seq p (.inr rfl) ho hc hd (λh' c' kp e=>fin its r' hz h' c' kp e) (by simp only[Xv]<;>lia)
theorem rG:dH X (.type "tuple") (λxs H Q=>∃p ys,xs=[.ref p]/\((a_ X.K H p ys/\∀l,H l=none->Q (.ref l) (upd H l (.tup ys)))\/(bW X.K H p ys/\Q (.ref p) H))):=by
 walk_at"e"
 obtain ⟨p,ys,rfl,h⟩:=h
 obtain ⟨u,rfl,rx⟩:=vals1 r
 cases rx
 rcases h with ⟨hq,q⟩ | ⟨hq,q⟩
 ·obtain ⟨its,r',pl,hz⟩:=I.list hq
  have hlen:=(r':)
  refine call_tuple_list pl.isList (λh' kp=>?_) (by simp only[Xv]<;>lia)
  have I1:Inv X pins σ H { s with heap:=h' }:=I.kept (t':=s.toks) kp
  have I2:Inv X pins σ (upd H h'.objs.size (.tup ys)) { s with heap:=h'.push { cls:= .type "tuple",data:= .seq its.toArray } }:=
   I1.laid (t':=s.toks) (λb o e=>VI _ e) (RP _) (show cw X.prog X.w _ _ _ (.tup ys) from ⟨hz,its,r',IsTup.new _ _⟩)
  exact ⟨.ref h'.objs.size,_,I2,rfl,q _ (I1.bX.fresh (RP _))⟩
 ·obtain ⟨its,r',pl,hz⟩:=I.tuple hq
  exact call_tuple_same pl ⟨.ref p,H,I,rfl,q⟩
def TF(K:Fr)(T:String)(x:V)(H:Hp):Prop:=match x with
 | .str _=>T="str"
 | .int _=>T="int"
 | .ref p=>(T="list"/\∃xs,a_ K H p xs)\/(T="tuple"/\∃o,K.lookup p=some o/\o.cls= .type "tuple"/\o.dict=none)\/
   (T="dict"/\((∃aH,H p=some (.dK aH))\/∃aH,H p=some (.dT aH)))\/(T="set"/\∃S n,H p=some (.set S n))
 | _=>False
theorem DM{pins:List (Addr×Obj)}{σ:St}{H:Hp}{s:Shared}{T:String}{x:V}{v:Value}(I:Inv X pins σ H s)(r:RelV x v)(ty:TF X.K T x H):
  s.TypeIs v T/\∀a,v= .ref a->∃ob,s.heap.get? a=some ob/\ob.dict=none:=by
 cases x with
 | str z=>
  obtain ⟨t,rfl⟩:=r
  cases (show T="str" from ty)
  exact ⟨typeIs_str s z t,λ_ e=>nomatch e⟩
 | int i=>
  obtain ⟨t,rfl⟩:=r
  cases (show T="int" from ty)
  exact ⟨typeIs_int s i t,λ_ e=>nomatch e⟩
 | ref p=>
  cases r
  rcases ty with ⟨rfl,xs,hq⟩ | ⟨rfl,o,hk,hc,hd⟩ | ⟨rfl,hk⟩ | ⟨rfl,S,n,hk⟩
  ·obtain ⟨its,_,pl,_⟩:=I.list hq
   refine ⟨pl.isList.typeIs,λa e=>?_⟩
   cases e
   obtain ⟨o,n,e,c,hd,_⟩:=pl
   exact ⟨o,e,hd⟩
  ·refine ⟨⟨o,I.BI p o hk,hc⟩,λa e=>?_⟩
   cases e
   exact ⟨o,I.BI _ o hk,hd⟩
  ·have z:∃o,s.heap.get? p=some o/\o.ExactDict:=by
    rcases hk with ⟨aH,hk⟩ | ⟨aH,hk⟩
    ·obtain ⟨_,_,_,_,o,_,_,e,ex,_⟩:=I.bX p _ hk
     exact ⟨o,e,ex⟩
    ·obtain ⟨_,_,_,_,o,_,_,e,ex,_⟩:=I.bX p _ hk
     exact ⟨o,e,ex⟩
   obtain ⟨o,e,ex⟩:=z
   refine ⟨⟨o,e,ex.1⟩,λa e2=>?_⟩
   cases e2
   exact ⟨o,e,ex.2.1⟩
  ·obtain ⟨o,_,_,_,e,ex,_⟩:=I.bX p _ hk
   refine ⟨⟨o,e,ex.1⟩,λa e2=>?_⟩
   cases e2
   exact ⟨o,e,ex.2.1⟩
 | _=>exact False.elim ty
def PX(K:Fr)(T:String)(r:V->List V->Hp->VK->Prop)(to:TE):TE:=λσ H Q=>to σ H λx H1=>TF K T x H1/\r x [] H1 Q
def VC(K:Fr)(T:String)(r:V->List V->Hp->VK->Prop)(to:TE)(t:TA):TE:=λσ H Q=>to σ H λx H1=>TF K T x H1/\t σ H1 λxs H2=>r x xs H2 Q
variable{o e:Expr}{es:List Expr}{to:TE}{t:TA}{name:Str}{apos iQ:Pos}{T id:String}{r:V->List V->Hp->VK->Prop}
theorem LB(pa:PlainAttrs T)(slot:Slot T name id)(LC:typeOf (.builtin id)=pure (.type "method_descriptor"))(hm:Ag X id r)(ho:PE X o to)
  (pN:attributeBase o name X.env (eval o X.env)=eval o X.env:=by rfl) (nQ:(apos.endLine==iQ.line)=true:=by rfl):PE X (.Call (.Attribute o name apos) [] [] iQ) (PX X.K T r to):=by
 walk_at"i"
 refine wpAny_Call_method0_late pN nQ (cf (ho pins s σ H _ I h) λv s1 ⟨x,H1,I1,r1,ty,q1⟩=>?_)
 obtain ⟨h1,h2⟩:=DM I1 r1 ty
 exact ⟨T,id,pa,slot,LC,h1,h2,Calls.callWith_builtin rfl (PySem.evalArgs_none (hm pins s1 σ H1 x [] v [] Q I1 r1 .nil q1))⟩
theorem PY(pa:PlainAttrs T)(slot:Slot T name id)(LC:typeOf (.builtin id)=pure (.type "method_descriptor"))(hm:Ag X id r)(ho:PE X o to)(ha:PA X (e::es) t)
  (pN:attributeBase o name X.env (eval o X.env)=eval o X.env:=by rfl)
  (LD:((backTo iQ (starEach (e::es) X.env)).all (λx=>!x.1)&&(backToKw iQ (keywordEach [] X.env)).all (λx=>x.1.isSome)
   &&decide (((e::es):)+(([]:List Keyword):)+(if ([]:List Keyword).isEmpty then 0 else 1)<30))=true:=by rfl)
  (nQ:(apos.endLine==iQ.line)=true:=by rfl) (hs:starEach (e::es) X.env=(false,eval e X.env)::starEach es X.env:=by rfl) (yv:(backTo iQ (starEach es X.env)).any (·.1)=false:=by rfl):
  PE X (.Call (.Attribute o name apos) (e::es) [] iQ) (VC X.K T r to t):=by
 walk_at"i"
 refine wpAny_Call_method_late pN LD nQ rfl (cf (ho pins s σ H _ I h) λv s1 ⟨x,H1,I1,r1,ty,q1⟩=>?_)
 obtain ⟨h1,h2⟩:=DM I1 r1 ty
 refine ⟨T,id,pa,slot,LC,h1,h2,?_⟩
 have hA:=ha iQ pins s1 σ H1 _ I1 q1
 rw[hs]at hA ⊢
 refine Calls.callWith_builtin (by show (false||(backTo iQ (starEach es X.env)).any (·.1))=false;rw[yv]<;>rfl) (Calls.evalArgs_plain ?_)
 exact cf hA λus s2 ⟨vs,H2,I2,r2,q2⟩=>hm pins s2 σ H2 x vs v us Q I2 r1 r2 q2
end
def Nz(X:Cx)(id:String)(r:V->List V->Hp->VK->Prop):Prop:=
 ∀(pins:List (Addr×Obj)) (s:Shared) (σ:St) (H:Hp) (x:V) (xs:List V) (v:Value) (us:List Value) (Q:VK),Inv X pins σ H s->RelV x v->Vals xs us->r x xs H Q->
  wpAny (model X.prog X.w) X.A (call (.builtin id) (v::us)) (EP X pins σ Q) X.xe s
theorem Vals.one:∀{x:V} {us:List Value},Vals [x] us->∃u,us=[u]/\RelV x u
 | _,_,.cons r .nil=>⟨_,rfl,r⟩
theorem Vals.zero:∀{us:List Value},Vals [] us->us=[]
 | _,.nil=>rfl
theorem Vals.dropLast{xs:List V}{us:List Value}(h:Vals xs us):Vals xs.dropLast us.dropLast:=by
 induction h with
 | nil=>exact .nil
 | cons r t ih=>
  cases t with
  | nil=>exact .nil
  | cons q t'=>exact .cons r ih
theorem Vals.eraseIdx:∀{xs:List V} {us:List Value} (i:Nat),Vals xs us->Vals (xs.eraseIdx i) (us.eraseIdx i)
 | _,_,_,.nil=> .nil
 | _,_,0,.cons _ t=>t
 | _,_,i+1,.cons r t=> .cons r (Vals.eraseIdx i t)
theorem Vals.reverse{xs:List V}{us:List Value}(h:Vals xs us):Vals xs.reverse us.reverse:=by
 induction h with
 | nil=>exact .nil
 | cons r t ih=>rw[List.reverse_cons,List.reverse_cons];exact Vals.append ih (.cons r .nil)
theorem yx{α:Type}(l:List α):l.eraseIdx ((l:) - 1)=l.dropLast:=by
 induction l with
 | nil=>rfl
 | cons a r ih=>
  cases r with
  | nil=>rfl
  | cons b r=>
   have e:((a::b::r):) - 1=(((b::r):) - 1)+1:=by
    have h1:((a::b::r):)=(r:)+2:=rfl
    have h2:((b::r):)=(r:)+1:=rfl
    lia
   rw[e,Qdl,ih]
   all_goals rfl
theorem sJ{α:Type}:∀(l:List α) (i:Nat),(l.eraseIdx i:)<=(l:)
 | [],_=>RP _
 | _::_,0=>Qcl _
 | _::r,i+1=>Qcm (sJ r i)
section
variable{X:Cx}{pins:List (Addr×Obj)}{σ:St}{H:Hp}{s:Shared}{l b:Addr}{xs ys zs:List V}
theorem Inv.BZ{its its':List Value}{n:Nat}{f:Array Value->Array Value}{t':Nat}(I:Inv X pins σ H s)(hH:H l=some (.lst xs))
  (e:s.heap.get? l=some { cls:= .type "list",data:= .seq its.toArray n }) (hf:f its.toArray=its'.toArray) (hv:Vals ys its') (hz:(ys:)<=sizeLine):
  Inv X pins σ (upd H l (.lst ys)) { s with heap:=s.heap.update l (Obj.mapSeq f),toks:=t' }:=by
 have q:=PySem.IsL.update e f
 rw[hf]at q
 refine I.write (x:=l) (e:=l) (by rw[hH];exact trivial) (.inl rfl) (λb' u hb hu=>(Qbb s.heap (Obj.mapSeq f) (Ne.symm hb)).trans hu) ⟨_,q⟩ ?_
 exact ⟨hz,its',_,hv,q⟩
theorem Inv.TH{its:List Value}{t':Nat}(I:Inv X pins σ H s)(hv:Vals ys its)(hz:(ys:)<=sizeLine):
  Inv X pins σ (upd H s.heap.objs.size (.lst ys)) { s with heap:=s.heap.push { cls:= .type "list",data:= .seq its.toArray },toks:=t' }:=
 I.laid (λ_ _ q=>VI _ q) (RP _) ⟨hz,its,0,hv,Qae _ rfl⟩
theorem Inv.fresh(I:Inv X pins σ H s):H s.heap.objs.size=none:=I.bX.fresh (RP _)
theorem Inv.rH(I:Inv X pins σ H s)(hH:H l=some (.lst xs)):(xs:)<=sizeLine/\∃(its:List Value) (n:Nat),Vals xs its/\(xs:)=(its:)/\s.heap.get? l=some { cls:= .type "list",data:= .seq its.toArray n }:=by
 obtain ⟨z,its,n,r,e⟩:=I.bX l _ hH
 exact ⟨z,its,n,r,(r:),e⟩
theorem DO{n:Nat}(h:n<=sizeLine):Builtin.List.listTooLong n=false:=by
 unfold Builtin.List.listTooLong
 exact decide_eq_false ()
end
section
variable{X:Cx}
def HC:V->List V->Hp->VK->Prop:=λx vs H Q=>∃l xs y,x= .ref l/\vs=[y]/\H l=some (.lst xs)/\(xs:)<sizeLine/\Q .fQ (upd H l (.lst (xs++[y])))
theorem eR:Nz X "list.append" HC:=by
 walk_at"r"
 obtain ⟨l,xs,y,rfl,rfl,hH,hz,q⟩:=h
 cases rx
 obtain ⟨u,rfl,ru⟩:=rv.one
 walk_at"p"
 refine call_meets F.slot_list_append ⟨_,e,rfl⟩ F.entry_list_append (F.args_list_append_2 _ _) (PySem.list_append l its.toArray n u (by rw[Xv];lia)) ⟨e,?_⟩
 refine ⟨.fQ,_,I.BZ (its':=its++[u]) hH e (by simp) (r.append (.cons ru .nil)) ?_,rfl,q⟩
 rw[VG,List.length_singleton]
 lia
def HD:V->List V->Hp->VK->Prop:=λx vs H Q=>∃l b xs zs,x= .ref l/\vs=[.ref b]/\H l=some (.lst xs)/\H b=some (.lst zs)/\(xs:)+(zs:)<=sizeLine/\Q .fQ (upd H l (.lst (xs++zs)))
theorem gU:Nz X "list.extend" HD:=by
 walk_at"r"
 obtain ⟨l,b,xs,zs,rfl,rfl,hH,hB,hz,q⟩:=h
 cases rx
 obtain ⟨u,rfl,ru⟩:=rv.one
 cases ru
 walk_at"p"
 obtain ⟨z2,rE,n2,r2,nR,e2⟩:=I.rH hB
 have hsz:its.toArray.size+rE.toArray.size<=sizeLine:=by rw[Xv,Xv];lia
 have PZ: ¬(!its.toArray.isEmpty&&Builtin.List.listTooLong (its.toArray.size+rE.toArray.size))=true:=by
  rw[DO hsz,Qfc]
  exact Qah
 refine call_meets F.slot_list_extend ⟨_,e,rfl⟩ F.entry_list_extend (F.args_list_extend_2 _ _)
  (AutoSeq1.list_extend_list_list_0 l its.toArray n b rE.toArray n2 PZ (by rw[Xv];lia) ()) ⟨e,e2,?_⟩
 refine ⟨.fQ,_,I.BZ (its':=its++rE) hH e (by simp) (r.append r2) ?_,rfl,q⟩
 rw[VG]
 lia
def TJ:V->List V->Hp->VK->Prop:=λx vs H Q=>∃l xs y,x= .ref l/\vs=[]/\H l=some (.lst xs)/\xs[(xs:) - 1]? =some y/\Q y (upd H l (.lst xs.dropLast))
theorem LF:Nz X "list.pop" TJ:=by
 walk_at"r"
 obtain ⟨l,xs,y,rfl,rfl,hH,hy,q⟩:=h
 cases rx
 have j6:=rv.zero
 subst j6
 walk_at"p"
 obtain ⟨u,hu,ru⟩:=r.get hy
 have Xo:its.toArray[its.toArray.size - 1]? =some u:=by
  show its.toArray[(its:) - 1]? =some u
  rw[<-Array.getElem?_toList, <-hl]
  exact hu
 refine call_meets F.slot_list_pop ⟨_,e,rfl⟩ F.entry_list_pop (F.args_list_pop_1 _) (MeetsSeq.list_pop_last l its.toArray n u Xo (by rw[Xv];lia)) ⟨e,?_⟩
 refine ⟨y,_,I.BZ (its':=its.dropLast) hH e ?_ r.dropLast ?_,ru,q⟩
 ·show its.toArray.eraseIdxIfInBounds (its.toArray.size - 1)=its.dropLast.toArray
  rw[Xv,List.eraseIdxIfInBounds_toArray,yx]
 ·rw[Qe8]
  lia
def LG:V->List V->Hp->VK->Prop:=λx vs H Q=>∃l xs i k y,x= .ref l/\vs=[.int i]/\H l=some (.lst xs)/\ -(2 ^ 63)<=i/\i<2 ^ 63/\seqIndex? i (xs:)=some k/\xs[k]? =some y/\Q y (upd H l (.lst (xs.eraseIdx k)))
theorem pQ:Nz X "list.pop" LG:=by
 walk_at"r"
 obtain ⟨l,xs,i,k,y,rfl,rfl,hH,h1,h2,hk,hy,q⟩:=h
 cases rx
 obtain ⟨u,rfl,ru⟩:=rv.one
 obtain ⟨t,rfl⟩:=ru
 walk_at"p"
 obtain ⟨w,hw,wj⟩:=r.get hy
 refine call_meets F.slot_list_pop ⟨_,e,rfl⟩ F.entry_list_pop (F.args_list_pop_2 _ _)
  (MeetsSeq.list_pop_at l its.toArray n i t k w (fitsIndex_both h1 h2) (by rw[Xv, <-hl];exact hk) (by rw[<-Array.getElem?_toList];exact hw) (by rw[Xv];lia)) ⟨e,?_⟩
 refine ⟨y,_,I.BZ (its':=its.eraseIdx k) hH e ?_ (r.eraseIdx k) ?_,wj,q⟩
 ·show its.toArray.eraseIdxIfInBounds k=(its.eraseIdx k).toArray
  rw[List.eraseIdxIfInBounds_toArray]
 ·have:=sJ xs k
  lia
def DP:V->List V->Hp->VK->Prop:=λx vs H Q=>∃l xs,x= .ref l/\vs=[]/\H l=some (.lst xs)/\Q .fQ (upd H l (.lst xs.reverse))
theorem yy:Nz X "list.reverse" DP:=by
 walk_at"r"
 obtain ⟨l,xs,rfl,rfl,hH,q⟩:=h
 cases rx
 have j6:=rv.zero
 subst j6
 walk_at"p"
 refine call_meets F.slot_list_reverse ⟨_,e,rfl⟩ F.entry_list_reverse (F.args_list_reverse_1 _) (AutoSeq1.list_reverse_list_0 l its.toArray n (by rw[Xv];lia)) ⟨e,?_⟩
 refine ⟨.fQ,_,I.BZ (its':=its.reverse) hH e (by simp) r.reverse ?_,rfl,q⟩
 rw[Qa1]
 lia
def TK:R2:=λx y H Q=>∃l b xs zs,x= .ref l/\y= .ref b/\H l=some (.lst xs)/\H b=some (.lst zs)/\(xs:)+(zs:)<=sizeLine/\∀p,H p=none->Q (.ref p) (upd H p (.lst (xs++zs)))
theorem LH:gR X (binaryOp .Add) TK:=by
 walk_at"b"
 obtain ⟨l,b,xs,zs,rfl,rfl,hH,hB,hz,q⟩:=h
 cases rx
 cases ry
 walk_at"p"
 obtain ⟨z2,rE,n2,r2,nR,e2⟩:=I.rH hB
 refine PySem.P.add_list e e2 ?_ (by rw[Xv,Xv];lia)
 have ea:its.toArray++rE.toArray=(its++rE).toArray:=by simp
 rw[ea]
 exact ⟨.ref _,_,I.TH (t':=s.toks) (r.append r2) (by rw[VG];lia),rfl,q _ I.fresh⟩
end
end L2
namespace VD
open PySem PySem.W PySem.Calls PyProof.Rows
theorem oF{P:Params}{h:Heap}:∀(ns:List Int) (vs:List Value),WellAll P h vs (ns.map WData.int)->IntsAre vs ns:=by
 intro ns
 induction ns with
 | nil=>
  intro vs w
  rw[List.map_nil]at w
  cases w
  exact .nil
 | cons n ns ih=>
  intro vs w
  rw[Qad]at w
  cases w with
  | cons a b=>
   cases a
   exact .cons _ _ (ih _ b)
theorem B2{l:OpenLaw}{n:Nat}(hn:l.most=some n){P:Params}{h:Heap}{args:List WData}{vals:List Value}
  (HE:l.row.toRowW.claim.pre args=true) (yz:WellAll P h vals args):
  ∃a vs ns,vals=[Value.ref a]/\args=[WData.list (ns.map WData.int)]/\h.get? a=some { cls:= .type "list",data:= .seq vs.toArray }/\IntsAre vs ns/\(ns:)<=n:=by
 have Xp:WShape.hasAll [] args [.list .int]=true:=(pre_splitW HE).1
 have hc:l.pre.holds [] { args:=args }=true:=(pre_splitW HE).2
 obtain ⟨d,r,rfl,h1,h2⟩:=hasAllW_cons Xp
 obtain rfl:=hasAllW_nil h2
 obtain ⟨xs,rfl,h3⟩:=hasW_list h1
 obtain ⟨ns,rfl⟩:=items_int h3
 have hlen:(ns:)<=n:=by
  unfold OpenLaw.pre at hc
  have h4:(WTm.not (.lt (.lit (.int (n:Int))) (.len (.arg 0)))).holds [] { args:=[.list (ns.map .int)] }=true:=by
   have h4:=(holds_andW hc).1
   rw[hn]at h4
   exact h4
  have h5:=condW_of h4 (w_not (w_lt w_lit (w_len_list (w_arg rfl))))
  rw[NA]at h5
  refine Nat.le_of_not_lt λq=>?_
  have q':(n:Int)<(((ns:):Nat):Int):=by lia
  first
   |(rw[decide_eq_true q']at h5;exact absurd h5 ∅)
   |(simp at h5;lia)
 cases yz with
 | cons w1 w2=>
  cases w2
  cases w1 with
  | list ho mM=>exact ⟨_,_,ns,rfl,rfl,ho,oF ns _ mM,hlen⟩
theorem B3(l:OpenLaw)(args:List WData):l.row.toRowW.claim.post args (.bool true) args=true:=
 postW_of (r:=l.row.toRowW) (X:=(true==true))
  (show WShape.has [] (.bool true) .bool=true by first | rfl | decide | simp[WShape.has,WShape.arms,WShape.armsAll])
  (show (WTm.eq .res (.lit (.bool true))).value [] { args:=args,res:=some (.bool true),after:=args }=some (.bool (true==true)) from w_eq_bool (w_res rfl) w_lit) rfl
theorem wo{l:OpenLaw}{n:Nat}{q:Program}{loose:List Str}{XP:(Str->Option Value)->Heap->Prop}{YP:World->Heap->Prop}{d:DefRec}
  (hn:l.most=some n) (P0:d.params.defaults=[])
  (call:∀(w:World) (s₀ s₁:Shared) (mg mb:Str->Option Value) (fa:Addr) (o:Obj) (pm cd doc:Value) (a:Addr) (vs:List Value) (ns:List Int),
   Ground q loose [] XP w s₀ mg mb s₁.heap->YP w s₁.heap->
   s₁.heap.get? fa=some o->o.data= .func (docDef d.name d.params d.body d.scope pm cd doc)->s₁.heap.CodeRec cd d.name->mg d.name=some (.ref fa)->
   s₁.heap.get? a=some { cls:= .type "list",data:= .seq vs.toArray }->IntsAre vs ns->(ns:)<=n->s₁.gens= #[]->
   codeAny (model l.prog w) callerA (.call (.ref fa) ⟨[.ref a],[]⟩) (λr s'=>r= .ok (.ret (.bool true))/\OldK s₁.heap s'.heap/\s'.os=s₁.os/\AllBare s'.gens) s₁):
  WalkO q loose XP YP l.row.toRowW d [] (λf vs=>PySem.call f vs):=by
 intro w s₀ s₁ mg mb G Y fa o pm cd doc dV kV ho hd oA hD hmg hg args vals as HE Xq ZM yz P4
 obtain rfl:dV= .none:=Dflts.none hD P0
 obtain rfl:kV= .none:=Dflts.noKw hD
 obtain ⟨a,vs,ns,rfl,rfl,LI,hints,hlen⟩:=B2 hn HE yz
 refine enter_call (codeAny_mono (call w s₀ s₁ mg mb fa o pm cd doc a vs ns G Y ho (fd_plain hd) oA hmg LI hints hlen hg) λr s' hq=>?_)
 obtain ⟨rfl,h2,h3,h4⟩:=hq
 exact ⟨.inl ⟨.bool true,.bool true,[],rfl,λ_=>rfl,.bool true,B3 l _,λ_=>⟨List.Pairwise.nil,λ_ hm=>(nomatch hm)⟩⟩,h2,h3,h4⟩
end VD
namespace L2
open PySem PySem.Spec PyProof.Rows
theorem sL:∀{vs:List Value} {ns:List Int},IntsAre vs ns->Vals (ns.map V.int) vs
 | _,_,.nil=> .nil
 | _,_,.cons n t h=> .cons ⟨t,rfl⟩ (sL h)
def LJ(H:Hp):Prop:=∀b,H b=none\/∃o xs,H b=some (.GS o (.lst xs))
theorem DQ{P:Program}{w:World}{K:Fr}{mg mb:Str->Option Value}{CX:BU}{k:Nat}{fa a:Addr}{fd:FuncData}{x:Str}{sp:Sp}{s₁:Shared}{vs:List Value}{ns:List Int}
  (KX:K.In s₁.heap) (RN:s₁.heap.Ns mainGlobals mg) (hb:s₁.heap.Ns builtinsNs mb) (Xr:∀x:Str,x≠"__name__"->mb x=bootBuiltins x) (TL:s₁.heap.NoLimit) (hg:s₁.gens= #[])
  (ha:s₁.heap.get? a=some { cls:= .type "list",data:= .seq vs.toArray }) (hi:IntsAre vs ns) (hl:(ns:)<=sizeLine) (hr:eN k callerA)
  (F:∀base:Heap,K.In base->base.Ns mainGlobals mg->bE P w K mg base CX k fa fd [x] sp) (P5:∀(s:Shared) (u:Value),BindsTo s fd ⟨[u],[]⟩ [(x,u)])
  (DH:∀H:Hp,LJ H->a_ K H a (ns.map V.int)->sp [.ref a] H (λv _=>v= .bl true) λ_ _ _=>False)
  (TM:∀H e s',CX [] H s₁ (λ_ _ _=>False) e s'->False):
  codeAny (model P w) callerA (.call (.ref fa) ⟨[.ref a],[]⟩) (λr s'=>r= .ok (.ret (.bool true))/\OldK s₁.heap s'.heap/\s'.os=s₁.os/\AllBare s'.gens) s₁:=by
 have rv:=sL hi
 have TN:=(hi:)
 -- from an abstract heap in VE nothing but GW script may be tracked
 have core:∀H:Hp,LJ H->a_ K H a (ns.map V.int)->jX P w H s₁.heap->(∀b,H b≠none->b=a)->(H a≠none->K.lookup a=none)->
   codeAny (model P w) callerA (.call (.ref fa) ⟨[.ref a],[]⟩) (λr s'=>r= .ok (.ret (.bool true))/\OldK s₁.heap s'.heap/\s'.os=s₁.os/\AllBare s'.gens) s₁:=by
  intro H hO hS bX hA hK
  have Ah:∀{b:Addr} {o:Obj},s₁.heap.get? b=some o->H b=none->(uh s₁.heap H).get? b=some o:=λe n=>Du e n
  have PK:∀{b:Addr} {o:Obj} {es:Array DictEntry} {ep:Nat},s₁.heap.get? b=some o->o.data= .dict es ep->H b=none:=λ{b o es ep} e d=>by
   cases q:H b with
   | none=>rfl
   | some u=>
    have e':b=a:=hA b (by rw[q];simp)
    subst e'
    rw[ha]at e;cases e
    have d':Data.seq vs.toArray _=Data.dict es ep:=d
    cases d'
  have RO:∀{b:Addr} {m:Str->Option Value},s₁.heap.Ns b m->(uh s₁.heap H).Ns b m:=λ{b m} ⟨o,es,ep,e,d,r⟩=>⟨o,es,ep,Ah e (PK e d),d,r⟩
  have VF:K.In (uh s₁.heap H):=λb o e=>Ah (KX b o e) (by
   cases q:H b with
   | none=>rfl
   | some u=>
    have e':b=a:=hA b (by rw[q];simp)
    subst e'
    rw[hK (by rw[q];simp)]at e;cases e)
  have hM:Mod K mg (uh s₁.heap H):=⟨VF,RO RN,⟨mb,RO hb,Xr⟩,let ⟨mc,h1,h2⟩:=TL;⟨mc,RO h1,h2⟩⟩
  have e0:yo P w K mg (uh s₁.heap H) callerA [] s₁ H:=⟨rfl,hM,λb o e=>Hl e,Nat.le_of_eq (BH _ _),trivial,λb hb=>absurd (show b∈([]:List Addr) from hb) (by simp),bX,.of_eq hg⟩
  refine codeAny_mono ((F _ VF (RO RN)).run callerA [] s₁ H ⟨[.ref a],[]⟩ [.ref a] [.ref a] _ _ hr e0 (P5 s₁ (.ref a)) (.cons rfl .nil) (DH H hO hS)) λr s' h=>?_
  cases r with
  | error e=>exact (TM H e s' h).elim
  | ok fl=>
   cases fl with
   | next=>exact False.elim h
   | brk=>exact False.elim h
   | cont=>exact False.elim h
   | ret u=>
    obtain ⟨v,H',os,bare,un,TQ,r',q⟩:=h
    have q':v= .bl true:=q
    subst q'
    obtain rfl:u=Value.bool true:=r'
    refine ⟨rfl,OldK.of_keep λb o e=>?_,os,bare⟩
    cases q:H b with
    | none=>exact un.keep b o e q (by intro z;exact absurd (show b∈([]:List Addr) from z) (by simp)) (by simp)
    | some u=>
     rcases hO b with z | ⟨ob,xs,z⟩
     ·rw[q]at z;cases z
     ·have z2:=un.pF b ob _ z
      obtain ⟨e1,_⟩:=bX b _ z
      obtain ⟨e2,_⟩:=TQ b _ z2
      rw[e]at e1;cases e1
      exact e2
 cases hk:K.lookup a with
 | some o=>
  -- GW script is one of GW DN own objects
  have e:=KX a o hk
  rw[ha]at e
  cases e
  refine core (λ_=>none) (λ_=> .inl rfl) (.inr ⟨_,vs.toArray,_,hk,rfl,rfl,rfl,by rw[Xv,TN];exact hl,by simpa using rv⟩) (λb u z=>by have z':(none:Option HO)=some u:=z;cases z') (λb z=>absurd rfl z) λz=>absurd rfl z
 | none=>
  refine core (λb=>if b=a then some (.GS { cls:= .type "list",data:= .seq vs.toArray } (.lst (ns.map V.int))) else none) (λb=>?_) (.inl (.inr ⟨{ cls:= .type "list",data:= .seq vs.toArray },if_pos rfl⟩)) (λb u z=>?_) (λb z=>?_) λ_=>hk
  ·by_cases hb:b=a
   ·exact .inr ⟨_,_,if_pos hb⟩
   ·exact .inl (if_neg hb)
  ·by_cases hb:b=a
   ·have z':=(if_pos hb).symm.trans z
    cases z'
    subst hb
    exact ⟨ha,by rw[NA];exact hl,vs,_,rv,ha⟩
   ·have z':=(if_neg hb).symm.trans z
    cases z'
  ·by_cases hb:b=a
   ·exact hb
   ·exact absurd (if_neg hb) z
theorem Ai{l:PySem.W.OpenLaw}{n k:Nat}{q:Program}{loose:List Str}{XP:(Str->Option Value)->Heap->Prop}{YP:World->Heap->Prop}{d:DefRec}{K:Params->Fr}{CX:World->BU}{sp:World->Sp}{x:Str}
  (hn:l.most=some n) (uq:n<=sizeLine) (P0:d.params.defaults=[]) (hr:eN k callerA)
  (hY:∀(w:World) (h:Heap),YP w h->(K w.params).In h)
  (F:∀(w:World) (mg:Str->Option Value) (fa:Addr) (h:Heap),(K w.params).In h->h.Ns mainGlobals mg->mg d.name=some (.ref fa)->
   ∃fd:FuncData,(∀(s:Shared) (u:Value),BindsTo s fd ⟨[u],[]⟩ [(x,u)])/\
    ∀base:Heap,(K w.params).In base->base.Ns mainGlobals mg->bE l.prog w (K w.params) mg base (CX w) k fa fd [x] (sp w))
  (DH:∀(w:World) (H:Hp) (a:Addr) (ns:List Int),(ns:)<=n->LJ H->a_ (K w.params) H a (ns.map V.int)->sp w [.ref a] H (λv _=>v= .bl true) λ_ _ _=>False)
  (TM:∀(w:World) (H:Hp) (s:Shared) (e:Value) (s':Shared),CX w [] H s (λ_ _ _=>False) e s'->False):
  PySem.W.WalkO q loose XP YP l.row.toRowW d [] (λf vs=>PySem.call f vs):=by
 refine VD.wo hn P0 λw s₀ s₁ mg mb fa o pm cd doc a vs ns G Y ho hd oA hmg LI hints hlen hg=>?_
 have KX:=hY w _ Y
 obtain ⟨fd,hb,hF⟩:=F w mg fa _ KX G.T.g hmg
 exact DQ KX G.T.g G.T.b G.T.builtins G.T.nolimit hg LI hints (Qak hlen uq) hr hF hb (λH hO hS=>DH w H a ns hlen hO hS) λH e s'=>TM w H s₁ e s'
noncomputable def fS(s:Stmt):Arguments:=match s with
 | .FunctionDef _ a _ _ _ _ _ _ _ _=>a
 | _=>{ posonlyargs:=[],args:=[],vararg:=none,kwonlyargs:=[],kw_defaults:=[],kwarg:=none,defaults:=[] }
noncomputable def e_(s:Stmt):List Stmt:=match s with
 | .FunctionDef _ _ b _ _ _ _ _ _ _=>b
 | _=>[]
noncomputable def au(s:Stmt):Scope:=match s with
 | .FunctionDef _ _ _ _ _ _ sc _ _ _=>sc
 | _=>{ kind:= .function,names:=[],isGenerator:=false,isCoroutine:=false }
abbrev fI:BU:=λ_ _ _ _ _ _=>False
abbrev E0:XK:=λ_ _ _=>False
theorem aD{X:Cx}:Passes fI X E0:=λ_ _ _ _ _ _ _ h=>h.elim
structure HF(K:Fr)(x qual:Str)(st:Stmt)(f:Addr)(fd:FuncData):Prop where
 ex:∃(oc:Value) (od:Option Addr) (kV doc pm:Value) (an:Option Addr) (cN ct:Value) (GZ:Array (Option Value)),
  fd=PySem.W.fnOf x qual (fS st) (e_ st) (au st) .none kV doc pm an cN ct/\K.lookup f=some ⟨oc,od,.func fd,GZ⟩/\PySem.W.codeIn K cN qual=true
 kp:PySem.W.keepIn K (.ref f)=true
section
variable{P:Program}{w:World}{K:Fr}{mg:Str->Option Value}{base:Heap}
theorem HF.ok{x qual:Str}{st:Stmt}{f:Addr}{fd:FuncData}{N ps:List Str}{k:Nat}{sp:Sp}(F:HF K x qual st f fd)(S:aE N ps (au st))(len:∀vs H Q E,sp vs H Q E->(vs:)=(ps:))
  (DG:∀(cN:Value) (A:Around) (outer:List Env) (s:Shared) (H:Hp) (vs:List V) (Q:VK) (E:XK),eN k (A.deeper (envOfC qual (au st) s.heap.objs.size f cN))->sp vs H Q E->
   ∃t,x9 (BW fI P w K mg base N qual (au st) f cN A outer s H E).RG (e_ st) t/\t { nx:=λ_ H'=>Q .fQ H',rt:=Q } (start N vs) H):bE P w K mg base fI (k+1) f fd ps sp:=by
 obtain ⟨oc,od,kV,doc,pm,an,cN,ct,GZ,rfl,lk,oA⟩:=F.ex
 refine PL lk oA S len λA outer s H vs Q E hr DH=>?_
 obtain ⟨t,h,q⟩:=DG cN A outer s H vs Q E hr DH
 exact ⟨t,h.RG,q⟩
theorem HF.binds{x qual:Str}{st:Stmt}{f:Addr}{fd:FuncData}{ps:List Str}(F:HF K x qual st f fd)
  (h:∀(kV doc pm:Value) (an:Option Addr) (cN ct:Value) (us:List Value),(us:)=(ps:)->bindArgs (PySem.W.fnOf x qual (fS st) (e_ st) (au st) .none kV doc pm an cN ct) ⟨us,[]⟩=pure (ps.zip us)):Binds K fd ps []:=by
 obtain ⟨oc,od,kV,doc,pm,an,cN,ct,GZ,rfl,lk,oA⟩:=F.ex
 exact .all (h kV doc pm an cN ct)
theorem yA{x qual:Str}{st:Stmt}{f:Addr}{oc:Value}{od an:Option Addr}{GZ:Array (Option Value)}{kV doc pm cN ct:Value}(l:K.lookup f=some ⟨oc,od,.func (PySem.W.fnOf x qual (fS st) (e_ st) (au st) .none kV doc pm an cN ct),GZ⟩)
  (c:PySem.W.codeIn K cN qual=true) (k:PySem.W.keepIn K (.ref f)=true):HF K x qual st f (PySem.W.fnOf x qual (fS st) (e_ st) (au st) .none kV doc pm an cN ct):=⟨⟨oc,od,kV,doc,pm,an,cN,ct,GZ,rfl,l,c⟩,k⟩
end
theorem pR{A:Around}{k:Nat}(hr:eN k A):A.units+1<cLine:=Qa3 (Nat.add_le_add_left (by decide:1<=64) _) hr.units
section
variable{X:Cx}
theorem pv(i:Nat){x:Str}{pos:Pos}(hN:X.N[i]? =some x:=by rfl)(hv:O3 X.env.scope x:=by first | exact Or.inl rfl | exact Or.inr (Or.inl rfl) | exact Or.inr (Or.inr rfl))(hd:(x==("__debug__":Str))=false:=by decide)
  (oA:(x==("__classdict__":Str))=false:=by decide):PE X (.Name x pos) (Lb i):=Lc hN hv hd oA
end
theorem B4{A B:Prop}(h:B):if false=true then A else B:=by
 rw[if_neg Qah]
 exact h
theorem P6{A B:Prop}(h:A):if true=true then A else B:=by
 rw[if_pos rfl]
 exact h
theorem bR{c A B:Prop}[Decidable c](h1:c->A)(h2: ¬c->B):if c then A else B:=by
 by_cases h:c
 ·rw[if_pos h]
  exact h1 h
 ·rw[if_neg h]
  exact h2 h
def aj(H H':Hp):Prop:=∀b o,H b=some o->H' b=some o
theorem aj.refl(H:Hp):aj H H:=λ_ _ h=>h
theorem aj.trans{H H1 H2:Hp}(a:aj H H1)(b:aj H1 H2):aj H H2:=λc o h=>b c o (a c o h)
theorem aj.free{H H':Hp}(e:aj H H'){l:Addr}(h:H' l=Option.none):H l=Option.none:=by
 cases q:H l with
 | none=>rfl
 | some o=>
  rw[e l o q]at h
  cases h
theorem aj.seq{K:Fr}{H H':Hp}{a:Addr}{xs:List V}(e:aj H H')(h:a_ K H a xs):a_ K H' a xs:=by
 rcases h with (h | ⟨o,h⟩) | h
 ·exact .inl (.inl (e _ _ h))
 ·exact .inl (.inr ⟨o,e _ _ h⟩)
 ·exact .inr h
noncomputable def iR(env:Env):List (Str×NameKind)->List (Str×Addr)->List (Str×Addr)
 | [],acc=>acc
 |(n,k)::r,acc=>iR env r (if k== .free then (match env.cells.lookup n with | some a=>(n,a)::acc | none=>acc) else acc)
theorem fJ{env:Env}:∀(names:List (Str×NameKind)) (acc:List (Str×Addr)),(∀y∈names,y.2= .free->∃c,env.cells.lookup y.1=some c)->
  (forIn names acc λ(x:Str×NameKind) (cs:List (Str×Addr))=>(if (x.2==NameKind.free)=true then do let a <-cellOf env x.1;pure (ForInStep.yield ((x.1,a)::cs)) else pure (ForInStep.yield cs):Sem (ForInStep (List (Str×Addr)))))=pure (iR env names acc)
 | [],acc,_=>rfl
 |(n,k)::r,acc,h=>by
  rw[Qd2]
  have hr:∀y∈r,y.2= .free->∃c,env.cells.lookup y.1=some c:=λy hy=>h y (ZO _ hy)
  cases hk:(k==NameKind.free) with
  | false=>
   have e1:iR env ((n,k)::r) acc=iR env r acc:=by
    walk_at"U"
    rw[hk,if_neg Qah]
   rw[e1, <-fJ r acc hr]
   simp only[hk,Qbf,if_false,pure_bind]
  | true=>
   obtain ⟨c,hc⟩:=h (n,k) ZP (by simpa using hk)
   have e1:iR env ((n,k)::r) acc=iR env r ((n,c)::acc):=by
    have rB:env.cells.lookup n=some c:=hc
    walk_at"U"
    rw[hk,rB,if_pos rfl]
   have e2:cellOf env n=pure c:=by
    have rB:env.cells.lookup n=some c:=hc
    unfold cellOf
    rw[rB]
   rw[e1, <-fJ r ((n,c)::acc) hr]
   simp only[hk,if_true,e2,pure_bind]
theorem rJ{scope:Scope}{env:Env}(h:∀y∈scope.names,y.2= .free->∃c,env.cells.lookup y.1=some c):closureFor scope env=pure (iR env scope.names []):=by
 have e:=fJ scope.names [] h
 simp only[closureFor]
 rw[e]
 rfl
theorem mO{env:Env}{x:Str}{c:Addr}:∀(names:List (Str×NameKind)) (acc:List (Str×Addr)),(∀y d,acc.lookup y=some d->env.cells.lookup y=some d)->(iR env names acc).lookup x=some c->env.cells.lookup x=some c
 | [],acc,ha,h=>ha x c h
 |(n,k)::r,acc,ha,h=>by
  refine mO r _ (λy d q=>?_) h
  by_cases hk:(k==NameKind.free)=true
  ·rw[if_pos hk]at q
   cases e:env.cells.lookup n with
   | none=>rw[e]at q;exact ha y d q
   | some a=>
    rw[e]at q
    have q':List.lookup y ((n,a)::acc)=some d:=q
    rw[Qbh]at q'
    cases hy:(y==n) with
    | true=>
     rw[hy]at q'
     have:y=n:=by simpa using hy
     subst this
     rw[e];exact q'
    | false=>rw[hy]at q';exact ha y d q'
  ·rw[if_neg hk]at q;exact ha y d q
theorem wq{env:Env}{x:Str}:∀(names:List (Str×NameKind)) (acc:List (Str×Addr)),(∃c,acc.lookup x=some c)->∃c,(iR env names acc).lookup x=some c
 | [],acc,h=>h
 |(n,k)::r,acc,⟨c,hc⟩=>by
  refine wq r _ ?_
  by_cases hk:(k==NameKind.free)=true
  ·rw[if_pos hk]
   cases e:env.cells.lookup n with
   | none=>exact ⟨c,hc⟩
   | some a=>
    show ∃c,List.lookup x ((n,a)::acc)=some c
    rw[Qbh]
    cases hy:(x==n) with
    | true=>exact ⟨a,rfl⟩
    | false=>exact ⟨c,hc⟩
  ·rw[if_neg hk];exact ⟨c,hc⟩
theorem pT{env:Env}{x:Str}:∀(names:List (Str×NameKind)) (acc:List (Str×Addr)),(∀y∈names,y.2= .free->∃c,env.cells.lookup y.1=some c)->names.lookup x=some .free->∃c,(iR env names acc).lookup x=some c
 | [],acc,_,h=>by simp at h
 |(n,k)::r,acc,hf,h=>by
  have hr:∀y∈r,y.2= .free->∃c,env.cells.lookup y.1=some c:=λy hy=>hf y (ZO _ hy)
  rw[Qbh]at h
  cases hy:(x==n) with
  | true=>
   rw[hy]at h
   have hk:k= .free:=Qaf h
   subst hk
   have hx:x=n:=by simpa using hy
   subst hx
   obtain ⟨c,hc⟩:=hf (x,.free) ZP rfl
   have rB:env.cells.lookup x=some c:=hc
   refine wq r _ ⟨c,?_⟩
   rw[if_pos (show (NameKind.free==NameKind.free)=true by decide),rB]
   show List.lookup x ((x,c)::acc)=some c
   rw[Qbh]
   simp
  | false=>
   rw[hy]at h
   exact pT r _ hr h
theorem kZ{env:Env}:∀{names:List (Str×NameKind)} {x:Str},names.lookup x=some .free->
  ((names.map λ(n,k)=>if (k==NameKind.free&&env.scope.kind== .function&&env.kindOf n==some .cell) then (n,NameKind.cell) else (n,k)).lookup x=some .cell\/
   (names.map λ(n,k)=>if (k==NameKind.free&&env.scope.kind== .function&&env.kindOf n==some .cell) then (n,NameKind.cell) else (n,k)).lookup x=some .free)
 | [],_,h=>by simp at h
 |(n,k)::r,x,h=>by
  have ih:= @kZ env r x
  show (List.lookup x ((if (k==NameKind.free&&env.scope.kind== .function&&env.kindOf n==some .cell)=true then (n,NameKind.cell) else (n,k))::_)=_\/List.lookup x ((if (k==NameKind.free&&env.scope.kind== .function&&env.kindOf n==some .cell)=true then (n,NameKind.cell) else (n,k))::_)=_)
  cases hx:x==n with
  | true=>
   simp only[Qbh,hx]at h
   cases h
   by_cases hc:((NameKind.free==NameKind.free)&&env.scope.kind== .function&&env.kindOf n==some .cell)=true
   ·rw[if_pos hc];simp[Qbh,hx]
   ·rw[if_neg hc];simp[Qbh,hx]
  | false=>
   simp only[Qbh,hx]at h
   by_cases hc:(k==NameKind.free&&env.scope.kind== .function&&env.kindOf n==some .cell)=true
   ·rw[if_pos hc];simp only[Qbh,hx];exact ih h
   ·rw[if_neg hc];simp only[Qbh,hx];exact ih h
theorem k_{env:Env}:∀{names:List (Str×NameKind)} {x:Str},(∀y∈names,y.2≠ .cell)->
  ((names.map λ(n,k)=>if (k==NameKind.free&&env.scope.kind== .function&&env.kindOf n==some .cell) then (n,NameKind.cell) else (n,k)).lookup x=some .cell\/
   (names.map λ(n,k)=>if (k==NameKind.free&&env.scope.kind== .function&&env.kindOf n==some .cell) then (n,NameKind.cell) else (n,k)).lookup x=some .free)->names.lookup x=some .free
 | [],_,_,h=>by simp at h
 |(n,k)::r,x,hn,h=>by
  have ih:= @k_ env r x (λy hy=>hn y (ZO _ hy))
  have hk:=hn (n,k) ZP
  have h':(List.lookup x ((if (k==NameKind.free&&env.scope.kind== .function&&env.kindOf n==some .cell)=true then (n,NameKind.cell) else (n,k))::(r.map λ(n,k)=>if (k==NameKind.free&&env.scope.kind== .function&&env.kindOf n==some .cell) then (n,NameKind.cell) else (n,k)))=some .cell\/List.lookup x ((if (k==NameKind.free&&env.scope.kind== .function&&env.kindOf n==some .cell)=true then (n,NameKind.cell) else (n,k))::(r.map λ(n,k)=>if (k==NameKind.free&&env.scope.kind== .function&&env.kindOf n==some .cell) then (n,NameKind.cell) else (n,k)))=some .free):=h
  cases hx:x==n with
  | true=>
   rw[Qbh,hx]
   by_cases hc:(k==NameKind.free&&env.scope.kind== .function&&env.kindOf n==some .cell)=true
   ·have:(k==NameKind.free)=true:=by
     rw[Qa8,Qa8]at hc;exact hc.1.1
    have P7:k= .free:=by simpa using this
    rw[P7]
   ·rw[if_neg hc]at h'
    simp only[Qbh,hx]at h'
    rcases h' with h' | h'
    ·exact absurd (Qaf h') hk
    ·exact h'
  | false=>
   rw[Qbh,hx]
   by_cases hc:(k==NameKind.free&&env.scope.kind== .function&&env.kindOf n==some .cell)=true
   ·rw[if_pos hc]at h';simp only[Qbh,hx]at h';exact ih h'
   ·rw[if_neg hc]at h';simp only[Qbh,hx]at h';exact ih h'
abbrev G2:Value->Shared->Prop:=λ_ _=>False
theorem uC{prog:Program}{w:World}{A:Around}{R:Result->Shared->Prop}{s:Shared}{elt target iter:Expr}{ifs:List Expr}{scope:Scope}{pos:Pos}{it acc:Value}{env:Env}(I:Nat->Shared->Prop)
  (turn:∀n s,I n s->wpAny (model prog w) A (pyNext it) (λr s₁=>match r with
   | none=>R (.ok .next) s₁
   | some v=>wpAny (model prog w) A (letOwnedTupleGo target it v) (λ_ VL=>wpAny (model prog w) A (assign target env v) (λ_ s₂=>
     wpAny (model prog w) A (forIn ifs true λc r=>if r=true then do let ok <-isTrue c env (eval c env);pure (ForInStep.yield ok) else pure (ForInStep.yield r)) (λok s₃=>
      if ok=true then wpAny (model prog w) A (eval elt env) (λx s₄=>
       wpAny (model prog w) A (call (.builtin "list.append") [acc,x]) (λ_ s₅=>∃m,m<n/\I m s₅) G2 s₄) G2 s₃
      else ∃m,m<n/\I m s₃) G2 s₂) G2 VL) G2 s₁) G2 s)
  (n:Nat) (h:I n s):codeAny (model prog w) A (.compLoop (.ListComp elt [⟨target,iter,ifs,0⟩] scope pos) 0 it acc env) R s:=by
 refine codeAny_loop rfl I (λn s hI=>?_) n h
 show wpAny _ A ((compTurn (.ListComp elt [⟨target,iter,ifs,0⟩] scope pos) 0 it acc env).onRaise (λx=>do noteFrame x env;theTreesLotGoes x)) _ _ s
 refine wpAny_noted ?_
 rw[compTurn_list]
 have no:∀{F:Value->Shared->Prop} (e:Value) (s':Shared),G2 e s'->F e s':=λ_ _ h=>h.elim
 refine wpAny_bind (wpAny_standAt (wpAny_bind (wpAny_mono (turn n s hI) (λr s₁ h₁=>?_) no)))
 cases r with
 | none=>exact wpAny_pure h₁
 | some v=>
  refine wpAny_bind (wpAny_mono h₁ (λ_ VL Xx=>?_) no)
  refine wpAny_bind (wpAny_mono Xx (λ_ s₂ h₂=>wpAny_bind (wpAny_mono h₂ (λok s₃ h₃=>?_) no)) no)
  cases ok with
  | false=>exact wpAny_pure ⟨rfl,h₃⟩
  | true=>
   exact wpAny_bind (wpAny_bind (wpAny_mono h₃ (λx s₄ h₄=>wpAny_bind (wpAny_mono h₄ (λ_ s₅ h₅=>wpAny_pure (wpAny_pure ⟨rfl,h₅⟩)) no)) no))
noncomputable def cH(X:Cx)(scope:Scope)(C:Addr)(Nc:List Str)(s:Shared)(H:Hp)(fp:List Addr):Cx where
 prog:=X.prog
 w:=X.w
 K:=X.K
 mg:=X.mg
 base:=X.base
 A:=X.A
 N:=Nc
 s₀:=s
 H₀:=H
 env:=compEnvC scope (iR X.env scope.names []) C X.env
 outer:=X.stack
 stack:=X.stack
 ex:=fp
 fn:=λ_=>false
 calm:=X.calm
 pn:=[]
 xe:=G2
def lh(X:Cx)(scope:Scope):List Str->List (Option Nat)->Prop
 | [],[]=>True
 | _::ys,none::os=>lh X scope ys os
 | y::ys,some j::os=>(X.N[j]? =some y/\scope.names.lookup y=some .free/\(X.env.kindOf y=some .cell\/X.env.kindOf y=some .free))/\lh X scope ys os
 | _,_=>False
noncomputable def lq(σ:St)(ix:List (Option Nat)):St:=ix.map λo=>match o with | none=>none | some j=>(σ[j]?).getD none
def Wk:St->St->Prop
 | [],[]=>True
 | none::a,_::b=>Wk a b
 | some v::a,w::b=>w=some v/\Wk a b
 | _,_=>False
theorem Wk.len:∀{a b:St},Wk a b->(a:)=(b:)
 | [],[],_=>rfl
 | none::a,_::b,h=>congrArg (· +1) (Wk.len (a:=a) (b:=b) h)
 | some _::a,_::b,h=>congrArg (· +1) (Wk.len (a:=a) (b:=b) h.2)
theorem Wk.get:∀{a b:St} {i:Nat} {v:V},Wk a b->a[i]? =some (some v)->b[i]? =some (some v)
 | [],[],i,v,_,h=>by simp at h
 | none::a,x::b,0,v,_,h=>by simp at h
 | none::a,x::b,i+1,v,k,h=>by
  have:=Wk.get (a:=a) (b:=b) (i:=i) (v:=v) k (by simpa using h)
  simpa using this
 | some y::a,x::b,0,v,k,h=>by
  have e:y=v:=by simpa using h
  subst e
  simp[k.1]
 | some y::a,x::b,i+1,v,k,h=>by
  have:=Wk.get (a:=a) (b:=b) (i:=i) (v:=v) k.2 (by simpa using h)
  simpa using this
theorem lh.len{X:Cx}{scope:Scope}:∀{N:List Str} {ix:List (Option Nat)},lh X scope N ix->(ix:)=N.length
 | [],[],_=>rfl
 | _::ys,none::os,h=>congrArg (· +1) (lh.len (N:=ys) (ix:=os) h)
 | _::ys,some _::os,h=>congrArg (· +1) (lh.len (N:=ys) (ix:=os) h.2)
theorem lh.get{X:Cx}{scope:Scope}:∀{N:List Str} {ix:List (Option Nat)} {i j:Nat},lh X scope N ix->ix[i]? =some (some j)->∃y,N[i]? =some y/\X.N[j]? =some y/\scope.names.lookup y=some .free/\(X.env.kindOf y=some .cell\/X.env.kindOf y=some .free)
 | [],[],i,j,_,h=>by simp at h
 | y::ys,none::os,0,j,_,h=>by simp at h
 | y::ys,none::os,i+1,j,k,h=>by
  obtain ⟨z,h1,h2⟩:=lh.get (N:=ys) (ix:=os) (i:=i) (j:=j) k (by simpa using h)
  exact ⟨z,by simpa using h1,h2⟩
 | y::ys,some j'::os,0,j,k,h=>by
  have e:j'=j:=by simpa using h
  subst e
  exact ⟨y,by simp,k.1⟩
 | y::ys,some j'::os,i+1,j,k,h=>by
  obtain ⟨z,h1,h2⟩:=lh.get (N:=ys) (ix:=os) (i:=i) (j:=j) k.2 (by simpa using h)
  exact ⟨z,by simpa using h1,h2⟩
theorem B5{σ:St}{ix:List (Option Nat)}{i:Nat}{v:V}(h:(lq σ ix)[i]? =some (some v)):∃j,ix[i]? =some (some j)/\σ[j]? =some (some v):=by
 unfold lq at h
 rw[ZN]at h
 cases e:ix[i]? with
 | none=>rw[e]at h;cases h
 | some o=>
  rw[e]at h
  cases o with
  | none=>cases h
  | some j=>
   refine ⟨j,rfl,?_⟩
   have h':some ((σ[j]?).getD none)=some (some v):=h
   cases q:σ[j]? with
   | none=>rw[q]at h';cases h'
   | some z=>rw[q]at h';cases h';rfl
theorem yB{X:Cx}{pins:List (Addr×Obj)}{σ:St}{H:Hp}{s:Shared}(I:Inv X pins σ H s){scope:Scope}{Nc:List Str}{ix:List (Option Nat)}(DR:lh X scope Nc ix)(i3:∀y∈scope.names,y.2≠ .cell)
  (kU:scope.kind= .function) (NB:∀y∈scope.names,y.2= .free->X.env.kindOf y.1=some .cell\/X.env.kindOf y.1=some .free) {fp:List Addr} (hf:∀b∈fp,oB X pins H b) (P8:∀b∈fp,∃o,s.heap.get? b=some o)
  {C:Addr} {h':Heap} {t':Nat} {m0:Str->Option Value} (hC:s.heap.objs.size<=C) (RN:h'.Ns C m0) (k:∀b o,s.heap.get? b=some o->h'.get? b=some o):
  Inv (cH X scope C Nc s H fp) [] (lq σ ix) H { s with heap:=h',toks:=t' }:=by
 walk_at"4"
 walk_at"B"
 refine ⟨⟨I.ok.mod,kU,I.ok.glob,I.ok.blt,hC,λx y c h1 h2=>I.ok.inj x y c (lr h1) (lr h2),λx hx=>?_,λx c h=>?_,I.ok.hd,I.ok.frames,.inl rfl,λb hb=>?_,I.bs,Qak I.ok.Hm I.sz,λb o e hb=>?_,λb hb hs=>?_,I.stack,I.z5⟩,
  rfl,I.bare,Un.kept k,⟨m0,RN,λi x v h1 h2 h3=>?_⟩,λx c e=>?_,I.bX.fresh hC,λx c e=>I.i0 x c (lr e),λp hp=>absurd (show p∈([]:List (Addr×Obj)) from hp) (by simp),I.bX.kept k,?_⟩
 ·have B6:scope.names.lookup x=some .free:=k_ i3 hx
  exact pT scope.names [] RQ B6
 ·exact absurd (show false=true from h) ∅
 ·refine ⟨?_,λx c e=>(hf b hb).2.2.2.2.1 x c (lr e)⟩
  obtain ⟨o,ho⟩:=P8 b hb
  exact Qal (Qat (Qag ho) hC)
 ·rcases (hf b hb).2.2.2.1 with z | z
  ·exact I.ok.Dv b o e z
  ·exact absurd (Qat (Qag e) (Qak I.ok.Hm z)) (Qbe _)
 ·rcases ZQ.mp (I.pG b hs) with z | z
  ·exact (hf b hb).2.1 z
  ·exact (hf b hb).2.2.1 z
 ·obtain ⟨j,e1,e2⟩:=B5 h2
  obtain ⟨y,y1,y2,y3,y4⟩:=DR.get e1
  have VM:Nc[i]? =some x:=h1
  rw[y1]at VM
  cases VM
  obtain ⟨m,hn,hl⟩:=I.loc
  have hv:O3 X.env.scope x:=by
   rcases y4 with z | z
   ·exact .inr (.inl z)
   ·exact .inr (.inr z)
  obtain ⟨u,r,l⟩:=hl j x v y2 e2 hv
  refine ⟨u,r,.inr ⟨kZ y3,?_⟩⟩
  rcases l with ⟨l,_⟩ | ⟨_,c,hc,q⟩
  ·rcases y4 with z | z
   ·rw[z]at l;cases l
   ·rw[z]at l;cases l
  ·obtain ⟨c',rB⟩:=pT scope.names [] RQ y3
   have e:=lr rB
   rw[hc]at e
   cases e
   obtain ⟨o,ho,hd⟩:=q
   exact ⟨c,rB,o,k _ _ ho,hd⟩
 ·obtain ⟨v,o,ho,hd⟩:=I.cell x c (lr e)
  exact ⟨v,o,k _ _ ho,hd⟩
 ·show (lq σ ix:)=Nc.length
  unfold lq
  rw[NA]
  exact DR.len
theorem B7{X:Cx}{pins z6:List (Addr×Obj)}{σ σ':St}{H H':Hp}{s s':Shared}(I:Inv X pins σ H s){scope:Scope}{Nc:List Str}{fp:List Addr}{C D:Addr}(J:Inv (cH X scope C Nc s H fp) z6 σ' H' s')
  (hf:∀b∈fp,oB X pins H b) (hD:s.heap.objs.size<=D) (hC:s.heap.objs.size<=C) (LM:D≠C) {its:List Value} {n:Nat} {acc:List V} (eD:s'.heap.get? D=some { cls:= .type "list",data:= .seq its.toArray n }) (r:Vals acc its)
  (hz:(acc:)<=sizeLine) (nD:H' D=none) {oC:Obj} (eC:s'.heap.get? C=some oC) (dC:∀v,oC.data≠ .cell v):Inv X (pins++[(C,oC)]) σ (upd H' D (.lst acc)) s':=by
 have lt:∀b o,s.heap.get? b=some o->b≠D:=λb o e=>Qal (Qat (Qag e) hD)
 have U:Un (z4 X.stack) fp H H' s.heap s'.heap:=J.base
 have U':Un (z4 X.stack) fp H (upd H' D (.lst acc)) s.heap s'.heap:=
  ⟨U.keep,U.slot,λb o e n hx=>by rw[ar (lt b o e)];exact U.free b o e n hx,U.there,λb xs e=>by rw[ar (ao (U.rA b xs e) nD)];exact U.rA b xs e,
   λb o u e=>by rw[ar (ao (U.pF b o u e) nD)];exact U.pF b o u e,λb ps e=>by
    obtain ⟨more,q⟩:=U.ug b ps e
    exact ⟨more,by rw[ar (ao q nD)];exact q⟩⟩
 have bX:jX X.prog X.w (upd H' D (.lst acc)) s'.heap:=λb u e=>by
  by_cases hb:b=D
  ·subst hb
   rw[ae]at e;cases e
   exact ⟨hz,its,n,r,eD⟩
  ·rw[ar hb]at e
   exact (J.bX b u e).v9 (λc v _ q=>q) (λc q=>by rw[ar (ao q nD)];exact q) λc xs q=>by rw[ar (ao q nD)];exact q
 have I':Inv X pins σ (upd H' D (.lst acc)) s':=I.O8 (ch:=fp) J.os U' bX J.bare λb hb=>by
  obtain ⟨_,h1,_,h2,h3,h4⟩:=hf b hb
  exact ⟨h2,h1,h3,h4⟩
 refine I'.kP λp hp=>?_
 rcases Qaa.mp hp with z | z
 ·exact I'.pin p (Qaq _ z)
 ·have e:p=(C,oC):=VH.mp z
  subst e
  refine ⟨eC,?_,Qex (Qat I.lt hC),I.K9 hC,dC⟩
  rw[ar (Ne.symm LM)]
  exact J.free
def PF(Y:Cx)(ifs:List Expr)(tc:TT):Prop:=
 ∀(pins:List (Addr×Obj)) (s:Shared) (σ:St) (H:Hp) (Q:Bool->Hp->Prop),Inv Y pins σ H s->tc σ H Q->
  wpAny (model Y.prog Y.w) Y.A (forIn ifs true λc r=>if r=true then do let ok <-isTrue c Y.env (eval c Y.env);pure (ForInStep.yield ok) else pure (ForInStep.yield r)) (TP Y pins σ Q) Y.xe s
def P9:TT:=λ_ H Q=>Q true H
theorem eE{Y:Cx}:PF Y [] P9:=λ_ _ _ H _ I h=>wpAny_tests_nil ⟨H,I,h⟩
theorem uD{Y:Cx}{c:Expr}{tc:TT}(h:PT Y c tc):PF Y [c] tc:=λpins s σ H Q I hw=>wpAny_tests_one (h pins s σ H Q I hw)
def lu(J:It)(σc:St)(g:TG)(tc:TT)(te:TE)(Q:VK)(H1:Hp):Prop:=
 ∃W:Nat->Nat->List V->Hp->Prop,(∃m,W 0 m [] H1)/\∀i m acc H,W i m acc H->(acc:)<sizeLine/\
 ((J.stop i H/\∀D,H D=none->Q (.ref D) (upd H D (.lst acc)))\/
  (J.go i H/\∀x H',J.Dz i H x H'->g x σc H' λσ2 H2=>Wk σc σ2/\tc σ2 H2 λb H3=>if b=true then te σ2 H3 λv H4=>∃m',m'<m/\W (i+1) m' (acc++[v]) H4 else ∃m',m'<m/\W (i+1) m' acc H3))
def DS(wi:TI)(ix:List (Option Nat))(g:TG)(tc:TT)(te:TE):TE:=λσ H Q=>wi σ H λJ H1=>lu J (lq σ ix) g tc te Q H1
theorem B8{X:Cx}{tg iter elt:Expr}{ifs:List Expr}{scope:Scope}{pos:Pos}{wi:TI}{g:TG}{tc:TT}{te:TE}{Nc:List Str}{ix:List (Option Nat)}(hi:PI X tg iter wi)(sM:X.calm=true)(DR:lh X scope Nc ix)
  (i3:∀y∈scope.names,y.2≠ .cell) (kU:scope.kind= .function) (NB:∀y∈scope.names,y.2= .free->X.env.kindOf y.1=some .cell\/X.env.kindOf y.1=some .free)
  (hG:∀C s H fp,PG (cH X scope C Nc s H fp) tg g) (hT:∀C s H fp,PF (cH X scope C Nc s H fp) ifs tc) (hE:∀C s H fp,PE (cH X scope C Nc s H fp) elt te)
  {pins:List (Addr×Obj)} {s:Shared} {σ:St} {H:Hp} {Q:VK} (I:Inv X pins σ H s) (h:DS wi ix g tc te σ H Q) {RR:Value->Addr->Result->Shared->Prop}
  (Xy:∀(D C:Addr) (oC:Obj) (m:Str->Option Value) (H':Hp) (s':Shared),s'.heap.get? C=some oC->s'.heap.Ns C m->oB X pins H' C->Inv X (pins++[(C,oC)]) σ H' s'->Q (.ref D) H'->RR (.ref D) C (.ok .next) s'):
  wpAny (model X.prog X.w) X.A (eval iter X.env) (λv s1=>wpAny (model X.prog X.w) X.A (pyIter v) (λit s2=>wpAny (model X.prog X.w) X.A (newList []) (λacc s3=>
   wpAny (model X.prog X.w) X.A (newFunctionEnv scope X.env.globals (iR X.env scope.names []) [] X.env.qual none .none (some X.env)) (λP_ s4=>
    codeAny (model X.prog X.w) X.A (.compStart (.ListComp elt [⟨tg,iter,ifs,0⟩] scope pos) 0 it acc { P_ with scope:=relabel scope X.env }) (RR acc P_.locals) s4) X.xe s3) X.xe s2) X.xe s1) X.xe s:=by
 refine cf (hi pins s σ H _ I h) λv s1 h1=>cf h1 λTf s2 h2=>?_
 obtain ⟨it,fp,tn,J,H2,e,I2,T,uk,f2,W,⟨m0,w0⟩,turn⟩:=h2
 subst e
 refine wpAny_newObj_type (wpAny_newFunctionEnv i3 (by intro y hy;simp at hy) (λh₁ LN HG=>?_) kU)
 dsimp only at LN HG ⊢
 generalize Kc:s2.heap.push { cls:= .type "list",dict:=none,data:= .seq ([]:List Value).toArray }=P2 at LN HG ⊢
 have hC:P2.objs.size=s2.heap.objs.size+1:=by rw[<-Kc,Qdf]
 have LM:s2.heap.objs.size≠P2.objs.size:=by rw[hC];exact Qal (Qcb _)
 have LO:s2.heap.objs.size<=P2.objs.size:=by rw[hC];exact Qcl _
 have La:∀b,b<s2.heap.objs.size->b≠P2.objs.size:=λb hb=>by rw[hC];exact Qal (Qct hb)
 have old:∀b o,s2.heap.get? b=some o->h₁.get? b=some o:=λb o e=>HG.extBut b o (La b (Qag e)) (VI _ (Kc▸VI _ e))
 have yC:h₁.get? s2.heap.objs.size=some { cls:= .type "list",data:= .seq ([]:List Value).toArray }:=HG.extBut _ _ LM (VI _ (Kc▸Qae _ rfl))
 have VN:tn 0 h₁:=T.keep 0 _ _ uk λb _ o e=>old b o e
 have P8:∀b∈fp,∃o,s2.heap.get? b=some o:=λb hb=>let ⟨o,e,_⟩:=T.obj 0 _ uk b hb;⟨o,e⟩
 have VO:∀b∈fp,s2.heap.objs.size≠b:=λb hb=>let ⟨o,e⟩:=P8 b hb;Qex (Qag e)
 have IY:=yB I2 DR i3 kU NB f2 P8 (t':=s2.toks+(([]:List (Str×Value)):)) LO LN old
 have TR:∀b,s2.heap.objs.size<=b->b∉z4 X.stack:=λb hb hs=>by
  rcases ZQ.mp (I2.pG b hs) with z | z
  ·exact absurd (Qat I2.lt hb) (by rw[z];exact Qbe _)
  ·exact I2.K9 hb z
 walk_at"B"
 have Qa:∀x c,(iR X.env scope.names []).lookup x=some c->c≠s2.heap.objs.size:=λx c e z=>by
  obtain ⟨v,q⟩:=I2.cell x c (lr e)
  exact absurd (q.lt) (by rw[z];exact Qbe _)
 have fY:∀{pl:List (Addr×Obj)} {H':Hp},(∀p∈pl,p.1=s2.heap.objs.size)->(∀b∈fp,H' b=none)->∀b∈fp,oB (cH X scope P2.objs.size Nc s2 H2 fp) pl H' b:=λ{pl H'} h7 hn b hb=>by
  refine ⟨hn b hb,?_,?_,.inl hb,λx c e=>(f2 b hb).2.2.2.2.1 x c (lr e),λp hp=>?_⟩
  ·obtain ⟨o,e⟩:=P8 b hb
   exact La b (Qag e)
  ·intro hs
   rcases ZQ.mp (I2.pG b hs) with z | z
   ·exact (f2 b hb).2.1 z
   ·exact (f2 b hb).2.2.1 z
  ·rw[h7 p hp]
   exact VO b hb
 have loop:∀s₃:Shared,s₃={ s2 with heap:=h₁,toks:=s2.toks+(([]:List (Str×Value)):) }->
   codeAny (model X.prog X.w) X.A (.compLoop (.ListComp elt [⟨tg,iter,ifs,0⟩] scope pos) 0 (.ref it) (.ref s2.heap.objs.size) (compEnvC scope (iR X.env scope.names []) P2.objs.size X.env)) (RR (.ref s2.heap.objs.size) P2.objs.size) s₃:=by
  rintro s₃ rfl
  refine uC (λn s'=>∃i acc its nn H',Inv (cH X scope P2.objs.size Nc s2 H2 fp) [] (lq σ ix) H' s'/\tn i s'.heap/\(∀b∈fp,H' b=none)/\
   s'.heap.get? s2.heap.objs.size=some { cls:= .type "list",data:= .seq (its:List Value).toArray nn }/\Vals acc its/\H' s2.heap.objs.size=none/\W i n acc H') ?_ m0
   ⟨0,[],[],0,H2,IY,VN,λb hb=>(f2 b hb).1,yC,.nil,I2.bX.fresh (RP _),w0⟩
  rintro n s3 ⟨i,acc,its,nn,H3,I3,Lk,Pn,eD,rv,nD,w3⟩
  obtain ⟨hz,alt⟩:=turn i n acc H3 w3
  have IP:Inv (cH X scope P2.objs.size Nc s2 H2 fp) [(s2.heap.objs.size,{ cls:= .type "list",data:= .seq its.toArray nn })] (lq σ ix) H3 s3:=I3.kP λp hp=>by
   have e:p=(s2.heap.objs.size,_):=VH.mp hp
   subst e
   refine ⟨eD,nD,LM,TR _ (RP _),λv z=>?_⟩
   have z':Data.seq its.toArray nn=Data.cell v:=z
   cases z'
  have h7:∀p∈[(s2.heap.objs.size,({ cls:= .type "list",data:= .seq its.toArray nn }:Obj))],p.1=s2.heap.objs.size:=λp hp=>by
   have e:p=(s2.heap.objs.size,_):=VH.mp hp
   rw[e]
  rcases alt with ⟨stop,fin⟩ | ⟨go,step⟩
  ·refine cf (T.done (cH X scope P2.objs.size Nc s2 H2 fp) rfl rfl rfl sM i _ s3 _ H3 G2 IP (fY h7 Pn) Lk stop) λr s4 zz=>?_
   obtain ⟨hr,I4⟩:=zz
   subst hr
   obtain ⟨m,hn,_⟩:=id I4.loc
   obtain ⟨oC,es,ep,eC,dC,_⟩:=id hn
   have Xz:=(I4.pin (s2.heap.objs.size,_) (Qaq _ (VH.mpr rfl))).1
   have TU:=fin _ nD
   refine Xy _ _ oC m _ s4 eC hn ?_ (B7 I2 I4 f2 (RP _) LO LM Xz rv (Qa4 hz) nD eC λv z=>?_) TU
   ·refine I2.oE LO ?_
    rw[ar (Ne.symm LM)]
    exact I4.free
   ·rw[dC]at z;cases z
  ·refine cf (T.item (cH X scope P2.objs.size Nc s2 H2 fp) rfl rfl rfl sM i _ s3 _ H3 G2 IP (fY h7 Pn) Lk go) λr s4 zz=>?_
   obtain ⟨u,hr,h4⟩:=zz
   subst hr
   refine cf h4 λ_ s5 zz=>?_
   obtain ⟨x,H5,I5,r5,y5,GX,Ti⟩:=zz
   have Tj:=I5.pinned (fY h7 Ti) (T.obj _ _ GX)
   refine cf (hG _ s2 H2 fp _ s5 _ H5 x u _ Tj r5 (step x H5 y5)) λ_ s6 zz=>?_
   obtain ⟨σ6,H6,I6,wk,q6⟩:=zz
   refine cf (hT _ s2 H2 fp _ s6 σ6 H6 _ I6 q6) λb s7 zz=>?_
   obtain ⟨H7,I7,q7⟩:=zz
   have again:∀{H9:Hp} {s9:Shared} {m':Nat},Inv (cH X scope P2.objs.size Nc s2 H2 fp) ([(s2.heap.objs.size,({ cls:= .type "list",data:= .seq its.toArray nn }:Obj))]++pJ fp s5.heap) σ6 H9 s9->
     (s9.heap.get? s2.heap.objs.size=some { cls:= .type "list",data:= .seq its.toArray nn }/\H9 s2.heap.objs.size=none)/\tn (i+1) s9.heap/\(∀b∈fp,H9 b=none)/\Inv (cH X scope P2.objs.size Nc s2 H2 fp) [] (lq σ ix) H9 s9:=λ{H9 s9 m'} I9=>by
    have pD:=I9.pin (s2.heap.objs.size,_) (Qaq _ (Qb3 _ (VH.mpr rfl)))
    refine ⟨⟨pD.1,pD.2.1⟩,T.keep _ _ _ GX λb hb o e=>(I9.pin (b,o) (Qaq _ (Qaq _ (hX hb e)))).1,λb hb=>?_,?_⟩
    ·obtain ⟨o,e,d⟩:=T.obj _ _ GX b hb
     exact (I9.pin (b,o) (Qaq _ (Qaq _ (hX hb e)))).2.1
    ·exact (I9.weak wk.len λi v e=>wk.get e).kP λp hp=>absurd hp (by simp)
   cases b with
   | false=>
    rw[if_neg Qah]at q7 ⊢
    obtain ⟨m',hm,w7⟩:=q7
    obtain ⟨⟨e7,n7⟩,t7,f7,J7⟩:=again (m':=0) I7
    exact ⟨m',hm,i+1,acc,its,nn,H7,J7,t7,f7,e7,rv,n7,w7⟩
   | true=>
    rw[if_pos rfl]at q7 ⊢
    refine cf (hE _ s2 H2 fp _ s7 σ6 H7 _ I7 q7) λy s8 zz=>?_
    obtain ⟨v,H8,I8,r8,m',hm,w8⟩:=zz
    obtain ⟨⟨e8,n8⟩,t8,f8,J8⟩:=again (m':=0) I8
    refine wpAny_list_append_plain (items:=its.toArray) ⟨nn,e8⟩ (λh9 XA VP=>?_) (by rw[Xv, <-(rv:)];exact Qa4 hz)
    obtain ⟨n9,e9⟩:=XA
    refine ⟨m',hm,i+1,acc++[v],its++[y],n9,H8,J8.turned (t':=s8.toks) (λb o hb e=>(VP.2 b hb).trans e) n8 LM (.inr (RP _)) Qa (λp hp=>absurd hp (by simp[cH])),?_,f8,?_,rv.append (.cons r8 .nil),n8,w8⟩
    ·exact T.keep _ _ _ t8 λb hb o e=>(VP.2 b (Ne.symm (VO b hb))).trans e
    ·simpa using e9
 exact codeAny_compStart_list (loop _ rfl) (T.self _ 0 _ _ _ VN (loop _ rfl))
theorem HH{X:Cx}{tg iter elt:Expr}{ifs:List Expr}{scope:Scope}{pos:Pos}{wi:TI}{g:TG}{tc:TT}{te:TE}(Nc:List Str)(ix:List (Option Nat))(hi:PI X tg iter wi)(sM:X.calm=true)(DR:lh X scope Nc ix)
  (i3:∀y∈scope.names,y.2≠ .cell) (kU:scope.kind= .function) (NB:∀y∈scope.names,y.2= .free->X.env.kindOf y.1=some .cell\/X.env.kindOf y.1=some .free)
  (LP:∀x∈scope.names,x.2= .local->scope.names.lookup x.1=some .local)
  (hG:∀C s H fp,PG (cH X scope C Nc s H fp) tg g) (hT:∀C s H fp,PF (cH X scope C Nc s H fp) ifs tc) (hE:∀C s H fp,PE (cH X scope C Nc s H fp) elt te)
  (hs:∀x,foldedSetIterable iter X.env x=pure x:=by intro _;rfl):PE X (.ListComp elt [⟨tg,iter,ifs,0⟩] scope pos) (DS wi ix g tc te):=by
 walk_at"i"
 rw[eval_ListComp]
 walk_at"4"
 refine wpAny_comprehension_free (use:=none) rfl hs (rJ RQ) kU LP (B8 hi sM DR i3 kU NB hG hT hE I h (RR:=λacc C=>compPost (model X.prog X.w) X.A X.xe none (EP X pins σ Q) acc C) ?_)
 intro D C oC m H' s' eC hn fC I' q
 refine ⟨m,hn,λh' TV=>⟨.ref D,H',?_,rfl,q⟩⟩
 exact I'.kQ.turned (t':=s'.toks) (λb o hb e=>(TV.2 b hb).trans e) fC.1 fC.2.1 fC.2.2.2.1 fC.2.2.2.2.1 fC.2.2.2.2.2
noncomputable def S(l:Z):Str:=⟨l.toArray⟩
theorem eS(l:Z):(S l).cps.toList=l:=by simp[S]
theorem dA(l:Z):(S l:)=(l:):=by simp[S,Str.length]
theorem mP(l:Z):(S l).cps.size=(l:):=by simp[S]
theorem Qb{a b:Z}(h:S a=S b):a=b:=by
 have:=congrArg (λx:Str=>x.cps.toList) h
 simpa [S]using this
theorem Qc(x:Str):x=S x.cps.toList:=by cases x;simp[S]
theorem Qd(a b:Z):S a++S b=S (a++b):=by
 apply Str.ext'
 apply Qeo.mp
 simp[S,Str.cps_append]
theorem Kd{a b:Z}:decide (V.str (S a)=V.str (S b))=decide (a=b):=by
 by_cases h:a=b
 ·subst h;simp
 ·rw[decide_eq_false h,decide_eq_false]
  intro q
  exact h (Qb (V.str.inj q))
noncomputable def cut{α:Type}(xs:List α)(lo hi:Option Int):List α:=(xs.drop (HT.cB (xs:) 0 lo)).take (HT.cB (xs:) (xs:) hi - HT.cB (xs:) 0 lo)
theorem wu(n d:Nat)(v:Int):max 0 (min (if v<0 then v+(n:Int) else v) (n:Int))=((HT.cB n d (some v):Nat):Int):=by
 show _=(((if v<0 then (v+(n:Int)).toNat else min v.toNat n):Nat):Int)
 by_cases hv:v<0
 ·simp only[if_pos hv];lia
 ·simp only[if_neg hv];lia
theorem nS(lo hi:Option Int)(n:Nat):Builtin.Str.strSliceIndices lo hi 1 n=(List.range (HT.cB n n hi - HT.cB n 0 lo)).map (HT.cB n 0 lo+ ·):=by
 have h1:(1:Int)>0:=by decide
 rw[<-sliceRange_one]
 unfold Builtin.Str.strSliceIndices
 simp only[h1,if_true]
 congr 1
 ·cases lo with
  | none=>rfl
  | some v=>exact wu n 0 v
 ·cases hi with
  | none=>rfl
  | some v=>exact wu n n v
theorem HI(l:Z)(lo hi:Option Int):Txt.slice (S l) lo hi=S (cut l lo hi):=by
 have hx:((Builtin.Str.strSliceIndices lo hi 1 (S l:)).filterMap ((S l).cps[·]?))=cut l lo hi:=by
  rw[dA,nS,pick_run,eS]
  rfl
 have hlen:(Builtin.Str.strSliceIndices lo hi 1 (S l:):)=HT.cB (l:) (l:) hi - HT.cB (l:) 0 lo:=by
  rw[dA,nS,NA,Qcv]
 unfold Txt.slice
 by_cases hc:((1:Int)==1&&(Builtin.Str.strSliceIndices lo hi 1 (S l:):)==(S l:))=true
 ·rw[if_pos hc]
  rw[hlen,dA]at hc
  have e:HT.cB (l:) (l:) hi - HT.cB (l:) 0 lo=(l:):=by simpa using hc
  have h2:=HT.DI (l:) (l:) (RP _) hi
  have e0:HT.cB (l:) 0 lo=0\/(l:)=0:=by lia
  unfold cut
  rw[e]
  rcases e0 with z | z
  ·rw[z];simp
  ·have:l=[]:=Qd0 z
   subst this
   simp
 ·rw[if_neg hc]
  rw[hx]
  rfl
section
variable{X:Cx}
theorem mQ{x:Str}{j pos}(l:Z)(h:x=S l):PE X (.Constant (.str x) j pos) (tC (.str (S l))):=by
 subst h
 exact Ld
def Qe:R2:=λx y H Q=>∃a b,x= .str (S a)/\y= .str (S b)/\(a:)+(b:)<=sizeLine/\Q (.str (S (a++b))) H
theorem h_:gR X (binaryOp .Add) Qe:=by
 walk_at"b"
 obtain ⟨a,b,rfl,rfl,hz,q⟩:=h
 exact yj pins s σ H _ _ v u Q I rx ry ⟨S a,S b,rfl,rfl,by rw[dA,dA];exact hz,by rw[Qd];exact q⟩
def Qf:R2:=λx y H Q=>∃l i c,x= .str (S l)/\y= .int i/\(l:)<=sizeLine/\rz l i=some c/\Q (.str (S [c])) H
theorem ie:Lv X Qf:=by
 walk_at"N"
 obtain ⟨l,i,c,rfl,rfl,hz,he,q⟩:=h
 exact Ly value slice pins s σ H _ _ v u Q I rx ry ⟨S l,i,c,rfl,rfl,by rw[dA];exact hz,by rw[eS];exact he,q⟩ hs
def TX:V->Option Int->Option Int->Hp->VK->Prop:=λx lo hi H Q=>∃l,x= .str (S l)/\(l:)<=sizeLine/\Q (.str (S (cut l lo hi))) H
theorem mR:Ls X TX:=by
 walk_at"L"
 obtain ⟨l,rfl,hz,q⟩:=h
 walk_at"f"
 refine ⟨"str",_,F.slot_str_getitem.lookup,typeIs_str _ _ _,?_⟩
 have key:∀(a b:Option (Int×Tok)),vl=partValue a->vu=partValue b->a.map (·.1)=lo->b.map (·.1)=hi->wpAny (model X.prog X.w) X.A (getItem (.str (S l) t) (.ref sl)) (EP X pins σ Q) X.xe s:=by
  rintro a b rfl rfl rfl rfl
  obtain ⟨o,e,c,d⟩:=hs
  refine wpAny_getItem_str_slice (l:=a) (u:=b) (st:=none) ⟨o,e,c,d⟩ rfl (post_val_or_str ⟨?_,λt' k=>?_⟩)
  ·exact Qak (Txt.slice_le (S l) _ _) (by rw[dA];exact hz)
  ·exact ⟨.str (S (cut l _ _)),H,I.tok _,⟨t',congrArg (λz=>Value.str z t') (HI l _ _)⟩,q⟩
 cases pl with
 | none=>
  cases pu with
  | none=>exact key none none rfl rfl rfl rfl
  | int i ti=>exact key none (some (i,ti)) rfl rfl rfl rfl
 | int i ti=>
  cases pu with
  | none=>exact key (some (i,ti)) none rfl rfl rfl rfl
  | int j tj=>exact key (some (i,ti)) (some (j,tj)) rfl rfl rfl rfl
theorem aR:dH X (.builtin "len") (λxs H Q=>∃l,xs=[.str (S l)]/\(l:)<=sizeLine/\Q (.int (l:)) H):=by
 walk_at"e"
 obtain ⟨l,rfl,hz,q⟩:=h
 exact uy pins s σ H _ us Q I r ⟨S l,rfl,by rw[dA];exact hz,by rw[dA];exact q⟩
noncomputable def cT(l:Z):List V:=l.map λc=>V.str (S [c])
theorem yD{l:Z}:∀{acc:List Value},(acc:)=(l:)->(∀j v,acc[j]? =some v->SignAt (S l) j v)->Vals (cT l) acc:=by
 induction l with
 | nil=>intro acc h _;have:acc=[]:=Qd0 h;subst this;exact .nil
 | cons c l ih=>
  intro acc h k
  cases acc with
  | nil=>cases h
  | cons a acc=>
   refine .cons ?_ (ih (by simpa using h) λj v e=>?_)
   ·obtain ⟨c',u,e1,e2⟩:=k 0 a rfl
    have:c=c':=by simpa [S]using e1
    subst this
    exact ⟨u,e2⟩
   ·obtain ⟨c',u,e1,e2⟩:=k (j+1) v (by simpa using e)
    exact ⟨c',u,by simpa [S]using e1,e2⟩
theorem yE(hc:X.calm=true):dH X (.type "list") (λxs H Q=>∃l,xs=[.str (S l)]/\(l:)<=sizeLine/\∀p,H p=none->Q (.ref p) (upd H p (.lst (cT l)))):=by
 walk_at"e"
 obtain ⟨l,rfl,hz,q⟩:=h
 obtain ⟨u,rfl,t,rfl⟩:=vals1 r
 refine call_list_str (I.ok.hd hc) (S l) t (λh' tk bZ c' hk e yC=>?_) (by rw[mP];exact hz)
 obtain ⟨h1,h2⟩:=yC
 rw[mP]at h1
 refine ⟨.ref s.heap.objs.size,_,I.laid (t':=tk) (o:= .lst (cT l)) hk (RP _) ?_,rfl,q _ I.fresh⟩
 exact ⟨by unfold cT;rw[NA];exact hz,bZ.toList,c',yD (by simpa using h1) (λj v e=>h2 j v (by simpa using e)),by simpa using e⟩
def TY:R2:=λx y H Q=>∃c l,x= .str (S [c])/\y= .str (S l)/\Q (.bl (decide (c∈l))) H
theorem DT:gR X (compareOp .In) TY:=by
 walk_at"b"
 obtain ⟨c,l,rfl,rfl,q⟩:=h
 refine BN pins s σ H _ _ v u Q I rx ry ⟨S [c],S l,rfl,rfl,?_⟩
 have e:=StrLaws.found_one (S l) c
 rw[eS]at e
 rw[show (S [c])=(⟨#[c]⟩:Str) from rfl,e]
 exact q
end
theorem sN(s sub:Str)(hi:Nat):∀(l:Z) (st:Array Nat×Nat),1<=st.fst.size->(forIn l st (StrLaws.occBody s sub hi 1)).run.fst=st.fst
 | [],st,h=>rfl
 | a::l,st,h=>by
  rw[Qd2]
  unfold StrLaws.occBody
  rw[if_neg (λz=>absurd z.1.1.1 (Nat.not_lt.mpr h))]
  exact sN s sub hi l _ h
theorem occ_first(s sub:Str)(hi:Nat):∀(l:Z) (free:Nat),(∀i∈l,free<=i)->
  (forIn l ((#[]:Array Nat),free) (StrLaws.occBody s sub hi 1)).run.fst.toList=(l.find? λi=>decide (i+(sub:)<=hi)&&Builtin.Str.subAt s sub i).toList
 | [],free,_=>rfl
 | a::l,free,hf=>by
  rw[Qd2,Qca]
  unfold StrLaws.occBody
  have ha:free<=a:=hf a ZP
  by_cases hc:a+(sub:)<=hi/\Builtin.Str.subAt s sub a=true
  ·rw[if_pos ⟨⟨⟨by simp,ha⟩,hc.1⟩,hc.2⟩]
   have:(decide (a+(sub:)<=hi)&&Builtin.Str.subAt s sub a)=true:=by simp[hc]
   rw[this]
   show (forIn l (#[].push a,a+(sub:)) (StrLaws.occBody s sub hi 1)).run.fst.toList=_
   rw[sN s sub hi l _ (by simp)]
   rfl
  ·rw[if_neg (λz=>hc ⟨z.1.2,z.2⟩)]
   have:(decide (a+(sub:)<=hi)&&Builtin.Str.subAt s sub a)=false:=by
    cases h1:decide (a+(sub:)<=hi) with
    | false=>rfl
    | true=>
     cases h2:Builtin.Str.subAt s sub a with
     | false=>rfl
     | true=>exact absurd ⟨of_decide_eq_true h1,h2⟩ hc
   rw[this]
   exact occ_first s sub hi l free λi nU=>hf i (ZO _ nU)
theorem subAt_one(l:Z)(c i:Nat):Builtin.Str.subAt (S l) (S [c]) i=(l[i]? ==some c):=by
 unfold Builtin.Str.subAt
 rw[dA]
 show ((S l).cps.extract i (i+1)== #[c])=_
 have e:((S l).cps.extract i (i+1))=((l.drop i).take 1).toArray:=by
  apply Qeo.mp
  simp[S,List.take_drop]
 rw[e]
 by_cases h:i<(l:)
 ·have e2:(l.drop i).take 1=[l[i]]:=by
   rw[Qbn h];rfl
  rw[e2,LK h]
  by_cases hc:l[i]=c
  ·rw[hc];simp
  ·have h1:([l[i]].toArray== #[c])=false:=by
    rw[beq_eq_false_iff_ne]
    intro z
    apply hc
    have:=congrArg Array.toList z
    simpa using this
   have h2:(some l[i]==some c)=false:=by simpa using hc
   rw[h1,h2]
 ·have e2:(l.drop i).take 1=[]:=by rw[Qdp ()];rfl
  rw[e2,Qcp ()]
  rfl
theorem pU(l:Z)(c:Nat):∀(k n:Nat),k+n=(l:)+1->((List.range' k n).find? λi=>decide (i+1<=(l:))&&(l[i]? ==some c))=if c∈l.drop k then some (k+(l.drop k).idxOf c) else none
 | k,0,h=>by
  have:l.drop k=[]:=Qdp ()
  rw[this];simp
 | k,n+1,h=>by
  rw[List.range'_succ,Qca]
  by_cases hk:k<(l:)
  ·have e:l.drop k=l[k]::l.drop (k+1):=Qbn hk
   rw[LK hk,e]
   by_cases hc:l[k]=c
   ·have:(decide (k+1<=(l:))&&(some l[k]==some c))=true:=by simp[hc];lia
    rw[this,if_pos (by simp[hc])]
    simp[hc]
   ·have:(decide (k+1<=(l:))&&(some l[k]==some c))=false:=by simp[hc]
    rw[this,pU l c (k+1) n ()]
    have rB: ¬c=l[k]:=λz=>hc z.symm
    by_cases hm:c∈l.drop (k+1)
    ·rw[if_pos hm,if_pos (ZO _ hm),Qf3]
     have:(l[k]==c)=false:=by simpa using hc
     rw[this]
     show some (k+1+List.idxOf c (List.drop (k+1) l))=some (k+(List.idxOf c (List.drop (k+1) l)+1))
     congr 1
     lia
    ·rw[if_neg hm,if_neg (by intro z;rcases ZQ.mp z with z | z;exact rB z;exact hm z)]
  ·have:l.drop k=[]:=Qdp ()
   have e1:(decide (k+1<=(l:))&&(l[k]? ==some c))=false:=by
    rw[decide_eq_false ()];rfl
   have e2:l.drop (k+1)=[]:=Qdp ()
   rw[e1,pU l c (k+1) n (),this,e2]
   simp
theorem Ke(l:Z)(c:Nat):Builtin.Str.occurrences (S l) (S [c]) 0 (S l:) 1=if c∈l then [l.idxOf c] else []:=by
 rw[StrLaws.occ_eq,occ_first _ _ _ _ 0 λ_ _=>Qac _]
 have e:(λi=>decide (i+(S [c]:)<=(S l:))&&Builtin.Str.subAt (S l) (S [c]) i)=λi=>decide (i+1<=(l:))&&(l[i]? ==some c):=by
  funext i
  rw[subAt_one,dA,dA]
  rfl
 rw[e,dA,Nat.sub_zero,pU l c 0 ((l:)+1) (),List.drop_zero]
 by_cases h:c∈l
 ·rw[if_pos h,if_pos h,Qc9];rfl
 ·rw[if_neg h,if_neg h];rfl
section
variable{X:Cx}
def HJ:V->List V->Hp->VK->Prop:=λx vs H Q=>∃l c,x= .str (S l)/\vs=[.str (S [c])]/\c∈l/\Q (.int (l.idxOf c:Nat)) H
theorem mS:Ag X "str.index" HJ:=by
 walk_at"q"
 obtain ⟨l,c,rfl,rfl,hc,q⟩:=h
 walk_at"f"
 obtain ⟨u,rfl,t',rfl⟩:=vals1 rv
 exact SC.index (i:=l.idxOf c) (rest:=[]) (by rw[Ke,if_pos hc]) ⟨.int (l.idxOf c:Nat),H,I.tok _,⟨_,rfl⟩,q⟩
def LQ:V->List V->Hp->VK->Prop:=λx vs H Q=>∃l c,x= .str (S l)/\vs=[.str (S [c])]/\Q (.int (if c∈l then (l.idxOf c:Nat) else -1)) H
theorem wx:Ag X "str.find" LQ:=by
 walk_at"q"
 obtain ⟨l,c,rfl,rfl,q⟩:=h
 walk_at"f"
 obtain ⟨u,rfl,t',rfl⟩:=vals1 rv
 refine SC.find ⟨.int _,H,I.tok _,⟨_,rfl⟩,?_⟩
 have e:Txt.find (S l) (S [c])=(if c∈l then ((l.idxOf c:Nat):Int) else -1):=by
  unfold Txt.find
  rw[Ke]
  by_cases h:c∈l
  ·rw[if_pos h,if_pos h]
  ·rw[if_neg h,if_neg h]
 rw[e]
 exact q
def Kf(f:Nat->Bool):V->List V->Hp->VK->Prop:=λx vs H Q=>∃c,x= .str (S [c])/\vs=[]/\c<128/\Q (.bl (f c)) H
def Qg(f:Nat->Nat):V->List V->Hp->VK->Prop:=λx vs H Q=>∃c,x= .str (S [c])/\vs=[]/\c<128/\Q (.str (S [f c])) H
noncomputable def ay(c:Nat):Bool:=decide (97<=c)&&decide (c<=122)
noncomputable def isUp(c:Nat):Bool:=decide (65<=c)&&decide (c<=90)
theorem HK:∀c,c<128->Txt.islower ⟨#[c]⟩=ay c:=⋯
theorem LR:∀c,c<128->Txt.isupper ⟨#[c]⟩=isUp c:=⋯
theorem ki:Ag X "str.islower" (Kf ay):=by
 walk_at"q"
 obtain ⟨c,rfl,rfl,hc,q⟩:=h
 walk_at"f"
 have e:us=[]:=by cases rv;rfl
 subst e
 exact SC.islower ⟨.bl (ay c),H,I,congrArg Value.bool (HK c hc),q⟩
theorem yF:Ag X "str.isupper" (Kf isUp):=by
 walk_at"q"
 obtain ⟨c,rfl,rfl,hc,q⟩:=h
 walk_at"f"
 have e:us=[]:=by cases rv;rfl
 subst e
 exact SC.isupper ⟨.bl (isUp c),H,I,congrArg Value.bool (LR c hc),q⟩
theorem upper_one{c:Nat}(hc:c<128):Txt.upper (S [c])=S [up1 c]:=by
 rw[upper_ascii (by intro d hd;rw[eS]at hd;simp at hd;lia)]
 simp[S]
theorem sO{c:Nat}(hc:c<128):Txt.lower (S [c])=S [lo1 c]:=by
 rw[lower_ascii (by intro d hd;rw[eS]at hd;simp at hd;lia)]
 simp[S]
theorem Kg(c:Nat):Builtin.Str.tooLong (S [c]:)=false:=by
 rw[dA]
 show Builtin.Str.tooLong 1=false
 decide
theorem DU:Ag X "str.upper" (Qg up1):=by
 walk_at"q"
 obtain ⟨c,rfl,rfl,hc,q⟩:=h
 walk_at"f"
 have e:us=[]:=by cases rv;rfl
 subst e
 exact SC.upper (by rw[upper_one hc];exact Kg _) ⟨.str (S [up1 c]),H,I.tok _,⟨_,congrArg (λz=>Value.str z _) (upper_one hc)⟩,q⟩
theorem pV:Ag X "str.lower" (Qg lo1):=by
 walk_at"q"
 obtain ⟨c,rfl,rfl,hc,q⟩:=h
 walk_at"f"
 have e:us=[]:=by cases rv;rfl
 subst e
 exact SC.lower (by rw[sO hc];exact Kg _) ⟨.str (S [lo1 c]),H,I.tok _,⟨_,congrArg (λz=>Value.str z _) (sO hc)⟩,q⟩
theorem DV:∀(ls:List Z) (a:Array Nat),(ls.map S).foldl (λacc p=>acc++(S []).cps++p.cps) a=a++ls.flatten.toArray
 | [],a=>by simp
 | l::ls,a=>by
  rw[Qad,Qd3,DV ls]
  simp[S]
theorem LS(ls:List Z):Txt.join (S []) (ls.map S)=S ls.flatten:=by
 unfold Txt.join Builtin.Str.glued
 cases ls with
 | nil=>rfl
 | cons l ls=>
  show Str.mk ((List.map S ls).foldl (λacc p=>acc++(S []).cps++p.cps) (S l).cps)=_
  rw[DV]
  simp[S]
theorem pW:∀{ls:List Z} {us:List Value},Vals (ls.map λl=>V.str (S l)) us->StrsAre us (ls.map S)
 | [],us,r=>by cases r;exact .nil
 | l::ls,us,r=>by
  cases r with
  | cons r1 r2=>
   walk_at"1"
   exact .cons _ t (pW r2)
def DW(K:Fr):V->List V->Hp->VK->Prop:=λx vs H Q=>∃(p:Addr) (ls:List Z),x= .str (S [])/\vs=[.ref p]/\a_ K H p (ls.map λl=>V.str (S l))/\(ls.map List.length).sum<=16777216/\Q (.str (S ls.flatten)) H
theorem DX:Ag X "str.join" (DW X.K):=by
 walk_at"q"
 obtain ⟨p,ls,rfl,rfl,hq,hz,q⟩:=h
 walk_at"f"
 obtain ⟨u,rfl,ru⟩:=vals1 rv
 cases ru
 obtain ⟨its,r,pl,_⟩:=I.list hq
 have e:(S []:)=0:=rfl
 refine join_list pl.isList (by simpa using pW r) ?_ λt' k=>?_
 ·rw[e,Nat.mul_zero,Nat.add_zero,Qbo]
  have e2:(Str.length ∘ S)=List.length:=by funext l;exact dA l
  have e3:((λx:Str=>(x:)) ∘ S)=List.length:=by funext l;exact dA l
  first | (rw[e2];exact hz) | (rw[e3];exact hz)
 ·exact ⟨.str (S ls.flatten),H,I.tok _,⟨t',congrArg (λz=>Value.str z t') (LS ls)⟩,q⟩
end
end L2
namespace L2.F2
open PySem PySem.Spec PyProof.Rows
theorem sP:Manifest.owners.lookup (String.ofList ['d','e','s','r','e','v','e','r'].reverse)=some Manifest.sig_reversed:=by kernel_rfl
theorem bu:Slot "reversed" "__next__" "reversed.__next__":=
 .of (owner:="reversed") (n:="__next__") (by rw[typeLookup_type,builtinLookup_eq_fast];kernel_rfl) ⋯ ⋯ ⋯
  (by first | exact .inl ⋯ | exact .inr ⋯) (by rw[isSubtype_type];kernel_rfl)
theorem eF:entryFor table "reversed.__next__"=some Builtin.«reversed.__next__» :=entryFor_of_tree (by kernel_rfl)
theorem dM(a:Value):argsOk "reversed.__next__" ⟨[a],[]⟩:=by
 unfold argsOk;rw[signature?_of (id:="reversed.__next__") (n:=['_','_','t','x','e','n','_','_']) (o:=['d','e','s','r','e','v','e','r']) (by kernel_rfl) sP];kernel_rfl
theorem ff:Slot "reversed" "__iter__" "reversed.__iter__":=
 .of (owner:="reversed") (n:="__iter__") (by rw[typeLookup_type,builtinLookup_eq_fast];kernel_rfl) ⋯ ⋯ ⋯
  (by first | exact .inl ⋯ | exact .inr ⋯) (by rw[isSubtype_type];kernel_rfl)
theorem iI(a:Value):argsOk "reversed.__iter__" ⟨[a],[]⟩:=by
 unfold argsOk;rw[signature?_of (id:="reversed.__iter__") (n:=['_','_','r','e','t','i','_','_']) (o:=['d','e','s','r','e','v','e','r']) (by kernel_rfl) sP];kernel_rfl
theorem i9:entryFor table "reversed.__iter__"=some Builtin.«dict_keyiterator.__iter__» :=
 entryFor_alias (id':="dict_keyiterator.__iter__") (by kernel_rfl) (by first | rfl | decide+kernel | (unfold String.splitOn;simp+decide [String.splitOnAux])) ⋯ (by kernel_rfl)
theorem rK:Slot "reversed" "__init__" "object.__init__":=
 .of (owner:="object") (n:="__init__") (by rw[typeLookup_type,builtinLookup_eq_fast];kernel_rfl) ⋯ ⋯ ⋯
  (by first | exact .inl ⋯ | exact .inr ⋯) (by rw[isSubtype_type];kernel_rfl)
theorem pX:TypeCalled "reversed" "reversed.__new__" "object.__init__":=
 ⟨⋯,⋯,⟨_,_,F.mro_reversed⟩,F.made_reversed,⋯,by rw[isSubtype_type];kernel_rfl,rK⟩
theorem yG:typeLookup (.type "str") "__reversed__"=pure none:=by rw[typeLookup_type,builtinLookup_eq_fast];kernel_rfl
end L2.F2
namespace L2
open PySem PySem.Spec PyProof.Rows
theorem pY(x:Str)(t:Tok)(hz:(x:)<=sizeLine):Meets (Builtin.«reversed.__new__» ⟨[.type "reversed",.str x t],[]⟩) (λ_ R s=>∀tk,R (.ok (.ret (.ref s.heap.objs.size))) { s with heap:=s.heap.push { cls:= .type "reversed",data:= .fields #[.str x t,rawInt (((x:):Int) - 1)] },toks:=tk }):=by
 refine Meets.of_wp λprog w A R s h=>?_
 unfold Builtin.«reversed.__new__»
 refine wpAny_bind (wpAny_of_eq (newClass_reversed _) ?_)
 try dsimp only
 walk_at"o"
 walk_at"o"
 try dsimp only
 refine wpAny_bind (wpAny_specialOf (typeIs_str s x t) F2.yG ?_)
 try dsimp only
 refine wpAny_bind (wpAny_of_eq (a:=true) (by first | rfl | kernel_rfl) ?_)
 rw[if_neg ∅]
 have hn:=eQ
 refine wpAny_bind (len_str () ?_)
 refine wpAny_bind (wpAny_of_eq (a:=some ((x:):Int)) (by first | rfl | kernel_rfl) ?_)
 show wpAny _ _ (Builtin.SmallTypes.newRecord (Value.type "reversed") [Value.str x t,rawInt (((x:):Int) - 1)] >>= _) _ _ _
 walk_at"F"
 unfold Builtin.SmallTypes.newRecord
 refine wpAny_newObj_type ?_ (by size_fits)
 exact wpAny_pure ⟨_,rfl,h _⟩
section
variable{prog:Program}{w:World}{A:Around}{E:Value->Shared->Prop}{s:Shared}
theorem pZ{x:Str}{t:Tok}{Q:Value->Shared->Prop}(hz:(x:)<=sizeLine)(h:∀tk,Q (.ref s.heap.objs.size) { s with heap:=s.heap.push { cls:= .type "reversed",data:= .fields #[.str x t,rawInt (((x:):Int) - 1)] },toks:=tk }):
  wpAny (model prog w) A (call (.type "reversed") [.str x t]) Q E s:=
 callType_new F2.pX ⋯ (F.typeCall_reversed_1 _) (F.newCall_reversed_1 _) (λobj=>by unfold argsOk;kernel_rfl) F.entry_reversed_new (pY x t hz)
  λtk=>⟨⟨_,Qae _ rfl,rfl⟩,h tk⟩
def i_(h:Heap)(it:Addr)(x:Str)(t:Tok)(i:Int):Prop:=∃o,h.get? it=some o/\o.cls= .type "reversed"/\o.data= .fields #[.str x t,rawInt i]
theorem i_.typeIs{it:Addr}{x:Str}{t:Tok}{i:Int}(h:i_ s.heap it x t i):s.TypeIs (.ref it) "reversed":=let ⟨o,ho,hc,_⟩:=h;⟨o,ho,hc⟩
theorem p6{it:Addr}{x:Str}{t:Tok}{i:Int}{Q:Value->Shared->Prop}(hit:i_ s.heap it x t i)(h:Q (.ref it) s):wpAny (model prog w) A (pyIter (.ref it)) Q E s:=by
 refine wpAny_pyIter_slot hit.typeIs F2.ff (wpAny_call_entry F2.ff hit.typeIs F2.i9 ?_ (F2.iI _))
 show wpAny _ _ (ret (.ref it)) _ _ s
 exact wpAny_pure ⟨_,rfl,"reversed",_,hit.typeIs,F2.bu.lookup,h⟩
theorem oG{it:Addr}{x:Str}{t:Tok}{i c:Nat}{Q:Option Value->Shared->Prop}(hit:i_ s.heap it x t (i:Int))(hx:x.cps[i]? =some c)(hz:(x:)<=sizeLine)
  (hQ:∀h' tk u,i_ h' it x t ((i:Int) - 1)->Heap.SameBut it s.heap h'->Q (some (.str ⟨#[c]⟩ u)) { s with heap:=h',toks:=tk }):wpAny (model prog w) A (pyNext (.ref it)) Q E s:=by
 obtain ⟨o,ho,hc,hd⟩:=id hit
 have hn:=eQ
 have hi:i<(x:):=(Array.getElem?_eq_some_iff.mp hx).1
 unfold pyNext
 refine wpAny_bind (wpAny_attempt (wpAny_callSpecial?_slot (name:=Str.ofString "__next__") hit.typeIs F2.bu
  (wpAny_call_entry F2.bu hit.typeIs F2.eF ?_ (F2.dM _))))
 unfold Builtin.«reversed.__next__»
 walk_at"z"
 try dsimp only
 refine wpAny_bind (wpAny_field ho hd (x:= .str x t) rfl ?_)
 walk_at"v"
 show wpAny _ _ (if (i:Int)<0 then _ else _) _ _ s
 rw[if_neg ()]
 refine wpAny_bind (wpAny_specialOf (typeIs_str s x t) F.slot_str_getitem.lookup ?_)
 show wpAny _ _ (if (some (Value.builtin _)).isNone=true then _ else _) _ _ s
 rw[if_neg ∅]
 refine wpAny_bind (wpAny_mkInt ?_)
 refine wpAny_bind (wpAny_attempt (getItem_str (c:=c) (by
  have e1:decide ((i:Int)< -(2 ^ 63:Int))=false:=decide_eq_false ()
  have e2:decide ((i:Int) ≥ 2 ^ 63)=false:=decide_eq_false ()
  rw[e1,e2,Qfj]) (by rw[seqIndex_of () (),Xt];exact hx) ?_))
 show wpAny _ _ (field (Value.ref it) 1 >>= _) _ _ _
 walk_at"v"
 show wpAny _ _ (setField (Value.ref it) 1 (rawInt ((i:Int) - 1)) >>= _) _ _ _
 walk_at"M"
 refine wpAny_pure ⟨_,rfl,wpAny_pure (hQ _ _ _ ?_ (Qed ..))⟩
 exact ⟨_,Qbm _ ho (Obj.isFreed_of_fields (Obj.data_mapFields hd _)),(Obj.cls_mapFields ..).trans hc,by
  rw[Obj.data_mapFields hd];simp⟩
theorem p7{it:Addr}{x:Str}{t:Tok}{Q:Option Value->Shared->Prop}(hh:A.handled=none)(hit:i_ s.heap it x t (-1))
  (hQ:∀h',Heap.ExtBut it s.heap h'->Q none { s with heap:=h' }):wpAny (model prog w) A (pyNext (.ref it)) Q E s:=by
 obtain ⟨o,ho,hc,hd⟩:=id hit
 unfold pyNext
 refine wpAny_bind (wpAny_attempt (wpAny_callSpecial?_slot (name:=Str.ofString "__next__") hit.typeIs F2.bu
  (wpAny_call_entry F2.bu hit.typeIs F2.eF ?_ (F2.dM _))))
 unfold Builtin.«reversed.__next__»
 walk_at"z"
 try dsimp only
 refine wpAny_bind (wpAny_field ho hd (x:= .str x t) rfl ?_)
 refine wpAny_bind (wpAny_field ho hd (x:=rawInt (-1)) rfl ?_)
 show wpAny _ _ (if (-1:Int)<0 then _ else _) _ _ s
 rw[if_pos ∅]
 walk_at"I"
 walk_at"F"
 show wpAny _ _ (setField (Value.ref it) 1 (rawInt (-1)) >>= λ_=>setField (Value.ref it) 0 .none) _ _ _
 walk_at"M"
 walk_at"X"
 first
 | show wpAny _ _ (newExc (.type "StopIteration") [] >>= _) _ _ _
 |(refine wpAny_bind ?_;show wpAny _ _ (newExc (.type "StopIteration") [] >>= _) _ _ _)
 walk_at"F"
 simp only[newExc,newTuple]
 refine wpAny_bind (wpAny_newObj_type ?_ (by size_fits))
 walk_at"T"
 refine wpAny_newObj_type ?_ (by size_fits)
 simp only[raiseNew]
 refine wpAny_bind (wpAny_handled ?_)
 first | rw[show A.in1.handled=none from hh] | rw[hh]
 refine wpAny_bind (wpAny_pure (wpAny_throw ?_))
 refine wpAny_bind (wpAny_isInstance (T:="StopIteration") (b:=true) ⟨_,Qae _ rfl,rfl⟩ isSubtype_stop ?_)
 refine wpAny_pure (hQ _ λb ob hb e=>?_)
 refine VI _ (VI _ ?_)
 exact (Qbb _ _ (Ne.symm hb)).trans ((Qbb _ _ (Ne.symm hb)).trans e)
end
noncomputable def HL(xs:List V):It:=⟨λi _=>i<(xs:),λi H x H'=>H'=H/\xs[i]? =some x,λi _=>(xs:)<=i⟩
theorem fT{l:Z}{i:Nat}{x:V}(h:(cT l)[i]? =some x):∃c,l[i]? =some c/\x= .str (S [c]):=by
 unfold cT at h
 rw[ZN]at h
 cases e:l[i]? with
 | none=>rw[e]at h;cases h
 | some c=>rw[e]at h;cases h;exact ⟨c,rfl,rfl⟩
theorem aW(l:Z):(cT l:)=(l:):=by unfold cT;rw[NA]
theorem DY{P:Program}{w:World}{K:Fr}{tg:Expr}(it:Addr)(l:Z)(t:Tok):Turn P w K tg (HL (cT l)) [it] it (λi h=>h.IsStrIter it (strIterType (S l)) (S l) t i) where
 mem:=by simp
 obj:=λi h st b hb=>by
  have e:b=it:=by simpa using hb
  subst e
  obtain ⟨o,e,c,d⟩:=st
  walk_at"G"
 keep:=λi h h' st k=>let ⟨o,e,r⟩:=st;⟨o,k it (by simp) o e,r⟩
 item:=by
  walk_at"a"
  subst hP hw hK
  have Kh:i<(l:):=by have:i<(cT l:):=hg;rwa [aW]at this
  walk_at"d"
  have fin:∀(v:Value) (h':Heap) (tk:Nat),SignAt (S l) i v->h'.IsStrIter it (strIterType (S l)) (S l) t (i+1)->(∀b o,b∉[it]->s.heap.get? b=some o->h'.get? b=some o)->
    ∃u,some v=some u/\wpAny (model X.prog X.w) X.A (letOwnedTupleGo tg (.ref it) u) (λ_ s2=>∃x H',Inv X pins σ H' s2/\RelV x u/\(HL (cT l)).Dz i H x H'/\s2.heap.IsStrIter it (strIterType (S l)) (S l) t (i+1)/\∀b∈[it],H' b=none) E { s with heap:=h',toks:=tk }:=by
   intro v h' tk hv rD kk
   obtain ⟨c,u,e1,e2⟩:=hv
   subst e2
   walk_at"W"
   obtain ⟨o,e,cc,d⟩:=id rD
   refine ⟨_,rfl,so (s:={ s with heap:=h',toks:=tk }) e cc d (by unfold strIterType;split<;>decide) ⟨.str (S [c]),H,I1,⟨u,rfl⟩,⟨rfl,?_⟩,rD,λb hb=>(hf b hb).1⟩⟩
   unfold cT
   rw[ZN]
   have yH:l[i]? =some c:=by simpa [S]using e1
   rw[yH]
   rfl
  have hsz:i<(S l).cps.size:=by rw[mP];exact Kh
  by_cases ha:(S l).cps.all (· <128)=true
  ·have et:strIterType (S l)="str_ascii_iterator":=by unfold strIterType;rw[if_pos ha]
   rw[et]at st
   exact (Walks.strAscii (prog:=X.prog) (w:=X.w) (I.ok.hd hc) it (S l) t).item i s _ _ hsz st λv h' tk hv rD kk=>fin v h' tk hv (by rw[et];exact rD) kk
  ·have et:strIterType (S l)="str_iterator":=by unfold strIterType;rw[if_neg ha]
   rw[et]at st
   exact (Walks.strWide (prog:=X.prog) (w:=X.w) (I.ok.hd hc) it (S l) t).item i s _ _ hsz st λv h' tk hv rD kk=>fin v h' tk hv (by rw[et];exact rD) kk
 done:=by
  walk_at"a"
  subst hP hw hK
  walk_at"d"
  have Kh:(l:)<=i:=by have:(cT l:)<=i:=hg;rwa [aW]at this
  have hx:(S l).cps[i]? =none:=by rw[Array.getElem?_eq_none_iff,mP];exact Kh
  by_cases ha:(S l).cps.all (· <128)=true
  ·have et:strIterType (S l)="str_ascii_iterator":=by unfold strIterType;rw[if_pos ha]
   rw[et]at st
   exact wpAny_pyNext_ascii_end (I.ok.hd hc) st hx λh' eb=>⟨rfl,I.turned (t':=s.toks) (λb o hb e=>eb b o hb e) f0 f1 f3 f4 f5⟩
  ·have et:strIterType (S l)="str_iterator":=by unfold strIterType;rw[if_neg ha]
   rw[et]at st
   exact wpAny_pyNext_wide_end (I.ok.hd hc) st hx λh' eb=>⟨rfl,I.turned (t':=s.toks) (λb o hb e=>eb b o hb e) f0 f1 f3 f4 f5⟩
 self:=λ_ _ s _ _ st h=>by
  by_cases ha:(S l).cps.all (· <128)=true
  ·have et:strIterType (S l)="str_ascii_iterator":=by unfold strIterType;rw[if_pos ha]
   rw[et]at st
   exact wpAny_pyIter_striter_ascii st h
  ·have et:strIterType (S l)="str_iterator":=by unfold strIterType;rw[if_neg ha]
   rw[et]at st
   exact wpAny_pyIter_striter_wide st h
theorem DZ{P:Program}{w:World}{K:Fr}{tg:Expr}(it:Addr)(l:Z)(t:Tok)(hz:(l:)<=sizeLine):Turn P w K tg (HL (cT l).reverse) [it] it (λi h=>i<=(l:)/\i_ h it (S l) t (((l:):Int) - 1 - (i:Int))) where
 mem:=by simp
 obj:=λi h st b hb=>by
  have e:b=it:=by simpa using hb
  subst e
  obtain ⟨_,o,e,c,d⟩:=st
  walk_at"G"
 keep:=λi h h' st k=>let ⟨q,o,e,r⟩:=st;⟨q,o,k it (by simp) o e,r⟩
 item:=by
  walk_at"a"
  subst hP hw hK
  have Kh:i<(l:):=by have:i<(cT l).reverse.length:=hg;rwa [Qa1,aW]at this
  walk_at"d"
  obtain ⟨_,st⟩:=st
  have e:((l:):Int) - 1 - (i:Int)=(((l:) - 1 - i:Nat):Int):=by lia
  rw[e]at st
  have di:(l:) - 1 - i<(l:):=by lia
  refine oG (c:=l[(l:) - 1 - i]) st (by simp[S,di]) (by rw[dA];exact hz) λh' tk u rD sb=>?_
  walk_at"5"
  obtain ⟨o,e1,cc,d⟩:=id rD
  refine ⟨_,rfl,so (s:={ s with heap:=h',toks:=tk }) e1 cc d ∅ ⟨.str (S [l[(l:) - 1 - i]]),H,I1,⟨u,rfl⟩,⟨rfl,?_⟩,⟨Kh,?_⟩,λb hb=>(hf b hb).1⟩⟩
  ·rw[Qco (by rw[aW];exact Kh),aW]
   unfold cT
   rw[ZN,LK di]
   rfl
  ·have e2:((l:):Int) - 1 - ((i+1:Nat):Int)=(((l:) - 1 - i:Nat):Int) - 1:=by lia
   rw[e2]
   exact rD
 done:=by
  walk_at"a"
  subst hP hw hK
  walk_at"d"
  have Kh:(l:)<=i:=by have:(cT l).reverse.length<=i:=hg;rwa [Qa1,aW]at this
  obtain ⟨hi,st⟩:=st
  have e:((l:):Int) - 1 - (i:Int)= -1:=by lia
  rw[e]at st
  exact p7 (I.ok.hd hc) st λh' eb=>⟨rfl,I.turned (t':=s.toks) (λb o hb e=>eb b o hb e) f0 f1 f3 f4 f5⟩
 self:=λ_ _ _ _ _ st h=>p6 st.2 h
section
variable{X:Cx}{tg:Expr}
def TZ(tl:TE):TI:=λσ H R=>tl σ H λx H1=>∃l,x= .str (S l)/\R (HL (cT l)) H1
theorem mT{l:Expr}{tl:TE}(hl:PE X l tl):PI X tg l (TZ tl):=by
 walk_at"S"
 walk_at"Z"
 obtain ⟨l,rfl,q⟩:=q1
 walk_at"1"
 refine wpAny_pyIter_strU ?_
 refine ⟨s1.heap.objs.size,[s1.heap.objs.size],_,_,H1,rfl,I1.kept (t':=s1.toks) λb o e=>VI _ e,DY _ l t,⟨_,Qae _ rfl,rfl,rfl⟩,λb hb=>?_,q⟩
 have e:b=s1.heap.objs.size:=by simpa using hb
 subst e
 walk_at"E"
def T1(ta:TA):TI:=λσ H R=>ta σ H λvs H1=>∃l,vs=[.str (S l)]/\(l:)<=sizeLine/\R (HL (cT l).reverse) H1
theorem D0{a:Expr}{ta:TA}{p pos:Pos}(hg:Gl X "reversed")(hm:X.mg "reversed"=none)(ha:PA X [a] ta)(hs:starEach [a] X.env=[(false,eval a X.env)]:=by rfl):PI X tg (.Call (.Name "reversed" p) [a] [] pos) (T1 ta):=by
 walk_at"S"
 walk_at"0"
 obtain ⟨l,rfl,hz,q⟩:=q1
 obtain ⟨u,rfl,t,rfl⟩:=vals1 r1
 refine pZ (by rw[dA];exact hz) λtk=>?_
 have hit:i_ (s1.heap.push { cls:= .type "reversed",data:= .fields #[.str (S l) t,rawInt (((S l:):Int) - 1)] }) s1.heap.objs.size (S l) t (((S l:):Int) - 1):=⟨_,Qae _ rfl,rfl,rfl⟩
 refine p6 hit ?_
 refine ⟨s1.heap.objs.size,[s1.heap.objs.size],_,_,H1,rfl,I1.kept (t':=tk) λb o e=>VI _ e,DZ _ l t hz,⟨Qac _,?_⟩,λb hb=>?_,q⟩
 ·have e:((l:):Int) - 1 - ((0:Nat):Int)=((S l:):Int) - 1:=by rw[dA];simp
  rw[e]
  exact hit
 ·have e:b=s1.heap.objs.size:=by simpa using hb
  subst e
  walk_at"E"
end
theorem uE{xs:List V}{g:TG}{tb:TS}{D:Ends}{σ:St}{H:Hp}(Pv:Nat->St->Hp->Prop)(h0:Pv 0 σ H)
  (hs:∀i x σ H,xs[i]? =some x->Pv i σ H->g x σ H λσ2 H2=>tb { D with nx:=Pv (i+1),ct:=Pv (i+1),bk:=D.nx } σ2 H2) (hd:∀σ H,Pv (xs:) σ H->D.nx σ H):
  ∃W:Nat->Nat->St->Hp->Prop,(∃m,W 0 m σ H)/\∀i m σ H,W i m σ H->
   ((HL xs).stop i H/\D.nx σ H)\/((HL xs).go i H/\∃N:St->Hp->Prop,(∀σ' H',N σ' H'->∃m',m'<m/\W (i+1) m' σ' H')/\∀x H',(HL xs).Dz i H x H'->g x σ H' λσ2 H2=>tb { D with nx:=N,ct:=N,bk:=D.nx } σ2 H2):=by
 walk_at"h"
 rintro i m σ H ⟨rfl,hi,p⟩
 by_cases di:i<(xs:)
 ·refine .inr ⟨di,Pv (i+1),λσ' H' p'=>⟨(xs:) - (i+1),(),rfl,di,p'⟩,λx H' y=>?_⟩
  obtain ⟨e,y⟩:=y
  subst e
  exact hs i x σ _ y p
 ·have e:i=(xs:):=by lia
  subst e
  exact .inl ⟨RP _,hd σ H p⟩
theorem lA{J:It}{n:Nat}{xs:Nat->V->Prop}{σc:St}{g:TG}{tc:TT}{te:TE}{Q:VK}{H1:Hp}(Pv:Nat->List V->Hp->Prop)(hn:n<sizeLine)(XB:∀i acc H,i<n->Pv i acc H->J.go i H)(Qh:∀acc H,Pv n acc H->J.stop n H)
  (hy:∀i acc H x H',i<n->Pv i acc H->J.Dz i H x H'->H'=H/\xs i x) (h0:Pv 0 [] H1)
  (hs:∀(i:Nat) (x:V) (acc:List V) (H:Hp) (Nx:List V->Hp->Prop),i<n->xs i x->(acc:)<=i->Pv i acc H->(∀bZ H',(bZ:)<=i+1->Pv (i+1) bZ H'->Nx bZ H')->
   g x σc H λσ2 H2=>Wk σc σ2/\tc σ2 H2 λb H3=>if b=true then te σ2 H3 λv H4=>Nx (acc++[v]) H4 else Nx acc H3)
  (hd:∀acc H D,(acc:)<=n->Pv n acc H->H D=none->Q (.ref D) (upd H D (.lst acc))):lu J σc g tc te Q H1:=by
 refine ⟨λi m acc H=>m=n - i/\i<=n/\(acc:)<=i/\Pv i acc H,⟨n,by simp,Qac _,RP _,h0⟩,?_⟩
 rintro i m acc H ⟨rfl,hi,hl,p⟩
 refine ⟨(),?_⟩
 by_cases di:i<n
 ·refine .inr ⟨XB i acc H di p,λx H' y=>?_⟩
  obtain ⟨rfl,y2⟩:=hy i acc H x H' di p y
  exact hs i x acc _ (λbZ H'=>∃m',m'<n - i/\(m'=n - (i+1)/\i+1<=n/\(bZ:)<=i+1/\Pv (i+1) bZ H')) di y2 hl p λbZ H' h1 h2=>⟨n - (i+1),(),rfl,di,h1,h2⟩
 ·have e:i=n:=by lia
  subst e
  exact .inl ⟨Qh acc H p,λD hD=>hd acc H D hl p hD⟩
theorem ja{xs:List V}{σc:St}{g:TG}{tc:TT}{te:TE}{Q:VK}{H1:Hp}(Pv:Nat->List V->Hp->Prop)(hn:(xs:)<sizeLine)(h0:Pv 0 [] H1)
  (hs:∀(i:Nat) (x:V) (acc:List V) (H:Hp) (Nx:List V->Hp->Prop),i<(xs:)->xs[i]? =some x->(acc:)<=i->Pv i acc H->(∀bZ H',(bZ:)<=i+1->Pv (i+1) bZ H'->Nx bZ H')->
   g x σc H λσ2 H2=>Wk σc σ2/\tc σ2 H2 λb H3=>if b=true then te σ2 H3 λv H4=>Nx (acc++[v]) H4 else Nx acc H3)
  (hd:∀acc H D,(acc:)<=(xs:)->Pv (xs:) acc H->H D=none->Q (.ref D) (upd H D (.lst acc))):lu (HL xs) σc g tc te Q H1:=
 lA (xs:=λi x=>xs[i]? =some x) Pv hn (λi _ _ h _=>h) (λ_ _ _=>RP _) (λi _ H x H' _ _ y=>y) h0 hs hd
theorem wz{lo:Int}{n:Nat}{σc:St}{g:TG}{tc:TT}{te:TE}{Q:VK}{H1:Hp}(Pv:Nat->List V->Hp->Prop)(hn:n<sizeLine)(h0:Pv 0 [] H1)
  (hs:∀(i:Nat) (acc:List V) (H:Hp) (Nx:List V->Hp->Prop),i<n->(acc:)<=i->Pv i acc H->(∀bZ H',(bZ:)<=i+1->Pv (i+1) bZ H'->Nx bZ H')->
   g (.int (lo+i)) σc H λσ2 H2=>Wk σc σ2/\tc σ2 H2 λb H3=>if b=true then te σ2 H3 λv H4=>Nx (acc++[v]) H4 else Nx acc H3)
  (hd:∀acc H D,(acc:)<=n->Pv n acc H->H D=none->Q (.ref D) (upd H D (.lst acc))):lu (J4 lo n) σc g tc te Q H1:=
 lA (xs:=λi x=>x= .int (lo+i)) Pv hn (λi _ _ h _=>h) (λ_ _ _=>RP _) (λi _ H x H' _ _ y=>y) h0 (λi x acc H Nx h1 h2=>by subst h2;exact hs i acc H Nx h1) hd
theorem gW{K:Fr}{a:Addr}{xs:List V}{σc:St}{g:TG}{tc:TT}{te:TE}{Q:VK}{H1:Hp}(Pv:Nat->List V->Hp->Prop)(hn:(xs:)<sizeLine)(hl:∀i acc H,Pv i acc H->a_ K H a xs)(h0:Pv 0 [] H1)
  (hs:∀(i:Nat) (x:V) (acc:List V) (H:Hp) (Nx:List V->Hp->Prop),i<(xs:)->xs[i]? =some x->(acc:)<=i->Pv i acc H->(∀bZ H',(bZ:)<=i+1->Pv (i+1) bZ H'->Nx bZ H')->
   g x σc H λσ2 H2=>Wk σc σ2/\tc σ2 H2 λb H3=>if b=true then te σ2 H3 λv H4=>Nx (acc++[v]) H4 else Nx acc H3)
  (hd:∀acc H D,(acc:)<=(xs:)->Pv (xs:) acc H->H D=none->Q (.ref D) (upd H D (.lst acc))):lu (Nv K a) σc g tc te Q H1:=
 lA (xs:=λi x=>xs[i]? =some x) Pv hn (λi acc H h p=>⟨xs,xs[i],hl i acc H p,by simp[h]⟩) (λacc H p=>⟨xs,hl _ acc H p,RP _⟩) (λi acc H x H' h p y=>⟨y.1,y.2 xs (hl i acc H p)⟩) h0 hs hd
def HM(c:TT)(tb:TS):TS:=λD σ H=>∃W:Nat->St->Hp->Prop,(∃m,W m σ H)/\∀m σ H,W m σ H->
 c σ H λb H1=>if b=true then tb { D with nx:=λσ' H'=>∃m',m'<m/\W m' σ' H',ct:=λσ' H'=>∃m',m'<m/\W m' σ' H',bk:=D.nx } σ H1 else D.nx σ H1
theorem cU{X:Cx}{c:Expr}{body:List Stmt}{tc:TT}{tb:TS}{pos:Pos}(hp:PassesOwn (model X.prog X.w) X.A X.env X.xe)(hc:PT X c tc)(hb:x9 X body tb):PS X (.While c body [] pos) (HM tc tb):=by
 walk_at"y"
 obtain ⟨W,⟨m0,w0⟩,turn⟩:=h
 refine wpAny_While (codeAny_whileLoop (λn s'=>∃σ' H',Inv X pins σ' H' s'/\W n σ' H') ?_ m0 ⟨σ,H,I,w0⟩)
 rintro n s1 ⟨σ1,H1,I1,w1⟩
 refine wpAny_passesOwn hp (cf (hc pins s1 σ1 H1 _ I1 (turn n σ1 H1 w1)) λb s2 ⟨H2,I2,q2⟩=>?_)
 cases b with
 | true=>
  rw[if_pos rfl]at q2 ⊢
  refine wpAny_passesOwn hp (cf (hb pins s2 σ1 H2 _ I2 q2) λf s3 q3=>?_)
  cases f with
  | next=>
   obtain ⟨σ3,H3,I3,m',hm,w3⟩:=q3
   exact ⟨m',hm,σ3,H3,I3,w3⟩
  | cont=>
   obtain ⟨σ3,H3,I3,m',hm,w3⟩:=q3
   exact ⟨m',hm,σ3,H3,I3,w3⟩
  | brk=>exact q3
  | ret v=>exact q3
 | false=>
  rw[if_neg Qah]at q2 ⊢
  exact wpAny_execs_nil ⟨σ1,H2,I2,q2⟩
noncomputable def yI(X:Cx)(scope:Scope):Bool:=(scope.names.all λy=>y.2 != .cell)&&(scope.kind== .function)&&(scope.names.all λy=>y.2 != .free||X.env.kindOf y.1==some .cell||X.env.kindOf y.1==some .free)&&(scope.names.all λy=>y.2 != .local||scope.names.lookup y.1==some .local)
theorem uF{X:Cx}{scope:Scope}(h:yI X scope=true):(∀y∈scope.names,y.2≠ .cell)/\scope.kind= .function/\(∀y∈scope.names,y.2= .free->X.env.kindOf y.1=some .cell\/X.env.kindOf y.1=some .free)/\(∀x∈scope.names,x.2= .local->scope.names.lookup x.1=some .local):=by
 unfold yI at h
 simp only[Qa8]at h
 obtain ⟨⟨⟨h1,h2⟩,h3⟩,h4⟩:=h
 refine ⟨λy hy e=>?_,by simpa using h2,λy hy e=>?_,λy hy e=>?_⟩
 ·have:=Qdx.mp h1 y hy
  rw[e]at this;simp at this
 ·have:=Qdx.mp h3 y hy
  rw[e]at this
  simpa using this
 ·have:=Qdx.mp h4 y hy
  rw[e]at this
  simpa using this
theorem bH{X:Cx}{tg iter elt:Expr}{ifs:List Expr}{scope:Scope}{pos:Pos}{wi:TI}{g:TG}{tc:TT}{te:TE}(Nc:List Str)(ix:List (Option Nat))(hi:PI X tg iter wi)(DR:lh X scope Nc ix)
  (hG:∀C s H fp,PG (cH X scope C Nc s H fp) tg g) (hT:∀C s H fp,PF (cH X scope C Nc s H fp) ifs tc) (hE:∀C s H fp,PE (cH X scope C Nc s H fp) elt te) (bX:yI X scope=true:=by rfl) (sM:X.calm=true:=by rfl)
  (hs:∀x,foldedSetIterable iter X.env x=pure x:=by intro _;rfl):PE X (.ListComp elt [⟨tg,iter,ifs,0⟩] scope pos) (DS wi ix g tc te):=
 let ⟨h1,h2,h3,h4⟩:=uF bX
 HH Nc ix hi sM DR h1 h2 h3 h4 hG hT hE hs
section
variable{X:Cx}
def T3:R2:=λx y H Q=>∃a b,x= .str (S a)/\y= .str (S b)/\Q (.bl (decide (a=b))) H
def T4:R2:=λx y H Q=>∃a b,x= .str (S a)/\y= .str (S b)/\Q (.bl (!decide (a=b))) H
theorem jb:gR X (compareOp .Eq) T3:=by
 walk_at"b"
 obtain ⟨a,b,rfl,rfl,q⟩:=h
 exact J6 pins s σ H _ _ v u Q I rx ry ⟨rfl,by rw[Kd];exact q⟩
theorem LU:gR X (compareOp .NotEq) T4:=by
 walk_at"b"
 obtain ⟨a,b,rfl,rfl,q⟩:=h
 exact DC pins s σ H _ _ v u Q I rx ry ⟨rfl,by rw[Kd];exact q⟩
theorem Ki{i j:Int}:decide (V.int i=V.int j)=decide (i=j):=by
 by_cases h:i=j
 ·subst h;simp
 ·rw[decide_eq_false h,decide_eq_false]
  intro q
  exact h (V.int.inj q)
theorem Qi{i j:Bool}:decide (V.bl i=V.bl j)=decide (i=j):=by
 by_cases h:i=j
 ·subst h;simp
 ·rw[decide_eq_false h,decide_eq_false]
  intro q
  exact h (V.bl.inj q)
theorem kj:gR X (compareOp .Eq) (GY λi j=> .bl (decide (i=j))):=by
 walk_at"b"
 obtain ⟨a,b,rfl,rfl,q⟩:=h
 exact J6 pins s σ H _ _ v u Q I rx ry ⟨rfl,by rw[Ki];exact q⟩
theorem D1:gR X (compareOp .NotEq) (GY λi j=> .bl (!decide (i=j))):=by
 walk_at"b"
 obtain ⟨a,b,rfl,rfl,q⟩:=h
 exact DC pins s σ H _ _ v u Q I rx ry ⟨rfl,by rw[Ki];exact q⟩
def XC(g:Bool->Bool->V):R2:=λx y H Q=>∃i j,x= .bl i/\y= .bl j/\Q (g i j) H
theorem LV:gR X (compareOp .NotEq) (XC λi j=> .bl (!decide (i=j))):=by
 walk_at"b"
 obtain ⟨a,b,rfl,rfl,q⟩:=h
 exact DC pins s σ H _ _ v u Q I rx ry ⟨rfl,by rw[Qi];exact q⟩
def T6(f:Z->Z->Bool):R2:=λx y H Q=>∃a b,x= .str (S a)/\y= .str (S b)/\Q (.bl (f a b)) H
theorem uG:gR X (compareOp .Lt) (T6 λa b=>decide (a<b)):=by
 walk_at"b"
 obtain ⟨a,b,rfl,rfl,q⟩:=h
 exact BM pins s σ H _ _ v u Q I rx ry ⟨S a,S b,rfl,rfl,by rw[eS,eS];exact q⟩
end
section
variable{X:Cx}{tg:Expr}
theorem bB(K:Fr)(h:X.K=K):Lv X (PQ K):=by subst h;exact Hz
theorem bc(K:Fr)(h:X.K=K):Lv X (PR K):=by subst h;exact Lw
def Qj(K:Fr):List V->Hp->VK->Prop:=λxs H Q=>∃p ys,xs=[.ref p]/\(a_ K H p ys\/bW K H p ys)/\Q (.int (ys:)) H
theorem aT(K:Fr)(h:X.K=K):dH X (.builtin "len") (Qj K):=by subst h;exact uw
theorem jc(K:Fr)(h:X.K=K):Ag X "str.join" (DW K):=by subst h;exact DX
def HN(K:Fr):List V->Hp->VK->Prop:=λxs H Q=>∃p ys,xs=[.ref p]/\(a_ K H p ys\/bW K H p ys)/\∀l,H l=none->Q (.ref l) (upd H l (.lst ys))
theorem rL(K:Fr)(h:X.K=K):dH X (.type "list") (HN K):=by subst h;exact uA
theorem wA(K:Fr)(h:X.K=K):Ls X (PV K):=by subst h;exact HB
theorem b3(K:Fr)(h:X.K=K){l:Expr}{tl:TE}(hl:PE X l tl):PI X tg l (J5 K tl):=by subst h;exact Hq hl
theorem uH(K:Fr)(h:X.K=K){l:Expr}{tl:TE}(hl:PE X l tl):PI X tg l (Pj K tl):=by subst h;exact Lh hl
end
section
variable{X:Cx}{o e:Expr}{es:List Expr}{to:TE}{t:TA}{name:Str}{apos iQ:Pos}{T id:String}{r:V->List V->Hp->VK->Prop}
theorem fg(K:Fr)(hK:X.K=K)(pa:PlainAttrs T)(slot:Slot T name id)(LC:typeOf (.builtin id)=pure (.type "method_descriptor"))(hm:Ag X id r)(ho:PE X o to)
  (pN:attributeBase o name X.env (eval o X.env)=eval o X.env:=by rfl) (nQ:(apos.endLine==iQ.line)=true:=by rfl):PE X (.Call (.Attribute o name apos) [] [] iQ) (PX K T r to):=by
 subst hK
 exact LB pa slot LC hm ho pN nQ
theorem bF(K:Fr)(hK:X.K=K)(pa:PlainAttrs T)(slot:Slot T name id)(LC:typeOf (.builtin id)=pure (.type "method_descriptor"))(hm:Ag X id r)(ho:PE X o to)(ha:PA X (e::es) t)
  (pN:attributeBase o name X.env (eval o X.env)=eval o X.env:=by rfl)
  (LD:((backTo iQ (starEach (e::es) X.env)).all (λx=>!x.1)&&(backToKw iQ (keywordEach [] X.env)).all (λx=>x.1.isSome)
   &&decide (((e::es):)+(([]:List Keyword):)+(if ([]:List Keyword).isEmpty then 0 else 1)<30))=true:=by rfl)
  (nQ:(apos.endLine==iQ.line)=true:=by rfl) (hs:starEach (e::es) X.env=(false,eval e X.env)::starEach es X.env:=by rfl) (yv:(backTo iQ (starEach es X.env)).any (·.1)=false:=by rfl):
  PE X (.Call (.Attribute o name apos) (e::es) [] iQ) (VC K T r to t):=by
 subst hK
 exact PY pa slot LC hm ho ha pN LD nQ hs yv
end
section
variable{X:Cx}
def Qk(K:Fr)(ta:TE):TT:=λσ H Q=>ta σ H λx H'=>∃p xs,x= .ref p/\a_ K H' p xs/\Q (!xs.isEmpty) H'
theorem HP{a:Expr}{ta:TE}(K:Fr)(h:X.K=K)(ha:PE X a ta)(he:∀whole,isTrue a X.env whole=(do let v <-whole;standAt a.pos;holding [v] (truthy v)):=by intro _;rfl):PT X a (Qk K ta):=by
 subst h
 intro pins s σ H Q I hw
 refine isTrue_plain (cf (ha pins s σ H _ I hw) λv s1 ⟨x,H1,I1,r1,q1⟩=>?_) (he _)
 obtain ⟨p,xs,rfl,hq,q⟩:=q1
 exact Ln pins s1 σ H1 _ v Q I1 r1 ⟨_,.inl ⟨xs,hq,rfl⟩,q⟩
theorem eG(K:Fr)(h:X.K=K){es:List Expr}{k:Nat}{t:J3}{n:Nat}{pos:Pos}(hc:X.calm=true)(hs:Pa X es t)
  (hn:(assignEach es X.env:)=n:=by rfl) (kL:(assignEach es X.env).findIdx? (·.1)=none:=by rfl):PG X (.Tuple es k pos) (Pe K n t):=by
 subst h
 exact Lf hc hs hn kL
end
noncomputable def cY(a b:Z):Z:=if b<a then b else a
noncomputable def cg:Z->List Z->Z
 | a,[]=>a
 | a,b::r=>cg (cY a b) r
theorem argBest_lt(bt:Nat->Nat->Bool):∀n,argBest bt n<=n
 | 0=>RP _
 | n+1=>by
  unfold argBest
  split
  ·exact RP _
  ·exact Qc4 (argBest_lt bt n)
section
variable{X:Cx}
theorem D4(K:Fr)(h:X.K=K):gR X (compareOp .In) (RM K false):=by subst h;exact BY
theorem HQ(K:Fr)(h:X.K=K):gR X (compareOp .NotIn) (RM K true):=by subst h;exact uv
end
noncomputable def dj(n:Nat)(l:Z):Z:=(List.replicate n l).flatten
theorem eU(n:Nat)(l:Z):dj (n+1) l=l++dj n l:=by unfold dj;rw[Qfd,Qc5]
theorem yJ(n:Nat)(l:Z):dj (n+1) l=dj n l++l:=by unfold dj;rw[List.replicate_succ',List.flatten_append,Qc5,List.flatten_nil,Qba]
theorem wB(n:Nat)(l:Z):(dj n l:)=n*(l:):=by
 induction n with
 | zero=>simp[dj]
 | succ n ih=>rw[eU,VG,ih,Qcr,Qfq]
theorem sQ(l:Z):∀(n:Nat) (acc:Array Nat),((List.replicate n (S l).cps).foldl (· ++ ·) acc).toList=acc.toList++dj n l
 | 0,acc=>by simp[dj]
 | n+1,acc=>by
  rw[Qfd,Qd3,sQ l n,eU]
  simp[S]
def Ql:R2:=λx y H Q=>∃(l:Z) (i:Int),x= .str (S l)/\y= .int i/\(0<=i/\i<=1000000)/\(l:)*i.toNat<=sizeLine/\Q (.str (S (dj i.toNat l))) H
theorem oZ{X:Cx}:gR X (binaryOp .Mult) Ql:=by
 walk_at"b"
 obtain ⟨l,i,rfl,rfl,⟨h0,h1⟩,hz,q⟩:=h
 walk_at"f"
 walk_at"R"
 have hn:=eQ
 have T7:(S l:)=(l:):=dA l
 have T8:((l:):Int)*i<=2 ^ 63 - 1:=by
  have e:(((l:)*i.toNat:Nat):Int)=((l:):Int)*i:=by rw[Qdi,Int.toNat_of_nonneg h0]
  have:(((l:)*i.toNat:Nat):Int)<=(sizeLine:Int):=by exact_mod_cast hz
  rw[<-e];lia
 refine P.mul_str (x:=S l) (n:=i) (t:=t) (u:=t') (by
  have e1:decide (i< -(2 ^ 63:Int))=false:=decide_eq_false ()
  have e2:decide (i ≥ 2 ^ 63)=false:=decide_eq_false ()
  rw[e1,e2];rfl) (λz _=>?_) (λz _=>?_) ?_
 ·rw[T7]
  have:((l:):Int)<=(2 ^ 63 - 1) / i:=(Int.le_ediv_iff_mul_le ()).mpr T8
  lia
 ·rw[T7]
  show Builtin.Str.tooLong _=false
  unfold Builtin.Str.tooLong
  exact decide_eq_false ()
 ·by_cases z:i<1
  ·rw[if_pos z]
   have e:i.toNat=0:=by lia
   rw[e]at q
   exact ⟨∅,.str _,H,I.tok _,⟨_,rfl⟩,q⟩
  ·rw[if_neg z]
   by_cases z2:(i==1||(S l:)==0)=true
   ·rw[if_pos z2]
    have e:dj i.toNat l=l:=by
     rcases Bool.or_eq_true _ _ |>.mp z2 with e | e
     ·have e:i=1:=by simpa using e
      subst e
      show dj 1 l=l
      rw[eU];simp[dj]
     ·have e:(l:)=0:=by rw[T7]at e;simpa using e
      have e:l=[]:=Qbt.mp e
      subst e
      unfold dj
      simp
    rw[e]at q
    exact ⟨.str _,H,I,⟨_,rfl⟩,q⟩
   ·rw[if_neg z2]
    have e:(⟨(List.replicate i.toNat (S l).cps).foldl (· ++ ·) #[]⟩:Str)=S (dj i.toNat l):=by
     have:=sQ l i.toNat #[]
     show _=(⟨(dj i.toNat l).toArray⟩:Str)
     congr 1
     apply Qeo.mp
     rw[this]
     simp
    rw[e]
    refine ⟨?_,.str _,H,I.tok _,⟨_,rfl⟩,q⟩
    rw[dA,wB,Qcs]
    exact hz
section
variable{X:Cx}{pins:List (Addr×Obj)}{σ:St}{H:Hp}{s:Shared}{h':Heap}
theorem Inv.p8{t':Nat}{ch:List Addr}{T:Addr}{ob:HO}(I:Inv X pins σ H s)(k:∀b o,b∉ch->s.heap.get? b=some o->h'.get? b=some o)(hf:∀b∈ch,oB X pins H b)
  (hT:s.heap.objs.size<=T) (new:cw X.prog X.w (upd H T ob) h' T ob):Inv X pins σ (upd H T ob) { s with heap:=h',toks:=t' }:=by
 have hn:=I.bX.fresh hT
 have JZ:∀b u,H b=some u->b∉ch:=λb u e z=>by rw[(hf b z).1]at e;cases e
 have neT:∀b o,s.heap.get? b=some o->b≠T:=λb o e z=>absurd (Qat (Qag e) hT) (by rw[z];exact Qbe _)
 refine I.step (g':=s.gens) (d':=s.drawn) (ch:=ch) (λb hb=>?_) (λb o _ _ hc e _=>k b o hc e) (λb o _ _ hc e _=>⟨o.slots,k b o hc e⟩) (λb o _ e n=>by rw[ar (neT b o e)];exact n)
  (λb o hc e=>⟨o,k b o hc e⟩) (λb xs e=>by rw[ar (ao e hn)];exact e) (λb o u e=>by rw[ar (ao e hn)];exact e) (λb ps e=>⟨#[],by rw[ar (ao e hn),e];simp⟩) (λm hm=>?_) (λb u e=>?_) I.bare
 ·obtain ⟨_,h2,_,h4,h5,h6⟩:=hf b hb
  exact ⟨h4,h2,h5,h6⟩
 ·obtain ⟨o,es,ep,ho,r⟩:=hm
  exact ⟨o,es,ep,k _ o (λz=>(hf _ z).2.1 rfl) ho,r⟩
 ·by_cases hb:b=T
  ·subst hb;rw[ae]at e;cases e;exact new
  ·rw[ar hb]at e
   refine (I.bX b u e).v9 (λc v hc q=>k c v ?_ q) (λc q=>by rw[ar (ao q hn)];exact q) λc xs q=>by rw[ar (ao q hn)];exact q
   rcases hc with z | z
   ·rw[z];exact JZ b u e
   ·exact JZ c _ z
theorem Inv.uI{t':Nat}{ch:List Addr}(I:Inv X pins σ H s)(k:∀b o,b∉ch->s.heap.get? b=some o->h'.get? b=some o)(hf:∀b∈ch,oB X pins H b):Inv X pins σ H { s with heap:=h',toks:=t' }:=by
 have JZ:∀b u,H b=some u->b∉ch:=λb u e z=>by rw[(hf b z).1]at e;cases e
 refine I.step (g':=s.gens) (d':=s.drawn) (ch:=ch) (λb hb=>?_) (λb o _ _ hc e _=>k b o hc e) (λb o _ _ hc e _=>⟨o.slots,k b o hc e⟩) (λb o _ e n=>n)
  (λb o hc e=>⟨o,k b o hc e⟩) (λb xs e=>e) (λb o u e=>e) (λb ps e=>⟨#[],by rw[e];simp⟩) (λm hm=>?_) (λb u e=>?_) I.bare
 ·obtain ⟨_,h2,_,h4,h5,h6⟩:=hf b hb
  exact ⟨h4,h2,h5,h6⟩
 ·obtain ⟨o,es,ep,ho,r⟩:=hm
  exact ⟨o,es,ep,k _ o (λz=>(hf _ z).2.1 rfl) ho,r⟩
 ·refine (I.bX b u e).v9 (λc v hc q=>k c v ?_ q) (λc q=>q) λc xs q=>q
  rcases hc with z | z
  ·rw[z];exact JZ b u e
  ·exact JZ c _ z
end
noncomputable def NC(l:Z):It:=⟨λi _=>i<(l:),λi H x H'=>∃T c,l[i]? =some c/\x= .ref T/\H T=none/\H'=upd H T (.tup [.int i,.str (S [c])]),λi _=>(l:)<=i⟩
theorem sR{prog:Program}{w:World}{A:Around}(hh:A.handled=none)(it:Addr)(x:Str)(t:Tok):
  Draws prog w A it [it] x.cps.size (λi v=>∃c u,x.cps[i]? =some c/\v= .str ⟨#[c]⟩ u) (λi h=>h.IsStrIter it (strIterType x) x t i):=by
 by_cases ha:x.cps.all (· <128)=true
 ·have et:strIterType x="str_ascii_iterator":=by unfold strIterType;rw[if_pos ha]
  rw[et];exact Draws.strAscii hh it x t
 ·have et:strIterType x="str_iterator":=by unfold strIterType;rw[if_neg ha]
  rw[et];exact Draws.strWide hh it x t
theorem yK{P:Program}{w:World}{K:Fr}{elts:List Expr}{k:Nat}{pos:Pos}(e it:Addr)(Aj:e≠it)(l:Z)(t:Tok):
  Turn P w K (.Tuple elts k pos) (NC l) [e,it] e (λi h=>i<=(l:)/\(∃old,IsEnum h e it i old)/\h.IsStrIter it (strIterType (S l)) (S l) t i) where
 mem:=by simp
 obj:=λi h st b hb=>by
  obtain ⟨_,⟨old,he⟩,o,ho,hc,hd⟩:=st
  rcases ZQ.mp hb with z | z
  ·rw[z];exact ⟨_,he,λv z=>by cases z⟩
  ·rw[VH.mp z];exact ⟨o,ho,λv z=>by rw[hd]at z;cases z⟩
 keep:=λi h h' st kp=>by
  obtain ⟨h1,⟨old,he⟩,o,ho,r⟩:=st
  exact ⟨h1,⟨old,kp e (by simp) _ he⟩,o,kp it (by simp) o ho,r⟩
 item:=by
  walk_at"a"
  subst hP hw hK
  obtain ⟨_,vW,uk⟩:=st
  have D:=sR (prog:=X.prog) (w:=X.w) (A:=X.A.in1) (I.ok.hd hc) it (S l) t
  have W:=WalksT.enumerateD D e Aj (by simpa using Aj) (by simp)
  have hi:i<(S l).cps.size:=by rw[mP];exact hg
  refine W.item i s _ _ hi ⟨vW,uk⟩ λT vals h' tk Qm hT D6 wC hk=>⟨_,rfl,?_⟩
  walk_at"J"
  obtain ⟨tt,x,⟨c,u,T9,rfl⟩,rfl⟩:=Qm
  have Kj:T∉[e,it]:=W.apart i T h' wC
  have wF:h2.IsTuple T #[.int i tt,.str ⟨#[c]⟩ u]:=by
   obtain ⟨o,ho,r⟩:=D6
   exact ⟨o,yL T o Kj ho,r⟩
  have hl:l[i]? =some c:=by simpa [S]using T9
  refine ⟨.ref T,upd H T (.tup [.int i,.str (S [c])]),?_,rfl,⟨T,c,hl,rfl,I.bX.fresh hT,rfl⟩,⟨hg,wD.1,wD.2⟩,λb hb=>?_⟩
  ·refine I.p8 (t':=tk) (h':=h2) (λb o hb y=>yL b o hb (hk b o hb y)) hf hT ?_
   exact ⟨by show 2<=sizeLine;decide,[.int i tt,.str ⟨#[c]⟩ u],.cons ⟨tt,rfl⟩ (.cons ⟨u,rfl⟩ .nil),wF⟩
  ·rw[ar (λz:b=T=>Kj (z▸hb))];exact (hf b hb).1
 done:=by
  walk_at"a"
  subst hP hw hK
  obtain ⟨h1,vW,uk⟩:=st
  have e1:i=(l:):=Qfz h1 hg
  have D:=sR (prog:=X.prog) (w:=X.w) (A:=X.A.in1) (I.ok.hd hc) it (S l) t
  have W:=WalksT.enumerateD D e Aj (by simpa using Aj) (by simp)
  walk_at"V"
  rw[mP, <-e1]
  exact ⟨vW,uk⟩
 self:=λ_ _ s _ _ st h=>by
  obtain ⟨_,⟨old,he⟩,_⟩:=st
  exact wpAny_pyIter_enum he h
def LW(ta:TA):TI:=λσ H R=>ta σ H λvs H1=>∃l,vs=[.str (S l)]/\R (NC l) H1
theorem p9{X:Cx}{elts:List Expr}{k:Nat}{pos':Pos}{a:Expr}{ta:TA}{p pos:Pos}(hg:Gl X "enumerate")(hm:X.mg "enumerate"=none)(ha:PA X [a] ta)(hs:starEach [a] X.env=[(false,eval a X.env)]:=by rfl):PI X (.Tuple elts k pos') (.Call (.Name "enumerate" p) [a] [] pos) (LW ta):=by
 walk_at"S"
 walk_at"m"
 obtain ⟨l,rfl,q⟩:=q1
 obtain ⟨u,rfl,t,rfl⟩:=vals1 r1
 refine call_enumerate_str λh' he hit hsz hk=>?_
 refine wpAny_pyIter_enum he ?_
 refine ⟨s1.heap.objs.size+1,[s1.heap.objs.size+1,s1.heap.objs.size],_,_,H1,rfl,I1.kept (t':=s1.toks) hk,yK _ _ (Qej _) l t,⟨Qac _,⟨_,he⟩,hit⟩,λb hb=>?_,q⟩
 have p_:s1.heap.objs.size<=b:=by
  rcases ZQ.mp hb with z | z
  ·rw[z];exact Qcl _
  ·rw[VH.mp z];exact RP _
 exact I1.oE p_ (I1.bX.fresh p_)
theorem wG{l:Z}{g:TG}{tb:TS}{D:Ends}{σ:St}{H:Hp}(Pv:Nat->St->Hp->Prop)(h0:Pv 0 σ H)
  (hs:∀i c σ H T,l[i]? =some c->Pv i σ H->H T=none->g (.ref T) σ (upd H T (.tup [.int i,.str (S [c])])) λσ2 H2=>tb { D with nx:=Pv (i+1),ct:=Pv (i+1),bk:=D.nx } σ2 H2) (hd:∀σ H,Pv (l:) σ H->D.nx σ H):
  ∃W:Nat->Nat->St->Hp->Prop,(∃m,W 0 m σ H)/\∀i m σ H,W i m σ H->
   ((NC l).stop i H/\D.nx σ H)\/((NC l).go i H/\∃N:St->Hp->Prop,(∀σ' H',N σ' H'->∃m',m'<m/\W (i+1) m' σ' H')/\∀x H',(NC l).Dz i H x H'->g x σ H' λσ2 H2=>tb { D with nx:=N,ct:=N,bk:=D.nx } σ2 H2):=by
 refine ⟨λi m σ H=>m=(l:) - i/\i<=(l:)/\Pv i σ H,⟨(l:),by simp,Qac _,h0⟩,?_⟩
 rintro i m σ H ⟨rfl,hi,p⟩
 by_cases di:i<(l:)
 ·refine .inr ⟨di,Pv (i+1),λσ' H' p'=>⟨(l:) - (i+1),(),rfl,di,p'⟩,λx H' y=>?_⟩
  obtain ⟨T,c,hc,rfl,hn,rfl⟩:=y
  exact hs i c σ _ T hc p hn
 ·have e:i=(l:):=by lia
  subst e
  exact .inl ⟨RP _,hd σ H p⟩
section
variable{X:Cx}
theorem HR{ls:List Z}:∀{its:List Value},Vals (ls.map λl=>V.str (S l)) its->StrsAre its (ls.map S):=by
 induction ls with
 | nil=>intro its r;cases r;exact .nil
 | cons l ls ih=>
  intro its r
  cases r with
  | cons r1 r2=>
   walk_at"1"
   exact .cons _ t (ih r2)
theorem Ak:∀{its:List Value} {ss:List Str},StrsAre its ss->Vals ((ss.map λx=>x.cps.toList).map λl=>V.str (S l)) its
 | _,_,.nil=> .nil
 | _,_,.cons x t h=> .cons ⟨t,by rw[<-Qc]⟩ (Ak h)
theorem sS:∀(p:Str) (r:List Str),risingS p r=true->(p::r).Pairwise λa b=> ¬b.cps.toList<a.cps.toList
 | p,[],_=>List.pairwise_singleton _ _
 | p,x::r,h=>by
  have h':(!ltCps x.cps.toList p.cps.toList&&risingS x r)=true:=h
  rw[Qa8,ltCps_eq]at h'
  have h1: ¬x.cps.toList<p.cps.toList:=by simpa using h'.1
  have ih:=sS x r h'.2
  refine Qcc.mpr ⟨λy hy=>?_,ih⟩
  rcases ZQ.mp hy with z | z
  ·rw[z];exact h1
  ·exact List.le_trans (show p.cps.toList<=x.cps.toList from h1) (show x.cps.toList<=y.cps.toList from List.rel_of_pairwise_cons ih z)
theorem B9{ss:List Str}(h:sortedS ss=true):(ss.map λx=>x.cps.toList).Pairwise λa b=> ¬b<a:=by
 rw[Qbl]
 cases ss with
 | nil=>exact List.Pairwise.nil
 | cons x r=>exact sS x r h
def LX(K:Fr):List V->Hp->VK->Prop:=λxs H Q=>∃(p:Addr) (ls:List Z),xs=[.ref p]/\a_ K H p (ls.map λl=>V.str (S l))/\(ls:)<64/\∀(q:Addr) (T_:List Z),H q=none->T_.Perm ls->(T_.Pairwise λa b=> ¬b<a)->Q (.ref q) (upd H q (.lst (T_.map λl=>V.str (S l))))
theorem lB(K:Fr)(h:X.K=K):dH X (.builtin "sorted") (LX K):=by
 subst h
 walk_at"e"
 obtain ⟨p,ls,rfl,hq,hn,q⟩:=h
 obtain ⟨u,rfl,ru⟩:=vals1 r
 cases ru
 obtain ⟨its,rv,pl,hz⟩:=I.list hq
 have hlen:(its:)=(ls:):=by rw[<-(rv:),NA]
 refine sorted_strs (l:=p) (vs:=its) (ss:=ls.map S) pl.isList (HR rv) () λout Dp h1 h2 h3=>?_
 obtain ⟨e,he⟩:=sortedAll_at s.heap its out
 have wH:(Dp.map λx=>x.cps.toList).Perm ls:=by
  have:=h2.map λx:Str=>x.cps.toList
  rw[Qbo]at this
  have e2:ls.map ((λx:Str=>x.cps.toList) ∘ S)=ls:=by
   have:∀l∈ls,((λx:Str=>x.cps.toList) ∘ S) l=l:=λl _=>eS l
   calc ls.map _=ls.map id:=Qb9 this
    _=ls:=Qfy ls
  rwa [e2]at this
 have nR:=wH.length_eq
 have VQ:(64:Nat)<sizeLine:=by decide
 have LY:(((Dp.map λx=>x.cps.toList).map λl=>V.str (S l)):)<=sizeLine:=by rw[NA,nR];lia
 refine ⟨.ref (s.heap.objs.size+1),_,I.laid (t':=s.toks) (a:=s.heap.objs.size+1) (o:= .lst ((Dp.map λx=>x.cps.toList).map λl=>V.str (S l))) (λb o e=>sortedAll_old e) (Qcl _) ⟨LY,out.toList,e,Ak h1,by simpa [seqObj]using he⟩,rfl,q _ _ (I.bX.fresh (Qcl _)) wH (B9 h3)⟩
theorem Al{ls:List Z}{l:Z}(h:ls.Perm (l.map λc=>[c])):∃l':Z,ls=l'.map (λc=>[c])/\l'.Perm l:=by
 refine ⟨ls.flatten,?_,?_⟩
 ·have hs:∀x∈ls,∃c,x=[c]:=λx hx=>by
   obtain ⟨c,_,e⟩:=Qam.mp (h.mem_iff.mp hx)
   exact ⟨c,e.symm⟩
  clear h
  induction ls with
  | nil=>rfl
  | cons x ls ih=>
   obtain ⟨c,rfl⟩:=hs x ZP
   rw[Qc5,Xs, <-ih λy hy=>hs y (ZO _ hy)]
   rfl
 ·have:=h.flatten
  have e:(l.map λc=>[c]).flatten=l:=by
   clear h this
   induction l with
   | nil=>rfl
   | cons c l ih=>rw[Qad,Qc5,ih];rfl
  rwa [e]at this
theorem Am{l:Z}(h:(l.map λc=>[c]).Pairwise λa b=> ¬b<a):l.Pairwise λa b=>a<=b:=by
 rw[Qbl]at h
 refine h.imp λ{a b} z=>?_
 by_cases y:a<=b
 ·exact y
 ·exact absurd (Qe5.mpr (.inl ())) z
end
section
variable{prog:Program}{w:World}{A:Around}{E:Value->Shared->Prop}{s:Shared}
theorem yM{it tp:Addr}{j:Nat}{xs:Array Value}{y:Value}{Q:Value->Shared->Prop}(hi:s.heap.IsTupleIter it tp j)(ht:s.heap.IsTuple tp xs)(hy:xs[j]? =some y)
  (q:∀h2,h2.IsTupleIter it tp (j+1)->Heap.SameBut it s.heap h2->Q y { s with heap:=h2 }):wpAny (model prog w) A (Builtin.SmallTypes.nextOf (.ref it)) Q E s:=by
 obtain ⟨oi,eo,ec,ed⟩:=id hi
 obtain ⟨ot,et,_,nt,dt⟩:=ht
 unfold Builtin.SmallTypes.nextOf
 walk_at"l"
 refine wpAny_bind (m:=field (.ref it) 0) (wpAny_field eo ed (x:= .ref tp) rfl ?_)
 show wpAny (model prog w) _ (if (Value.ref tp==Value.none)=true then _ else _) _ E s
 rw[if_neg (show ¬(Value.ref tp==Value.none)=true from Qah)]
 refine wpAny_bind (m:=field (.ref it) 1) (wpAny_field eo ed (x:= .int j 0) rfl ?_)
 refine wpAny_bind (m:=seqItems? (.ref tp)) (wpAny_seqItems et dt ?_)
 simp only[Xt,hy]
 refine wpAny_bind (wpAny_setField eo ed (by simp) (wpAny_pure ⟨y,rfl,wpAny_pure (q _ ⟨_,Qbm _ eo (Obj.isFreed_of_fields (Obj.data_mapFields ed _)),(Obj.cls_mapFields ..).trans ec,by rw[Obj.data_mapFields ed];simp[rawInt]⟩ (Qed ..))⟩))
theorem B_{it tp:Addr}{j:Nat}{xs:Array Value}{Q:Value->Shared->Prop}(hh:A.handled=none)(hi:s.heap.IsTupleIter it tp j)(ht:s.heap.IsTuple tp xs)(hy:xs[j]? =none)
  (q:∀h2 e,Heap.ExtBut it s.heap h2->(∃o,h2.get? e=some o/\o.cls= .type "StopIteration")->E (.ref e) { s with heap:=h2 }):wpAny (model prog w) A (Builtin.SmallTypes.nextOf (.ref it)) Q E s:=by
 obtain ⟨oi,eo,ec,ed⟩:=id hi
 obtain ⟨ot,et,_,nt,dt⟩:=ht
 unfold Builtin.SmallTypes.nextOf
 walk_at"l"
 refine wpAny_bind (m:=field (.ref it) 0) (wpAny_field eo ed (x:= .ref tp) rfl ?_)
 show wpAny (model prog w) _ (if (Value.ref tp==Value.none)=true then _ else _) _ E s
 rw[if_neg (show ¬(Value.ref tp==Value.none)=true from Qah)]
 refine wpAny_bind (m:=field (.ref it) 1) (wpAny_field eo ed (x:= .int j 0) rfl ?_)
 refine wpAny_bind (m:=seqItems? (.ref tp)) (wpAny_seqItems et dt ?_)
 simp only[Xt,hy]
 refine wpAny_bind (wpAny_rule (wpAny_bind (wpAny_setField eo ed (by simp) ?_)))
 refine wpAny_bind (m:=newExc (.type "StopIteration") []) ?_
 simp only[newExc,newTuple]
 refine wpAny_bind (wpAny_newObj_type (wpAny_bind (m:=firstArgMember _ _) (wpAny_of_eq (a:=Value.none) (by first | rfl | (simp only[firstArgMember];rfl)) (wpAny_newObj_type ?_ (by size_fits)))) (by size_fits))
 simp only[raiseNew]
 refine wpAny_bind (wpAny_handled ?_);first | rw[show A.in1.handled=none from hh] | rw[hh]
 exact wpAny_bind (wpAny_pure (wpAny_throw (q _ _ (((Qed ..).extBut.push _).push _) ⟨_,Qae _ rfl,rfl⟩)))
theorem nV(hh:A.handled=none)(it tp:Addr)(ne:tp≠it)(xs:Array Value):
  Draws prog w A it [it,tp] xs.size (λi v=>xs[i]? =some v) (λi h=>h.IsTupleIter it tp i/\h.IsTuple tp xs) where
 live:=λ_ _ z=>let ⟨o,e,_⟩:=z.1;⟨o,e⟩
 frame:=λ_ _ _ z k=>by
  obtain ⟨⟨o,e,r⟩,o2,e2,r2⟩:=z
  exact ⟨⟨o,k it (by simp) o e,r⟩,o2,k tp (by simp) o2 e2,r2⟩
 item:=λi s Q E hi z q=>yM z.1 z.2 (y:=xs[i]) (by simp[hi]) λh2 z2 sb=>q _ h2 s.toks (by simp[hi]) ⟨z2,z.2.extBut sb.extBut ne⟩ sb
 done:=λs Q E z q=>B_ hh z.1 z.2 (by simp) q
theorem wI(l:Addr)(items:Array Value)(n:Nat)(Ua:Option Addr)(sl:Array (Option Value)):
  Meets (Builtin.«enumerate.__new__» ⟨[.type "enumerate",.ref l],[]⟩) (λ_ R s=>s.heap.get? l=some { cls:= .type "tuple",dict:=Ua,data:= .seq items n,slots:=sl }/\
   R (.ok (.ret (.ref (s.heap.push { cls:= .type "tuple_iterator",data:= .fields #[.ref l,.int 0 0] }).objs.size)))
    { s with heap:=(s.heap.push { cls:= .type "tuple_iterator",data:= .fields #[.ref l,.int 0 0] }).push { cls:= .type "enumerate",data:= .fields #[.none,.bool false,.ref s.heap.objs.size,rawInt 0,.none,.none] } }):=
 .of_wp λprog w A R s h=>by
  obtain ⟨hp,g,d,tk,os⟩:=s;obtain ⟨hl,q⟩:=h;have XD:=sub_enumerate
  have hT:Heap.IsTuple (Shared.heap ⟨hp,g,d,tk,os⟩) l items:=⟨_,hl,rfl,n,rfl⟩
  wp_walk using AutoSeq1.wpAny_loadPart' hl
  refine wpAny_stack_any λst=>wpAny_pure ?_
  split
  ·rename_i c _ _ _ _ _
   cases (c==Value.type "enumerate")<;>(wp_walk using AutoSeq1.wpAny_loadPart' hl,wpAny_pyIter_tuple hT;exact ⟨_,rfl,q⟩)
  ·wp_walk using AutoSeq1.wpAny_loadPart' hl,wpAny_pyIter_tuple hT
   exact ⟨_,rfl,q⟩
theorem yN{l:Addr}{items:Array Value}{Q:Value->Shared->Prop}(hL:s.heap.IsTuple l items)
  (h:∀h',IsEnum h' (s.heap.objs.size+1) s.heap.objs.size 0 .none->h'.IsTupleIter s.heap.objs.size l 0->(∀b o,s.heap.get? b=some o->h'.get? b=some o)->Q (.ref (s.heap.objs.size+1)) { s with heap:=h' }):
  wpAny (model prog w) A (call (.type "enumerate") [.ref l]) Q E s:=by
 obtain ⟨⟨c,Ua,dt,sl⟩,hl,hc,n,hd⟩:=hL
 cases (show c= .type "tuple" from hc)
 cases (show dt= .seq items n from hd)
 refine callType_new F.called_enumerate ∅ (F.typeCall_enumerate_1 _) (F.newCall_enumerate_1 _) (λob=>F.args_object_init_2 ob _) F.entry_enumerate_new (wI l items n Ua sl) ⟨hl,?_⟩
 have hz:(s.heap.push { cls:= .type "tuple_iterator",data:= .fields #[.ref l,.int 0 0] }).objs.size=s.heap.objs.size+1:=Qdf ..
 show _/\_
 rw[hz]
 have he:IsEnum ((s.heap.push { cls:= .type "tuple_iterator",data:= .fields #[.ref l,.int 0 0] }).push { cls:= .type "enumerate",data:= .fields #[.none,.bool false,.ref s.heap.objs.size,rawInt 0,.none,.none] }) (s.heap.objs.size+1) s.heap.objs.size 0 .none:=by
  have:=Qae (s.heap.push { cls:= .type "tuple_iterator",data:= .fields #[.ref l,.int 0 0] }) (o:={ cls:= .type "enumerate",data:= .fields #[.none,.bool false,.ref s.heap.objs.size,rawInt 0,.none,.none] }) rfl
  rwa [hz]at this
 exact ⟨⟨_,he,rfl⟩,h _ he ⟨_,VI _ (Qae _ rfl),rfl,rfl⟩ λb o x=>VI _ (VI _ x)⟩
end
noncomputable def D7(K:Fr)(a:Addr):It:=⟨λi H=>∃xs x,bW K H a xs/\xs[i]? =some x,λi H x H'=>∃T y,(∀xs,bW K H a xs->xs[i]? =some y)/\x= .ref T/\H T=none/\H'=upd H T (.tup [.int i,y]),λi H=>∃xs,bW K H a xs/\(xs:)=i⟩
noncomputable def Ca(K:Fr)(a:Addr):It:=⟨λi H=>∃xs x,a_ K H a xs/\xs[i]? =some x,λi H x H'=>∃T y,(∀xs,a_ K H a xs->xs[i]? =some y)/\x= .ref T/\H T=none/\H'=upd H T (.tup [.int i,y]),λi H=>∃xs,a_ K H a xs/\(xs:)=i⟩
theorem yO{P:Program}{w:World}{K:Fr}{elts:List Expr}{k:Nat}{pos:Pos}(e it a:Addr)(Aj:e≠it)(Qn:a≠e)(Qo:a≠it):
  Turn P w K (.Tuple elts k pos) (D7 K a) [e,it] e (λi h=>(∃old,IsEnum h e it i old)/\h.IsTupleIter it a i) where
 mem:=by simp
 obj:=λi h st b hb=>by
  obtain ⟨⟨old,he⟩,o,ho,hc,hd⟩:=st
  rcases ZQ.mp hb with z | z
  ·rw[z];exact ⟨_,he,λv z=>by cases z⟩
  ·rw[VH.mp z];exact ⟨o,ho,λv z=>by rw[hd]at z;cases z⟩
 keep:=λi h h' st kp=>by
  obtain ⟨⟨old,he⟩,o,ho,r⟩:=st
  exact ⟨⟨old,kp e (by simp) _ he⟩,o,kp it (by simp) o ho,r⟩
 item:=by
  walk_at"a"
  subst hP hw hK
  obtain ⟨vW,uk⟩:=st
  obtain ⟨xs,x,hq,hx⟩:=hg
  obtain ⟨its,rv,p,hz⟩:=I.tuple hq
  obtain ⟨u0,hu,ru⟩:=rv.get hx
  have D:=nV (prog:=X.prog) (w:=X.w) (A:=X.A.in1) (I.ok.hd hc) it a Qo its.toArray
  walk_at"n"
  have Ub:i<its.toArray.size:=by rw[Xv];exact (LL.mp hu).1
  refine W.item i s _ _ Ub ⟨vW,uk,p⟩ λT vals h' tk Qm hT D6 wC hk=>⟨_,rfl,?_⟩
  walk_at"J"
  obtain ⟨tt,x2,Qp,rfl⟩:=Qm
  have ex:x2=u0:=by
   rw[List.getElem?_toArray]at Qp
   exact Qaf (Qp.symm.trans hu)
  subst ex
  have Kj:T∉[e,it]:=W.apart i T h' wC
  have wF:h2.IsTuple T #[.int i tt,x2]:=by
   obtain ⟨o,ho,r⟩:=D6
   exact ⟨o,yL T o Kj ho,r⟩
  refine ⟨.ref T,upd H T (.tup [.int i,x]),?_,rfl,⟨T,x,λys hy=>by rw[I.mJ hy hq];exact hx,rfl,I.bX.fresh hT,rfl⟩,⟨wD.1,wD.2.1⟩,λb hb=>?_⟩
  ·refine I.p8 (t':=tk) (h':=h2) (λb o hb y=>yL b o hb (hk b o hb y)) hf hT ?_
   exact ⟨by show 2<=sizeLine;decide,[.int i tt,x2],.cons ⟨tt,rfl⟩ (.cons ru .nil),wF⟩
  ·rw[ar (λz:b=T=>Kj (z▸hb))];exact (hf b hb).1
 done:=by
  walk_at"a"
  subst hP hw hK
  obtain ⟨vW,uk⟩:=st
  obtain ⟨xs,hq,hx⟩:=hg
  obtain ⟨its,rv,p,hz⟩:=I.tuple hq
  have hl:=(rv:)
  have D:=nV (prog:=X.prog) (w:=X.w) (A:=X.A.in1) (I.ok.hd hc) it a Qo its.toArray
  walk_at"n"
  walk_at"V"
  have e1:its.toArray.size=i:=by rw[Xv];lia
  rw[e1]
  exact ⟨vW,uk,p⟩
 self:=λ_ _ s _ _ st h=>by
  obtain ⟨⟨old,he⟩,_⟩:=st
  exact wpAny_pyIter_enum he h
theorem yP{P:Program}{w:World}{K:Fr}{elts:List Expr}{k:Nat}{pos:Pos}(e it a:Addr)(Aj:e≠it)(Qn:a≠e)(Qo:a≠it):
  Turn P w K (.Tuple elts k pos) (Ca K a) [e,it] e (λi h=>(∃old,IsEnum h e it i old)/\h.IsListIter it a i) where
 mem:=by simp
 obj:=λi h st b hb=>by
  obtain ⟨⟨old,he⟩,o,ho,hc,hd⟩:=st
  rcases ZQ.mp hb with z | z
  ·rw[z];exact ⟨_,he,λv z=>by cases z⟩
  ·rw[VH.mp z];exact ⟨o,ho,λv z=>by rw[hd]at z;cases z⟩
 keep:=λi h h' st kp=>by
  obtain ⟨⟨old,he⟩,o,ho,r⟩:=st
  exact ⟨⟨old,kp e (by simp) _ he⟩,o,kp it (by simp) o ho,r⟩
 item:=by
  walk_at"a"
  subst hP hw hK
  obtain ⟨vW,uk⟩:=st
  obtain ⟨xs,x,hq,hx⟩:=hg
  obtain ⟨its,rv,p,hz⟩:=I.list hq
  obtain ⟨u0,hu,ru⟩:=rv.get hx
  have D:=Draws.list (prog:=X.prog) (w:=X.w) (A:=X.A.in1) (I.ok.hd hc) it a Qo its.toArray
  walk_at"n"
  have Ub:i<its.toArray.size:=by rw[Xv];exact (LL.mp hu).1
  refine W.item i s _ _ Ub ⟨vW,uk,p.isList⟩ λT vals h' tk Qm hT D6 wC hk=>⟨_,rfl,?_⟩
  walk_at"J"
  obtain ⟨tt,x2,Qp,rfl⟩:=Qm
  have ex:x2=u0:=by
   rw[List.getElem?_toArray]at Qp
   exact Qaf (Qp.symm.trans hu)
  subst ex
  have Kj:T∉[e,it]:=W.apart i T h' wC
  have wF:h2.IsTuple T #[.int i tt,x2]:=by
   obtain ⟨o,ho,r⟩:=D6
   exact ⟨o,yL T o Kj ho,r⟩
  refine ⟨.ref T,upd H T (.tup [.int i,x]),?_,rfl,⟨T,x,λys hy=>by rw[I.wc hy hq];exact hx,rfl,I.bX.fresh hT,rfl⟩,⟨wD.1,wD.2.1⟩,λb hb=>?_⟩
  ·refine I.p8 (t':=tk) (h':=h2) (λb o hb y=>yL b o hb (hk b o hb y)) hf hT ?_
   exact ⟨by show 2<=sizeLine;decide,[.int i tt,x2],.cons ⟨tt,rfl⟩ (.cons ru .nil),wF⟩
  ·rw[ar (λz:b=T=>Kj (z▸hb))];exact (hf b hb).1
 done:=by
  walk_at"a"
  subst hP hw hK
  obtain ⟨vW,uk⟩:=st
  obtain ⟨xs,hq,hx⟩:=hg
  obtain ⟨its,rv,p,hz⟩:=I.list hq
  have hl:=(rv:)
  have D:=Draws.list (prog:=X.prog) (w:=X.w) (A:=X.A.in1) (I.ok.hd hc) it a Qo its.toArray
  walk_at"n"
  walk_at"V"
  have e1:its.toArray.size=i:=by rw[Xv];lia
  rw[e1]
  exact ⟨vW,uk,p.isList⟩
 self:=λ_ _ s _ _ st h=>by
  obtain ⟨⟨old,he⟩,_⟩:=st
  exact wpAny_pyIter_enum he h
def LZ(K:Fr)(ta:TA):TI:=λσ H R=>ta σ H λvs H1=>∃a,vs=[.ref a]/\(∃xs,bW K H1 a xs)/\R (D7 K a) H1
def L0(K:Fr)(ta:TA):TI:=λσ H R=>ta σ H λvs H1=>∃a,vs=[.ref a]/\(∃xs,a_ K H1 a xs)/\R (Ca K a) H1
theorem lC{X:Cx}(K:Fr)(hK:X.K=K){elts:List Expr}{k:Nat}{pos':Pos}{a:Expr}{ta:TA}{p pos:Pos}(hg:Gl X "enumerate")(hm:X.mg "enumerate"=none)(ha:PA X [a] ta)(hs:starEach [a] X.env=[(false,eval a X.env)]:=by rfl):PI X (.Tuple elts k pos') (.Call (.Name "enumerate" p) [a] [] pos) (LZ K ta):=by
 subst hK
 walk_at"S"
 walk_at"m"
 obtain ⟨b,rfl,⟨xs,hq⟩,q⟩:=q1
 obtain ⟨u,rfl,ru⟩:=vals1 r1
 cases ru
 obtain ⟨its,rv,pl,hz⟩:=I1.tuple hq
 obtain ⟨ob,eb,_⟩:=id pl
 have di:b<s1.heap.objs.size:=Qag eb
 refine yN pl λh' he hit hk=>wpAny_pyIter_enum he ?_
 refine ⟨s1.heap.objs.size+1,[s1.heap.objs.size+1,s1.heap.objs.size],_,_,H1,rfl,I1.kept (t':=s1.toks) hk,yO _ _ b (Qej _) (Qal (Qct di)) (Qal di),⟨⟨_,he⟩,hit⟩,λc hb=>?_,q⟩
 have p_:s1.heap.objs.size<=c:=by
  rcases ZQ.mp hb with z | z
  ·rw[z];exact Qcl _
  ·rw[VH.mp z];exact RP _
 exact I1.oE p_ (I1.bX.fresh p_)
theorem qa{X:Cx}(K:Fr)(hK:X.K=K){elts:List Expr}{k:Nat}{pos':Pos}{a:Expr}{ta:TA}{p pos:Pos}(hg:Gl X "enumerate")(hm:X.mg "enumerate"=none)(ha:PA X [a] ta)(hs:starEach [a] X.env=[(false,eval a X.env)]:=by rfl):PI X (.Tuple elts k pos') (.Call (.Name "enumerate" p) [a] [] pos) (L0 K ta):=by
 subst hK
 walk_at"S"
 walk_at"m"
 obtain ⟨b,rfl,⟨xs,hq⟩,q⟩:=q1
 obtain ⟨u,rfl,ru⟩:=vals1 r1
 cases ru
 obtain ⟨its,rv,pl,hz⟩:=I1.list hq
 obtain ⟨ob,eb,_⟩:=id pl.isList
 have di:b<s1.heap.objs.size:=Qag eb
 refine call_enumerate_list pl.isList λh' he hit hsz hk=>wpAny_pyIter_enum he ?_
 refine ⟨s1.heap.objs.size+1,[s1.heap.objs.size+1,s1.heap.objs.size],_,_,H1,rfl,I1.kept (t':=s1.toks) hk,yP _ _ b (Qej _) (Qal (Qct di)) (Qal di),⟨⟨_,he⟩,hit⟩,λc hb=>?_,q⟩
 have p_:s1.heap.objs.size<=c:=by
  rcases ZQ.mp hb with z | z
  ·rw[z];exact Qcl _
  ·rw[VH.mp z];exact RP _
 exact I1.oE p_ (I1.bX.fresh p_)
theorem jJ{K:Fr}{a:Addr}{xs:List V}{g:TG}{tb:TS}{D:Ends}{σ:St}{H:Hp}(Pv:Nat->St->Hp->Prop)(h0:Pv 0 σ H)(hl:∀i σ H,i<=(xs:)->Pv i σ H->bW K H a xs)
  (hs:∀i x σ H T,xs[i]? =some x->Pv i σ H->H T=none->g (.ref T) σ (upd H T (.tup [.int i,x])) λσ2 H2=>tb { D with nx:=Pv (i+1),ct:=Pv (i+1),bk:=D.nx } σ2 H2) (hd:∀σ H,Pv (xs:) σ H->D.nx σ H):
  ∃W:Nat->Nat->St->Hp->Prop,(∃m,W 0 m σ H)/\∀i m σ H,W i m σ H->
   ((D7 K a).stop i H/\D.nx σ H)\/((D7 K a).go i H/\∃N:St->Hp->Prop,(∀σ' H',N σ' H'->∃m',m'<m/\W (i+1) m' σ' H')/\∀x H',(D7 K a).Dz i H x H'->g x σ H' λσ2 H2=>tb { D with nx:=N,ct:=N,bk:=D.nx } σ2 H2):=by
 walk_at"h"
 rintro i m σ H ⟨rfl,hi,p⟩
 have hq:=hl i σ H hi p
 by_cases di:i<(xs:)
 ·refine .inr ⟨⟨xs,xs[i],hq,by simp[di]⟩,Pv (i+1),λσ' H' p'=>⟨(xs:) - (i+1),(),rfl,di,p'⟩,λx H' y=>?_⟩
  obtain ⟨T,z,hz,rfl,hn,rfl⟩:=y
  exact hs i z σ _ T (hz xs hq) p hn
 ·have e:i=(xs:):=by lia
  subst e
  exact .inl ⟨⟨xs,hq,rfl⟩,hd σ H p⟩
theorem sU{K:Fr}{a:Addr}{xs:List V}{g:TG}{tb:TS}{D:Ends}{σ:St}{H:Hp}(Pv:Nat->St->Hp->Prop)(h0:Pv 0 σ H)(hl:∀i σ H,i<=(xs:)->Pv i σ H->a_ K H a xs)
  (hs:∀i x σ H T,xs[i]? =some x->Pv i σ H->H T=none->g (.ref T) σ (upd H T (.tup [.int i,x])) λσ2 H2=>tb { D with nx:=Pv (i+1),ct:=Pv (i+1),bk:=D.nx } σ2 H2) (hd:∀σ H,Pv (xs:) σ H->D.nx σ H):
  ∃W:Nat->Nat->St->Hp->Prop,(∃m,W 0 m σ H)/\∀i m σ H,W i m σ H->
   ((Ca K a).stop i H/\D.nx σ H)\/((Ca K a).go i H/\∃N:St->Hp->Prop,(∀σ' H',N σ' H'->∃m',m'<m/\W (i+1) m' σ' H')/\∀x H',(Ca K a).Dz i H x H'->g x σ H' λσ2 H2=>tb { D with nx:=N,ct:=N,bk:=D.nx } σ2 H2):=by
 walk_at"h"
 rintro i m σ H ⟨rfl,hi,p⟩
 have hq:=hl i σ H hi p
 by_cases di:i<(xs:)
 ·refine .inr ⟨⟨xs,xs[i],hq,by simp[di]⟩,Pv (i+1),λσ' H' p'=>⟨(xs:) - (i+1),(),rfl,di,p'⟩,λx H' y=>?_⟩
  obtain ⟨T,z,hz,rfl,hn,rfl⟩:=y
  exact hs i z σ _ T (hz xs hq) p hn
 ·have e:i=(xs:):=by lia
  subst e
  exact .inl ⟨⟨xs,hq,rfl⟩,hd σ H p⟩
theorem Cb{l:Z}{σc:St}{g:TG}{tc:TT}{te:TE}{Q:VK}{H1:Hp}(Pv:Nat->List V->Hp->Prop)(hn:(l:)<sizeLine)(h0:Pv 0 [] H1)
  (hs:∀(i c:Nat) (acc:List V) (H:Hp) (T:Addr) (Nx:List V->Hp->Prop),l[i]? =some c->(acc:)<=i->Pv i acc H->H T=none->(∀bZ H',(bZ:)<=i+1->Pv (i+1) bZ H'->Nx bZ H')->
   g (.ref T) σc (upd H T (.tup [.int i,.str (S [c])])) λσ2 H2=>Wk σc σ2/\tc σ2 H2 λb H3=>if b=true then te σ2 H3 λv H4=>Nx (acc++[v]) H4 else Nx acc H3)
  (hd:∀acc H D,(acc:)<=(l:)->Pv (l:) acc H->H D=none->Q (.ref D) (upd H D (.lst acc))):lu (NC l) σc g tc te Q H1:=by
 refine ⟨λi m acc H=>m=(l:) - i/\i<=(l:)/\(acc:)<=i/\Pv i acc H,⟨(l:),by simp,Qac _,RP _,h0⟩,?_⟩
 rintro i m acc H ⟨rfl,hi,hl,p⟩
 refine ⟨(),?_⟩
 by_cases di:i<(l:)
 ·refine .inr ⟨di,λx H' y=>?_⟩
  obtain ⟨T,c,hc,rfl,hT,rfl⟩:=y
  exact hs i c acc _ T (λbZ H'=>∃m',m'<(l:) - i/\(m'=(l:) - (i+1)/\i+1<=(l:)/\(bZ:)<=i+1/\Pv (i+1) bZ H')) hc hl p hT λbZ H' h1 h2=>⟨(l:) - (i+1),(),rfl,di,h1,h2⟩
 ·have e:i=(l:):=by lia
  subst e
  exact .inl ⟨RP _,λD hD=>hd acc H D hl p hD⟩
section
variable{X:Cx}
def HS(K:Fr):V->List V->Hp->VK->Prop:=λx vs H Q=>∃(p:Addr) (l:Z) (c:Nat),x= .ref p/\vs=[.str (S [c])]/\H p=some (.lst (cT l))/\c∈l/\Q (.int (l.idxOf c:Nat)) H
theorem sV(K:Fr)(h:X.K=K):Ag X "list.index" (HS K):=by
 subst h
 walk_at"r"
 obtain ⟨p,l,c,rfl,rfl,hH,hc,q⟩:=h
 cases rx
 obtain ⟨u,rfl,t',rfl⟩:=vals1 rv
 walk_at"p"
 have hz:sizeLine<2 ^ 62:=by decide
 have hj:l.idxOf c<(l:):=Qab hc
 have hlen:(its:)=(l:):=by rw[<-hl];unfold cT;rw[NA]
 have RS:(l:)<=sizeLine:=by rw[<-hlen, <-hl];exact z
 have Uc:∀m (hm:m<its.toArray.size) (vX:m<(l:)),wm (.str (S [c])) its.toArray[m]=decide (l[m]=c):=λm hm vX=>by
  have h1:(cT l)[m]? =some (V.str (S [l[m]])):=by unfold cT;rw[ZN,LK vX];rfl
  obtain ⟨u,hu,ru⟩:=r.get h1
  have e1:its.toArray[m]=u:=by
   rw[List.getElem_toArray]
   exact Qaf ((LK _).symm.trans hu)
  rw[e1,yu ru rfl]
  show decide (S [l[m]]=S [c])=_
  refine decide_eq_decide.mpr ⟨λz=>?_,λz=>by rw[z]⟩
  have:=congrArg (λx:Str=>x.cps.toList) z
  simpa [S]using this
 refine call_meets F.slot_list_index ⟨_,e,rfl⟩ F.entry_list_index (F.args_list_index_2 _ _) (SeqAt.list_indexAt p its.toArray n none #[] (.str (S [c]) t') (wm (.str (S [c]))) (l.idxOf c) (by rw[Xv];lia) () ?_ ?_) ⟨e,?_,?_⟩
 ·rw[Uc _ _ hj];exact decide_eq_true (Qbv hj)
 ·intro m hm di
  rw[Uc m hm ()]
  exact decide_eq_false λz=>by
   have:=List.not_of_lt_findIdx (p:=λx=>x==c) di
   rw[z]at this
   simp at this
 ·intro w hw
  have fs:(cT l).all j5=true:=by
   rw[Qdx];intro v hv
   obtain ⟨d,_,rfl⟩:=Qam.mp hv
   rfl
  exact gT (x:= .str (S [c])) (show RelV (.str (S [c])) _ from ⟨t',rfl⟩) rfl r fs w (by simpa using hw)
 ·exact ⟨.int (l.idxOf c:Nat),H,I.tok _,⟨_,rfl⟩,q⟩
def L1(K:Fr):List V->Hp->VK->Prop:=λxs H Q=>∃p ys,xs=[.ref p]/\((a_ K H p ys/\∀l,H l=none->Q (.ref l) (upd H l (.tup ys)))\/(bW K H p ys/\Q (.ref p) H))
theorem gf(K:Fr)(h:X.K=K):dH X (.type "tuple") (L1 K):=by subst h;exact rG
theorem D8(K:Fr)(h:X.K=K):gR X (binaryOp .Add) (Kb K):=by subst h;exact Hx
end
theorem qb{K:Fr}{a:Addr}{xs:List V}{σc:St}{g:TG}{tc:TT}{te:TE}{Q:VK}{H1:Hp}(Pv:Nat->List V->Hp->Prop)(hn:(xs:)<sizeLine)(hl:∀i acc H,Pv i acc H->bW K H a xs)(h0:Pv 0 [] H1)
  (hs:∀(i:Nat) (x:V) (acc:List V) (H:Hp) (Nx:List V->Hp->Prop),i<(xs:)->xs[i]? =some x->(acc:)<=i->Pv i acc H->(∀bZ H',(bZ:)<=i+1->Pv (i+1) bZ H'->Nx bZ H')->
   g x σc H λσ2 H2=>Wk σc σ2/\tc σ2 H2 λb H3=>if b=true then te σ2 H3 λv H4=>Nx (acc++[v]) H4 else Nx acc H3)
  (hd:∀acc H D,(acc:)<=(xs:)->Pv (xs:) acc H->H D=none->Q (.ref D) (upd H D (.lst acc))):lu (Tg K a) σc g tc te Q H1:=
 lA (xs:=λi x=>xs[i]? =some x) Pv hn (λi acc H h p=>⟨xs,xs[i],hl i acc H p,by simp[h]⟩) (λacc H p=>⟨xs,hl _ acc H p,RP _⟩) (λi acc H x H' h p y=>⟨y.1,y.2 xs (hl i acc H p)⟩) h0 hs hd
theorem An(l a b:Nat):DL (.str (S [l])) [.str (S [a]),.str (S [b])]=(decide (l=a)||decide (l=b)):=by
 have key:∀c:Nat,G1 (.str (S [c])) (.str (S [l]))=decide (l=c):=λc=>by
  show decide (S [c]=S [l])=_
  refine decide_eq_decide.mpr ⟨λz=>?_,λz=>by rw[z]⟩
  have:=congrArg (λx:Str=>x.cps.toList) z
  simpa [S,eq_comm]using this
 unfold DL
 rw[Qce,Qce,List.any_nil,key,key,Qfj]
theorem Ao(e:Nat)(l:Z):DL (.str (S [e])) (cT l)=decide (e∈l):=by
 have key:∀c:Nat,G1 (.str (S [c])) (.str (S [e]))=decide (e=c):=λc=>by
  show decide (S [c]=S [e])=_
  refine decide_eq_decide.mpr ⟨λz=>?_,λz=>by rw[z]⟩
  have:=congrArg (λx:Str=>x.cps.toList) z
  simpa [S,eq_comm]using this
 unfold DL cT
 induction l with
 | nil=>rfl
 | cons c l ih=>
  rw[Qad,Qce,ih,key]
  by_cases z:e=c<;>simp[z]
theorem D9(l:Z):(cT l).all j5=true:=by
 rw[Qdx];intro v hv
 obtain ⟨d,_,rfl⟩:=Qam.mp hv
 rfl
def aY(H H':Hp):Prop:=∀c xs,H c=some (.tup xs)->H' c=some (.tup xs)
theorem aY.trans{H H1 H2:Hp}(a:aY H H1)(b:aY H1 H2):aY H H2:=λc xs h=>b c xs (a c xs h)
theorem aY.of{H H':Hp}(s:aj H H'):aY H H':=λc xs h=>s c _ h
theorem aY.lD{H:Hp}{p:Addr}{ys:List V}{o:HO}(h:H p=some (.lst ys)):aY H (upd H p o):=λc xs e=>by
 rw[ar (λz=>by rw[z,h]at e;cases e)];exact e
section
variable{prog:Program}{w:World}{A:Around}{E:Value->Shared->Prop}{s:Shared}
noncomputable def bP:List Int->List Int->Bool
 | [],[]=>false
 | [],_::_=>true
 | _::_,[]=>false
 | a::r,b::t=>if a=b then bP r t else decide (a<b)
end
end L2
namespace HT
open PySem PySem.Spec PyProof.Rows
end HT
namespace L2
open PySem PySem.Spec PyProof.Rows
section
variable{κ:Type}[DecidableEq κ]
noncomputable def dI(aH:List (κ×V))(k:κ):Option V:=(aH.find? λkv=>decide (kv.1=k)).map (·.2)
noncomputable def putK(aH:List (κ×V))(k:κ)(v:V):List (κ×V):=
 if (aH.any λkv=>decide (kv.1=k))=true then aH.map (λkv=>if kv.1=k then (kv.1,v) else kv) else aH++[(k,v)]
theorem cO{p:κ×V}{r:List (κ×V)}{k:κ}(e:p.1=k):dI (p::r) k=some p.2:=by simp[dI,Qca,e]
theorem cF{p:κ×V}{r:List (κ×V)}{k:κ}(e: ¬p.1=k):dI (p::r) k=dI r k:=by simp[dI,Qca,e]
theorem jd(k:κ):∀aH:List (κ×V),(aH.any λkv=>decide (kv.1=k))=(dI aH k).isSome
 | []=>rfl
 | p::r=>by
  rw[Qce]
  by_cases e:p.1=k
  ·simp only[cO e,decide_eq_true e,Bool.true_or,Option.isSome_some]
  ·rw[cF e,decide_eq_false e,Qfk];exact jd k r
theorem wJ(k j:κ)(y:V):∀aH:List (κ×V),dI (aH.map λkv=>if kv.1=k then (kv.1,y) else kv) j=(dI aH j).map λx=>if j=k then y else x
 | []=>rfl
 | p::r=>by
  have ih:=wJ k j y r
  rw[Qad]
  by_cases h:p.1=k
  ·rw[if_pos h]
   by_cases e:p.1=j
   ·rw[cO (p:=(p.1,y)) e,cO e,Qe0,if_pos (e.symm.trans h)]
   ·rw[cF (p:=(p.1,y)) e,cF e,ih]
  ·rw[if_neg h]
   by_cases e:p.1=j
   ·rw[cO (p:=p) e,cO e,Qe0,if_neg (λz=>h (e.trans z))]
   ·rw[cF (p:=p) e,cF e,ih]
theorem sW(k j:κ)(y:V):∀aH:List (κ×V),dI aH k=none->dI (aH++[(k,y)]) j=if j=k then some y else dI aH j
 | [],_=>by
  by_cases e:k=j
  ·rw[if_pos e.symm];exact cO (p:=(k,y)) e
  ·rw[if_neg (λz=>e z.symm)];exact cF (p:=(k,y)) e
 | p::r,hn=>by
  rw[List.cons_append]
  have hk: ¬p.1=k:=λz=>by rw[cO z]at hn;cases hn
  rw[cF hk]at hn
  have ih:=sW k j y r hn
  by_cases e:p.1=j
  ·rw[cO e,cO e,if_neg (λz=>hk (e.trans z))]
  ·rw[cF e,cF e,ih]
theorem D_(aH:List (κ×V))(k j:κ)(y:V):dI (putK aH k y) j=if j=k then some y else dI aH j:=by
 unfold putK
 by_cases a:(aH.any λkv=>decide (kv.1=k))=true
 ·rw[if_pos a,wJ]
  rw[jd]at a
  by_cases e:j=k
  ·obtain ⟨x,hx⟩:=Option.isSome_iff_exists.mp a
   rw[if_pos e,e,hx,Qe0,if_pos rfl]
  ·rw[if_neg e]
   cases dI aH j with
   | none=>rfl
   | some x=>rw[Qe0,if_neg e]
 ·rw[if_neg a]
  refine sW k j y aH ?_
  rw[jd]at a
  cases q:dI aH k with
  | none=>rfl
  | some x=>rw[q]at a;exact (a rfl).elim
theorem gw(aH:List (κ×V))(k:κ)(v:V):(putK aH k v:)<=(aH:)+1:=by
 unfold putK
 split
 ·rw[NA];lia
 ·rw[VG,Qap,Qf2];lia
theorem wK{aH:List (κ×V)}{k:κ}(v:V)(h:dI aH k=none):putK aH k v=aH++[(k,v)]:=by
 unfold putK
 rw[jd,h]
 exact if_neg ∅
theorem mH.Cc{o:Option V}{u:Option Value}(r:mH o u):o.isSome=u.isSome:=by
 cases o with
 | none=>cases u with
  | none=>rfl
  | some _=>exact (show False from r).elim
 | some _=>cases u with
  | none=>exact (show False from r).elim
  | some _=>rfl
theorem KV.val{aH:List (κ×V)}{vs:List (κ×Value)}(r:KV aH vs)(k:κ):mH (dI aH k) (valueAt vs k):=by
 unfold KV at r
 induction r with
 | nil=>exact True.intro
 | @cons p q ps qs h t ih=>
  obtain ⟨h1,h2⟩:=h
  by_cases e:p.1=k
  ·have e':q.1=k:=h1.symm.trans e
   have b:valueAt (q::qs) k=some q.2:=by simp[valueAt,Qca,e']
   rw[cO e,b];exact h2
  ·have e': ¬q.1=k:=λz=>e (h1.trans z)
   have b:valueAt (q::qs) k=valueAt qs k:=by simp[valueAt,Qca,e']
   rw[cF e,b];exact ih
theorem KV.any{aH:List (κ×V)}{vs:List (κ×Value)}(r:KV aH vs)(k:κ):(aH.any λkv=>decide (kv.1=k))=vs.any λkv=>decide (kv.1=k):=by
 unfold KV at r
 induction r with
 | nil=>rfl
 | cons h t ih=>rw[Qce,Qce,ih,h.1]
theorem KV.L3{aH:List (κ×V)}{vs:List (κ×Value)}(r:KV aH vs)(k:κ){y:V}{u:Value}(ry:RelV y u):
  KV (aH.map λkv=>if kv.1=k then (kv.1,y) else kv) (vs.map λkv=>if kv.1=k then (kv.1,u) else kv):=by
 unfold KV at r ⊢
 induction r with
 | nil=>exact .nil
 | @cons p q ps qs h t ih=>
  rw[Qad,Qad]
  refine .cons ?_ ih
  obtain ⟨h1,h2⟩:=h
  by_cases e:p.1=k
  ·rw[if_pos e,if_pos (h1.symm.trans e)];exact ⟨h1,ry⟩
  ·rw[if_neg e,if_neg (λz=>e (h1.trans z))];exact ⟨h1,h2⟩
theorem KV.put{aH:List (κ×V)}{vs:List (κ×Value)}(r:KV aH vs)(k:κ){y:V}{u:Value}(ry:RelV y u):KV (putK aH k y) (stored vs k u):=by
 unfold putK stored
 rw[r.any k]
 by_cases e:(vs.any λkv=>decide (kv.1=k))=true
 ·rw[if_pos e,if_pos e];exact r.L3 k ry
 ·rw[if_neg e,if_neg e];exact Paired.snoc r ⟨rfl,ry⟩
theorem KV.length{aH:List (κ×V)}{vs:List (κ×Value)}(r:KV aH vs):(aH:)=(vs:):=Paired.length r
end
theorem Ap{P:Program}{w:World}{k:Key}{u:Value}(r:RelV (kV k) u):(bz P w).is k u=true:=by
 cases k with
 | inl i=>obtain ⟨t,e⟩:=(show ∃t,u=Value.int i t from r);subst e;exact v7 P w i t
 | inr x=>obtain ⟨t,e⟩:=(show ∃t,u=Value.str x t from r);subst e;exact v8 P w x t
theorem sX{P:Program}{w:World}:∀{ks:List Key} {us:List Value},Vals (ks.map kV) us->ItemsAre (bz P w) ks us
 | [],_,r=>by rw[List.map_nil]at r;cases r;exact .nil
 | k::ks,_,r=>by
  rw[Qad]at r
  cases r with
  | cons h t=>exact .cons (Ap h) (sX t)
abbrev KT(H:Hp):List (List Key×V)->List (List Key×Addr×Value)->Prop:=Paired λp q=>p.1=q.1/\H q.2.1=some (.tup (p.1.map kV))/\RelV p.2 q.2.2
theorem KT.val{H:Hp}{aH:List (List Key×V)}{xs:List (List Key×Addr×Value)}(r:KT H aH xs)(k:List Key):mH (dI aH k) ((atKey xs k).map (·.2)):=by
 induction r with
 | nil=>exact True.intro
 | @cons p q ps qs h t ih=>
  obtain ⟨h1,_,h2⟩:=h
  by_cases e:p.1=k
  ·have e':q.1=k:=h1.symm.trans e
   have b:atKey (q::qs) k=some q.2:=by simp[atKey,Qca,e']
   rw[cO e,b];exact h2
  ·have e': ¬q.1=k:=λz=>e (h1.trans z)
   have b:atKey (q::qs) k=atKey qs k:=by simp[atKey,Qca,e']
   rw[cF e,b];exact ih
theorem KT.L3{H:Hp}{aH:List (List Key×V)}{xs:List (List Key×Addr×Value)}(r:KT H aH xs)(k:List Key){y:V}{u:Value}(ry:RelV y u):
  KT H (aH.map λkv=>if kv.1=k then (kv.1,y) else kv) (xs.map (putAt k u)):=by
 induction r with
 | nil=>exact .nil
 | @cons p q ps qs h t ih=>
  rw[Qad,Qad]
  refine .cons ?_ ih
  obtain ⟨h1,h2,h3⟩:=h
  unfold putAt
  by_cases e:p.1=k
  ·rw[if_pos e,if_pos (h1.symm.trans e)];exact ⟨h1,h2,ry⟩
  ·rw[if_neg e,if_neg (λz=>e (h1.trans z))];exact ⟨h1,h2,h3⟩
theorem KT.put{H:Hp}{aH:List (List Key×V)}{xs:List (List Key×Addr×Value)}(r:KT H aH xs)(k:List Key){b:Addr}{y:V}{u:Value}(hb:H b=some (.tup (k.map kV)))(ry:RelV y u):
  KT H (putK aH k y) (storedH xs k b u):=by
 have e:(aH.any λkv=>decide (kv.1=k))=(atKey xs k).isSome:=by
  rw[jd,(r.val k).Cc,Option.isSome_map]
 unfold putK storedH
 rw[e]
 by_cases q:(atKey xs k).isSome=true
 ·rw[if_pos q,if_pos q];exact r.L3 k ry
 ·rw[if_neg q,if_neg q];exact Paired.snoc r ⟨rfl,hb,ry⟩
theorem KT.keeps{H H':Hp}{aH:List (List Key×V)}{xs:List (List Key×Addr×Value)}(r:KT H aH xs)(ht:∀b ys,H b=some (.tup ys)->H' b=some (.tup ys)):KT H' aH xs:=
 Paired.K7 r λ_ _ z=>⟨z.1,ht _ _ z.2.1,z.2.2⟩
section
variable{P:Program}{w:World}{H:Hp}{h:Heap}{a:Addr}
theorem Kk{u:HO}(ok:jX P w H h)(e:Rd H a u):cw P w H h a u:=e.ok ok
theorem Ea{aH:List (Key×V)}(ok:jX P w H h)(e:Rd H a (.dK aH)):(aH:)<=sizeLine/\(a==sysModules)=false/\∃vs,KV aH vs/\h.DictOf (bz P w) a vs:=
 show cw P w H h a (.dK aH) from Kk ok e
theorem Qq{aH:List (Key×V)}(ok:jX P w H h)(e:H a=some (.dK aH)):(aH:)<=sizeLine/\(a==sysModules)=false/\∃vs,KV aH vs/\h.DictOf (bz P w) a vs:=Ea ok (.inl e)
theorem uJ{ks:List Key}(ok:jX P w H h)(e:H a=some (.tup (ks.map kV))):(tupleKind (bz P w)).is h ks a:=by
 obtain ⟨_,its,r,o,h1,h2,n,h3⟩:=(show cw P w H h a (.tup (ks.map kV)) from ok a _ e)
 exact ⟨o,its.toArray,n,h1,h2,h3,by simpa using sX r⟩
theorem Eb{aH:List (List Key×V)}(ok:jX P w H h)(e:Rd H a (.dT aH)):(aH:)<=sizeLine/\(a==sysModules)=false/\
  ∃xs,KT H aH xs/\h.DictOfH (tupleKind (bz P w)) a xs:=by
 obtain ⟨z,y,xs,r,o,es,ep,h1,h2,h3,h4,h5⟩:=(show cw P w H h a (.dT aH) from Kk ok e)
 refine ⟨z,y,xs,r,o,es,ep,h1,h2,h3,h4,λx hx=>?_,h5⟩
 have all:∀{l:List (List Key×V)} {m:List (List Key×Addr×Value)},KT H l m->∀x∈m,(tupleKind (bz P w)).is h x.1 x.2.1:=by
  intro l m q
  induction q with
  | nil=>intro x hx;exact nomatch hx
  | @cons p q ps qs hq t ih=>
   intro x hx
   rcases ZQ.mp hx with e | hx
   ·subst e
    exact uJ ok (by rw[<-hq.1];exact hq.2.1)
   ·exact ih x hx
 exact all r x hx
theorem Qr{aH:List (List Key×V)}(ok:jX P w H h)(e:H a=some (.dT aH)):(aH:)<=sizeLine/\(a==sysModules)=false/\
  ∃xs,KT H aH xs/\h.DictOfH (tupleKind (bz P w)) a xs:=Eb ok (.inl e)
end
def qc(H:Hp)(a:Addr)(y:V)(r:Option V):Prop:=
 (∃aH k,Rd H a (.dK aH)/\y=kV k/\r=dI aH k)\/∃aH k b,Rd H a (.dT aH)/\y= .ref b/\H b=some (.tup (k.map kV))/\r=dI aH k
def uK(H:Hp)(a:Addr)(y v:V)(H':Hp):Prop:=
 (∃aH k,H a=some (.dK aH)/\y=kV k/\(aH:)<sizeLine/\H'=upd H a (.dK (putK aH k v)))\/
 ∃aH k b,H a=some (.dT aH)/\y= .ref b/\H b=some (.tup (k.map kV))/\(aH:)<sizeLine/\H'=upd H a (.dT (putK aH k v))
theorem qc.k{H:Hp}{a:Addr}{aH:List (Key×V)}{k:Key}(e:H a=some (.dK aH)):qc H a (kV k) (dI aH k):= .inl ⟨aH,k,.inl e,rfl,rfl⟩
theorem qc.t{H:Hp}{a b:Addr}{aH:List (List Key×V)}{k:List Key}(e:H a=some (.dT aH))(eb:H b=some (.tup (k.map kV))):qc H a (.ref b) (dI aH k):= .inr ⟨aH,k,b,.inl e,rfl,eb,rfl⟩
theorem uK.k{H:Hp}{a:Addr}{aH:List (Key×V)}{k:Key}{v:V}(e:H a=some (.dK aH))(hl:(aH:)<sizeLine):uK H a (kV k) v (upd H a (.dK (putK aH k v))):= .inl ⟨aH,k,e,rfl,hl,rfl⟩
theorem uK.t{H:Hp}{a b:Addr}{aH:List (List Key×V)}{k:List Key}{v:V}(e:H a=some (.dT aH))(eb:H b=some (.tup (k.map kV)))(hl:(aH:)<sizeLine):
  uK H a (.ref b) v (upd H a (.dT (putK aH k v))):= .inr ⟨aH,k,b,e,rfl,eb,hl,rfl⟩
section
variable{X:Cx}{pins:List (Addr×Obj)}{σ:St}{H:Hp}{s:Shared}{a:Addr}{y v:V}{u r:Value}{o:Option V}{A:Around}{E:Value->Shared->Prop}
theorem Inv.big(I:Inv X pins σ H s):sysModules<s.heap.objs.size:=by
 have h:mainGlobals<s.heap.objs.size:=(I.mod.glob.keeps I.bk).lt
 exact Qdm ∅ h
theorem Cd{Q:Value->Shared->Prop}(hu:A.units+1<cLine)(I:Inv X pins σ H s)(g:qc H a y (some v))(ry:RelV y u)(h:∀w' s',Inv X pins σ H s'->RelV v w'->Q w' s'):
  wpAny (model X.prog X.w) A (getItem (.ref a) u) Q E s:=by
 rcases g with ⟨aH,k,e,ey,l⟩ | ⟨aH,k,b,e,ey,eb,l⟩
 ·subst ey
  obtain ⟨z,hd,vs,rel,dd⟩:=Ea I.bX e
  obtain ⟨w',hw,wj⟩:=mH.some_of (v:=v) (o:=valueAt vs k) (by rw[l];exact rel.val k)
  exact wpAny_getItem_of (Ap ry) dd.mapOf hw (h w' _ (I.tok _) wj)
 ·subst ey
  cases (show u=Value.ref b from ry)
  obtain ⟨z,hd,xs,rel,dd⟩:=Eb I.bX e
  obtain ⟨w',hw,wj⟩:=mH.some_of (v:=v) (o:=(atKey xs k).map (·.2)) (by rw[l];exact rel.val k)
  obtain ⟨p,hp,mU⟩:=Qci.mp hw
  refine wpAny_getItem_heap (tupleKind_room_in1 hu) (uJ I.bX eb) dd hp ?_
  rw[mU]
  exact h w' _ (I.tok _) wj
theorem Aq{h':Heap}{t':Nat}{ob:HO}(I:Inv X pins σ H s)(mu:O1 (H a))(hs:Heap.SameBut a s.heap h')(he:∃q,h'.get? a=some q)(new:cw X.prog X.w (upd H a ob) h' a ob):
  Inv X pins σ (upd H a ob) { s with heap:=h',toks:=t' }:=
 I.write (x:=a) (e:=a) mu (.inl rfl) (λb q hb z=>(hs.2 b hb).trans z) he new
theorem L4{P:Program}{w:World}{H':Hp}{h':Heap}{aH:List (Key×V)}{vs:List (Key×Value)}(z:(aH:)<=sizeLine)(hd:(a==sysModules)=false)(rel:KV aH vs)(dd:h'.DictOf (bz P w) a vs):
  cw P w H' h' a (.dK aH):=⟨z,hd,vs,rel,dd⟩
theorem Ce{H':Hp}{Q:Unit->Shared->Prop}(hu:A.units+1<cLine)(I:Inv X pins σ H s)(g:uK H a y v H')(ry:RelV y u)(rv:RelV v r)(h:∀s',Inv X pins σ H' s'->Q Unit.unit s'):
  wpAny (model X.prog X.w) A (setItem (.ref a) u r) Q E s:=by
 rcases g with ⟨aH,k,e,ey,l,eH⟩ | ⟨aH,k,b,e,ey,eb,l,eH⟩
 ·subst ey eH
  obtain ⟨z,hd,vs,rel,dd⟩:=Qq I.bX e
  have hz:(vs:)<=sizeLine:=by rw[<-(rel:)];exact z
  have hl:(putK aH k v:)<=sizeLine:=by have:=gw aH k v;lia
  refine wpAny_setItem_pairs (hsz:=hz) (Ap ry) dd λh' RT hs=>h _ ?_
  have he:∃q,h'.get? a=some q:=let ⟨q,_,_,hq,_⟩:=RT;⟨q,hq⟩
  exact Aq I (by rw[e];exact True.intro) hs he (L4 hl hd (rel.put k rv) RT)
 ·subst ey eH
  cases (show u=Value.ref b from ry)
  obtain ⟨z,hd,xs,rel,dd⟩:=Qr I.bX e
  have hz:(xs:)<=sizeLine:=by rw[<-Paired.length rel];exact z
  have hl:(putK aH k v:)<=sizeLine:=by have:=gw aH k v;lia
  refine wpAny_setItem_heap (hsz:=hz) (tupleKind_room_in1 hu) (uJ I.bX eb) dd λh' RT hs=>h _ ?_
  obtain ⟨q,es,ep,hq,h2,h3,h4,_,h5⟩:=RT
  refine Aq I (by rw[e];exact True.intro) hs ⟨q,hq⟩ ⟨hl,hd,_,(rel.put k eb rv).keeps λc ys ec=>?_,q,es,ep,hq,h2,h3,h4,h5⟩
  rw[ar (O0 ec e (λz=>nomatch z))]
  exact ec
end
def L5(i:Expr):Prop:=∀ov iv,subscripted i false ov iv=operate [ov,iv] (getItem ov iv)
theorem Ar{prog:Program}{w:World}{A:Around}{E:Value->Shared->Prop}{s:Shared}{env:Env}{value slice:Expr}{pos:Pos}{T id:String}{Q:Value->Shared->Prop}
  (hl:typeLookup (.type T) "__getitem__"=pure (some (.builtin id))) (hs:L5 slice)
  (h:wpAny (model prog w) A (eval value env) (λo s₁=>wpAny (model prog w) A (eval slice env) (λi s₂=>s₂.TypeIs o T/\wpAny (model prog w) A (getItem o i) Q E s₂) E s₁) E s):
  wpAny (model prog w) A (eval (.Subscript value slice pos) env) Q E s:=by
 refine Subscript_ (wpAny_mono h (λo s₁ h₁=>wpAny_mono h₁ (λi s₂ h₂=>?_) λ_ _ x=>x) λ_ _ x=>x)
 obtain ⟨hT,h₂⟩:=h₂
 unfold subscriptTail
 walk_at"F"
 rw[getitemInPython_of_ne hT.not_modules]
 refine wpAny_bind (wpAny_specialOf hT hl ?_)
 have fin:wpAny (model prog w) A (subscripted slice false o i) (λr s₃=>wpAny (model prog w) A (letTemporaryGo value o r >>= λ_=>pure r) Q E s₃) E s₂:=by
  rw[hs o i]
  exact wpAny_operating (wpAny_mono h₂ (λr s₃ h₃=>wpAny_bind (wpAny_letTemporaryGo (wpAny_pure h₃))) λ_ _ x=>x)
 first
  | exact wpAny_pure (wpAny_bind fin)
  | exact wpAny_bind (wpAny_pure (wpAny_bind fin))
  | exact wpAny_bind fin
theorem wL{X:Cx}{pins:List (Addr×Obj)}{σ:St}{H:Hp}{s:Shared}{a:Addr}{y:V}{o:Option V}(I:Inv X pins σ H s)(g:qc H a y o):s.TypeIs (.ref a) "dict":=by
 rcases g with ⟨aH,k,e,_,_⟩ | ⟨aH,k,b,e,_,_,_⟩
 ·obtain ⟨_,_,vs,_,dd⟩:=Ea I.bX e
  exact dd.typeIs
 ·obtain ⟨_,_,xs,_,dd⟩:=Eb I.bX e
  exact dd.typeIs
def Qs(td ty:TE):TE:=λσ H Q=>td σ H λx H1=>ty σ H1 λy H2=>∃a v,x= .ref a/\qc H2 a y (some v)/\Q v H2
def Qt(td ty tv:TE):TS:=λD σ H=>tv σ H λv H1=>td σ H1 λx H2=>ty σ H2 λy H3=>∃a H4,x= .ref a/\uK H3 a y v H4/\D.nx σ H4
section
variable{X:Cx}{o i e value:Expr}{pos pos' Py:Pos}{td ty tv:TE}
theorem o5(hu:X.A.units+1<cLine)(ho:PE X o td)(hi:PE X i ty)(hs:L5 i):PE X (.Subscript o i pos) (Qs td ty):=by
 walk_at"i"
 refine Ar PySem.F.slot_dict_getitem.lookup hs (cf (ho pins s σ H _ I h) λu s1 ⟨x,H1,I1,rx,q1⟩=>cf (hi pins s1 σ H1 _ I1 q1) λiv s2 ⟨y,H2,I2,ry,a,v,ex,g,q2⟩=>?_)
 subst ex
 obtain rfl:u=Value.ref a:=rx
 exact ⟨wL I2 g,Cd hu I2 g ry λw' s3 I3 wj=>⟨v,H2,I3,wj,q2⟩⟩
theorem uL(hu:X.A.units+1<cLine)(ho:PE X o td)(hi:PE X i ty)(hv:PE X value tv)(hs:swapsWith value (some (.Subscript o i pos')) pos.line X.env=pure false):
  PS X (.Assign [.Subscript o i pos'] value pos) (Qt td ty tv):=by
 walk_at"y"
 refine wpAny_Assign_Subscript (cf (hv pins s σ H _ I h) λr s1 ⟨v,H1,I1,rv,q1⟩=>cf (ho pins s1 σ H1 _ I1 q1) λu s2 ⟨x,H2,I2,rx,q2⟩=>cf (hi pins s2 σ H2 _ I2 q2) λiv s3 ⟨y,H3,I3,ry,a,H4,ex,g,q3⟩=>?_) hs
 subst ex
 obtain rfl:u=Value.ref a:=rx
 exact Ce hu I3 g ry rv λs4 I4=>⟨σ,H4,I4,q3⟩
end
theorem Ec{P:Program}{w:World}{H:Hp}(h:Heap)(hb:sysModules<h.objs.size):cw P w H (h.push { cls:= .type "dict",data:= .dict #[] }) h.objs.size (.dK []):=
 ⟨Qac _,beq_eq_false_iff_ne.mpr (Ne.symm (Qal hb)),[],.nil,Heap.DictOf.new h⟩
theorem Ed{P:Program}{w:World}{H:Hp}(h:Heap)(hb:sysModules<h.objs.size):cw P w H (h.push { cls:= .type "dict",data:= .dict #[] }) h.objs.size (.dT []):=
 ⟨Qac _,beq_eq_false_iff_ne.mpr (Ne.symm (Qal hb)),[],.nil,_, #[],0,Qae _ rfl,⟨rfl,rfl,rfl⟩,rfl,rfl,Qe7⟩
def L6:TE:=λ_ H Q=>∀p,H p=none->Q (.ref p) (upd H p (.dK []))
def L7:TE:=λ_ H Q=>∀p,H p=none->Q (.ref p) (upd H p (.dT []))
section
variable{X:Cx}{pos:Pos}
theorem Ee:PE X (.Dict [] [] pos) L6:=λpins s σ H Q I h=>
 wpAny_Dict_empty ⟨.ref s.heap.objs.size,_,I.laid (a:=s.heap.objs.size) (o:= .dK []) (t':=s.toks) (λ_ _ q=>VI _ q) (RP _) (Ec s.heap I.big),rfl,h _ (I.bX.fresh (RP _))⟩
theorem Ef:PE X (.Dict [] [] pos) L7:=λpins s σ H Q I h=>
 wpAny_Dict_empty ⟨.ref s.heap.objs.size,_,I.laid (a:=s.heap.objs.size) (o:= .dT []) (t':=s.toks) (λ_ _ q=>VI _ q) (RP _) (Ed s.heap I.big),rfl,h _ (I.bX.fresh (RP _))⟩
end
end L2
namespace L2.F2
open PySem PySem.Spec PyProof.Rows
end L2.F2
namespace L2
open PySem PySem.Spec PyProof.Rows
noncomputable def rM(a b c d:Int):Bool:=if a=c then decide (b<d) else decide (a<c)
section
variable{prog:Program}{w:World}{A:Around}{E:Value->Shared->Prop}{s:Shared}
theorem HU{p q:Addr}{ox oy:Obj}{mx my:Nat}{a b c d:Int}{t1 t2 t3 t4:Tok}{P:PySem.Fin->Shared->Prop}(RU:s.heap.get? p=some ox)(Ud:ox.data= .seq #[.int a t1,.int b t2] mx)
  (Qu:s.heap.get? q=some oy) (As:oy.cls= .type "tuple") (Ue:oy.data= .seq #[.int c t3,.int d t4] my) (h:P (.done (.ret (.bool (rM a b c d)))) s):
  wpAny (model prog w) A (Builtin.«tuple.__lt__» ⟨[.ref p,.ref q],[]⟩) P E s:=by
 have hT:s.TypeIs (.ref q) "tuple":=⟨oy,Qu,As⟩
 show wpAny _ _ (isInstance (.ref q) (.type "tuple") >>= λb=>_) _ _ s
 refine wpAny_bind (wpAny_isInstance (b:=true) hT isSubtype_tuple_tuple ?_)
 walk_at"s"
 refine wpAny_bind (wpAny_tupleItemsOf RU Ud ?_)
 refine wpAny_bind (wpAny_tupleItemsOf Qu Ue ?_)
 walk_at"F"
 show wpAny _ _ (forIn [(Value.int a t1,Value.int c t3),(Value.int b t2,Value.int d t4)] _ _) _ _ _
 rw[Qd2]
 refine wpAny_bind (wpAny_bind (wpAny_eqBool_int ?_))
 unfold rM at h
 by_cases e:a=c
 ·rw[if_pos e]at h
  rw[show (a==c)=true by simp[e]]
  walk_at"s"
  walk_at"Y"
  dsimp only
  rw[Qd2]
  refine wpAny_bind (wpAny_bind (wpAny_eqBool_int ?_))
  by_cases e2:b=d
  ·rw[show (b==d)=true by simp[e2]]
   walk_at"s"
   walk_at"Y"
   dsimp only
   rw[List.forIn_nil]
   walk_at"Y"
   dsimp only
   walk_at"Y"
   rw[decide_eq_false ()]at h
   exact h
  ·rw[show (b==d)=false by simp[e2]]
   simp only[Qeb,if_true]
   walk_at"I"
   refine wpAny_bind (lt_int ?_)
   refine wpAny_bind (wpAny_pure ?_)
   walk_at"Y"
   dsimp only
   walk_at"Y"
   dsimp only
   exact wpAny_pure h
 ·rw[if_neg e]at h
  rw[show (a==c)=false by simp[e]]
  simp only[Qeb,if_true]
  walk_at"I"
  refine wpAny_bind (lt_int ?_)
  refine wpAny_bind (wpAny_pure ?_)
  walk_at"Y"
  dsimp only
  walk_at"Y"
  dsimp only
  exact wpAny_pure h
end
section
variable{X:Cx}
def Ug(K:Fr):R2:=λx y H Q=>∃p q a b c d,x= .ref p/\y= .ref q/\bW K H p [.int a,.int b]/\bW K H q [.int c,.int d]/\Q (.bl (rM a b c d)) H
theorem wM{a b:Int}{us:List Value}(r:Vals [.int a,.int b] us):∃t u,us=[.int a t,.int b u]:=by
 cases r with
 | cons r1 r=>
  cases r with
  | cons r2 r=>
   cases r
   walk_at"1"
   obtain ⟨u,rfl⟩:=r2
   exact ⟨t,u,rfl⟩
theorem L8{k:Nat}(K:Fr)(h:X.K=K)(hr:eN k X.A):gR X (compareOp .Lt) (Ug K):=by
 subst h
 walk_at"b"
 obtain ⟨p,q,a,b,c,d,rfl,rfl,hp,hq,r⟩:=h
 cases rx
 cases ry
 obtain ⟨xs,XE,px,_⟩:=I.tuple hp
 obtain ⟨ys,XF,py,_⟩:=I.tuple hq
 obtain ⟨ox,RU,T9,mx,Ud⟩:=px
 obtain ⟨oy,Qu,As,my,Ue⟩:=py
 obtain ⟨t1,t2,rfl⟩:=wM XE
 obtain ⟨t3,t4,rfl⟩:=wM XF
 have hu:=hr.units
 show wpAny _ _ (richCompare .Lt (.ref p) (.ref q)) _ _ s
 have hT:s.TypeIs (.ref p) "tuple":=⟨ox,RU,T9⟩
 refine wpAny_richCompare_same_room hT ⟨oy,Qu,As⟩ PySem.F.slot_tuple_lt (wpAny_call_entry PySem.F.slot_tuple_lt hT PySem.F.entry_tuple_lt (HU RU Ud Qu As Ue ⟨_,rfl,(λz=>nomatch z),?_⟩) (PySem.F.args_tuple_lt_2 _ _)) ()
 exact ⟨.bl _,H,I,rfl,r⟩
end
section
variable{X:Cx}{st:Stmt}{rest:List Stmt}{t u:TS}
def Uh(t u:TS):TS:=λD σ H=>∃P:St->Hp->Prop,t { D with nx:=P } σ H/\∀σ' H',P σ' H'->u D σ' H'
theorem fU(h1:PS X st t)(h2:x9 X rest u):x9 X (st::rest) (Uh t u):=by
 walk_at"y"
 obtain ⟨P,h,g⟩:=h
 refine wpAny_execs_cons (cf (h1 pins s σ H _ I h) λf s1 q=>?_)
 cases f with
 | ret v=>exact q
 | brk=>exact q
 | cont=>exact q
 | next=>
  obtain ⟨τ,G,J,p⟩:=q
  exact h2 pins s1 τ G D J (g τ G p)
end
section
variable{X:Cx}
theorem HV(K:Fr)(h:X.K=K):Ls X (PN K):=by subst h;exact Lu
end
end L2
namespace L2
open PySem PySem.Spec PyProof.Rows PySem.MeetsSeq PySem.SeqAt
end L2
namespace XL
open PySem PySem.Spec PySem.Calls PyProof.Rows PySem.W Builtin Builtin.ObjectAttr
end XL
namespace XL
open PySem PySem.Spec PySem.Calls PyProof.Rows PySem.W
end XL
namespace L2
open PySem PySem.Spec PyProof.Rows XL
noncomputable def VS(s:Stmt)(j:Nat):Stmt:=match s with
 | .ClassDef _ _ _ b _ _ _ _ _ _ _=>b.getD j (.Pass ⟨0,0,0,0⟩)
 | _=> .Pass ⟨0,0,0,0⟩
def Qv(_ j:Int):Prop:=0<j/\j<18446744073709551616
theorem fu{X:Cx}:gR X (binaryOp .FloorDiv) (rI Qv λi j=> .int (i / j)):=RJ λi j _ _ _ _ _ hc q=>by
 have h1:(0:Int)<j:=hc.1
 have h2:j<18446744073709551616:=hc.2
 have h3:j.natAbs<2 ^ 64:=by lia
 exact floordiv_int () (by rw[Int.fdiv_eq_ediv_of_nonneg i ()];exact q) (.inl (PyProof.noPylong_of_log2 (Qdm ((Nat.log2_lt ()).mpr h3) ∅)))
end L2
namespace PySem
end PySem
namespace L2
open PySem PySem.Spec PyProof.Rows
end L2
namespace L2.F3
open PySem PySem.Spec PyProof.Rows
end L2.F3
namespace L2
open PySem PySem.Spec PyProof.Rows
section
variable{X:Cx}
noncomputable def dg(n:Nat):Z:=((toString (n:Int):String):Str).cps.toList
theorem Ui(n:Nat):((toString (n:Int):String):Str)=S (dg n):=Qc _
theorem Cf{n:Nat}(h:n<2 ^ 60):((n:Int)).natAbs.log2<1920:=by
 rw[Int.natAbs_natCast]
 by_cases z:n=0
 ·subst z;decide
 ·exact (Nat.log2_lt z).mpr (Qat h (Nat.pow_le_pow_right ∅ ∅))
theorem Cg:dH X (.type "str") (λxs H Q=>∃n:Nat,xs=[.int n]/\n<2 ^ 60/\Q (.str (S (dg n))) H):=by
 walk_at"e"
 obtain ⟨n,rfl,hz,q⟩:=h
 refine uo pins s σ H _ us Q I r ⟨n,rfl,Cf hz,?_⟩
 rw[Ui]
 exact q
end
theorem wN:typeLookup (.type "dict") "__len__"=pure (some (.builtin "dict.__len__")):=PySem.F.slot_dict_len.lookup
section
variable{prog:Program}{w:World}{A:Around}{E:Value->Shared->Prop}{s:Shared}{KK:Type}[DecidableEq KK]{knd:PySem.KeyKind prog w KK}
theorem uM{Q:List Value->Shared->Prop}(hh:A.handled=none)(d:Addr)(aH:List (KK×Value))(ep:Nat)(hd:(d==sysModules)=false)(hm:s.heap.DictAt knd d aH ep)(hn:(aH:)<=sizeLine)
  (hQ:∀s' acc,(∀b o,s.heap.get? b=some o->s'.heap.get? b=some o)->s'.gens=s.gens->s'.drawn=s.drawn->s'.os=s.os->ItemsOf (λi v=>∃k x,aH[i]? =some (k,x)/\knd.is k v=true) acc (aH:)->Q acc.toList s'):
  wpAny (model prog w) A (collect (.ref d)) Q E s:=by
 have hT:s.TypeIs (.ref d) "dict":=hm.dictOf.typeIs
 obtain ⟨od,Eg,XG⟩:=id hT
 have Qw:=Qag Eg
 unfold collect
 refine wpAny_bind (wpAny_runValue (codeAny_builtin PySem.F.entry_proto_collect ?_))
 rw[Around.under_plainId PySem.F.plain_proto_collect _]
 show wpAny _ A.in1 (newList [] >>= λl=>again (.builtin "list.__iadd__" ⟨[l,.ref d],[]⟩)) _ _ s
 refine wpAny_bind (wpAny_newObj_type ?_)
 refine wpAny_pure ⟨plainId_quiet PySem.F.plain_list_iadd _,codeAny_builtin PySem.F.entry_list_iadd ?_⟩
 rw[Around.under_plainId PySem.F.plain_list_iadd _]
 show wpAny _ A.in1 (Builtin.List.listExtendWith (.ref s.heap.objs.size) (.ref d) (.ref s.heap.objs.size)) _ _ _
 generalize hH:s.heap.push { cls:= .type "list",data:= .seq ([]:List Value).toArray }=H
 have Uj:H.objs.size=s.heap.objs.size+1:=by rw[<-hH,Qdf]
 have Kl:H.DictAt knd d aH ep:=hm.at' λo e=>by rw[<-hH];exact VI _ e
 have XH:Shared.TypeIs { s with heap:=H } (.ref d) "dict":=Kl.dictOf.typeIs
 have Uk:s.heap.objs.size≠d:=Qex Qw
 unfold Builtin.List.listExtendWith
 refine wpAny_bind (wpAny_typeOf XH ?_)
 have h1:Builtin.List.listSameRef (.ref s.heap.objs.size) (.ref d)=false:=by simp[Builtin.List.listSameRef,Uk]
 rw[if_neg (by rw[h1];decide)]
 refine wpAny_bind (wpAny_pyIter_dict (s:={ s with heap:=H }) hd Kl ?_)
 show wpAny _ A.in1 _ _ _ { s with heap:=H.push { cls:= .type "dict_keyiterator",data:= .fields #[.ref d,.int 0 0,.int (aH:) 0,.int ep 0] } }
 generalize Kc:H.push { cls:= .type "dict_keyiterator",data:= .fields #[.ref d,.int 0 0,.int (aH:) 0,.int ep 0] }=H2
 have vX:H2.DictAt knd d aH ep:=Kl.at' λo e=>by rw[<-Kc];exact VI _ e
 have Ul:Shared.TypeIs { s with heap:=H2 } (.ref d) "dict":=vX.dictOf.typeIs
 refine wpAny_bind (wpAny_holding ?_)
 unfold Builtin.List.listLengthHint
 refine wpAny_bind (wpAny_specialOf Ul wN ?_)
 wp_delta
 refine wpAny_bind (wpAny_isInstance (T:="dict") (b:=true) Ul (by rw[isSubtype_type];kernel_rfl) ?_)
 show wpAny _ A.in1 (typeOf (Value.ref d) >>= _) _ _ _
 refine wpAny_bind (wpAny_typeOf Ul ?_)
 walk_at"Y"
 rw[if_pos ⋯]
 walk_at"I"
 walk_at"F"
 unfold Builtin.List.listTouch
 have hS:H2.get? s.heap.objs.size=some { cls:= .type "list",data:= .seq ([]:List Value).toArray }:=by
  rw[<-Kc];exact VI _ (by rw[<-hH];exact Qae _ rfl)
 refine wpAny_bind (wpAny_updateSeq hS rfl ?_ (Qac _) (Qcm (Qac _)))
 have ND:=Qbm (Obj.mapSeq (λl:Array Value=>l.push .none)) hS rfl
 refine wpAny_updateSeq ND rfl ?_ (by show 1<=sizeLine;decide) (Qac _)
 have XI:=Qbm (Obj.mapSeq (λl:Array Value=>l.pop)) ND rfl
 have Um:∀b o,b≠s.heap.objs.size->H2.get? b=some o->((H2.update s.heap.objs.size (Obj.mapSeq (λl:Array Value=>l.push .none))).update s.heap.objs.size (Obj.mapSeq (λl:Array Value=>l.pop))).get? b=some o:=λb o hb e=>
  (Qbb _ _ (Ne.symm hb)).trans ((Qbb _ _ (Ne.symm hb)).trans e)
 have hit:H2.get? H.objs.size=some { cls:= .type "dict_keyiterator",data:= .fields #[.ref d,.int 0 0,.int (aH:) 0,.int ep 0] }:=by rw[<-Kc];exact Qae _ rfl
 have VT:H.objs.size≠s.heap.objs.size:=by rw[Uj];exact Qej _
 have XJ:d≠H.objs.size:=by rw[Uj];exact Qal (Qct Qw)
 have XM:s.heap.objs.size∉[H.objs.size,d]:=λXN=>by
  rcases ZQ.mp XN with z | z
  ·exact VT z.symm
  ·exact Uk (VH.mp z)
 refine wpAny_pure ⟨plainId_quiet PySem.F.plain_extend_loop _,codeAny_extend_loopS (Walks.dictKeys (knd:=knd) (A:=A.in1) hh H.objs.size d XJ aH ep).toS hn _ XM _ (aH:) 0 _ _ _ rfl (Qac _)
  ⟨⟨_,Um _ _ VT hit,rfl,rfl⟩,vX.at' λo e=>Um d o (Ne.symm Uk) e⟩ XI (ItemsOf.nil _) λs' bZ c' RV XO yC=>?_⟩
 show wpAny _ A (load s.heap.objs.size >>= _) _ _ s'
 refine wpAny_bind (wpAny_load XO ?_)
 refine wpAny_pure (hQ s' bZ (λb ob e=>RV.heap b ob (λhb=>?_) (Um b ob (Qal (Qag e)) (by rw[<-Kc];exact VI _ (by rw[<-hH];exact VI _ e)))) RV.gens RV.drawn RV.os yC)
 have di:=Qag e
 rcases ZQ.mp hb with h | h
 ·exact absurd di (h▸Qbe _)
 ·rw[VH.mp h,Uj]at di;exact absurd di (Nat.not_lt.mpr (Qcl _))
end
section
variable{X:Cx}
theorem Au{aH:List (Key×V)}{vs:List (Key×Value)}(h:KV aH vs):vs.map (·.1)=aH.map (·.1):=by
 induction h with
 | nil=>rfl
 | cons r _ ih=>rw[Qad,Qad,ih,r.1]
end
end L2
namespace XL
open PySem PySem.Spec PySem.Calls PyProof.Rows PySem.W
end XL
namespace L2
open PySem PySem.Spec PyProof.Rows XL
end L2
namespace PySem
open Sem (wp)
section
variable{prog:Program}{w:World}{K:Type}[DecidableEq K](knd:KeyKind prog w K)
def bK(h:Heap)(p:K×List K)(a:Addr):Prop:=∃o v b n,h.get? a=some o/\o.cls= .type "tuple"/\o.data= .seq #[v,.ref b] n/\knd.is p.1 v=true/\IsTupleKey knd h p.2 b
variable{knd}
theorem bK.typeIs{s:Shared}{p:K×List K}{a:Addr}(x:bK knd s.heap p a):s.TypeIs (.ref a) "tuple":=let ⟨o,_,_,_,ho,hc,_⟩:=x;⟨o,ho,hc⟩
theorem bK.inj{h:Heap}{a:Addr}{x y:K×List K}(hx:bK knd h x a)(hy:bK knd h y a):x=y:=by
 obtain ⟨o,v,b,n,ho,_,hd,hi,hj⟩:=hx
 obtain ⟨o',v',b',n',kO,_,v_,nU,HW⟩:=hy
 obtain rfl:o=o':=Qaf (ho.symm.trans kO)
 rw[hd]at v_
 injection v_ with h1 _
 have h2:=congrArg Array.toList h1
 simp only[List.cons.injEq,Value.ref.injEq,and_true]at h2
 obtain ⟨rfl,rfl⟩:=h2
 exact Prod.ext (knd.inj _ _ _ hi nU) (hj.inj HW)
theorem bK.keeps{h h':Heap}{p:K×List K}{a d:Addr}{o:Obj}{es ep}(x:bK knd h p a)(ho:h.get? d=some o)(hd:o.data= .dict es ep)(hs:Heap.SameBut d h h'):bK knd h' p a:=by
 obtain ⟨o',v,b,n,kO,hc,v_,hi,hj⟩:=x
 have cP:a≠d:=by
  rintro rfl
  obtain rfl:o'=o:=Qaf (kO.symm.trans ho)
  rw[hd]at v_;exact nomatch v_
 exact ⟨o',v,b,n,(hs.2 a cP).trans kO,hc,v_,hi,hj.keeps ho hd hs⟩
noncomputable def je(knd:KeyKind prog w K)(p:K×List K):Int:=reduceHash (Builtin.Tuple.tupleHashOf [knd.hash p.1,tupleKeyHash knd p.2])
variable{A:Around}{E:Value->Shared->Prop}{s:Shared}
theorem lE{p:K×List K}{a:Addr}{Q:Int->Shared->Prop}(hu:A.units+1<cLine)(hk:bK knd s.heap p a)(h:Q (je knd p) { s with toks:=s.toks+(1+((p.2:)+1)+1) }):
  wpAny (model prog w) A (pyHash (.ref a)) Q E s:=by
 have hT:=hk.typeIs
 obtain ⟨o,v,b,n,ho,_,hd,hi,hj⟩:=hk
 unfold pyHash
 first | unfold pyHashByItsType | skip
 first | refine wpAny_bind (wpAny_cRoomFor_or (.inr ()) ?_) | skip
 refine wpAny_bind (wpAny_specialOf hT F.slot_tuple_hash.lookup ?_)
 show wpAny _ _ (if (some (Value.builtin "tuple.__hash__")==some Value.none)=true then _ else _) Q E s
 rw[if_neg (by rw[beq_builtin_none];exact Qah)]
 refine wpAny_bind (wpAny_specialOf hT F.slot_tuple_hash.lookup ?_)
 show wpAny _ _ (callSpecialIfBoundUnlessNone? (.ref a) "__hash__" _ >>= _) Q E s
 refine wpAny_bind (wpAny_callSpecialIfBoundUnlessNone?_slot hT F.slot_tuple_hash (wpAny_call_entry F.slot_tuple_hash hT F.entry_tuple_hash ?_ (F.args_tuple_hash_1 _)))
 show wpAny _ _ (Builtin.Tuple.tupleItemsOf (.ref a) >>= _) _ _ s
 refine wpAny_bind (wpAny_tupleItemsOf ho hd ?_)
 walk_at"F"
 rw[<-Qfn]
 refine wpAny_forIn_list _
  (λrest (bb:Array Int) s'=>(rest=[v,.ref b]/\bb.toList=[]/\s'=s)\/(rest=[.ref b]/\bb.toList=[knd.hash p.1]/\s'={ s with toks:=s.toks+1 })\/(rest=[]/\bb.toList=[knd.hash p.1,tupleKeyHash knd p.2]/\s'={ s with toks:=s.toks+1+((p.2:)+1) }))
  _ ?_ ?_ _ _ (.inl ⟨rfl,rfl,rfl⟩)
 ·rintro x rest bb s' (⟨e,hb,rfl⟩ | ⟨e,hb,rfl⟩ | ⟨e,hb,rfl⟩)
  ·cases e
   refine wpAny_bind (knd.pyHash hi ?_)
   first
    | exact wpAny_pure (.inr (.inl ⟨rfl,by simp[hb],rfl⟩))
    | exact wpAny_bind (wpAny_pure (wpAny_pure (.inr (.inl ⟨rfl,by simp[hb],rfl⟩))))
  ·cases e
   refine wpAny_bind (wpAny_pyHash_tuple (knd:=knd) (ks:=p.2) hu hj ?_)
   first
    | exact wpAny_pure (.inr (.inr ⟨rfl,by simp[hb],rfl⟩))
    | exact wpAny_bind (wpAny_pure (wpAny_pure (.inr (.inr ⟨rfl,by simp[hb],rfl⟩))))
  ·cases e
 ·rintro bb s' (⟨e,hb,rfl⟩ | ⟨e,hb,rfl⟩ | ⟨e,hb,rfl⟩)
  ·cases e
  ·cases e
  ·show wpAny _ _ (retInt (Builtin.Tuple.tupleHashOf bb.toList)) _ _ _
   rw[hb]
   refine wpAny_ret_mkInt ?_
   show wpAny _ _ (if (decide (-(2:Int) ^ 63<=Builtin.Tuple.tupleHashOf [knd.hash p.1,tupleKeyHash knd p.2])&&decide (Builtin.Tuple.tupleHashOf [knd.hash p.1,tupleKeyHash knd p.2]<2 ^ 63))=true then _ else _) Q E _
   unfold je reduceHash at h
   by_cases hr:(decide (-(2:Int) ^ 63<=Builtin.Tuple.tupleHashOf [knd.hash p.1,tupleKeyHash knd p.2])&&decide (Builtin.Tuple.tupleHashOf [knd.hash p.1,tupleKeyHash knd p.2]<2 ^ 63))=true
   ·rw[if_pos hr]
    rw[if_pos hr]at h
    exact wpAny_pure (by simpa [Qdy]using h)
   ·rw[if_neg hr]
    rw[if_neg hr]at h
    exact wpAny_bind (wpAny_rule (wpAny_pure (by simpa [Qdy]using h)))
theorem uN{x y:K×List K}{a b:Addr}{P:Fin->Shared->Prop}(hu:A.units<cLine)(hx:bK knd s.heap x a)(hy:bK knd s.heap y b)(h:P (.done (.ret (.bool (decide (x=y))))) s):
  wpAny (model prog w) A (Builtin.«tuple.__eq__» ⟨[.ref a,.ref b],[]⟩) P E s:=by
 have XR:=hy.typeIs
 obtain ⟨oa,u,c,na,XS,_,XT,XU,XW⟩:=hx
 obtain ⟨ob,v,d,nb,XX,_,Hv,XY,XZ⟩:=hy
 show wpAny _ _ (isInstance (.ref b) (.type "tuple") >>= _) _ _ s
 refine wpAny_bind (wpAny_isInstance XR isSubtype_tuple_tuple ?_)
 walk_at"s"
 refine wpAny_bind (wpAny_tupleItemsOf XS XT ?_)
 refine wpAny_bind (wpAny_tupleItemsOf XX Hv ?_)
 walk_at"F"
 refine wpAny_forIn_list _
  (λrest r s'=>r.1=none/\s'=s/\((rest=[(u,v),(.ref c,.ref d)])\/(rest=[(.ref c,.ref d)]/\x.1=y.1)\/(rest=[]/\x=y)))
  _ ?_ ?_ _ _ ⟨rfl,rfl,.inl rfl⟩
 ·rintro ⟨p,q⟩ rest r s' ⟨hr,rfl,e | ⟨e,e1⟩ | ⟨e,_⟩⟩
  ·cases e
   refine wpAny_bind (knd.eqBool (a:=x.1) (b:=y.1) XU XY ?_)
   by_cases hk:x.1=y.1
   ·rw[decide_eq_true hk]
    walk_at"s"
    exact wpAny_pure ⟨rfl,rfl,.inr (.inl ⟨by first | rfl | trivial,hk⟩)⟩
   ·rw[decide_eq_false hk]
    simp only[Qeb,if_true]
    have hf:decide (x=y)=false:=decide_eq_false λz=>hk (congrArg Prod.fst z)
    rw[hf]at h
    exact wpAny_bind (wpAny_pure (wpAny_pure (wpAny_pure h)))
  ·cases e
   refine wpAny_bind (wpAny_eqBool_tuple (knd:=knd) hu XW XZ ?_)
   by_cases hk:x.2=y.2
   ·rw[decide_eq_true hk]
    walk_at"s"
    exact wpAny_pure ⟨rfl,rfl,.inr (.inr ⟨by first | rfl | trivial,Prod.ext e1 hk⟩)⟩
   ·rw[decide_eq_false hk]
    simp only[Qeb,if_true]
    have hf:decide (x=y)=false:=decide_eq_false λz=>hk (congrArg Prod.snd z)
    rw[hf]at h
    exact wpAny_bind (wpAny_pure (wpAny_pure (wpAny_pure h)))
  ·cases e
 ·rintro ⟨r1,r2⟩ s' ⟨hr,rfl,e | ⟨e,e1⟩ | ⟨e,e1⟩⟩
  ·cases e
  ·cases e
  ·simp only at hr
   subst hr
   walk_at"Y"
   show P (.done (.ret (.bool true))) s'
   rw[decide_eq_true e1]at h
   exact h
theorem lF{x y:K×List K}{a b:Addr}{Q:Bool->Shared->Prop}(hu:A.units+1<cLine)(hx:bK knd s.heap x a)(hy:bK knd s.heap y b)(h:Q (decide (x=y)) s):
  wpAny (model prog w) A (eqBool (.ref a) (.ref b)) Q E s:=by
 unfold eqBool
 try with_reducible refine wpAny_holding ?_
 show wpAny _ _ (if (Value.ref a==Value.ref b)=true then _ else _) Q E s
 by_cases mV:(Value.ref a==Value.ref b)=true
 ·rw[if_pos mV]
  have e:a=b:=by have:=eq_of_beq mV;injection this
  subst e
  obtain rfl:=hx.inj hy
  exact wpAny_bind (wpAny_rule (wpAny_pure (by simpa using h)))
 ·rw[if_neg mV]
  exact wpAny_bind (wpAny_richCompare_same_room (op:= .Eq) hx.typeIs hy.typeIs F.slot_tuple_eq
   (wpAny_call_entry F.slot_tuple_eq hx.typeIs F.entry_tuple_eq (uN hu hx hy ⟨_,rfl,(λe=>nomatch e),wpAny_truthy_bool h⟩) (F.args_tuple_eq_2 _ _)) ())
theorem uO{ks:List K}{a:Addr}{Q:Bool->Shared->Prop}(hk:IsTupleKey knd s.heap ks a)(h:Q true s):wpAny (model prog w) A (eqIsQuiet 7 (.ref a)) Q E s:=by
 have hT:=hk.typeIs
 obtain ⟨o,items,n,ho,_,hd,hi⟩:=hk
 unfold eqIsQuiet
 refine wpAny_bind (wpAny_specialOf hT F.slot_tuple_eq.lookup ?_)
 show wpAny _ _ (isInstance (.ref a) (.type "tuple") >>= _) _ _ s
 refine wpAny_bind (wpAny_isInstance hT isSubtype_tuple_tuple ?_)
 walk_at"s"
 refine wpAny_bind (wpAny_seqItems ho hd ?_)
 walk_at"F"
 show wpAny _ _ (forIn items _ _) _ _ s
 rw[<-Qfn]
 refine wpAny_forIn_list _ (λrest r s'=>r.1=none/\s'=s/\∀v∈rest,carriedByValue v=true) _ ?_ ?_ _ _ ⟨rfl,rfl,hi.byValue⟩
 ·rintro v rest r s' ⟨hr,rfl,mM⟩
  rw[eqIsQuiet_byValue _ (mM v ZP)]
  refine wpAny_bind (wpAny_pure ?_)
  walk_at"s"
  exact wpAny_pure ⟨rfl,rfl,λu X0=>mM u (ZO _ X0)⟩
 ·rintro ⟨r1,r2⟩ s' ⟨hr,rfl,_⟩
  simp only at hr
  subst hr
  exact wpAny_pure h
theorem jf{p:K×List K}{a:Addr}{Q:Bool->Shared->Prop}(hk:bK knd s.heap p a)(h:Q true s):wpAny (model prog w) A (eqIsQuiet 8 (.ref a)) Q E s:=by
 have hT:=hk.typeIs
 obtain ⟨o,v,b,n,ho,_,hd,hi,hj⟩:=hk
 unfold eqIsQuiet
 refine wpAny_bind (wpAny_specialOf hT F.slot_tuple_eq.lookup ?_)
 show wpAny _ _ (isInstance (.ref a) (.type "tuple") >>= _) _ _ s
 refine wpAny_bind (wpAny_isInstance hT isSubtype_tuple_tuple ?_)
 walk_at"s"
 refine wpAny_bind (wpAny_seqItems ho hd ?_)
 walk_at"F"
 show wpAny _ _ (forIn #[v,Value.ref b] _ _) _ _ s
 rw[<-Qfn]
 refine wpAny_forIn_list _ (λrest r s'=>r.1=none/\s'=s/\(rest=[v,.ref b]\/rest=[.ref b]\/rest=[])) _ ?_ ?_ _ _ ⟨rfl,rfl,.inl rfl⟩
 ·rintro x rest r s' ⟨hr,rfl,e | e | e⟩
  ·cases e
   rw[eqIsQuiet_byValue _ (knd.byValue _ _ hi)]
   refine wpAny_bind (wpAny_pure ?_)
   walk_at"s"
   exact wpAny_pure ⟨rfl,rfl,.inr (.inl (by first | rfl | trivial))⟩
  ·cases e
   refine wpAny_bind (uO (knd:=knd) hj ?_)
   walk_at"s"
   exact wpAny_pure ⟨rfl,rfl,.inr (.inr (by first | rfl | trivial))⟩
  ·cases e
 ·rintro ⟨r1,r2⟩ s' ⟨hr,rfl,_⟩
  simp only at hr
  subst hr
  exact wpAny_pure h
noncomputable def fz{prog:Program}{w:World}{K:Type}[DecidableEq K](knd:KeyKind prog w K):HeapKind prog w (K×List K) where
 is:=bK knd
 hash:=je knd
 draws:=λp=>1+((p.2:)+1)+1
 room:=λA=>A.units+1<cLine
 inj:=λhx hy=>hx.inj hy
 keeps:=λx ho hd hs=>x.keeps ho hd hs
 pyHash:=λhu hk h=>lE hu hk h
 eqBool:=λhu hx hy h=>lF hu hx hy h
 quiet:=λhk h=>jf hk h
end
namespace F
theorem oH:typeLookup (.type "list") "keys"=pure none:=am_miss_of_fast (by kernel_rfl)
theorem lG:entryFor table "dict.update.loop"=some Builtin.«dict.update.loop» :=entryFor_of_tree (by kernel_rfl)
theorem fV:plainId "dict.update.loop"=true:=⋯
end F
section
variable{prog:Program}{w:World}{A:Around}{E:Value->Shared->Prop}{s:Shared}
theorem uQ{a:Addr}{xs:Array Value}{k:Nat}{Q:Option Value->Shared->Prop}
  (hx:s.heap.get? a=some { cls:= .type "list",data:= .seq xs k }) (hA:A.handled=none)
  (h:∀h' tk,(∀b o,s.heap.get? b=some o->h'.get? b=some o)->Q none { s with heap:=h',toks:=tk }):
  wpAny (model prog w) A (getAttr? (.ref a) "keys") Q E s:=by
 obtain ⟨hp,g,d,tk,os⟩:=s
 have hT:∀RW,(⟨hp,g,d,RW,os⟩:Shared).TypeIs (.ref a) "list":=λ_=>⟨_,hx,rfl⟩
 have f1:=sub_AttributeError
 have f3:=F.slot_list_getattribute.lookup
 have f4:=F.slot_list_getattribute.bind (.ref a)
 have f5:=am_list_getattr_none
 unfold getAttr? getAttrBy? getAttrBy
 repeat (any_goals (first | assumption | exact hT _ | ((with_reducible show wpAny _ _ (call (Value.builtin "list.__getattribute__") _ _) _ _ _);refine call_meets F.slot_list_getattribute (hT _) am_entry_list_getattribute (F.args_list_getattribute_2 _ _) (meets_getattribute_miss_list a xs k #[] "keys" _ F.oH ⋯ (by size_fits)) ⟨hx,hA,λh' RW e B6=>?_⟩) | wp_step))
 obtain ⟨t',u',he⟩:=B6.there
 show wpAny _ _ (getattributeRaised _ _ _ _ _ _ _) _ _ _
 unfold getattributeRaised
 repeat (any_goals (first | assumption | wp_step))
 exact h _ _ B6.keeps
end
section
variable{prog:Program}{w:World}{K:Type}[DecidableEq K]{knd:HeapKind prog w K}{A:Around}{E:Value->Shared->Prop}{s:Shared}
theorem DictOfH.frame{h h':Heap}{d:Addr}{xs:List (K×Addr×Value)}(x:h.DictOfH knd d xs)(k:∀o,h.get? d=some o->h'.get? d=some o)(hk:∀y∈xs,knd.is h y.1 y.2.1->knd.is h' y.1 y.2.1):h'.DictOfH knd d xs:=by
 obtain ⟨o,es,ep,ho,hc,hd,he,G3,hn⟩:=x
 exact ⟨o,es,ep,k o ho,hc,hd,he,λy hy=>hk y hy (G3 y hy),hn⟩
def yQ(h:Heap)(v:Value)(x:K×Addr×Value):Prop:=∃t o n,v= .ref t/\h.get? t=some o/\o.cls= .type "tuple"/\o.data= .seq #[.ref x.2.1,x.2.2] n
theorem Eh{R:Result->Shared->Prop}{I S:Addr}{fp wr:List Addr}{G:Array GenState->Array GenState->Prop}{P:Nat->Value->Prop}{St:Nat->Shared->Prop}{l:List (K×Addr×Value)}
  (W:WalksS prog w A.in1 I fp wr G (l:) P St) (hS:S∉fp) (Ei:knd.room A.in1) (hl:(l:)<=10000) (HX:(l.map (·.1)).Nodup) (J:Heap->Prop)
  (hJ:∀h,J h->∀x∈l,knd.is h x.1 x.2.1) (hP:∀h i v,J h->P i v->∃x,l[i]? =some x/\yQ h v x)
  (Kl:∀s s',Moved wr G s s'->J s.heap->J s'.heap) (vX:∀h h':Heap,Heap.SameBut S h h'->J h->J h'):
  ∀(k i:Nat) (s:Shared) (t:Tok),(l:) - i=k->i<=(l:)->St i s->J s.heap->s.heap.DictOfH knd S (l.take i)->(∀s',Moved (S::wr) G s s'->s'.heap.DictOfH knd S l->R (.ok (.ret .none)) s')->
   codeAny (model prog w) A (.builtin "dict.update.loop" ⟨[.ref S,.ref I,.int (i:Int) t,.none],[]⟩) R s:=by
 have VU:S∉wr:=λh=>hS (W.sub _ h)
 have Km:∀b∈wr,b∈S::wr:=λb g=>ZO _ g
 intro k
 induction k with
 | zero=>
  intro i s t hk hi kL hj Ci hR
  obtain rfl:i=(l:):=by lia
  rw[Qau]at Ci
  refine codeAny_builtin F.lG ?_
  rw[Around.under_plainId F.fV _]
  show wpAny _ A.in1 (pyNext (.ref I) >>= λr=>_) _ _ s
  refine wpAny_bind (W.done s _ _ kL λs' hm=>?_)
  exact wpAny_pure (hR s' (hm.mono Km) (DictOfH.frame Ci (λo ho=>hm.heap S o VU ho) λy hy _=>hJ _ (Kl _ _ hm hj) y hy))
 | succ k ih=>
  intro i s t hk hi kL hj Ci hR
  have di:i<(l:):=by lia
  refine codeAny_builtin F.lG ?_
  rw[Around.under_plainId F.fV _]
  show wpAny _ A.in1 (pyNext (.ref I) >>= λr=>_) _ _ s
  refine wpAny_bind (W.item i s _ _ di kL λv s' hp Uo hm=>?_)
  have HW:=Kl _ _ hm hj
  obtain ⟨x,hx,tt,o,n,rfl,ho,hc,hd⟩:=hP _ i v HW hp
  have Qx:s'.heap.DictOfH knd S (l.take i):=DictOfH.frame Ci (λo ho=>hm.heap S o VU ho) λy hy _=>hJ _ HW y (Qcg hy)
  have hT:s'.TypeIs (.ref tt) "tuple":=⟨o,ho,hc⟩
  refine wpAny_bind (wpAny_holding (wpAny_bind (wpAny_tryCatch ?_)))
  unfold Builtin.Dict.pairItems
  refine wpAny_bind (wpAny_typeOf hT ?_)
  rw[if_pos ∅]
  refine wpAny_bind (wpAny_seqItems ho hd (wpAny_pure ?_))
  show wpAny _ _ (holding [Value.ref x.2.1,x.2.2] (dictSet S (.ref x.2.1) x.2.2)) _ _ _
  refine wpAny_holding (wpAny_dictSet_heap (knd:=knd) (hsz:=by rw[Qai];have:(10000:Nat)<=sizeLine:=∅;lia) Ei (hJ _ HW x (Xu hx)) Qx λh' v_ Kn=>?_)
  have e1:l.take (i+1)=l.take i++[x]:=by rw[Qdn,hx];rfl
  have Ej:atKey (l.take i) x.1=none:=by
   unfold atKey
   rw[Option.map_eq_none_iff,List.find?_eq_none]
   intro y hy
   have Qy:((l.take (i+1)).map (·.1)).Nodup:=by rw[Qeh];exact HX.sublist (List.take_sublist _ _)
   rw[e1,Xs,Qbx]at Qy
   intro z
   exact Qy.2.2 y.1 (Qam.mpr ⟨y,hy,rfl⟩) x.1 (by simp) (of_decide_eq_true z)
  rw[storedH_new Ej,show (x.1,x.2.1,x.2.2)=x from rfl, <-e1]at v_
  refine wpAny_pure ⟨plainId_quiet F.fV _,?_⟩
  have ei:rawInt ((i:Int)+1)= .int ((i+1:Nat):Int) 0:=rfl
  rw[ei]
  refine ih (i+1) _ 0 () di (W.frame _ s' _ _ Uo (Qfw _ _) λb g o e=>?_) (vX _ _ Kn HW) v_ λPJ Up Uq=>?_
  ·rw[Kn.2 b λz:b=S=>hS (z▸g)];exact e
  ·refine hR PJ (Moved.trans W.gtrans ((hm.mono Km).then_heap (Qfw _ _) λb o g e=>?_) Up) Uq
   rw[Kn.2 b λz:b=S=>g (z▸ZP)];exact e
theorem yR{l:Addr}{its:List Value}{n:Nat}{xs:List (K×Addr×Value)}{Q:Value->Shared->Prop}(hh:A.handled=none)(Ei:knd.room A.in1.in1)(hl:s.heap.get? l=some { cls:= .type "list",data:= .seq its.toArray n })(hlen:(its:)=(xs:))
  (hx:∀(i:Nat) (v:Value),its[i]? =some v->∃x,xs[i]? =some x/\yQ s.heap v x) (hk:∀x∈xs,knd.is s.heap x.1 x.2.1) (Qz:∀(h h':Heap) k a,(∀b o,h.get? b=some o->h'.get? b=some o)->knd.is h k a->knd.is h' k a)
  (HX:(xs.map (·.1)).Nodup) (hz:(xs:)<=10000)
  (h:∀(h':Heap) (tk:Nat),h'.DictOfH knd s.heap.objs.size xs->(∀b o,s.heap.get? b=some o->h'.get? b=some o)->Q (.ref s.heap.objs.size) { s with heap:=h',toks:=tk }):
  wpAny (model prog w) A (call (.type "dict") [.ref l]) Q E s:=by
 refine callType_codes (Q₁:=λobj s₁=>obj= .ref s.heap.objs.size/\s₁={ s with heap:=s.heap.push { cls:= .type "dict",data:= .dict #[] } }) F.kt_called_dict (F.kt_typeCall_dict_1 _) F.entry_dict_init (kt_code_dict_new _ ⟨rfl,rfl⟩) ?_
 rintro obj s₁ ⟨rfl,rfl⟩
 have Ej:(s.heap.push { cls:= .type "dict",data:= .dict #[] }).DictOfH knd s.heap.objs.size []:=Heap.DictOfH.new s.heap
 have x3:(s.heap.push { cls:= .type "dict",data:= .dict #[] }).get? l=some { cls:= .type "list",data:= .seq its.toArray n }:=VI _ hl
 have di:=Qag hl
 refine ⟨Ej.typeIs,F.args_dict_init_2 _ _,?_⟩
 unfold Builtin.«dict.__init__»
 walk_at"F"
 unfold Builtin.Dict.selfAndRest
 refine wpAny_bind (wpAny_notOrdered_dict Ej.typeIs ?_)
 show wpAny _ _ (pure (s.heap.objs.size,[Value.ref l])) _ _ _
 walk_at"Y"
 show wpAny _ _ (Builtin.Dict.updateFrom "dict.__init__" s.heap.objs.size (.ref l) [] .none) _ _ _
 unfold Builtin.Dict.updateFrom
 refine wpAny_bind (wpAny_typeOf (show Shared.TypeIs { s with heap:=s.heap.push { cls:= .type "dict",data:= .dict #[] } } (.ref l) "list" from ⟨_,x3,rfl⟩) ?_)
 rw[if_pos ∅]
 refine wpAny_bind (uQ (s:={ s with heap:=s.heap.push { cls:= .type "dict",data:= .dict #[] } }) x3 hh λh2 Ko k2=>?_)
 rw[if_pos (by rfl)]
 walk_at"I"
 have nR:h2.IsList l its.toArray:=⟨_,k2 _ _ x3,rfl,n,rfl⟩
 refine wpAny_bind (wpAny_pyIter_list (s:=⟨h2,s.gens,s.drawn,Ko,s.os⟩) nR (wpAny_pure ⟨plainId_quiet F.fV _,?_⟩))
 have Ur:l<h2.objs.size:=Qag (k2 _ _ x3)
 have ND:s.heap.objs.size<h2.objs.size:=Qag (k2 _ _ (Qae s.heap (o:={ cls:= .type "dict",data:= .dict #[] }) rfl))
 have Us:l≠h2.objs.size:=Qal Ur
 have X1:s.heap.objs.size∉[h2.objs.size,l]:=λhm=>by
  rcases ZQ.mp hm with z | z
  ·exact absurd z (Qal ND)
  ·exact absurd (VH.mp z).symm (Qal di)
 have W:=(Walks.list (prog:=prog) (w:=w) (A:=A.in1.in1) (show A.in1.in1.handled=none from hh) h2.objs.size l Us its.toArray).toS
 have hsz:its.toArray.size=(xs:):=by simpa using hlen
 rw[hsz]at W
 have hit:(h2.push { cls:= .type "list_iterator",data:= .fields #[.ref l,.int 0 0] }).get? h2.objs.size=some { cls:= .type "list_iterator",data:= .fields #[.ref l,.int 0 0] }:=Qae _ rfl
 have k0:∀b o,s.heap.get? b=some o->h2.get? b=some o:=λb o e=>k2 b o (VI _ e)
 refine Eh (A:=A.in1) (knd:=knd) (l:=xs) W X1 Ei hz HX (λh=>∀b o,s.heap.get? b=some o->h.get? b=some o) (λh j x hx=>Qz _ _ _ _ j (hk x hx)) (λh i v j hv=>?_) (λs1 s2 hm j b o e=>?_) (λh1 h3 Kn j b o e=>?_) ((xs:) - 0) 0 ⟨h2.push { cls:= .type "list_iterator",data:= .fields #[.ref l,.int 0 0] },s.gens,s.drawn,Ko,s.os⟩ 0 rfl (Qac _) ⟨⟨_,hit,rfl,rfl⟩,nR.push _⟩ (λb o e=>VI _ (k0 b o e)) ?_ λs' hm Ci=>?_
 ·obtain ⟨x,Ut,t,o,m,e1,e2,e3,e4⟩:=hx i v (by have:=hv;simpa using this)
  exact ⟨x,Ut,t,o,m,e1,j _ _ e2,e3,e4⟩
 ·exact hm.heap b o (λL9=>absurd (VH.mp L9) (Qal (Qat (Qag e) (Qa4 ND)))) (j b o e)
 ·rw[Kn.2 b (Qal (Qag e))];exact j b o e
 ·rw[List.take_zero]
  exact DictOfH.frame Ej (λo ho=>VI _ (k2 _ _ ho)) λy hy=>by simp at hy
 ·obtain ⟨h',g',d',RW,BV⟩:=s'
  obtain rfl:g'=s.gens:=hm.gens
  obtain rfl:d'=s.drawn:=hm.drawn
  obtain rfl:BV=s.os:=hm.os
  refine ⟨rfl,h h' RW Ci λb o e=>?_⟩
  have hb:=Qag e
  exact hm.heap b o (λL9=>by
   rcases ZQ.mp L9 with z | z
   ·exact absurd z (Qal hb)
   ·exact absurd (VH.mp z) (Qal (Qdm hb ND))) (VI _ (k0 b o e))
end
end PySem
namespace L2
open PySem PySem.Spec PyProof.Rows
def jg(H:Hp)(k:Key×List Key)(a:Addr):Prop:=∃b,H a=some (.tup [kV k.1,.ref b])/\H b=some (.tup (k.2.map kV))
theorem jg.ts{H H':Hp}{k:Key×List Key}{a:Addr}(h:jg H k a)(s:aY H H'):jg H' k a:=let ⟨b,h1,h2⟩:=h;⟨b,s _ _ h1,s _ _ h2⟩
theorem Ek{P:Program}{w:World}{H:Hp}{h:Heap}{k:Key×List Key}{a:Addr}(ok:jX P w H h)(e:jg H k a):(fz (bz P w)).is h k a:=by
 obtain ⟨b,h1,h2⟩:=e
 obtain ⟨_,its,r,o,g1,g2,n,g3⟩:=(show cw P w H h a (.tup [kV k.1,.ref b]) from ok a _ h1)
 obtain ⟨u,v,rfl,r1,r2⟩:=vals2 r
 cases (show v=Value.ref b from r2)
 exact ⟨o,u,b,n,g1,g2,g3,Ap r1,uJ ok h2⟩
theorem HY{P:Program}{w:World}{h h':Heap}(k:Key×List Key)(a:Addr)(hk:∀b o,h.get? b=some o->h'.get? b=some o)(x:(fz (bz P w)).is h k a):(fz (bz P w)).is h' k a:=by
 obtain ⟨o,v,b,n,g1,g2,g3,g4,o2,its,n2,q1,q2⟩:=x
 exact ⟨o,v,b,n,hk _ _ g1,g2,g3,g4,o2,its,n2,hk _ _ q1,q2⟩
noncomputable abbrev NF:=(Key×List Key)×Addr×Int
def HZ(a:NF)(b:(Key×List Key)×Addr×Value):Prop:=a.1=b.1/\a.2.1=b.2.1/\RelV (.int a.2.2) b.2.2
noncomputable def G4(P:Program)(w:World)(p:Addr)(aH:List NF):HO:= .ext λh=>∃(o:Obj) (es:Array DictEntry) (ep:Nat),h.get? p=some o/\o.ExactDict/\o.data= .dict es ep/\
 ∃xs:List ((Key×List Key)×Addr×Value),es.toList=xs.map (entryOfKey (fz (bz P w)))/\(xs.map (·.1)).Nodup/\Paired HZ aH xs
theorem yS{aH:List NF}{xs:List ((Key×List Key)×Addr×Value)}(r:Paired HZ aH xs)(k:Key×List Key){n:Int}(h:(aH.find? λx=>decide (x.1=k)).map (·.2.2)=some n):∃a v,atKey xs k=some (a,v)/\RelV (.int n) v:=by
 induction r with
 | nil=>cases h
 | @cons p q ps qs hq t ih=>
  unfold atKey
  rw[Qca]at h ⊢
  have e:q.1=p.1:=hq.1.symm
  by_cases z:p.1=k
  ·rw[show decide (p.1=k)=true from decide_eq_true z]at h
   rw[show decide (q.1=k)=true from decide_eq_true (e.trans z)]
   cases h
   exact ⟨_,_,rfl,hq.2.2⟩
  ·rw[show decide (p.1=k)=false from decide_eq_false z]at h
   rw[show decide (q.1=k)=false from decide_eq_false λy=>z (e.symm.trans y)]
   exact ih h
theorem wO{aH:List NF}{xs:List ((Key×List Key)×Addr×Value)}(r:Paired HZ aH xs){Pr:(Key×List Key)->Addr->Prop}(h:∀e∈aH,Pr e.1 e.2.1):∀x∈xs,Pr x.1 x.2.1:=by
 induction r with
 | nil=>intro x hx;cases hx
 | @cons p q ps qs hq t ih=>
  intro x hx
  rcases ZQ.mp hx with z | z
  ·subst z
   have:=h p ZP
   rw[hq.1,hq.2.1]at this
   exact this
  ·exact ih (λe he=>h e (ZO _ he)) x z
def L_(P:Program)(w:World)(td ty:TE):TE:=λσ H Q=>td σ H λx H1=>ty σ H1 λy H2=>∃(p:Addr) (aH:List NF) (k:Key×List Key) (a:Addr) (n:Int),x= .ref p/\H2 p=some (G4 P w p aH)/\(∀e∈aH,jg H2 e.1 e.2.1)/\y= .ref a/\jg H2 k a/\
 (aH.find? λx=>decide (x.1=k)).map (·.2.2)=some n/\Q (.int n) H2
section
variable{X:Cx}{o i:Expr}{pos:Pos}{td ty:TE}
theorem wQ{P:Program}{w:World}(hP:X.prog=P)(hw:X.w=w)(hu:X.A.units+2<cLine)(ho:PE X o td)(hi:PE X i ty)(hs:L5 i):PE X (.Subscript o i pos) (L_ P w td ty):=by
 subst hP hw
 walk_at"i"
 refine Ar PySem.F.slot_dict_getitem.lookup hs (cf (ho pins s σ H _ I h) λu s1 ⟨x,H1,I1,rx,q1⟩=>cf (hi pins s1 σ H1 _ I1 q1) λiv s2 ⟨y,H2,I2,ry,p,aH,k,a,n,ex,hp,hk,ey,ha,hl,q2⟩=>?_)
 subst ex ey
 obtain rfl:u=Value.ref p:=rx
 obtain rfl:iv=Value.ref a:=ry
 obtain ⟨⟨ob,es,ep,g1,g2,g3,xs,g4,g5,g6⟩,_,_⟩:cw X.prog X.w H2 s2.heap p (G4 X.prog X.w p aH):=I2.bX p _ hp
 have dd:s2.heap.DictOfH (fz (bz X.prog X.w)) p xs:=⟨ob,es,ep,g1,g2,g3,g4,wO g6 (Pr:=λk a=>(fz (bz X.prog X.w)).is s2.heap k a) (λe he=>Ek I2.bX (hk e he)),g5⟩
 obtain ⟨b,v,hv,rv⟩:=yS g6 k hl
 exact ⟨dd.typeIs,wpAny_getItem_heap (show X.A.units+1+1<cLine from hu) (Ek I2.bX ha) dd hv ⟨.int n,H2,I2.tok _,rv,q2⟩⟩
structure Kp where
 t:Addr
 a:Addr
 k:Key×List Key
 n:Int
noncomputable def Cj(es:List Kp):List NF:=es.map λe=>(e.k,e.a,e.n)
structure Av(H:Hp)(e:Kp):Prop where
 tp:H e.t=some (.tup [.ref e.a,.int e.n])
 ky:jg H e.k e.a
def Ma(P:Program)(w:World):List V->Hp->VK->Prop:=λxs H Q=>∃(l:Addr) (es:List Kp),xs=[.ref l]/\H l=some (.lst (es.map λe=> .ref e.t))/\(∀e∈es,Av H e)/\(es.map (·.k)).Nodup/\(es:)<=10000/\
 ∀p,H p=none->Q (.ref p) (upd H p (G4 P w p (Cj es)))
theorem Aw{P:Program}{w:World}{H:Hp}{h:Heap}(ok:jX P w H h):∀{es:List Kp} {its:List Value},Vals (es.map λe=>V.ref e.t) its->(∀e∈es,Av H e)->
  ∃xs:List ((Key×List Key)×Addr×Value),Paired HZ (Cj es) xs/\xs.map (·.1)=es.map (·.k)/\(its:)=(xs:)/\(∀(i:Nat) (v:Value),its[i]? =some v->∃x,xs[i]? =some x/\yQ h v x)/\∀x∈xs,(fz (bz P w)).is h x.1 x.2.1
 | [],its,r,hk=>by
  cases r
  exact ⟨[],.nil,rfl,rfl,λi v h=>by simp at h,λx hx=>by cases hx⟩
 | e::es,its,r,hk=>by
  cases r with
  | cons r1 r2=>
   rename_i u us
   cases (show u=Value.ref e.t from r1)
   obtain ⟨xs,p1,p2,p3,p4,p5⟩:=Aw ok r2 λe' qf=>hk e' (ZO _ qf)
   have H_:=hk e ZP
   obtain ⟨_,rE,r,ob,g1,g2,n,g3⟩:=(show cw P w H h e.t (.tup [.ref e.a,.int e.n]) from ok _ _ H_.tp)
   obtain ⟨a',v',rfl,q1,q2⟩:=vals2 r
   cases (show a'=Value.ref e.a from q1)
   refine ⟨(e.k,e.a,v')::xs,.cons ⟨rfl,rfl,q2⟩ p1,by rw[Qad,Qad,p2],by rw[Qap,Qap,p3],λi v hv=>?_,λx hx=>?_⟩
   ·cases i with
    | zero=>cases hv;exact ⟨_,rfl,e.t,ob,n,rfl,g1,g2,g3⟩
    | succ i=>exact p4 i v (by simpa using hv)
   ·rcases ZQ.mp hx with z | z
    ·rw[z];exact Ek ok H_.ky
    ·exact p5 x z
theorem yT{P:Program}{w:World}{k:Nat}(hP:X.prog=P)(hw:X.w=w)(hr:eN k X.A)(hc:X.calm=true):dH X (.type "dict") (Ma P w):=by
 subst hP hw
 walk_at"e"
 obtain ⟨l,es,rfl,hq,hk,HX,hz,q⟩:=h
 obtain ⟨u,rfl,ru⟩:=vals1 r
 cases (show u=Value.ref l from ru)
 obtain ⟨_,its,n,rv,hl⟩:cw X.prog X.w H s.heap l (.lst (es.map λe=> .ref e.t)):=I.bX l _ hq
 obtain ⟨ys,p1,p2,p3,p4,p5⟩:=Aw I.bX rv hk
 have hlen:(ys:)<=10000:=by have:=congrArg List.length p2;rw[NA,NA]at this;lia
 refine yR (knd:=fz (bz X.prog X.w)) (I.ok.hd hc) (show X.A.units+1+1+1<cLine by have:=hr.un;lia) hl p3 p4 p5 (λh1 h2 k a=>HY k a) (by rw[p2];exact HX) hlen λh' tk hd X2=>?_
 refine ⟨.ref s.heap.objs.size,upd H s.heap.objs.size (G4 X.prog X.w _ _),I.laid (t':=tk) X2 (RP _) ?_,rfl,q _ I.fresh⟩
 obtain ⟨o,O6,ep,ho,hex,X3,he,_,hn⟩:=hd
 exact ⟨⟨o,O6,ep,ho,hex,X3,ys,he,hn,p1⟩,⟨_,ho⟩,λh1 h2 ⟨o,es,ep,ho,r⟩ k=>⟨o,es,ep,k o ho,r⟩⟩
end
end L2
namespace L2.F2
open PySem PySem.Spec PyProof.Rows
theorem yU:typeLookup (.type "tuple") "__reversed__"=pure none:=by rw[typeLookup_type,builtinLookup_eq_fast];kernel_rfl
theorem El:isSubtype (.type "tuple") (.type "dict")=pure false:=by rw[isSubtype_type];kernel_rfl
end L2.F2
namespace L2
open PySem PySem.Spec PyProof.Rows
theorem qg(a:Addr)(its:Array Value)(hz:its.size<=sizeLine):Meets (Builtin.«reversed.__new__» ⟨[.type "reversed",.ref a],[]⟩) (λ_ R s=>IsTup s.heap a its/\∀tk,R (.ok (.ret (.ref s.heap.objs.size))) { s with heap:=s.heap.push { cls:= .type "reversed",data:= .fields #[.ref a,rawInt ((its.size:Int) - 1)] },toks:=tk }):=by
 refine Meets.of_wp λprog w A R s h=>?_
 obtain ⟨hT,h⟩:=h
 unfold Builtin.«reversed.__new__»
 refine wpAny_bind (wpAny_of_eq (newClass_reversed _) ?_)
 try dsimp only
 walk_at"o"
 walk_at"o"
 try dsimp only
 refine wpAny_bind (wpAny_specialOf hT.typeIs F2.yU ?_)
 try dsimp only
 walk_at"F"
 show wpAny _ _ (isInstance (.ref a) (.type "dict") >>= _) _ _ _
 refine wpAny_bind (wpAny_isInstance hT.typeIs F2.El ?_)
 rw[if_neg ∅]
 refine wpAny_bind (wpAny_specialOf hT.typeIs slot_tuple_getitem.lookup ?_)
 refine wpAny_of_eq (a:=true) (by first | rfl | kernel_rfl) ?_
 rw[if_neg ∅]
 have hn:=eQ
 refine wpAny_bind (len_tuple hT () ?_)
 refine wpAny_bind (wpAny_of_eq (a:=some (its.size:Int)) (by first | rfl | kernel_rfl) ?_)
 show wpAny _ _ (Builtin.SmallTypes.newRecord (Value.type "reversed") [Value.ref a,rawInt ((its.size:Int) - 1)] >>= _) _ _ _
 walk_at"F"
 unfold Builtin.SmallTypes.newRecord
 refine wpAny_newObj_type ?_ (by size_fits)
 exact wpAny_pure ⟨_,rfl,h _⟩
section
variable{prog:Program}{w:World}{A:Around}{E:Value->Shared->Prop}{s:Shared}
theorem qh{a:Addr}{its:Array Value}{Q:Value->Shared->Prop}(hT:IsTup s.heap a its)(hz:its.size<=sizeLine)(h:∀tk,Q (.ref s.heap.objs.size) { s with heap:=s.heap.push { cls:= .type "reversed",data:= .fields #[.ref a,rawInt ((its.size:Int) - 1)] },toks:=tk }):
  wpAny (model prog w) A (call (.type "reversed") [.ref a]) Q E s:=
 callType_new F2.pX ⋯ (F.typeCall_reversed_1 _) (F.newCall_reversed_1 _) (λobj=>by unfold argsOk;kernel_rfl) F.entry_reversed_new (qg a its hz)
  ⟨hT,λtk=>⟨⟨_,Qae _ rfl,rfl⟩,h tk⟩⟩
def jh(h:Heap)(it a:Addr)(i:Int):Prop:=∃o,h.get? it=some o/\o.cls= .type "reversed"/\o.data= .fields #[.ref a,rawInt i]
theorem jh.typeIs{it a:Addr}{i:Int}(h:jh s.heap it a i):s.TypeIs (.ref it) "reversed":=let ⟨o,ho,hc,_⟩:=h;⟨o,ho,hc⟩
theorem nW{it a:Addr}{i:Int}{Q:Value->Shared->Prop}(hit:jh s.heap it a i)(h:Q (.ref it) s):wpAny (model prog w) A (pyIter (.ref it)) Q E s:=by
 refine wpAny_pyIter_slot hit.typeIs F2.ff (wpAny_call_entry F2.ff hit.typeIs F2.i9 ?_ (F2.iI _))
 show wpAny _ _ (ret (.ref it)) _ _ s
 exact wpAny_pure ⟨_,rfl,"reversed",_,hit.typeIs,F2.bu.lookup,h⟩
theorem mW{it a:Addr}{i:Nat}{its:Array Value}{v:Value}{Q:Option Value->Shared->Prop}(hit:jh s.heap it a (i:Int))(hT:IsTup s.heap a its)(hx:its[i]? =some v)(hz:its.size<=sizeLine)
  (hQ:∀h' tk,jh h' it a ((i:Int) - 1)->Heap.SameBut it s.heap h'->Q (some v) { s with heap:=h',toks:=tk }):wpAny (model prog w) A (pyNext (.ref it)) Q E s:=by
 obtain ⟨o,ho,hc,hd⟩:=id hit
 have hn:=eQ
 have hi:i<its.size:=(Array.getElem?_eq_some_iff.mp hx).1
 unfold pyNext
 refine wpAny_bind (wpAny_attempt (wpAny_callSpecial?_slot (name:=Str.ofString "__next__") hit.typeIs F2.bu
  (wpAny_call_entry F2.bu hit.typeIs F2.eF ?_ (F2.dM _))))
 unfold Builtin.«reversed.__next__»
 walk_at"z"
 try dsimp only
 refine wpAny_bind (wpAny_field ho hd (x:= .ref a) rfl ?_)
 walk_at"v"
 show wpAny _ _ (if (i:Int)<0 then _ else _) _ _ s
 rw[if_neg ()]
 refine wpAny_bind (wpAny_specialOf hT.typeIs slot_tuple_getitem.lookup ?_)
 show wpAny _ _ (if (some (Value.builtin _)).isNone=true then _ else _) _ _ s
 rw[if_neg ∅]
 refine wpAny_bind (wpAny_mkInt ?_)
 refine wpAny_bind (wpAny_attempt (getItem_tuple (j:=i) hT () () (by rw[seqIndex_of () (),Xt]) hx ?_))
 show wpAny _ _ (field (Value.ref it) 1 >>= _) _ _ _
 walk_at"v"
 show wpAny _ _ (setField (Value.ref it) 1 (rawInt ((i:Int) - 1)) >>= _) _ _ _
 walk_at"M"
 refine wpAny_pure ⟨_,rfl,wpAny_pure (hQ _ _ ?_ (Qed ..))⟩
 exact ⟨_,Qbm _ ho (Obj.isFreed_of_fields (Obj.data_mapFields hd _)),(Obj.cls_mapFields ..).trans hc,by
  rw[Obj.data_mapFields hd];simp⟩
theorem oI{it a:Addr}{Q:Option Value->Shared->Prop}(hh:A.handled=none)(hit:jh s.heap it a (-1))
  (hQ:∀h',Heap.ExtBut it s.heap h'->Q none { s with heap:=h' }):wpAny (model prog w) A (pyNext (.ref it)) Q E s:=by
 obtain ⟨o,ho,hc,hd⟩:=id hit
 unfold pyNext
 refine wpAny_bind (wpAny_attempt (wpAny_callSpecial?_slot (name:=Str.ofString "__next__") hit.typeIs F2.bu
  (wpAny_call_entry F2.bu hit.typeIs F2.eF ?_ (F2.dM _))))
 unfold Builtin.«reversed.__next__»
 walk_at"z"
 try dsimp only
 refine wpAny_bind (wpAny_field ho hd (x:= .ref a) rfl ?_)
 refine wpAny_bind (wpAny_field ho hd (x:=rawInt (-1)) rfl ?_)
 show wpAny _ _ (if (-1:Int)<0 then _ else _) _ _ s
 rw[if_pos ∅]
 walk_at"I"
 walk_at"F"
 show wpAny _ _ (setField (Value.ref it) 1 (rawInt (-1)) >>= λ_=>setField (Value.ref it) 0 .none) _ _ _
 walk_at"M"
 walk_at"X"
 first
 | show wpAny _ _ (newExc (.type "StopIteration") [] >>= _) _ _ _
 |(refine wpAny_bind ?_;show wpAny _ _ (newExc (.type "StopIteration") [] >>= _) _ _ _)
 walk_at"F"
 simp only[newExc,newTuple]
 refine wpAny_bind (wpAny_newObj_type ?_ (by size_fits))
 walk_at"T"
 refine wpAny_newObj_type ?_ (by size_fits)
 simp only[raiseNew]
 refine wpAny_bind (wpAny_handled ?_)
 first | rw[show A.in1.handled=none from hh] | rw[hh]
 refine wpAny_bind (wpAny_pure (wpAny_throw ?_))
 refine wpAny_bind (wpAny_isInstance (T:="StopIteration") (b:=true) ⟨_,Qae _ rfl,rfl⟩ isSubtype_stop ?_)
 refine wpAny_pure (hQ _ λb ob hb e=>?_)
 refine VI _ (VI _ ?_)
 exact (Qbb _ _ (Ne.symm hb)).trans ((Qbb _ _ (Ne.symm hb)).trans e)
end
noncomputable def Mb(K:Fr)(a:Addr)(n:Nat):It:=
 ⟨λi H=>∃xs x,bW K H a xs/\(xs:)=n/\xs.reverse[i]? =some x,λi H x H'=>H'=H/\∀xs,bW K H a xs->xs.reverse[i]? =some x,λi H=>i=n⟩
theorem Ck{P:Program}{w:World}{K:Fr}{tg:Expr}(a it:Addr)(n:Nat)(hz:n<=sizeLine):Turn P w K tg (Mb K a n) [it] it (λi h=>i<=n/\jh h it a ((n:Int) - 1 - (i:Int))) where
 mem:=by simp
 obj:=λi h st b hb=>by
  have e:b=it:=by simpa using hb
  subst e
  obtain ⟨_,o,e,c,d⟩:=st
  walk_at"G"
 keep:=λi h h' st k=>let ⟨q,o,e,r⟩:=st;⟨q,o,k it (by simp) o e,r⟩
 item:=by
  walk_at"a"
  subst hP hw hK
  obtain ⟨xs,x,hq,hl,hx⟩:=hg
  obtain ⟨its,rv,p,G5⟩:=I.tuple hq
  have Uu:=(rv:)
  have hi:i<n:=by have:=(LL.mp hx).1;rw[Qa1]at this;lia
  walk_at"d"
  obtain ⟨_,st⟩:=st
  have e:(n:Int) - 1 - (i:Int)=((n - 1 - i:Nat):Int):=by lia
  rw[e]at st
  rw[Qco (),hl]at hx
  obtain ⟨u,hu,ru⟩:=rv.get hx
  refine mW (its:=its.toArray) (v:=u) st p (by simpa using hu) (by rw[Xv];lia) λh' tk rD sb=>?_
  walk_at"5"
  obtain ⟨o,e1,cc,d⟩:=id rD
  refine ⟨u,rfl,so (s:={ s with heap:=h',toks:=tk }) e1 cc d ∅ ⟨x,H,I1,ru,⟨rfl,λys hy=>?_⟩,⟨hi,?_⟩,λb hb=>(hf b hb).1⟩⟩
  ·rw[I.mJ hy hq,Qco (),hl];exact hx
  ·have e2:(n:Int) - 1 - ((i+1:Nat):Int)=((n - 1 - i:Nat):Int) - 1:=by lia
   rw[e2]
   exact rD
 done:=by
  walk_at"a"
  subst hP hw hK
  walk_at"d"
  obtain ⟨hi,st⟩:=st
  have Kh:i=n:=hg
  have e:(n:Int) - 1 - (i:Int)= -1:=by lia
  rw[e]at st
  exact oI (I.ok.hd hc) st λh' eb=>⟨rfl,I.turned (t':=s.toks) (λb o hb e=>eb b o hb e) f0 f1 f3 f4 f5⟩
 self:=λ_ _ _ _ _ st h=>nW st.2 h
section
variable{X:Cx}{tg:Expr}
def QA(K:Fr)(ta:TA):TI:=λσ H R=>ta σ H λvs H1=>∃a xs,vs=[.ref a]/\bW K H1 a xs/\R (Mb K a (xs:)) H1
theorem Ia(K:Fr)(hK:X.K=K){a:Expr}{ta:TA}{p pos:Pos}(hg:Gl X "reversed")(hm:X.mg "reversed"=none)(ha:PA X [a] ta)(hs:starEach [a] X.env=[(false,eval a X.env)]:=by rfl):PI X tg (.Call (.Name "reversed" p) [a] [] pos) (QA K ta):=by
 subst hK
 walk_at"S"
 walk_at"0"
 obtain ⟨b,xs,rfl,hq,q⟩:=q1
 obtain ⟨u,rfl,ru⟩:=vals1 r1
 cases (show u=Value.ref b from ru)
 obtain ⟨its,rv,pl,hz⟩:=I1.tuple hq
 have hl:=(rv:)
 have hsz:its.toArray.size=(xs:):=by rw[Xv];lia
 refine qh pl () λtk=>?_
 rw[hsz]
 have hit:jh (s1.heap.push { cls:= .type "reversed",data:= .fields #[.ref b,rawInt (((xs:):Int) - 1)] }) s1.heap.objs.size b (((xs:):Int) - 1):=⟨_,Qae _ rfl,rfl,rfl⟩
 refine nW hit ?_
 refine ⟨s1.heap.objs.size,[s1.heap.objs.size],_,_,H1,rfl,I1.kept (t':=tk) λb o e=>VI _ e,Ck b _ (xs:) hz,⟨Qac _,?_⟩,λb hb=>?_,q⟩
 ·have e:((xs:):Int) - 1 - ((0:Nat):Int)=((xs:):Int) - 1:=by simp
  rw[e]
  exact hit
 ·have e:b=s1.heap.objs.size:=by simpa using hb
  subst e
  walk_at"E"
end
theorem Cm{K:Fr}{a:Addr}{xs:List V}{σc:St}{g:TG}{tc:TT}{te:TE}{Q:VK}{H1:Hp}(Pv:Nat->List V->Hp->Prop)(hn:(xs:)<sizeLine)(hl:∀i acc H,Pv i acc H->bW K H a xs)(h0:Pv 0 [] H1)
  (hs:∀(i:Nat) (x:V) (acc:List V) (H:Hp) (Nx:List V->Hp->Prop),i<(xs:)->xs.reverse[i]? =some x->(acc:)<=i->Pv i acc H->(∀bZ H',(bZ:)<=i+1->Pv (i+1) bZ H'->Nx bZ H')->
   g x σc H λσ2 H2=>Wk σc σ2/\tc σ2 H2 λb H3=>if b=true then te σ2 H3 λv H4=>Nx (acc++[v]) H4 else Nx acc H3)
  (hd:∀acc H D,(acc:)<=(xs:)->Pv (xs:) acc H->H D=none->Q (.ref D) (upd H D (.lst acc))):lu (Mb K a (xs:)) σc g tc te Q H1:=
 lA (xs:=λi x=>xs.reverse[i]? =some x) Pv hn (λi acc H h p=>⟨xs,xs.reverse[i]'(by rw[Qa1];exact h),hl i acc H p,rfl,LK _⟩) (λacc H p=>rfl) (λi acc H x H' h p y=>⟨y.1,y.2 xs (hl i acc H p)⟩) h0 hs hd
theorem yV{K:Fr}{a:Addr}{xs:List V}{σc:St}{g:TG}{tc:TT}{te:TE}{Q:VK}{H1:Hp}(Pv:Nat->List V->Hp->Prop)(hn:(xs:)<sizeLine)(hl:∀i acc H,Pv i acc H->a_ K H a xs)(h0:Pv 0 [] H1)
  (hs:∀(i:Nat) (x:V) (acc:List V) (H:Hp) (T:Addr) (Nx:List V->Hp->Prop),xs[i]? =some x->(acc:)<=i->Pv i acc H->H T=none->(∀bZ H',(bZ:)<=i+1->Pv (i+1) bZ H'->Nx bZ H')->
   g (.ref T) σc (upd H T (.tup [.int i,x])) λσ2 H2=>Wk σc σ2/\tc σ2 H2 λb H3=>if b=true then te σ2 H3 λv H4=>Nx (acc++[v]) H4 else Nx acc H3)
  (hd:∀acc H D,(acc:)<=(xs:)->Pv (xs:) acc H->H D=none->Q (.ref D) (upd H D (.lst acc))):lu (Ca K a) σc g tc te Q H1:=by
 refine ⟨λi m acc H=>m=(xs:) - i/\i<=(xs:)/\(acc:)<=i/\Pv i acc H,⟨(xs:),by simp,Qac _,RP _,h0⟩,?_⟩
 rintro i m acc H ⟨rfl,hi,wa,p⟩
 refine ⟨(),?_⟩
 by_cases di:i<(xs:)
 ·refine .inr ⟨⟨xs,xs[i],hl i acc H p,LK di⟩,λx H' y=>?_⟩
  obtain ⟨T,z,hy,rfl,hT,rfl⟩:=y
  exact hs i z acc _ T (λbZ H'=>∃m',m'<(xs:) - i/\(m'=(xs:) - (i+1)/\i+1<=(xs:)/\(bZ:)<=i+1/\Pv (i+1) bZ H')) (hy xs (hl i acc H p)) wa p hT λbZ H' h1 h2=>⟨(xs:) - (i+1),(),rfl,di,h1,h2⟩
 ·have e:i=(xs:):=by lia
  subst e
  exact .inl ⟨⟨xs,hl _ acc H p,rfl⟩,λD hD=>hd acc H D wa p hD⟩
theorem Em{A:Around}{k:Nat}(hr:eN k A):A.units+2<cLine:=by have:=hr.un;lia
section
variable{X:Cx}
theorem En{i:Nat}(h:(i:Int)<2 ^ 63):Builtin.List.listFitsIndex (i:Int)=true:=by
 unfold Builtin.List.listFitsIndex
 rw[Qa8]
 exact ⟨decide_eq_true (),decide_eq_true ()⟩
def Ib:V->List V->Hp->VK->Prop:=λx vs H Q=>∃(l:Addr) (xs:List V) (i:Nat) (y:V),x= .ref l/\vs=[.int i,y]/\H l=some (.lst xs)/\i<=(xs:)/\(xs:)<sizeLine/\Q .fQ (upd H l (.lst (xs.take i++y::xs.drop i)))
theorem Cn:Nz X "list.insert" Ib:=by
 walk_at"r"
 obtain ⟨l,xs,i,y,rfl,rfl,hH,hi,hz,q⟩:=h
 cases rx
 obtain ⟨a,b,rfl,⟨t,rfl⟩,rb⟩:=vals2 rv
 walk_at"p"
 have hn:=eQ
 have hf: ¬(!Builtin.List.listFitsIndex (i:Int))=true:=by rw[En ()];decide
 have hsz:its.toArray.size<=sizeLine:=by rw[Xv];lia
 generalize hI:(i:Int)=I' at hf
 have hm:=PySem.AutoSeq1.list_insert_list_int_val_1 l its.toArray n I' t b hf hsz
 refine call_meets F.slot_list_insert ⟨_,e,rfl⟩ F.entry_list_insert (F.args_list_insert_3 _ _ _) hm ⟨e,?_⟩
 clear hm
 refine ⟨.fQ,_,I.BZ (its':=its.take i++b::its.drop i) hH e ?_ ?_ ?_,rfl,q⟩
 ·have e1:(if I'<0 then (I'+(its.toArray.size:Int)).toNat else min I'.toNat its.toArray.size)=i:=by rw[<-hI,if_neg (),Xt,Xv];lia
  show ((its.toArray.extract 0 (if I'<0 then (I'+(its.toArray.size:Int)).toNat else min I'.toNat its.toArray.size)).push b++its.toArray.extract (if I'<0 then (I'+(its.toArray.size:Int)).toNat else min I'.toNat its.toArray.size))=_
  rw[e1]
  apply Qeo.mp
  simp
  exact Qar (by rw[Qaw];exact RP _)
 ·have h1:Vals (xs.take i) (its.take i):=r.take i
  exact h1.append (.cons rb (r.drop i))
 ·rw[VG,Qap,Qai,Qaw];lia
end
end L2
namespace L2
open PySem PySem.Spec PyProof.Rows PySem.W
end L2
namespace L2
open PySem PySem.Spec PyProof.Rows PySem.MeetsSeq PySem.SeqAt
end L2
namespace L2
open PySem PySem.Spec PyProof.Rows HT
section
variable{prog:Program}{w:World}{A:Around}{E:Value->Shared->Prop}{s:Shared}
theorem Eo{t b:Addr}{ws:List Value}{Q:Value->Shared->Prop}(ht:IsTup s.heap t #[])(hb:IsTup s.heap b ws.toArray)(h:Q (.ref b) s):wpAny (model prog w) A (binaryOp .Add (.ref t) (.ref b)) Q E s:=by
 obtain ⟨⟨cls,dd,data,sl⟩,ho,hc,n,hd⟩:=id ht
 obtain ⟨⟨Tz,RK,data2,RL⟩,Lq,Lr,n2,hd2⟩:=id hb
 simp only at hc hd Lr hd2
 subst hc hd Lr hd2
 exact concat_meets ⟨_,ho,rfl⟩ ⟨_,Lq,rfl⟩ noFill_tuple_add seq_tuple_add Qer Qei (Qeg _ _)
  (tuple_addW0 t b #[] ws.toArray n n2 dd RK sl RL (by simp)) ⟨ho,Lq,h⟩
theorem lH{t sl:Addr}{items:Array Value}{vl vu:Value}{lo hi:Option Int}{Q:Value->Shared->Prop}(ht:IsTup s.heap t items)(hs:s.heap.IsSliceOf sl vl vu .none)(pl:IsPart vl lo)(pu:IsPart vu hi)
  (hw:cB items.size 0 lo=0/\cB items.size items.size hi=items.size) (h:Q (.ref t) s):wpAny (model prog w) A (getItem (.ref t) (.ref sl)) Q E s:=by
 obtain ⟨os,mL,Nw,Ka⟩:=id hs
 have TB:s.TypeIs (.ref sl) "slice":=⟨os,mL,Nw⟩
 unfold getItem
 try with_reducible refine wpAny_holding ?_
 first | refine wpAny_bind (wpAny_pure ?_) | skip
 refine wpAny_bind (wpAny_sequenceKey ht.typeIs ∅ ?_)
 refine wpAny_bind (wpAny_callSpecial?_slot (name:=Str.ofString "__getitem__") ht.typeIs Qbu
  (wpAny_call_entry Qbu ht.typeIs entry_tuple_getitem ?_ (args_tuple_getitem _ _)))
 show wpAny _ _ (Builtin.Tuple.tupleItemsOf (.ref t) >>= _) _ _ s
 refine wpAny_bind (tupleItemsOf_ ht ?_)
 refine wpAny_bind (wpAny_typeOf TB ?_)
 rw[if_pos ∅]
 refine wpAny_bind (gS hs pl pu ?_)
 walk_at"D"
 rw[if_pos (by rw[hw.1,hw.2];simp)]
 show wpAny _ _ (Builtin.Tuple.tupleIsExact (.ref t) >>= _) _ _ s
 refine wpAny_bind (m:=Builtin.Tuple.tupleIsExact (.ref t)) (wpAny_bind (wpAny_typeOf ht.typeIs (wpAny_pure ?_)))
 show wpAny _ _ (if true=true then _ else _) _ _ s
 rw[if_pos rfl]
 exact wpAny_bind (wpAny_rule (wpAny_pure ⟨_,rfl,wpAny_pure h⟩))
end
section
variable{X:Cx}
def QB:R2:=λx y H Q=>∃a b xs ys,x= .ref a/\y= .ref b/\H a=some (.tup xs)/\H b=some (.tup ys)/\(xs:)+(ys:)<=sizeLine/\
 ∀p H',(∀c o,H c=some o->H' c=some o)->H' p=some (.tup (xs++ys))->Q (.ref p) H'
theorem uR:gR X (binaryOp .Add) QB:=by
 walk_at"b"
 obtain ⟨a,b,xs,ys,rfl,rfl,ha,hb,hz,q⟩:=h
 cases rx
 cases ry
 obtain ⟨its,r1,p1,_⟩:=I.tuple (bW.of ha)
 obtain ⟨rE,r2,p2,_⟩:=I.tuple (bW.of hb)
 by_cases hx:xs=[]
 ·subst hx
  cases r1
  exact Eo p1 p2 ⟨.ref b,H,I,rfl,q b H (λ_ _ e=>e) hb⟩
 refine HT.Ac p1 p2 (λz=>hx (r1.kX.mp z)) (λz=>⟨.ref a,H,I,rfl,?_⟩) (λz=>?_) (by rw[<-(r1:), <-(r2:)];exact hz)
 ·have e:=r2.kX.mp z
  exact q a H (λ_ _ e=>e) (by rw[e,Qba];exact ha)
 ·have n:=I.bX.fresh (RP s.heap.objs.size)
  refine ⟨.ref s.heap.objs.size,_,I.laid (t':=s.toks) (o:= .tup (xs++ys)) (λb ob q=>VI _ q) (RP _) ?_,rfl,q _ _ (λc o e=>?_) ae⟩
  ·exact ⟨by rw[VG];exact hz,_,r1.append r2,IsTup.new _ _⟩
  ·rw[ar (λz=>by rw[z,n]at e;cases e)];exact e
def Uv:V->Option Int->Option Int->Hp->VK->Prop:=λx lo hi H Q=>∃a xs,x= .ref a/\H a=some (.tup xs)/\
 ∀p H',(∀c o,H c=some o->H' c=some o)->H' p=some (.tup (gq xs lo hi))->Q (.ref p) H'
theorem Ax:Ls X Uv:=by
 walk_at"L"
 obtain ⟨a,xs,rfl,hx,q⟩:=h
 cases rx
 obtain ⟨its,r,ht,hz⟩:=I.tuple (bW.of hx)
 have hlen:its.toArray.size=(xs:):=by rw[Xv];exact (r:).symm
 refine ⟨"tuple",_,Qbu.lookup,ht.typeIs,?_⟩
 by_cases hw:HT.cB (xs:) 0 lo=0/\HT.cB (xs:) (xs:) hi=(xs:)
 ·refine lH ht hs pl pu (by rw[hlen];exact hw) ⟨.ref a,H,I,rfl,q a H (λ_ _ e=>e) ?_⟩
  unfold gq
  rw[hw.1,hw.2,List.drop_zero,Nat.sub_zero,Qau]
  exact hx
 refine HT.gv ht hs pl pu (by rw[hlen];exact hw) ?_ (by rw[hlen];exact hz)
 rw[hlen]
 have n:=I.bX.fresh (RP s.heap.objs.size)
 refine ⟨.ref s.heap.objs.size,_,I.laid (t':=s.toks) (o:= .tup (gq xs lo hi)) (λb ob q=>VI _ q) (RP _) ?_,rfl,q _ _ (λc o e=>?_) ae⟩
 ·exact ⟨Qak (ft xs lo hi) hz,_,(r.drop (HT.cB (xs:) 0 lo)).take (HT.cB (xs:) (xs:) hi - HT.cB (xs:) 0 lo),IsTup.new _ _⟩
 ·rw[ar (λz=>by rw[z,n]at e;cases e)];exact e
end
theorem uS:∀a b c:List Int,bP b a=false->bP c b=false->bP c a=false
 | [],[],[],_,_=>rfl
 | [],[],_::_,_,h=>h
 | [],_::_,[],_,_=>rfl
 | [],_::_,_::_,_,_=>rfl
 | _::_,[],_,h,_=>by cases h
 | _::_,_::_,[],_,h=>by cases h
 | x::a,y::b,z::c,h,g=>by
  have h':(if y=x then bP b a else decide (y<x))=false:=h
  have g':(if z=y then bP c b else decide (z<y))=false:=g
  show (if z=x then bP c a else decide (z<x))=false
  by_cases e1:y=x
  ·rw[if_pos e1]at h'
   by_cases e2:z=y
   ·rw[if_pos e2]at g'
    rw[if_pos (e2.trans e1)]
    exact uS a b c h' g'
   ·rw[if_neg e2]at g'
    rw[if_neg λw=>e2 (w.trans e1.symm), <-e1]
    exact g'
  ·rw[if_neg e1]at h'
   have q1:=of_decide_eq_false h'
   by_cases e2:z=y
   ·rw[if_neg λw=>e1 (e2.symm.trans w),e2];exact h'
   ·rw[if_neg e2]at g'
    have q2:=of_decide_eq_false g'
    rw[if_neg ()]
    exact decide_eq_false ()
section
variable{X:Cx}{e st:Expr}{te:TE}{ts:TO}{pos p2:Pos}
theorem Co(l:Z)(t tk:Tok):sliceMade (S l) t none none (some (-1,tk))= .str (S l.reverse):=by
 unfold sliceMade
 rw[if_neg (by simp)]
 have e:slicePicked (S l) none none (some (-1,tk))=(List.range (S l).cps.size).reverse:=by
  rw[<-PySem.W.krv_range, <-PySem.W.krv_sliceRange]
  rfl
 rw[e,List.filterMap_reverse,PySem.W.krv_all,eS]
 rfl
def QC(te:TE)(ts:TO):TE:=λσ H Q=>te σ H λx H1=>ts σ H1 λo H2=>o=some (-1)/\∃l,x= .str (S l)/\(l:)<=sizeLine/\Q (.str (S l.reverse)) H2
theorem Ic(he:PE X e te)(hs:PO X (some st) ts):PE X (.Subscript e (.Slice none none (some st) p2) pos) (QC te ts):=by
 walk_at"i"
 refine Subscript_ (cf (he pins s σ H _ I h) λv s1 ⟨x,H1,I1,r1,q1⟩=>?_)
 refine wpAny_Slice ?_
 rw[evalPart_none]
 refine wpAny_pure (wpAny_pure (cf (hs pins s1 σ H1 _ I1 q1) λvk s3 ⟨o,H3,I3,pk,eo,l,ex,hz,q3⟩=>?_))
 subst eo ex
 walk_at"1"
 cases pk with
 | int i tk=>
 have I4:Inv X pins σ H3 { s3 with heap:=s3.heap.push { cls:= .type "slice",data:= .fields #[.none,.none,.int (-1) tk] } }:=I3.kept (t':=s3.toks) λb ob q=>VI _ q
 show wpAny (model X.prog X.w) X.A (subscriptTail e (.Slice none none (some st) p2) (.str (S l) t) (.ref s3.heap.objs.size)) (EP X pins σ Q) X.xe { s3 with heap:=s3.heap.push { cls:= .type "slice",data:= .fields #[.none,.none,.int (-1) tk] } }
 refine tail_any (ops:=[.str (S l) t,.ref s3.heap.objs.size]) (typeIs_str _ _ _) F.slot_str_getitem.lookup (wpAny_getItem_str_slice (l:=none) (u:=none) (st:=some (-1,tk)) ⟨_,Qae _ rfl,rfl,rfl⟩ rfl ?_) (by with_unfolding_all rfl)
 rw[Co]
 refine ⟨by rw[dA,Qa1];exact hz,?_⟩
 exact ⟨.str (S l.reverse),H3,I4.tok _,⟨_,rfl⟩,q3⟩
end
end L2
namespace PySem
open PySem.Spec PyProof.Rows
end PySem
namespace L2
open PySem PySem.Spec PyProof.Rows
section
variable{X:Cx}{K:Fr}{CX:BU}{k1 k2:Nat}{f1 f2:Addr}{VV VW:FuncData}{VX VY:List Str}{RX RY:Sp}{E:XK}{x f:Str}{p pos pos':Pos}{e o value:Expr}{es:List Expr}{ta tv:TE}{t:TA}
theorem bO(K:Fr)(hK:X.K=K)(he:PE X e ta)(hb:attributeBase e f X.env (eval e X.env)=eval e X.env):PE X (.Attribute e f pos) (Px K ta f):=by subst hK;exact Lo he hb
def Ep(f1 f2:Addr)(RX RY:Sp)(E:XK)(ta:TE)(t:TA):TE:=λσ H Q=>ta σ H λv H1=>(v= .ref f1/\t σ H1 λvs H2=>RX vs H2 Q E)\/(v= .ref f2/\t σ H1 λvs H2=>RY vs H2 Q E)
theorem lI(hf:PE X (.Name x p) ta)(F1:bE X.prog X.w X.K X.mg X.base CX k1 f1 VV VX RX)(G6:eN k1 X.A)(H_:PySem.W.keepIn X.K (.ref f1)=true)(Cp:Binds X.K VV VX [])(F2:bE X.prog X.w X.K X.mg X.base CX k2 f2 VW VY RY)(NG:eN k2 X.A)(yL:PySem.W.keepIn X.K (.ref f2)=true)(p_:Binds X.K VW VY [])(hx:Passes CX X E)
  (ha:PA X (e::es) t) (he:starEach (e::es) X.env=(false,eval e X.env)::starEach es X.env:=by rfl) (h7:(backTo pos (starEach es X.env)).any (·.1)=false:=by rfl):
  PE X (.Call (.Name x p) (e::es) [] pos) (Ep f1 f2 RX RY E ta t):=by
 walk_at"i"
 refine wpAny_Call_Name_kw (cf (hf pins s σ H _ I h) λu s1 ⟨v,H1,I1,r,q⟩=>?_)
 rcases q with ⟨rfl,q⟩ | ⟨rfl,q⟩
 ·obtain rfl:u=Value.ref f1:=r
  refine Qd8 (h₀:=X.base) I1.ok.mod.Nt H_ (cf (ha pos pins s1 σ H1 _ I1 q) λus s2 ⟨vs,H2,I2,r2,q2⟩=>⟨I2.BI,?_⟩) he h7
  exact yp (dvs:=[]) (ds:=[]) F1 G6 Cp .nil hx I2 r2 (by rw[Qba];exact q2)
 ·obtain rfl:u=Value.ref f2:=r
  refine Qd8 (h₀:=X.base) I1.ok.mod.Nt yL (cf (ha pos pins s1 σ H1 _ I1 q) λus s2 ⟨vs,H2,I2,r2,q2⟩=>⟨I2.BI,?_⟩) he h7
  exact yp (dvs:=[]) (ds:=[]) F2 NG p_ .nil hx I2 r2 (by rw[Qba];exact q2)
end
section
variable{prog:Program}{w:World}{A:Around}{E:Value->Shared->Prop}{R:Result->Shared->Prop}{I S:Addr}{fp wr:List Addr}{n:Nat}{P:Nat->Value->Prop}{St:Nat->Heap->Prop}{kw:List (Str×Value)}{bt:Nat->Nat->Bool}
theorem Ay:(toString "max"++toString ".loop":String)="max.loop":=∅
theorem QD(W:Walks prog w A.in1 I fp wr n P St)(cm:CmpOf prog w A.in1 .Gt P bt)(sf:S∉fp):∀(m j:Nat) (s:Shared) (b:Value) (c:Nat),n=j+1+m->St (j+1) s.heap->P (argBest bt j) b->s.heap.get? S=some { cls:= .type "list",dict:=none,data:= .seq #[b,b] c,slots:= #[] }->
  (∀v h' tk,P (argBest bt (n - 1)) v->(∀a o,a∉wr->a≠S->s.heap.get? a=some o->h'.get? a=some o)->R (.ok (.ret v)) { s with heap:=h',toks:=tk })->
  codeAny (model prog w) A (.builtin "max.loop" ⟨[.ref I,.none,.ref S],kw⟩) R s:=by
 have sw:S∉wr:=λz=>sf (W.sub _ z)
 intro m
 induction m with
 | zero=>
  intro j s b c en kL hb hS hR
  have e1:n=j+1:=en
  subst e1
  refine codeAny_builtin Qeu ?_
  rw[Around.under_plainId Qb7 _]
  refine wpAny_bind (m:=seqItems? (.ref S)) (wpAny_seqItems hS rfl ?_)
  refine wpAny_bind (m:=tryCatch (pyNext (.ref I)) _) (wpAny_tryCatch (W.done s _ _ kL λh1 tk k1=>?_))
  refine wpAny_bind (m:=updateSeq S λ_=> #[]) (wpAny_updateSeq (k1 S _ sw hS) rfl (wpAny_bind (wpAny_letGo (wpAny_pure ?_))))
  exact hR b _ tk hb λa o aw aS ea=>(Qbb _ _ (Ne.symm aS)).trans (k1 a o aw ea)
 | succ m ih=>
  intro j s b c en kL hb hS hR
  refine codeAny_builtin Qeu ?_
  rw[Around.under_plainId Qb7 _]
  refine wpAny_bind (m:=seqItems? (.ref S)) (wpAny_seqItems hS rfl ?_)
  refine wpAny_bind (m:=tryCatch (pyNext (.ref I)) _) (wpAny_tryCatch (W.item (j+1) s _ _ () kL λv h1 tk pv vW k1=>?_))
  have NH:=k1 S _ sw hS
  refine wpAny_bind (m:=tryCatch (holding [v,v] (richCompare .Gt v b >>= _)) _) (wpAny_tryCatch (wpAny_holding (wpAny_bind (cm (j+1) (argBest bt j) v b _ _ _ pv hb (wpAny_bind (wpAny_holding (wpAny_truthy_bool (wpAny_bind (wpAny_letGo (wpAny_pure ?_))))))))))
  cases q:bt (j+1) (argBest bt j)
  ·rw[if_neg ∅]
   refine wpAny_bind (wpAny_letGo ?_)
   rw[Ay]
   refine wpAny_pure ⟨plainId_quiet Qb7 _,ih (j+1) _ b c () vW (by rw[argBest,q];exact hb) NH λv' h2 Ko p2 k2=>?_⟩
   exact hR v' h2 Ko p2 λa o aw aS ea=>k2 a o aw aS (k1 a o aw ea)
  ·rw[if_pos rfl]
   refine wpAny_bind (wpAny_updateSeq NH rfl (wpAny_bind (wpAny_letGo ?_)))
   rw[Ay]
   refine wpAny_pure ⟨plainId_quiet Qb7 _,ih (j+1) _ v _ () (W.frame _ _ _ vW λa af o ea=>?_) (by rw[argBest,q];exact pv) (Qbm _ NH rfl) λv' h2 Ko p2 k2=>?_⟩
   ·exact (Qbb _ _ (λz:S=a=>sf (z▸af))).trans ea
   ·exact hR v' h2 Ko p2 λa o aw aS ea=>k2 a o aw aS ((Qbb _ _ (Ne.symm aS)).trans (k1 a o aw ea))
theorem QE(a d:Value):argsOk "max" ⟨[a],[(Str.ofString "default",d)]⟩:=by unfold argsOk;kernel_rfl
theorem Ie{s:Shared}{x d:Value}{Q:Value->Shared->Prop}
  (h:wpAny (model prog w) A.in1 (pyIter x) (λit s₂=>∃I fp wr n P St bt,it= .ref I/\Walks prog w A.in1 I fp wr n P St/\St 0 s₂.heap/\(∀b∈fp,b<s₂.heap.objs.size)/\CmpOf prog w A.in1 .Gt P bt/\
   ∀v h' tk,(n=0->v=d)->(0<n->P (argBest bt (n - 1)) v)->(∀b o,b∉wr->s₂.heap.get? b=some o->h'.get? b=some o)->Q v { s₂ with heap:=h',toks:=tk }) E s):
  wpAny (model prog w) A (call (.builtin "max") [x] [(Str.ofString "default",d)]) Q E s:=by
 refine kmk_tree PySem.F.kind_max PySem.F.plain_max PySem.F.entry_max (QE x d) ?_
 refine wpAny_bind (m:=Builtin.Builtins.bindParams "max" ["key","default"] 0 ⟨[],[(Str.ofString "default",d)]⟩) (wpAny_of_eq (a:=[none,some d]) rfl ?_)
 refine wpAny_bind (wpAny_pure (wpAny_bind (wpAny_mono h (λit s2 h2=>?_) λ_ _ e=>e)))
 obtain ⟨I,fp,wr,n,P,St,bt,rfl,W,kL,X5,cm,hQ⟩:=h2
 refine wpAny_bind (wpAny_newObj_type ?_)
 have sf:s2.heap.objs.size∉fp:=λz=>Qbe _ (X5 _ z)
 have sw:s2.heap.objs.size∉wr:=λz=>sf (W.sub _ z)
 have hS:(s2.heap.push { cls:= .type "list",data:= .seq #[] }).get? s2.heap.objs.size=some { cls:= .type "list",dict:=none,data:= .seq #[] 0,slots:= #[] }:=Qae _ rfl
 have QF:=W.frame _ _ (s2.heap.push { cls:= .type "list",data:= .seq #[] }) kL λb _ o e=>VI _ e
 have lo:∀{b o},s2.heap.get? b=some o->b≠s2.heap.objs.size:=λe=>Qal (Qag e)
 rw[Ay]
 refine wpAny_pure ⟨plainId_quiet Qb7 _,codeAny_builtin Qeu ?_⟩
 rw[Around.under_plainId Qb7 _]
 refine wpAny_bind (m:=seqItems? (.ref s2.heap.objs.size)) (wpAny_seqItems hS rfl ?_)
 cases n with
 | zero=>
  refine wpAny_bind (m:=tryCatch (pyNext (.ref I)) _) (wpAny_tryCatch (W.done _ _ _ QF λh1 tk k1=>?_))
  walk_at"I"
  refine wpAny_pure (hQ d h1 tk (λ_=>rfl) (λz=>absurd z (Qbe _)) λb o bw e=>k1 b o bw (VI _ e))
 | succ m=>
  refine wpAny_bind (m:=tryCatch (pyNext (.ref I)) _) (wpAny_tryCatch (W.item 0 _ _ _ (Qfo _) QF λv h1 tk pv vW k1=>?_))
  have NH:=k1 _ _ sw hS
  refine wpAny_bind (m:=updateSeq s2.heap.objs.size λ_=> #[v,v]) (wpAny_updateSeq NH rfl ?_)
  rw[Ay]
  refine wpAny_pure ⟨plainId_quiet Qb7 _,QD W cm sf m 0 _ v _ () (W.frame _ _ _ vW λa af o ea=>?_) pv (Qbm _ NH rfl) λv' h2 Ko p2 k2=>?_⟩
  ·exact (Qbb _ _ (λz:s2.heap.objs.size=a=>sf (z▸af))).trans ea
  ·exact hQ v' h2 Ko (λz=>by lia) (λ_=>p2) λb o bw e=>k2 b o bw (lo e) ((Qbb _ _ (Ne.symm (lo e))).trans (k1 b o bw (VI _ e)))
end
noncomputable def Mc(d:Int):List Int->Int
 | []=>d
 | a::r=>r.foldl (λx y=>if y>x then y else x) a
noncomputable def fA(l:List Int)(i j:Nat):Bool:=decide (l.getD i 0>l.getD j 0)
theorem lJ(l:List Int):∀n:Nat,n<(l:)->l.getD (argBest (fA l) n) 0=((l.drop 1).take n).foldl (λx y=>if y>x then y else x) (l.getD 0 0)
 | 0,_=>by simp[argBest]
 | n+1,h=>by
  have ih:=lJ l n ()
  have e:(l.drop 1).take (n+1)=(l.drop 1).take n++[l.getD (n+1) 0]:=by
   rw[Qdn,Qcd,show 1+n=n+1 by lia,Xw,LK h]
   rfl
  rw[e,Qfr, <-ih]
  show l.getD (if fA l (n+1) (argBest (fA l) n)=true then n+1 else argBest (fA l) n) 0=if l.getD (n+1) 0>l.getD (argBest (fA l) n) 0 then l.getD (n+1) 0 else l.getD (argBest (fA l) n) 0
  by_cases z:l.getD (n+1) 0>l.getD (argBest (fA l) n) 0
  ·rw[if_pos (show fA l (n+1) (argBest (fA l) n)=true from decide_eq_true z),if_pos z]
  ·rw[if_neg (show ¬fA l (n+1) (argBest (fA l) n)=true from λw=>z (of_decide_eq_true w)),if_neg z]
section
variable{X:Cx}
theorem Er{prog:Program}{w:World}{A:Around}{l:List Int}{its:List Value}(r:Vals (l.map V.int) its):CmpOf prog w A .Gt (λi v=>its.toArray[i]? =some v) (fA l):=by
 intro i j vi vj s Q E hi hj hQ
 have get:∀{i:Nat} {v:Value},its.toArray[i]? =some v->∃t,v= .int (l.getD i 0) t:=by
  intro i v h
  have h':its[i]? =some v:=by simpa using h
  have hl:i<(l:):=by have:=(LL.mp h').1;rw[<-(r:),NA]at this;exact this
  obtain ⟨u,hu,ru⟩:=r.get (i:=i) (x:=V.int (l.getD i 0)) (by rw[ZN,Xw,LK hl];rfl)
  rw[h']at hu;cases hu
  exact ru
 obtain ⟨t,rfl⟩:=get hi
 obtain ⟨u,rfl⟩:=get hj
 exact gt_int hQ
def QG(K:Fr)(d:Int)(t:TA):TE:=λσ H Q=>t σ H λvs H1=>∃(p:Addr) (l:List Int),vs=[.ref p]/\a_ K H1 p (l.map V.int)/\Q (.int (Mc d l)) H1
theorem Ig{e:Expr}{t:TA}{d:Int}{j:Nat}{kp cp p pos:Pos}(K:Fr)(hK:X.K=K)(hc:X.calm=true)(hg:Gl X "max")(hm:X.mg "max"=none)(ha:PA X [e] t)
  (he:backTo pos (starEach [e] X.env)=[(false,eval e X.env)]:=by rfl):PE X (.Call (.Name "max" p) [e] [⟨some "default", .Constant (.int d) j cp,kp⟩] pos) (QG K d t):=by
 subst hK
 walk_at"i"
 refine wpAny_Call_Name_kw (gD I hg hm boot_max ?_)
 refine callWith_kw (cf (ha pos pins s σ H _ I h) λus s1 ⟨vs,H1,I1,r1,q1⟩=>?_) he (by rw[he];rfl)
 obtain ⟨a,l,rfl,hq,q⟩:=q1
 obtain ⟨u,rfl,ru⟩:=vals1 r1
 cases ru
 refine kws_cons (wpAny_Constant_int (kws_nil ?_))
 obtain ⟨its,rv,pl,hz⟩:=I1.list hq
 have hlen:(its:)=(l:):=by rw[<-(rv:),NA]
 have hp:a<s1.heap.objs.size:=by
  obtain ⟨o,n,e,_⟩:=pl
  exact Qag e
 refine Ie (wpAny_pyIter_list pl.isList ?_)
 refine ⟨_,_,_,_,_,_,fA l,rfl,Walks.list (A:=X.A.in1) (I1.ok.hd hc) s1.heap.objs.size a (Qal hp) its.toArray,⟨⟨_,Qae _ rfl,rfl,rfl⟩,?_⟩,λb hb=>?_,Er rv,λv h' tk h0 h1 hk=>?_⟩
 ·obtain ⟨o,ho,hr⟩:=pl.isList
  exact ⟨o,VI _ ho,hr⟩
 ·show b<(s1.heap.push _).objs.size
  rw[Qdf]
  exact (ZQ.mp hb).elim (λz=>z▸Qcb _) λz=>(VH.mp z)▸Qct hp
 ·have ru:RelV (.int (Mc d l)) v:=by
   cases l with
   | nil=>
    have:=h0 (by rw[Xv,hlen];rfl)
    subst this
    exact ⟨_,rfl⟩
   | cons b l=>
    have hn:its.toArray.size - 1=(l:):=by rw[Xv,hlen];rfl
    have hP:=h1 (by rw[Xv,hlen];exact Qfo _)
    rw[hn]at hP
    have RZ:its[argBest (fA (b::l)) (l:)]? =some v:=by simpa using hP
    have hl:argBest (fA (b::l)) (l:)<((b::l):):=Nat.lt_succ_of_le (argBest_lt _ _)
    have e:=lJ (b::l) (l:) (Qcb _)
    rw[show ((b::l).drop 1).take (l:)=l from Qar (RP _),Xw,LK hl]at e
    have e':(b::l)[argBest (fA (b::l)) (l:)]=Mc d (b::l):=e
    obtain ⟨u,hu,ru⟩:=rv.get (i:=argBest (fA (b::l)) (l:)) (x:=V.int (Mc d (b::l))) (by rw[ZN,LK hl,e'];rfl)
    rw[RZ]at hu;cases hu
    exact ru
  refine ⟨.int (Mc d l),H1,?_,ru,q⟩
  have I2:Inv X pins σ H1 { s1 with heap:=s1.heap.push { cls:= .type "list_iterator",data:= .fields #[.ref a,.int 0 0] },toks:=s1.toks+1 }:=I1.kept (t':=s1.toks+1) λb o e=>VI _ e
  have f:=I1.oE (H':=H1) (b:=s1.heap.objs.size) (RP _) I1.fresh
  exact I2.turned (h':=h') (t':=tk) (it:=s1.heap.objs.size) (λb o hb e=>hk b o (by simpa using hb) e) f.1 f.2.1 f.2.2.2.1 f.2.2.2.2.1 f.2.2.2.2.2
theorem Md:Pc X .Mult (λx y H Q=>∃i j,x= .int i/\y= .int j/\Hs i j/\Q (.int (i*j)) H):=by
 intro pins s σ H x y v u Q I r1 r2 h
 obtain ⟨i,j,rfl,rfl,c,q⟩:=h
 walk_at"1"
 obtain ⟨t',rfl⟩:=r2
 exact imul_int ⟨.int _,H,I.tok _,⟨_,rfl⟩,q⟩ c.ok
theorem Ih:Pc X .FloorDiv (λx y H Q=>∃i j,x= .int i/\y= .int j/\Tp i j/\Q (.int (i / j)) H):=by
 intro pins s σ H x y v u Q I r1 r2 h
 obtain ⟨i,j,rfl,rfl,hc,q⟩:=h
 walk_at"1"
 obtain ⟨t',rfl⟩:=r2
 have h1:(0:Int)<j:=hc.1
 have h2:j<1073741824:=hc.2
 exact ifloordiv_int () (by rw[Int.fdiv_eq_ediv_of_nonneg i ()];exact ⟨.int _,H,I.tok _,⟨_,rfl⟩,q⟩) (.inl (PyProof.noPylong_small ()))
end
theorem qj:∀{ls:List Int} {its:List Value},Vals (ls.map V.int) its->IntsAre its ls
 | [],_,.nil=> .nil
 | _::_,_,.cons ⟨t,e⟩ h=>e▸ .cons _ t (qj h)
theorem qk:∀{ls:List Int} {its:List Value},IntsAre its ls->Vals (ls.map V.int) its
 | _,_,.nil=> .nil
 | _,_,.cons n t h=> .cons ⟨t,rfl⟩ (qk h)
section
variable{prog:Program}{w:World}{A:Around}{E:Value->Shared->Prop}{s:Shared}
theorem uT{Q:Value->Shared->Prop}(hh:A.handled=none)(d:Addr)(aH:List (Key×Value))(ep:Nat)(ls:List Int)(hk:aH.map (·.1)=ls.map λl=>Sum.inl l)(hd:(d==sysModules)=false)(hm:s.heap.DictAt (bz prog w) d aH ep)(VQ:(aH:)<64)
  (h:∀(h1 h':Heap) (tk:Nat) (a:Addr) (out:Array Value) (Dp:List Int) (e:Nat),(∀b o,s.heap.get? b=some o->h1.get? b=some o)->(∀b o,h1.get? b=some o->h'.get? b=some o)->a=h1.objs.size->h'.get? a=some (seqObj "list" out e)->IntsAre out.toList Dp->Dp.Perm ls->(Dp.Pairwise λa b=> ¬b<a)->Q (.ref a) { s with heap:=h',toks:=tk }):
  wpAny (model prog w) A (call (.builtin "sorted") [.ref d]) Q E s:=by
 refine Calls.call_function_entry kind_sorted plain_sorted entry_sorted (args_sorted1 _) ?_
 unfold Builtin.«sorted»
 refine wpAny_bind (m:=checkCount "sorted" 1 1 _) (wpAny_pure ?_)
 have nQ:(10000:Nat)<sizeLine:=by decide
 refine wpAny_bind (uM (A:=A.in1) (show A.in1.handled=none from hh) d aH ep hd hm () (λs' acc X6 hg NI ho yC=>?_))
 obtain ⟨h1,h2⟩:=yC
 have hlen:(aH:)=(ls:):=by have:=congrArg List.length hk;simpa using this
 have rv:Vals (ls.map V.int) acc.toList:=by
  have key:∀(ls:List Int) (vs:List Value),(vs:)=(ls:)->(∀(j:Nat) (v:Value),vs[j]? =some v->∃l t,ls[j]? =some l/\v=Value.int l t)->Vals (ls.map V.int) vs:=by
   intro ls
   induction ls with
   | nil=>intro vs hl _;have:vs=[]:=Qd0 hl;subst this;exact .nil
   | cons l ls ih=>
    intro vs hl hv
    cases vs with
    | nil=>simp at hl
    | cons v vs=>
     obtain ⟨l',t,e1,e2⟩:=hv 0 v rfl
     have yH:l=l':=by simpa using e1
     subst yH
     refine .cons ⟨t,e2⟩ (ih vs (by simpa using hl) λj v' e=>?_)
     obtain ⟨l',t',g1,g2⟩:=hv (j+1) v' (by simpa using e)
     exact ⟨l',t',by simpa using g1,g2⟩
  refine key ls acc.toList (by simpa [<-hlen]using h1) λj v e=>?_
  obtain ⟨k,x,e1,e2⟩:=h2 j v (by simpa using e)
  have e3:(aH.map (·.1))[j]? =some k:=by rw[ZN,e1];rfl
  rw[hk,ZN]at e3
  cases e4:ls[j]? with
  | none=>rw[e4]at e3;cases e3
  | some l=>
   rw[e4]at e3
   have e5:k=Sum.inl l:=(Qaf e3).symm
   subst e5
   obtain ⟨t,e6⟩:=Value.isInt_shape (k:=l) (v:=v) e2
   exact ⟨l,t,rfl,e6⟩
 have hS:=qj rv
 have hn:(acc.toList:)=(ls:):=by rw[<-(rv:),NA]
 refine wpAny_bind (wpAny_newList ?_)
 have O7:(s'.heap.push (seqObj "list" acc.toList.toArray 0)).get? s'.heap.objs.size=some (seqObj "list" acc.toList.toArray 0):=Qae _ rfl
 show wpAny _ _ _ _ _ { s' with heap:=s'.heap.push (seqObj "list" acc.toList.toArray 0) }
 refine wpAny_bind (wpAny_holding (wpAny_call_entry slot_list_sort ⟨_,O7,rfl⟩ entry_list_sort (list_sort_tree O7 hS () λout Dp k1 k2 k3=>⟨_,rfl,?_⟩) (args_list_sort _)))
 obtain ⟨e,he⟩:=sortedHeap_at (out:=out) O7
 refine wpAny_pure ⟨_,rfl,?_⟩
 have es:∀hh:Heap,({ s' with heap:=hh }:Shared)={ s with heap:=hh,toks:=s'.toks }:=λhh=>by
  cases s;cases s'
  simp only at hg NI ho
  subst hg NI ho
  rfl
 show Q (.ref s'.heap.objs.size) { s' with heap:=sortedHeap (s'.heap.push (seqObj "list" acc.toList.toArray 0)) s'.heap.objs.size acc.toList (out) }
 rw[es]
 refine h s'.heap _ _ _ _ Dp e X6 (λb o hb=>?_) rfl he k1 k2 (k3.imp λh=>Int.not_lt.mpr h)
 have di:=Qag hb
 rw[sortedHeap_old (Qal di) (by rw[size_push'];exact Qct di)]
 exact VI _ hb
end
section
variable{X:Cx}
def Ii:List V->Hp->VK->Prop:=λxs H Q=>∃(d:Addr) (aH:List (Key×V)) (ls:List Int),xs=[.ref d]/\H d=some (.dK aH)/\aH.map (·.1)=(ls.map λl=>Sum.inl l)/\(ls:)<64/\∀(q:Addr) (ms:List Int),H q=none->ms.Perm ls->(ms.Pairwise λa b=> ¬b<a)->Q (.ref q) (upd H q (.lst (ms.map V.int)))
theorem rN(hc:X.calm=true):dH X (.builtin "sorted") Ii:=by
 walk_at"e"
 obtain ⟨d,aH,ls,rfl,hd,hk,hn,q⟩:=h
 obtain ⟨u,rfl,ru⟩:=vals1 r
 cases ru
 obtain ⟨hz,Uw,vs,kv,o,es,ep,e1,e2,e3,e4,e5,e6⟩:=I.bX d _ hd
 have hlen:(vs:)=(ls:):=by
  have a1:=congrArg List.length (Au kv)
  have a2:=congrArg List.length hk
  simp only[NA]at a1 a2
  lia
 refine uT (s:=s) (I.ok.hd hc) d vs ep ls ((Au kv).trans hk) Uw ⟨o,es,e1,e2,e3,e4,e5,e6⟩ () λh1 h' tk a out Dp e k1 k2 ea he g1 g2 g3=>?_
 have wH:=g2
 have hv:=qk g1
 have pw:=g3
 have I1:Inv X pins σ H { s with heap:=h1,toks:=tk }:=I.kept k1
 have hsz:(10000:Nat)<sizeLine:=by decide
 have I2:Inv X pins σ (upd H a (.lst (Dp.map V.int))) { s with heap:=h',toks:=tk }:=
  I1.laid (t':=tk) (a:=a) (o:= .lst (Dp.map V.int)) k2 (by rw[ea];exact RP _) ⟨by rw[NA,wH.length_eq];lia,out.toList,e,hv,by simpa [seqObj]using he⟩
 exact ⟨.ref a,_,I2,rfl,q _ _ (I1.bX.fresh (by rw[ea];exact RP _)) wH pw⟩
def Ij(K:Fr):List V->Hp->VK->Prop:=λxs H Q=>∃(p:Addr) (ns:List Int),xs=[.ref p]/\a_ K H p (ns.map V.int)/\(ns:)<64/\∀(q:Addr) (ms:List Int),H q=none->ms.Perm ns->ms.Pairwise (· <= ·)->Q (.ref q) (upd H q (.lst (ms.map V.int)))
theorem rO(K:Fr)(h:X.K=K):dH X (.builtin "sorted") (Ij K):=by
 subst h
 walk_at"e"
 obtain ⟨p,ns,rfl,hq,hn,q⟩:=h
 obtain ⟨u,rfl,ru⟩:=vals1 r
 cases ru
 obtain ⟨its,rv,pl,hz⟩:=I.list hq
 have hlen:(its:)=(ns:):=by rw[<-(rv:),NA]
 refine sorted_ints (l:=p) (vs:=its) (ns:=ns) pl.isList (qj rv) () λout ms h1 h2 h3=>?_
 obtain ⟨e,he⟩:=sortedAll_at s.heap its out
 have nR:=h2.length_eq
 have VQ:(64:Nat)<sizeLine:=by decide
 have LY:(ms.map V.int:)<=sizeLine:=by rw[NA,nR];lia
 exact ⟨.ref (s.heap.objs.size+1),_,I.laid (t':=s.toks) (a:=s.heap.objs.size+1) (o:= .lst (ms.map V.int)) (λb o e=>sortedAll_old e) (Qcl _) ⟨LY,out.toList,e,qk h1,by simpa [seqObj]using he⟩,rfl,q _ _ (I.bX.fresh (Qcl _)) h2 h3⟩
end
noncomputable def ig(l:List Int)(i j:Nat):Bool:=decide (l.getD i 0<l.getD j 0)
theorem ql(l:List Int):∀n:Nat,n<(l:)->argBest (ig l) n<=n/\∀k,k<=n->l.getD (argBest (ig l) n) 0<=l.getD k 0
 | 0,_=>⟨RP _,λk hk=>by rw[Nat.le_zero.mp hk];exact Qfb _⟩
 | n+1,h=>by
  have ⟨i1,i2⟩:=ql l n ()
  show (if ig l (n+1) (argBest (ig l) n)=true then n+1 else argBest (ig l) n)<=n+1/\∀k,k<=n+1->l.getD (if ig l (n+1) (argBest (ig l) n)=true then n+1 else argBest (ig l) n) 0<=_
  by_cases z:ig l (n+1) (argBest (ig l) n)=true
  ·rw[if_pos z]
   have z:=of_decide_eq_true z
   refine ⟨RP _,λk hk=>?_⟩
   by_cases e:k=n+1
   ·rw[e];exact Qfb _
   ·have:=i2 k ()
    lia
  ·rw[if_neg z]
   have z: ¬l.getD (n+1) 0<l.getD (argBest (ig l) n) 0:=λw=>z (decide_eq_true w)
   refine ⟨Qc4 i1,λk hk=>?_⟩
   by_cases e:k=n+1
   ·rw[e];lia
   ·exact i2 k ()
section
variable{X:Cx}
theorem Me{prog:Program}{w:World}{A:Around}{l:List Int}{its:List Value}(r:Vals (l.map V.int) its):CmpOf prog w A .Lt (λi v=>its.toArray[i]? =some v) (ig l):=by
 intro i j vi vj s Q E hi hj hQ
 have get:∀{i:Nat} {v:Value},its.toArray[i]? =some v->∃t,v= .int (l.getD i 0) t:=by
  intro i v h
  have h':its[i]? =some v:=by simpa using h
  have hl:i<(l:):=by have:=(LL.mp h').1;rw[<-(r:),NA]at this;exact this
  obtain ⟨u,hu,ru⟩:=r.get (i:=i) (x:=V.int (l.getD i 0)) (by rw[ZN,Xw,LK hl];rfl)
  rw[h']at hu;cases hu
  exact ru
 obtain ⟨t,rfl⟩:=get hi
 obtain ⟨u,rfl⟩:=get hj
 exact lt_int hQ
def QH(K:Fr):List V->Hp->VK->Prop:=λxs H Q=>∃(p:Addr) (l:List Int),xs=[.ref p]/\a_ K H p (l.map V.int)/\l≠[]/\∀m∈l,(∀b∈l,m<=b)->Q (.int m) H
theorem Cq(K:Fr)(h:X.K=K)(hc:X.calm=true):dH X (.builtin "min") (QH K):=by
 subst h
 walk_at"e"
 obtain ⟨p,l,rfl,hq,cP,q⟩:=h
 obtain ⟨u,rfl,ru⟩:=vals1 r
 cases ru
 obtain ⟨its,rv,pl,hz⟩:=I.list hq
 have hlen:(its:)=(l:):=by rw[<-(rv:),NA]
 have qe:=VJ.mpr cP
 have hp:p<s.heap.objs.size:=by
  obtain ⟨o,n,e,_⟩:=pl
  exact Qag e
 refine call_min_walk (wpAny_pyIter_list pl.isList ?_)
 refine ⟨s.heap.objs.size,_,_,_,_,_,ig l,rfl,Walks.list (A:=X.A.in1) (I.ok.hd hc) s.heap.objs.size p (Qal hp) its.toArray,⟨⟨_,Qae _ rfl,rfl,rfl⟩,?_⟩,λb hb=>?_,by rw[Xv];lia,Me rv,λv h' tk hP hk=>?_⟩
 ·obtain ⟨o,ho,hr⟩:=pl.isList
  exact ⟨o,VI _ ho,hr⟩
 ·show b<(s.heap.push _).objs.size
  rw[Qdf]
  rcases ZQ.mp hb with z | z
  ·rw[z];exact Qcb _
  ·rw[VH.mp z];exact Qct hp
 ·have RZ:its[argBest (ig l) (its.toArray.size - 1)]? =some v:=by simpa using hP
  have hn:its.toArray.size - 1=(l:) - 1:=by rw[Xv,hlen]
  rw[hn]at RZ
  obtain ⟨a1,a2⟩:=ql l ((l:) - 1) ()
  have hl:argBest (ig l) ((l:) - 1)<(l:):=by lia
  have eD:l.getD (argBest (ig l) ((l:) - 1)) 0=l[argBest (ig l) ((l:) - 1)]:=by rw[Xw,LK hl];rfl
  obtain ⟨u,hu,ru⟩:=rv.get (i:=argBest (ig l) ((l:) - 1)) (x:=V.int l[argBest (ig l) ((l:) - 1)]) (by rw[ZN,LK hl];rfl)
  rw[RZ]at hu;cases hu
  have I1:Inv X pins σ H { s with heap:=h',toks:=tk }:=by
   have I0:Inv X pins σ H { s with heap:=s.heap.push { cls:= .type "list_iterator",data:= .fields #[.ref p,.int 0 0] } }:=I.kept (t':=s.toks) λb o e=>VI _ e
   have f:=I.oE (H':=H) (b:=s.heap.objs.size) (RP _) I.fresh
   have J:=I0.turned (h':=h') (t':=tk) (it:=s.heap.objs.size) (λb o hb e=>hk b o (by simpa using hb) e) f.1 f.2.1 f.2.2.2.1 f.2.2.2.2.1 f.2.2.2.2.2
   exact J
  refine ⟨_,H,I1,ru,q _ (Qa7 hl) λb hb=>?_⟩
  obtain ⟨k,hk,rfl⟩:=Qcy hb
  have:=a2 k ()
  rw[eD,Xw,LK hk]at this
  exact this
end
end L2
namespace My
open PySem PySem.Spec PyProof.Rows L2 XL
theorem Zs1:(100000:Nat)<sizeLine:=∅
noncomputable def aL:Z:=[97,98,99,100,101,102,103,104,105,106,107,108,109,110,111,112,113,114,115,116,117,118,119,120,121,122]
noncomputable def ik:Z:=[65,66,67,68,69,70,71,72,73,74,75,76,77,78,79,80,81,82,83,84,85,86,87,88,89,90]
def Lt(c:Nat):Prop:=c∈aL\/c∈ik
noncomputable instance (c:Nat):Decidable (Lt c):=by unfold Lt;infer_instance
noncomputable def aB(c:Nat):Nat:=if ay c=true then PyProof.Rows.up1 c else PyProof.Rows.lo1 c
theorem uU:∀c∈aL++ik,c<128/\aB c∈aL++ik/\aB (aB c)=c/\aB c≠c:=⋯
theorem Lt.mem{c:Nat}(h:Lt c):c∈aL++ik:=Qaa.mpr h
theorem Lt.lt{c:Nat}(h:Lt c):c<128:=(uU c h.mem).1
theorem Lt.aB{c:Nat}(h:Lt c):Lt (aB c):=Qaa.mp (uU c h.mem).2.1
theorem aK{c:Nat}(h:Lt c):aB (aB c)=c:=(uU c h.mem).2.2.1
theorem gE{c:Nat}(h:Lt c):aB c≠c:=(uU c h.mem).2.2.2
theorem gx{a b:Nat}(ha:Lt a)(hb:Lt b)(e:My.aB a=My.aB b):a=b:=by rw[<-aK ha,e,aK hb]
theorem wR:∀c∈aL,rz ik ((aL.idxOf c:Nat):Int)=some (aB c):=⋯
theorem Cr:∀c∈ik,rz aL ((ik.idxOf c:Nat):Int)=some (aB c):=⋯
noncomputable def gQ(l:Z):Z:=(l.map aB).reverse
def aO(b:Addr)(H H':Hp):Prop:=∀c o,H c=some o->c≠b->H' c=some o
theorem aO.refl(b:Addr)(H:Hp):aO b H H:=λ_ _ h _=>h
theorem aO.trans{b:Addr}{H H1 H2:Hp}(x:aO b H H1)(y:aO b H1 H2):aO b H H2:=λc o h n=>y c o (x c o h n) n
theorem aO.of{b:Addr}{H H':Hp}(x:aj H H'):aO b H H':=λc o h _=>x c o h
theorem aO.upd(b:Addr)(H:Hp)(o:HO):aO b H (upd H b o):=λc o h n=>by rw[ar n];exact h
theorem aj.upd{H:Hp}{p:Addr}{o:HO}(h:H p=none):aj H (L2.upd H p o):=λc u e=>by rw[ar (ao e h)];exact e
def c_(H:Hp)(b:Addr):Prop:=∃x y:Int,H b=some (.lst [.int x,.int y])
theorem c_.same{H H':Hp}{b:Addr}(h:c_ H b)(s:aj H H'):c_ H' b:=let ⟨x,y,e⟩:=h;⟨x,y,s _ _ e⟩
structure Yd(y:Z):Prop where
 nd:y.Nodup
 lt:∀c∈y,Lt c
 cl:∀c∈y,aB c∈y
def nX(_:Fr):Sp:=λvs H Q _=>∃c,vs=[.str (S [c])]/\c<128/\Q (.str (S [aB c])) H
theorem uV{K:Fr}{vs:List V}{H:Hp}{Q:VK}{E:XK}(h:nX K vs H Q E):(vs:)=1:=by obtain ⟨c,rfl,_⟩:=h;rfl
def sY(_:Fr):Sp:=λvs H Q _=>∃c,vs=[.str (S [c])]/\Lt c/\Q (.str (S [aB c])) H
theorem yW{K:Fr}{vs:List V}{H:Hp}{Q:VK}{E:XK}(h:sY K vs H Q E):(vs:)=1:=by obtain ⟨c,rfl,_⟩:=h;rfl
def sZ(_:Fr):Sp:=λvs H Q _=>∃l:Z,vs=[.str (S l)]/\(∀c∈l,c<128)/\(l:)<=1000/\∀H',aj H H'->Q (.str (S (gQ l))) H'
theorem yX{K:Fr}{vs:List V}{H:Hp}{Q:VK}{E:XK}(h:sZ K vs H Q E):(vs:)=1:=by obtain ⟨c,rfl,_⟩:=h;rfl
def Az(K:Fr):Sp:=λvs H Q _=>∃(a:Addr) (ns:List Int) (k:Nat),vs=[.ref a,.int k]/\a_ K H a (ns.map V.int)/\k<=1000/\∀b H',H b=none->c_ H' b->aj H H'->Q (.ref b) H'
theorem Es{K:Fr}{vs:List V}{H:Hp}{Q:VK}{E:XK}(h:Az K vs H Q E):(vs:)=2:=by obtain ⟨a,ns,k,rfl,_⟩:=h;rfl
def wU(_:Fr):Sp:=λvs H Q _=>∃(b:Addr) (m:Int),vs=[.ref b,.int m]/\c_ H b/\1<=m/\m<1000000/\∀(r:Nat) H',(r:Int)<m->c_ H' b->aO b H H'->Q (.int r) H'
theorem Cs{K:Fr}{vs:List V}{H:Hp}{Q:VK}{E:XK}(h:wU K vs H Q E):(vs:)=2:=by obtain ⟨b,m,rfl,_⟩:=h;rfl
def wV(_:Fr):Sp:=λvs H Q _=>∃(b:Addr) (wW top:Nat),vs=[.ref b,.int wW,.int top]/\c_ H b/\1<=wW/\wW<=top/\top<=8/\∀(y:Z) H',Yd y->2*wW<=(y:)->(y:)<=2*top->c_ H' b->aO b H H'->Q (.str (S y)) H'
theorem Ct{K:Fr}{vs:List V}{H:Hp}{Q:VK}{E:XK}(h:wV K vs H Q E):(vs:)=3:=by obtain ⟨b,m,t,rfl,_⟩:=h;rfl
def mN(K:Fr):Sp:=λvs H Q _=>∃(a:Addr) (ns:List Int),vs=[.ref a]/\a_ K H a (ns.map V.int)/\(ns:)<=63/\∀H',Q (.bl true) H'
theorem Ik{K:Fr}{vs:List V}{H:Hp}{Q:VK}{E:XK}(h:mN K vs H Q E):(vs:)=1:=by obtain ⟨b,m,rfl,_⟩:=h;rfl
theorem s_:∀l:Z,(l.map λc=>[c]).flatten=l
 | []=>rfl
 | c::l=>by rw[Qad,Qc5,s_ l];rfl
theorem Cu:∀l:Z,((l.map λc=>[c]).map List.length).sum=(l:)
 | []=>rfl
 | c::l=>by
  rw[Qad,Qad,Qbk,Cu l]
  show 1+(l:)=(l:)+1
  lia
theorem eV(l:Z):cT l=(l.map λc=>[c]).map λl=>V.str (S l):=by unfold cT;rw[Qbo];rfl
theorem AA(l:Z):(cT l).reverse=cT l.reverse:=by unfold cT;rw[Qb4]
theorem eI(l:Z)(c:Nat):cT l++[V.str (S [c])]=cT (l++[c]):=by unfold cT;rw[Xs];rfl
theorem take_snoc{α:Type}{l:List α}{i:Nat}{x:α}(h:l[i]? =some x):l.take i++[x]=l.take (i+1):=by rw[Qdn,h];rfl
theorem AB{ns:List Int}{i:Nat}(h:i<(ns:)):∃z,(ns.map V.int)[i]? =some (V.int z):=⟨ns[i],by rw[ZN,LK h];rfl⟩
theorem da{σ:L2.St}{H:Hp}{A B:Hp->Prop}(h:A H):P9 σ H λb H3=>if b=true then A H3 else B H3:=by
 show (if true=true then A H else B H)
 rw[if_pos rfl]
 exact h
theorem yY(b:Bool)(z:Int):∃y,rz [V.int 0,V.int z] (if b=true then 1 else 0)=some (V.int y):=by
 cases b
 ·exact ⟨0,rfl⟩
 ·exact ⟨z,rfl⟩
theorem km{α:Type}:∀{l:List α} {i:Nat} {x:α},l[i]? =some x->(x::l.eraseIdx i).Perm l
 | [],i,x,h=>by simp at h
 | a::l,0,x,h=>by
  have:a=x:=by simpa using h
  subst this
  exact List.Perm.refl _
 | a::l,i+1,x,h=>by
  have ih:=km (l:=l) (i:=i) (x:=x) (by simpa using h)
  rw[Qdl]
  exact (List.Perm.swap a x _).trans (List.Perm.cons a ih)
theorem tf(l:Z)(i:Nat):(cT l).eraseIdx i=cT (l.eraseIdx i):=by
 unfold cT
 induction l generalizing i with
 | nil=>rfl
 | cons a l ih=>
  cases i with
  | zero=>rfl
  | succ i=>rw[Qad,Qdl,ih,Qdl,Qad]
theorem Et{l:Z}{i:Nat}(h:i<(l:)):(cT l)[i]? =some (V.str (S [l[i]])):=by unfold cT;rw[ZN,LK h];rfl
theorem Il(a b:Z):cT a++cT b=cT (a++b):=by unfold cT;rw[Xs]
theorem Cv:∀c∈aL,aB c∉aL:=⋯
theorem Cw:aL.Nodup:=⋯
theorem Yd.perm{a b:Z}(h:Yd a)(p:a.Perm b):Yd b:=
 ⟨p.nodup_iff.mp h.nd,λc hc=>h.lt c (p.mem_iff.mpr hc),λc hc=>p.mem_iff.mp (h.cl c (p.mem_iff.mpr hc))⟩
structure Mf(i:Nat)(L E:Z):Prop where
 yd:Yd E
 nd:L.Nodup
 sm:∀c∈L,c∈aL
 ap:∀c∈L,c∉E
 ll:L.length=26 - i
 el:E.length=2*i
theorem Mf.start:Mf 0 aL []:=⟨⟨Qe7,λ_ h=>absurd h kb,λ_ h=>absurd h kb⟩,Cw,λ_ h=>h,λ_ _ h=>absurd h kb,rfl,rfl⟩
theorem Mf.turn{i r:Nat}{L E:Z}(w:Mf i L E)(hi:i<26)(hr:r<L.length):Mf (i+1) (L.eraseIdx r) (E++[L[r],aB L[r]]):=by
 have hp:=km (l:=L) (LK hr)
 have hm:L[r]∈L:=Qa7 hr
 have hs:=w.sm _ hm
 have hl:Lt L[r]:= .inl hs
 have R0:=hp.nodup_iff.mpr w.nd
 have sub:∀c∈L.eraseIdx r,c∈L:=λc hc=>hp.mem_iff.mp (ZO _ hc)
 have VZ:=w.ap _ hm
 have X7:aB L[r]∉E:=λz=>VZ (by have:=w.yd.cl _ z;rwa [aK hl]at this)
 refine ⟨⟨?_,λc hc=>?_,λc hc=>?_⟩,(Qa9.mp R0).2,λc hc=>w.sm c (sub c hc),λc hc hE=>?_,?_,?_⟩
 ·rw[Qbx]
  refine ⟨w.yd.nd,?_,λa ha b hb z=>?_⟩
  ·rw[Qa9]
   refine ⟨λz=>(gE hl) (VH.mp z).symm,Qa9.mpr ⟨kb,Qe7⟩⟩
  ·subst z
   rcases ZQ.mp hb with z | z
   ·exact VZ (z▸ha)
   ·exact X7 (VH.mp z▸ha)
 ·rcases Qaa.mp hc with z | z
  ·exact w.yd.lt c z
  ·rcases ZQ.mp z with z | z
   ·rw[z];exact hl
   ·rw[VH.mp z];exact hl.aB
 ·rcases Qaa.mp hc with z | z
  ·exact Qb3 _ (w.yd.cl c z)
  ·refine Qaq _ ?_
   rcases ZQ.mp z with z | z
   ·rw[z];exact ZO _ (VH.mpr rfl)
   ·rw[VH.mp z,aK hl];exact ZP
 ·rcases Qaa.mp hE with z | z
  ·exact w.ap c (sub c hc) z
  ·rcases ZQ.mp z with z | z
   ·exact (Qa9.mp R0).1 (z▸hc)
   ·have e:c=aB L[r]:=VH.mp z
    exact Cv _ hs (e▸w.sm c (sub c hc))
 ·have:=hp.length_eq
  rw[Qap,w.ll]at this
  lia
 ·rw[VG,w.el]
  show 2*i+2=_
  lia
theorem aO.ko{b p:Addr}{H H':Hp}{o:HO}(h:aO b H H')(n:H p=none):aO b H (L2.upd H' p o):=λc u e z=>by rw[ar (ao e n)];exact h c u e z
theorem c_.ko{b p:Addr}{H:Hp}{o:HO}(h:c_ H b)(n:p≠b):c_ (L2.upd H p o) b:=let ⟨x,y,e⟩:=h;⟨x,y,by rw[ar (Ne.symm n)];exact e⟩
theorem aO.none{b p:Addr}{H H':Hp}(h:aO b H H')(n:H' p=none)(z:p≠b):H p=none:=by
 cases q:H p with
 | none=>rfl
 | some o=>rw[h p o q z]at n;cases n
theorem c_.ne{b p:Addr}{H:Hp}(h:c_ H b)(n:H p=none):p≠b:=λz=>by obtain ⟨x,y,e⟩:=h;rw[<-z,n]at e;cases e
theorem Im{c:Bool}{A B:Prop}(h:c=false)(hB:B):if c=true then A else B:=by rw[h];exact B4 hB
theorem QI{c:Bool}{A B:Prop}(h:c=true)(hA:A):if c=true then A else B:=by rw[h];exact P6 hA
theorem cC(l:Z):(gQ l:)=(l:):=by unfold gQ;rw[Qa1,NA]
theorem Io{l:Z}(h:∀c∈l,Lt c):gQ (gQ l)=l:=by
 unfold gQ
 rw[Qb4,List.reverse_reverse,Qbo]
 have:∀c∈l,(aB ∘ aB) c=c:=λc hc=>aK (h c hc)
 calc l.map (aB ∘ aB)=l.map id:=Qb9 this
  _=l:=Qfy l
theorem Kq{l:Z}(h:∀c∈l,Lt c):∀c∈l,c<128:=λc hc=>(h c hc).lt
theorem qm(a:Z):a.take (cT a:)=a:=by rw[aW];exact Qar (RP _)
theorem aO.same{b:Addr}{H H2 H3:Hp}(n:H b=Option.none)(s:aj H H2)(t:aO b H2 H3):aj H H3:=λc o e=>t c o (s c o e) (ao e n)
theorem aO.after{p:Addr}{H H1 H2:Hp}(s:aO p H H1)(t:aj H1 H2):aO p H H2:=λc o e z=>t c o (s c o e z)
noncomputable def j7(ws:List Z):List V:=ws.map λl=>V.str (S l)
theorem cD(ws:List Z):(j7 ws:)=(ws:):=by unfold j7;rw[NA]
theorem kr{ws:List Z}{i:Nat}(h:i<(ws:)):(j7 ws)[i]? =some (V.str (S ws[i])):=by unfold j7;rw[ZN,LK h];rfl
theorem wX{s:TS}{D:Ends}{σ:L2.St}{H:Hp}(h:∀D':Ends,(∀σ' H',D.nx σ' H'->D'.nx σ' H')->s D' σ H):s D σ H:=h D λ_ _ z=>z
theorem Ux{t u:TS}{D:Ends}{σ:L2.St}{H:Hp}(h:∀N:L2.St->Hp->Prop,(∀σ' H',u D σ' H'->N σ' H')->t { D with nx:=N } σ H):x_ t u D σ H:=h _ λ_ _ z=>z
theorem QJ{k:Nat}{v:V}{t u:TS}{D:Ends}{σ:L2.St}{H:Hp}{r:V->Hp->Prop}{b c:L2.St->Hp->Prop}(h:∀N:L2.St->Hp->Prop,(∀σ' H',u D σ' H'->N σ' H')->t { D with nx:=N } (σ.set k (some v)) H):z8 k v σ H ({ nx:=x_ t u D,rt:=r,bk:=b,ct:=c }:Ends).nx:=h _ λ_ _ z=>z
theorem QK{t:TT}{σ:L2.St}{H:Hp}{Q:Bool->Hp->Prop}(h:∀Q':Bool->Hp->Prop,(∀b H',Q b H'->Q' b H')->t σ H Q'):t σ H Q:=h Q λ_ _ z=>z
noncomputable def fM(st:Z)(c:Nat):Z:=if st.getLast? =some (aB c) then st.dropLast else st++[c]
noncomputable def red(l:Z):Z:=l.foldl fM []
def yZ:Z->Prop
 | []=>True
 | [_]=>True
 | a::b::r=>a≠aB b/\yZ (b::r)
theorem yZ.init:∀{l:Z} {c:Nat},yZ (l++[c])->yZ l/\l.getLast?≠ some (aB c)
 | [],_,_=>⟨trivial,by simp⟩
 | [a],c,h=>⟨trivial,λz=>h.1 (by simpa using z)⟩
 | a::b::r,c,h=>by
  have ih:=yZ.init (l:=b::r) (c:=c) h.2
  exact ⟨⟨h.1,ih.1⟩,by simpa using ih.2⟩
theorem snoc_cases(l:Z):l=[]\/∃m a,l=m++[a]:=by
 by_cases h:l=[]
 ·exact .inl h
 ·exact .inr ⟨l.dropLast,l.getLast h,(List.dropLast_concat_getLast h).symm⟩
theorem yZ.left:∀{m l:Z},yZ (m++l)->yZ m
 | [],_,_=>trivial
 | [_],_,_=>trivial
 | a::b::r,l,h=>⟨h.1,yZ.left (m:=b::r) (l:=l) h.2⟩
theorem Cy{st:Z}{c d:Nat}(h:d∈fM st c):d∈st\/d=c:=by
 unfold fM at h
 by_cases e:st.getLast? =some (aB c)
 ·rw[if_pos e]at h
  exact .inl (List.dropLast_subset _ h)
 ·rw[if_neg e]at h
  rcases Qaa.mp h with z | z
  ·exact .inl z
  ·exact .inr (VH.mp z)
theorem fold_same:∀(l st:Z),yZ (st++l)->l.foldl fM st=st++l
 | [],st,_=>by simp
 | c::l,st,h=>by
  have h':yZ ((st++[c])++l):=by rw[Qbs];exact h
  have h2:=(yZ.left h').init.2
  rw[Qd3]
  have:fM st c=st++[c]:=by unfold fM;rw[if_neg h2]
  rw[this,fold_same l (st++[c]) h',Qbs]
  rfl
theorem Eu{l:Z}(h:yZ l):red l=l:=by
 exact fold_same l [] h
theorem fold_lt:∀(l st:Z),(∀c∈l,Lt c)->(∀c∈st,Lt c)->∀c∈l.foldl fM st,Lt c
 | [],_,_,h=>h
 | a::l,st,h1,h2=>fold_lt l _ (λc hc=>h1 c (ZO _ hc)) λc hc=>(Cy hc).elim (h2 c) λz=>z▸h1 a ZP
theorem Mg{l:Z}(h:∀c∈l,Lt c):∀c∈red l,Lt c:=fold_lt l [] h λ_ h=>absurd h kb
theorem Cz(st:Z)(c:Nat):(fM st c:)<=(st:)+1:=by
 unfold fM
 by_cases e:st.getLast? =some (aB c)
 ·rw[if_pos e,Qe8];lia
 ·rw[if_neg e,VG];exact RP _
theorem wY:∀(l st:Z),(l.foldl fM st:)<=(st:)+(l:)
 | [],_=>RP _
 | c::l,st=>by
  have:=wY l (fM st c)
  have h2:=Cz st c
  rw[Qd3,Qap]
  lia
theorem lK(l:Z):(red l:)<=(l:):=by
 have:=wY l []
 rw[Qf2,Qc9]at this
 exact this
theorem Ew{l:Z}{i c:Nat}(h:l[i]? =some c):red (l.take (i+1))=fM (red (l.take i)) c:=by
 unfold red
 rw[<-take_snoc h,Qfr]
 rfl
theorem Ex:∀{l:Z},(∀k a b,l[k]? =some a->l[k+1]? =some b->a≠aB b)->yZ l
 | [],_=>trivial
 | [_],_=>trivial
 | a::b::r,h=>⟨h 0 a b rfl rfl,Ex (l:=b::r) λk x y h1 h2=>h (k+1) x y (by simpa using h1) (by simpa using h2)⟩
noncomputable def Dq(l:Z)(s e:Nat):Z:=(l.drop s).take (e - s)
noncomputable def strip:Nat->Z->Z
 | 0,l=>l
 | n+1,l=>match l with
  | []=>[]
  | [a]=>[a]
  | a::b::r=>if a=aB ((b::r).getLast (by simp)) then strip n (b::r).dropLast else a::b::r
theorem fB:∀(n:Nat) {l:Z},(l:)<2->strip n l=l
 | 0,_,_=>rfl
 | _+1,[],_=>rfl
 | _+1,[_],_=>rfl
 | _+1,_::_::_,h=>by simp at h;lia
theorem lL(l:Z)(y:Nat):(l++[y]).getLast (by simp)=y:=by simp
theorem strip_go(n:Nat){a y:Nat}{m:Z}(h:a=aB y):strip (n+1) (a::(m++[y]))=strip n m:=by
 cases m with
 | nil=>
  show (if a=aB (([y]:Z).getLast (by simp)) then strip n ([y]:Z).dropLast else _)=strip n []
  rw[if_pos (by simpa using h)]
  rfl
 | cons b r=>
  show (if a=aB ((b::(r++[y])).getLast (by simp)) then strip n (b::(r++[y])).dropLast else _)=strip n (b::r)
  have e1:(b::(r++[y])).getLast (by simp)=y:=lL (b::r) y
  have e2:(b::(r++[y])).dropLast=b::r:=by
   have:b::(r++[y])=(b::r)++[y]:=rfl
   rw[this,Qfa]
  rw[if_pos (by rw[e1];exact h),e2]
theorem strip_stop(n:Nat){a y:Nat}{m:Z}(h:a≠aB y):strip n (a::(m++[y]))=a::(m++[y]):=by
 cases n with
 | zero=>rfl
 | succ n=>
  cases m with
  | nil=>
   show (if a=aB (([y]:Z).getLast (by simp)) then _ else _)=_
   rw[if_neg (by simpa using h)]
   rfl
  | cons b r=>
   show (if a=aB ((b::(r++[y])).getLast (by simp)) then _ else _)=_
   have e1:(b::(r++[y])).getLast (by simp)=y:=lL (b::r) y
   rw[if_neg (by rw[e1];exact h)]
   rfl
theorem Ey{l:Z}(h:2<=(l:)):∃a m y,l=a::(m++[y]):=by
 cases l with
 | nil=>simp at h
 | cons a r=>
  rcases snoc_cases r with rfl | ⟨m,y,rfl⟩
  ·simp at h
  ·exact ⟨a,m,y,rfl⟩
theorem qp:∀(n:Nat) (l:Z) (k:Nat),(l:)<=n->strip (n+k) l=strip n l
 | 0,l,k,h=>by rw[fB _ (),fB _ ()]
 | n+1,l,k,h=>by
  by_cases h2:(l:)<2
  ·rw[fB _ h2,fB _ h2]
  ·obtain ⟨a,m,y,rfl⟩:=Ey (l:=l) ()
   have hm:(m:)<=n:=by simp at h;lia
   by_cases e:a=aB y
   ·have:n+1+k=(n+k)+1:=by lia
    rw[this,strip_go _ e,strip_go _ e,qp n m k hm]
   ·rw[strip_stop _ e,strip_stop _ e]
noncomputable def core(l:Z):Z:=strip (l:) l
theorem AD{a y:Nat}{m:Z}(h:a=aB y):core (a::(m++[y]))=core m:=by
 unfold core
 have:((a::(m++[y])):)=((m:)+1)+1:=by simp
 rw[this,strip_go _ h,qp _ _ _ (RP _)]
theorem mX{a y:Nat}{m:Z}(h:a≠aB y):core (a::(m++[y]))=a::(m++[y]):=strip_stop _ h
theorem il{l:Z}(h:(l:)<2):core l=l:=fB _ h
theorem wZ{P:Z->Z->Prop}(h1:∀l,(l:)<2->P l l)(h2:∀a m y,a≠aB y->P (a::(m++[y])) (a::(m++[y])))(h3:∀a m y r,a=aB y->P m r->P (a::(m++[y])) r):∀(n:Nat) (l:Z),(l:)<=n->P l (core l)
 | 0,l,h=>by rw[il ()];exact h1 l ()
 | n+1,l,h=>by
  by_cases hl:(l:)<2
  ·rw[il hl];exact h1 l hl
  ·obtain ⟨a,m,y,rfl⟩:=Ey (l:=l) ()
   by_cases e:a=aB y
   ·rw[AD e]
    exact h3 a m y _ e (wZ h1 h2 h3 n m (by simp at h;lia))
   ·rw[mX e];exact h2 a m y e
theorem w4(l:Z):(core l:)<=(l:):=
 wZ (P:=λl r=>(r:)<=(l:)) (λ_ _=>RP _) (λ_ _ _ _=>RP _) (λa m y r _ k=>by simp;lia) (l:) l (RP _)
theorem Mh{l:Z}{s e:Nat}(h1:s+2<=e)(h2:e<=(l:)):Dq l s e=l[s]::(Dq l (s+1) (e - 1)++[l[e - 1]]):=by
 unfold Dq
 rw[Qbn ()]
 have e1:e - s=(e - 1 - (s+1))+1+1:=by lia
 rw[e1,List.take_succ_cons,Qdn,Qcd]
 have e2:s+1+(e - 1 - (s+1))=e - 1:=by lia
 rw[e2,LK ()]
 rfl
theorem Ip{l:Z}{s e:Nat}(h2:e<=(l:)):(Dq l s e:)=e - s:=by unfold Dq;rw[Qai,Qaw];lia
theorem Iq(l:Z):Dq l 0 (l:)=l:=by unfold Dq;simp
def lM(_:Fr):Sp:=λvs H Q _=>∃l:Z,vs=[.str (S l)]/\(∀c∈l,Lt c)/\(l:)<=1000/\∀H',aj H H'->Q (.str (S (red l))) H'
theorem rP{K:Fr}{vs:List V}{H:Hp}{Q:VK}{E:XK}(h:lM K vs H Q E):(vs:)=1:=by obtain ⟨c,rfl,_⟩:=h;rfl
def nY(_:Fr):Sp:=λvs H Q _=>∃l:Z,vs=[.str (S l)]/\(∀c∈l,Lt c)/\(l:)<=1000/\∀H',aj H H'->Q (.str (S (core (red l)))) H'
theorem uW{K:Fr}{vs:List V}{H:Hp}{Q:VK}{E:XK}(h:nY K vs H Q E):(vs:)=1:=by obtain ⟨c,rfl,_⟩:=h;rfl
theorem eW{α:Type}(l:List α)(k:Nat):cut l none (some (k:Int))=l.take k:=by
 unfold cut
 rw[HT.kW,HT.fR,List.drop_zero,Nat.sub_zero]
 by_cases h:k<=(l:)
 ·rw[Qbp h]
 ·rw[Qbr (),Qar (RP _),Qar ()]
theorem ji{α:Type}(l:List α)(k:Nat):cut l (some (k:Int)) none=l.drop k:=by
 unfold cut
 rw[HT.kW,HT.fR]
 by_cases h:k<=(l:)
 ·rw[Qbp h,Qar (by rw[Qaw];exact RP _)]
 ·rw[Qbr (),Qcj (RP _),Qcj ()]
  simp
noncomputable def hV(c:Z)(k:Nat):Z:=c.drop k++c.take k
noncomputable def lN(c:Z)(n:Nat):List Z:=(List.range n).map λk=>hV c (k+1)
noncomputable def fN(c:Z):Z:=cg c (lN c ((c:) - 1))
@[irreducible] noncomputable def dY (w:Z):Z:=fN (core (red w))
theorem tm(c:Z)(n:Nat):lN c (n+1)=lN c n++[hV c (n+1)]:=by unfold lN;rw[Qbq,Xs];rfl
theorem iq:∀(r:List Z) (a b:Z),cg a (r++[b])=cY (cg a r) b
 | [],_,_=>rfl
 | _::r,_,_=>iq r _ _
theorem cI(c:Z)(k:Nat):(hV c k:)=(c:):=by unfold hV;rw[VG,Qaw,Qai];lia
theorem ku:∀(r:List Z) (a:Z),cg a r=a\/cg a r∈r
 | [],a=> .inl rfl
 | b::r,a=>by
  rcases ku r (cY a b) with h | h
  ·have hl:cY a b=a\/cY a b=b:=by unfold cY;split<;>simp
   rcases hl with e | e
   ·left;show cg (cY a b) r=a;rw[h,e]
   ·right;show cg (cY a b) r∈b::r;rw[h,e];exact ZP
  ·right;exact ZO _ h
theorem tu(c:Z):∃k,fN c=hV c k:=by
 rcases ku (lN c ((c:) - 1)) c with h | h
 ·exact ⟨0,by show cg _ _=_;rw[h];unfold hV;simp⟩
 ·unfold lN at h
  obtain ⟨k,_,e⟩:=Qam.mp h
  exact ⟨k+1,e.symm⟩
theorem CA(w:Z):(dY w:)<=(w:):=by
 obtain ⟨k,e⟩:=tu (core (red w))
 unfold dY
 rw[e,cI]
 exact Qak (w4 _) (lK w)
def AE(_:Fr):Sp:=λvs H Q _=>∃l:Z,vs=[.str (S l)]/\(∀c∈l,Lt c)/\(l:)<=1000/\∀H',aj H H'->Q (.str (S (dY l))) H'
theorem Ez{K:Fr}{vs:List V}{H:Hp}{Q:VK}{E:XK}(h:AE K vs H Q E):(vs:)=1:=by obtain ⟨c,rfl,_⟩:=h;rfl
theorem Mi(n d:Nat):HT.cB n d (some (-1))=n - 1:=by
 have e:HT.cB n d (some (-1))=(if (-1:Int)<0 then ((-1:Int)+(n:Int)).toNat else min (-1:Int).toNat n):=rfl
 rw[e,if_pos ∅]
 lia
theorem Mj{α:Type}(l:List α):cut l (some (-2)) none=l.drop ((l:) - 2):=by
 have e:∀d,HT.cB (l:) d (some (-2))=(if (-2:Int)<0 then ((-2:Int)+((l:):Int)).toNat else min (-2:Int).toNat (l:)):=λ_=>rfl
 have e2:∀d,HT.cB (l:) d (some (-2))=(l:) - 2:=λd=>by rw[e,if_pos ∅];lia
 unfold cut
 rw[HT.kW,e2]
 exact Qar (by rw[Qaw];exact RP _)
def AllLt(l:Z):Prop:=∀c∈l,Lt c
theorem qq(a b:Z): ¬a<cY a b:=by
 unfold cY
 split
 ·rename_i h;exact λg=>Qdo a (List.lt_trans g h)
 ·exact Qdo a
theorem oJ(a b:Z): ¬b<cY a b:=by
 unfold cY
 split
 ·exact Qdo b
 ·rename_i h;exact h
theorem Kr{a b c:Z}(h: ¬b<a)(g: ¬c<b): ¬c<a:=List.le_trans (show a<=b from h) (show b<=c from g)
theorem kx:∀(r:List Z) (a:Z),∀x∈a::r, ¬x<cg a r
 | [],a,x,hx=>by rw[VH.mp hx];exact Qdo a
 | b::r,a,x,hx=>by
  show ¬x<cg (cY a b) r
  have h0:=kx r (cY a b) (cY a b) ZP
  rcases ZQ.mp hx with e | hx
  ·rw[e];exact Kr h0 (qq a b)
  ·rcases ZQ.mp hx with e | hx
   ·rw[e];exact Kr h0 (oJ a b)
   ·exact kx r (cY a b) x (ZO _ hx)
theorem w5(c:Z):hV c 0=c:=by unfold hV;simp
theorem lO(u:Z):∀(m i:Nat),i<m*(u:)->(dj m u)[i]? =u[i%(u:)]?
 | 0,i,h=>by simp at h
 | m+1,i,h=>by
  rw[eU,List.getElem?_append]
  by_cases z:i<(u:)
  ·rw[if_pos z,Qbg z]
  ·rw[if_neg z,lO u m (i - (u:)) (by rw[Qcr]at h;lia), <-Qfl ()]
def gX(w:Z)(s:Nat):Prop:=dj ((w:) / s) (w.take s)=w
def gY(w:Z)(k:Nat):Prop:=hV w k=w
noncomputable instance (w:Z)(s:Nat):Decidable (gX w s):=by unfold gX;infer_instance
noncomputable instance (w:Z)(s:Nat):Decidable (gY w s):=by unfold gY;infer_instance
def bT(w:Z)(s:Nat):Prop:=(w=[]/\s=0)\/(1<=s/\s<=(w:)/\gX w s/\∀j,1<=j->j<s-> ¬gX w j)
def kz(w:Z)(s:Nat):Prop:=(w=[]/\s=0)\/(1<=s/\s<=(w:)/\gY w s/\∀j,1<=j->j<s-> ¬gY w j)
theorem uX{w:Z}{s:Nat}(h1:1<=s)(h2:s<=(w:))(h:gX w s):gY w s:=by
 unfold gX at h
 have hm:1<=(w:) / s:=Nat.div_pos h2 h1
 obtain ⟨m,e⟩:∃m,(w:) / s=m+1:=⟨(w:) / s - 1,()⟩
 rw[e]at h
 have hu:(w.take s:)=s:=by rw[Qai];lia
 generalize w.take s=u at h hu
 unfold gY hV
 rw[<-h,eU,List.drop_left' hu,List.take_left' hu, <-yJ,eU]
noncomputable def Fw(w:Z)(i:Nat):Option Nat:=w[i%(w:)]?
theorem o6{w:Z}{k i:Nat}(hk:k<=(w:))(hi:i<(w:)):(hV w k)[i]? =Fw w (i+k):=by
 unfold hV Fw
 rw[List.getElem?_append,Qaw]
 by_cases z:i<(w:) - k
 ·rw[if_pos z,Qcd,Qbg (),Qfq]
 ·rw[if_neg z,Qdk,if_pos (),Qfl (),Qbg ()]
  congr 1
  lia
def x4(w:Z)(k:Nat):Prop:=∀i,Fw w (i+k)=Fw w i
theorem EA(w:Z)(i k:Nat):Fw w (i%(w:)+k)=Fw w (i+k):=by unfold Fw;rw[Nat.mod_add_mod]
theorem gy{w:Z}{k:Nat}(hn:w≠[])(hk:k<=(w:)):gY w k↔x4 w k:=by
 have hl:0<(w:):=VJ.mpr hn
 constructor
 ·intro h i
  have hi:=Qc0 i hl
  rw[<-EA, <-o6 hk hi,h]
  rfl
 ·intro h
  refine Qfs λi=>?_
  by_cases hi:i<(w:)
  ·rw[o6 hk hi,h i]
   unfold Fw
   rw[Qbg hi]
  ·have hr:(hV w k:)=(w:):=cI w k
   rw[Qcp (),Qcp ()]
theorem x4.mul{w:Z}{k:Nat}(h:x4 w k):∀j i,Fw w (i+k*j)=Fw w i
 | 0,i=>rfl
 | j+1,i=>by rw[Nat.mul_succ, <-Qdy,h,x4.mul h j]
theorem x4.whole(w:Z):x4 w (w:):=λi=>by unfold Fw;rw[Nat.add_mod_right]
theorem x4.rest{w:Z}{k:Nat}(h:x4 w k):x4 w ((w:)%k):=λi=>by
 rw[<-h.mul ((w:) / k) (i+(w:)%k),Qdy,Qe1]
 exact x4.whole w i
theorem tw{w:Z}{k:Nat}(hn:w≠[])(h1:1<=k)(h2:k<=(w:))(h:gY w k)(hl:∀j,1<=j->j<k-> ¬gY w j):gX w k:=by
 have hp:=(gy hn h2).mp h
 have hr:(w:)%k=0:=by
  by_cases z:(w:)%k=0
  ·exact z
  ·have di:=Qc0 (w:) (show k>0 by lia)
   exact absurd ((gy hn ()).mpr hp.rest) (hl _ () di)
 have hm:(w:) / k*k=(w:):=by
  have:=Qe1 (w:) k
  rw[hr,Qc9,Qcs]at this
  exact this
 have hu:(w.take k:)=k:=by rw[Qai];lia
 unfold gX
 refine Qfs λi=>?_
 by_cases hi:i<(w:)
 ·rw[lO _ _ _ (by rw[hu,hm];exact hi),hu,Qdk]
  have X8:=Qc0 i (show k>0 by lia)
  rw[if_pos X8]
  have e:=hp.mul (i / k) (i%k)
  rw[Qe1]at e
  unfold Fw at e
  rw[Qbg hi,Qbg ()]at e
  exact e.symm
 ·rw[Qcp (by rw[wB,hu,hm];lia),Qcp ()]
theorem jK{w:Z}{s k:Nat}(h:bT w s)(g:kz w k):s=k:=by
 rcases h with ⟨e,e2⟩ | ⟨h1,h2,h3,h4⟩
 ·rcases g with ⟨_,g2⟩ | ⟨g1,g2,_,_⟩
  ·rw[e2,g2]
  ·rw[e]at g2;simp at g2;lia
 ·rcases g with ⟨e,_⟩ | ⟨g1,g2,g3,g4⟩
  ·rw[e]at h2;simp at h2;lia
  ·have hn:w≠[]:=λz=>by rw[z]at h2;simp at h2;lia
   by_cases z:s<k
   ·exact absurd (uX h1 h2 h3) (g4 s h1 z)
   ·by_cases z2:k<s
    ·exact absurd (tw hn g1 g2 g3 g4) (h4 k g1 z2)
    ·lia
theorem CB(w:Z)(h:w≠[]):gX w (w:):=by
 have hl:0<(w:):=VJ.mpr h
 unfold gX
 rw[Nat.div_self hl,Qar (RP _)]
 show dj (0+1) w=w
 rw[eU]
 simp[dj]
theorem CC(w:Z):gY w (w:):=by
 unfold gY hV
 rw[Qcj (RP _),Qar (RP _)]
 rfl
noncomputable def Ir(c:Z)(n:Nat):Z:=((List.range n).map (· +1)).filter λk=>decide (gY c k)
theorem uY{c:Z}{n k:Nat}:k∈Ir c n↔(1<=k/\k<=n)/\gY c k:=by
 unfold Ir
 rw[Qaz,Qam]
 constructor
 ·rintro ⟨⟨j,hj,rfl⟩,h⟩
  have:=Qav.mp hj
  exact ⟨(),of_decide_eq_true h⟩
 ·rintro ⟨h1,h2⟩
  exact ⟨⟨k - 1,Qav.mpr (),()⟩,decide_eq_true h2⟩
theorem y0(c:Z)(n:Nat):(Ir c n).Pairwise (· < ·):=by
 unfold Ir
 refine List.Pairwise.filter _ ?_
 rw[Qbl]
 exact (List.pairwise_lt_range (n:=n)).imp λh=>Nat.succ_lt_succ h
theorem qr{c:Z}(h:c≠[]):∃k r,Ir c (c:)=k::r/\kz c k:=by
 have hl:0<(c:):=VJ.mpr h
 have hm:(c:)∈Ir c (c:):=uY.mpr ⟨(),CC c⟩
 rcases e:Ir c (c:) with _ | ⟨k,r⟩
 ·rw[e]at hm;exact absurd hm kb
 ·refine ⟨k,r,rfl,.inr ?_⟩
  have hk:k∈Ir c (c:):=by rw[e];exact ZP
  obtain ⟨⟨h1,h2⟩,h3⟩:=uY.mp hk
  refine ⟨h1,h2,h3,λj j1 j2 z=>?_⟩
  have hj:j∈Ir c (c:):=uY.mpr ⟨(),z⟩
  have hs:=y0 c (c:)
  rw[e]at hj hs
  rcases ZQ.mp hj with w | w
  ·lia
  ·have:=List.rel_of_pairwise_cons hs w
   lia
noncomputable def Ks(w:Z)(s:Nat):List V:=[.str (S (w.take s)),.int (((w:) / s:Nat):Int)]
def AF(_:Fr):Sp:=λvs H Q _=>∃l:Z,vs=[.str (S l)]/\(∀c∈l,Lt c)/\(l:)<=1000/\∀p s H',H p=none->H' p=some (.tup (Ks (dY l) s))->bT (dY l) s->aj H H'->Q (.ref p) H'
theorem EB{K:Fr}{vs:List V}{H:Hp}{Q:VK}{E:XK}(h:AF K vs H Q E):(vs:)=1:=by obtain ⟨c,rfl,_⟩:=h;rfl
theorem aX:∀c∈aL,ay c=true/\PyProof.Rows.lo1 c=c/\aB c∈ik:=⋯
theorem bL:∀c∈ik,ay c=false/\PyProof.Rows.lo1 c=aB c/\c∉aL/\aB c∈aL:=⋯
theorem mY:∀c∈ik,c∉aL:=⋯
theorem f_{c:Nat}(h:Lt c):ay c=decide (c∈aL):=by
 rcases h with h | h
 ·rw[(aX c h).1,decide_eq_true h]
 ·rw[(bL c h).1,decide_eq_false (bL c h).2.2.1]
noncomputable def gr(y:Z)(a b c:Nat):Bool:=decide ((((y.idxOf b:Nat):Int) - ((y.idxOf a:Nat):Int))%((y:):Int)<(((y.idxOf c:Nat):Int) - ((y.idxOf a:Nat):Int))%((y:):Int))
def jY(i j k:Nat):Prop:=(i<j/\j<k)\/(j<k/\k<i)\/(k<i/\i<j)
noncomputable instance (i j k:Nat):Decidable (jY i j k):=by unfold jY;infer_instance
theorem jj{i j n:Nat}(hi:i<n)(hj:j<n):((j:Int) - (i:Int))%(n:Int)=if i<=j then (j:Int) - i else (j:Int) - i+n:=by
 split
 ·exact Qay () ()
 ·rw[<-Qc1]
  exact Qay () ()
theorem gF{y:Z}{a b c:Nat}(hn:y.Nodup)(ha:a∈y)(hb:b∈y)(hc:c∈y)(mV:a≠b)(Kt:a≠c)(Ku:b≠c):gr y a b c=decide (jY (y.idxOf a) (y.idxOf b) (y.idxOf c)):=by
 have ia:=Qab ha
 have ib:=Qab hb
 have ic:=Qab hc
 have inj:∀{u v:Nat},u∈y->v∈y->u≠v->y.idxOf u≠y.idxOf v:=λ{u v} hu hv h z=>h (by
  have e1:=Qbv (Qab hu)
  have e2:=Qbv (Qab hv)
  rw[<-e1, <-e2]
  congr 1)
 have n1:=inj ha hb mV
 have n2:=inj ha hc Kt
 have n3:=inj hb hc Ku
 unfold gr
 rw[jj ia ib,jj ia ic]
 generalize y.idxOf a=i at*
 generalize y.idxOf b=j at*
 generalize y.idxOf c=k at*
 refine decide_eq_decide.mpr ?_
 unfold jY
 split<;>split<;>lia
theorem EC{i j k:Nat}:jY j k i↔jY i j k:=by unfold jY;lia
theorem Iu{i j k:Nat}(h1:i≠j)(h2:i≠k)(h3:j≠k):jY i k j↔ ¬jY i j k:=by unfold jY;lia
theorem Iv{y:Z}{a b c:Nat}(hn:y.Nodup)(ha:a∈y)(hb:b∈y)(hc:c∈y)(mV:a≠b)(Kt:a≠c)(Ku:b≠c):gr y b c a=gr y a b c:=by
 rw[gF hn ha hb hc mV Kt Ku,gF hn hb hc ha Ku (Ne.symm mV) (Ne.symm Kt)]
 exact decide_eq_decide.mpr EC
theorem b6{y:Z}{u v:Nat}(hu:u∈y)(hv:v∈y)(h:u≠v):y.idxOf u≠y.idxOf v:=λz=>h (by
 have e1:=Qbv (Qab hu)
 have e2:=Qbv (Qab hv)
 rw[<-e1, <-e2]
 congr 1)
theorem Ml{y:Z}{a b c:Nat}(hn:y.Nodup)(ha:a∈y)(hb:b∈y)(hc:c∈y)(mV:a≠b)(Kt:a≠c)(Ku:b≠c):gr y a c b=!gr y a b c:=by
 rw[gF hn ha hb hc mV Kt Ku,gF hn ha hc hb Kt mV (Ne.symm Ku)]
 rw[<-decide_not]
 exact decide_eq_decide.mpr (Iu (b6 ha hb mV) (b6 ha hc Kt) (b6 hb hc Ku))
theorem Mm(d:Nat)(t:Z)(a:Nat):(d::t).idxOf a=if d=a then 0 else t.idxOf a+1:=by
 by_cases h:d=a
 ·subst h;rw[if_pos rfl,Qe9]
 ·rw[if_neg h,Qf3,show (d==a)=false by simp[h]];rfl
theorem CD{a b:Z}(h:a.Perm b)(ha:a.Pairwise (· <= ·))(hb:b.Pairwise (· <= ·)):a=b:=
 List.Perm.eq_of_pairwise (le:=λx y=>x<=y) (λ_ _ _ _ h1 h2=>Qfz h1 h2) ha hb h
def w6(_:Fr):Sp:=λvs H Q _=>∃l:Z,vs=[.str (S l)]/\(∀c∈l,c<128)/\(l:)<64/\∀l' H',l'.Perm (l.filter ay)->l'.Pairwise (· <= ·)->aj H H'->Q (.str (S l')) H'
theorem CF{K:Fr}{vs:List V}{H:Hp}{Q:VK}{E:XK}(h:w6 K vs H Q E):(vs:)=1:=by obtain ⟨c,rfl,_⟩:=h;rfl
def jk(_:Fr):Sp:=λvs H Q _=>∃(y:Z) (a b:Nat),vs=[.str (S y),.str (S [a]),.str (S [b])]/\a∈y/\b∈y/\(y:)<=1000/\Q (.int ((((y.idxOf b:Nat):Int) - ((y.idxOf a:Nat):Int))%((y:):Int))) H
theorem oK{K:Fr}{vs:List V}{H:Hp}{Q:VK}{E:XK}(h:jk K vs H Q E):(vs:)=3:=by obtain ⟨c,_,_,rfl,_⟩:=h;rfl
def tD(_:Fr):Sp:=λvs H Q _=>∃y:Z,vs=[.str (S y)]/\(y:)<64/\∀q l' H',H q=none->H' q=some (.lst (cT l'))->l'.Perm (y.filter λc=>decide (c∈aL))->l'.Pairwise (· <= ·)->aj H H'->Q (.ref q) H'
theorem y6{K:Fr}{vs:List V}{H:Hp}{Q:VK}{E:XK}(h:tD K vs H Q E):(vs:)=1:=by obtain ⟨c,rfl,_⟩:=h;rfl
theorem nZ{p:Nat->Bool}{l:Z}{i c:Nat}(h:l[i]? =some c):(l.take (i+1)).filter p=(l.take i).filter p++if p c=true then [c] else []:=by
 rw[<-take_snoc h,Qb2]
 congr 1
 by_cases z:p c=true
 ·rw[if_pos z,Qax z];rfl
 ·rw[if_neg z,Qao z];rfl
theorem ED{y:Z}(h:Yd y):2*(y.filter ay:)=(y:):=by
 have key:∀p q:Nat->Bool,(∀c∈y,p c=true->q (aB c)=true)->(y.filter p:)<=(y.filter q:):=λp q QL=>by
  have hn:((y.filter p).map aB).Nodup:=by
   show ((y.filter p).map aB).Pairwise (· ≠ ·)
   rw[Qbl]
   refine (h.nd.filter p).imp_of_mem λ{a b} ha hb z e=>z ?_
   exact gx (h.lt a (Qaz.mp ha).1) (h.lt b (Qaz.mp hb).1) e
  have:=hn.length_le_of_subset (l₂:=y.filter q) λc hc=>by
   obtain ⟨d,hd,rfl⟩:=Qam.mp hc
   obtain ⟨d1,d2⟩:=Qaz.mp hd
   exact Qaz.mpr ⟨h.cl d d1,QL d d1 d2⟩
  rwa [NA]at this
 have k1:=key ay (λc=>!ay c) λc hc z=>by
  rw[f_ (h.lt c hc)]at z
  have hs:=of_decide_eq_true z
  rw[(bL _ (aX c hs).2.2).1];rfl
 have k2:=key (λc=>!ay c) ay λc hc z=>by
  rcases h.lt c hc with q | q
  ·rw[(aX c q).1]at z;cases z
  ·exact (aX _ (bL c q).2.2.2).1
 have k3:(y.filter ay:)+((y.filter λc=>!ay c):)=(y:):=by
  clear k1 k2 key h
  induction y with
  | nil=>rfl
  | cons a r ih=>
   cases hq:ay a
   ·rw[Qao (by simp[hq]),Qax (by simp[hq]),Qap,Qap];lia
   ·rw[Qax hq,Qao (by simp[hq]),Qap,Qap];lia
 lia
noncomputable def rd(w:Z)(k:Int):Nat:=w.getD (k%((w:):Int)).toNat 0
theorem QM{w:Z}(h:w≠[])(k:Int):(k%((w:):Int)).toNat<(w:):=by
 have:0<(w:):=VJ.mpr h
 have h1:=Qb1 k (b:=((w:):Int)) ()
 have h2:=Qbw k (b:=((w:):Int)) ()
 lia
theorem eX{w:Z}(h:w≠[])(k:Int):w[(k%((w:):Int)).toNat]? =some (rd w k):=by
 unfold rd
 rw[Xw,LK (QM h k)]
 rfl
theorem gG{w:Z}(h:w≠[])(k:Int):rd w k∈w:=Xu (eX h k)
theorem ir(w:Z)(k:Int):rd w (k+(w:))=rd w k:=by unfold rd;rw[Qc1]
theorem gg(w:Z)(k:Int):rd w (k%(w:))=rd w k:=by unfold rd;rw[Qc8 _ (Qfv _)]
theorem mZ{w:Z}{k:Nat}(h:k<(w:)):w[k]? =some (rd w k):=by
 have cP:w≠[]:=λz=>by rw[z]at h;exact absurd h (Qdh _)
 have:=eX cP (k:Int)
 rwa [Qay () (),Xt]at this
theorem w9{w:Z}{k:Int}{n:Nat}{c:Nat}(hn:n<(w:))(e:k%((w:):Int)=n)(h:w[n]? =some c):rd w k=c:=by
 have:=mZ hn
 rw[h]at this
 rw[<-gg,e]
 exact (Qaf this).symm
theorem lQ{w:Z}{k:Int}(h1: -((w:):Int)<=k)(h2:k<(w:)):rz w k=some (rd w k):=by
 have cP:w≠[]:=λz=>by rw[z]at h1 h2;simp at h1 h2;lia
 unfold rz G0
 by_cases h0:0<=k
 ·rw[if_pos h0,if_pos h2]
  have:=eX cP k
  rw[Qay h0 h2]at this
  exact this
 ·rw[if_neg h0,if_pos h1]
  have:=eX cP (k+(w:))
  rw[ir,Qay () ()]at this
  exact this
theorem iu{f:Int->Nat}{p:Nat}(P:∀k,f (k+p)=f k)(k:Int):∀t:Nat,f (k+t*p)=f k
 | 0=>by simp
 | t+1=>by
  have:k+((t+1:Nat):Int)*p=k+t*p+p:=by rw[Qa2,Int.add_mul];simp;lia
  rw[this,P,iu P k t]
theorem fw{f g:Int->Nat}{p q:Nat}(hp:0<p)(hq:0<q)(Pf:∀k,f (k+p)=f k)(Pg:∀k,g (k+q)=g k)(h:∀n:Nat,n<p+q->f n=g n)(k:Int):f k=g k:=by
 have up:∀N n:Nat,n<N->f n=g n:=by
  intro N
  induction N with
  | zero=>intro n hn;lia
  | succ N ih=>
   intro n hn
   by_cases z:n<p+q
   ·exact h n z
   ·have e1:f n=f ((n - p:Nat):Int):=by have:=Pf ((n - p:Nat):Int);rwa [show ((n - p:Nat):Int)+p=n by lia]at this
    have e2:g ((n - p:Nat):Int)=g ((n - p - q:Nat):Int):=by have:=Pg ((n - p - q:Nat):Int);rwa [show ((n - p - q:Nat):Int)+q=((n - p:Nat):Int) by lia]at this
    have e3:f ((n - q:Nat):Int)=f ((n - p - q:Nat):Int):=by have:=Pf ((n - p - q:Nat):Int);rwa [show ((n - p - q:Nat):Int)+p=((n - q:Nat):Int) by lia]at this
    have e4:g n=g ((n - q:Nat):Int):=by have:=Pg ((n - q:Nat):Int);rwa [show ((n - q:Nat):Int)+q=n by lia]at this
    rw[e1,ih (n - p) (),e2, <-ih (n - p - q) (), <-e3,ih (n - q) (), <-e4]
 have qe:∃m:Nat,k+((k.natAbs*q:Nat):Int)*p=m/\k+((k.natAbs*p:Nat):Int)*q=m:=by
  have e1:((k.natAbs*q:Nat):Int)*p=((k.natAbs*(q*p):Nat):Int):=by rw[Qfi k.natAbs q p |>.symm];simp
  have e2:((k.natAbs*p:Nat):Int)*q=((k.natAbs*(q*p):Nat):Int):=by rw[Qcs q p,Qfi k.natAbs p q |>.symm];simp
  have hle:k.natAbs<=k.natAbs*(q*p):=Nat.le_mul_of_pos_right _ (Nat.mul_pos hq hp)
  generalize k.natAbs*(q*p)=M at e1 e2 hle
  exact ⟨(k+M).toNat,(),()⟩
 obtain ⟨m,h1,h2⟩:=qe
 rw[<-iu Pf k (k.natAbs*q),h1, <-iu Pg k (k.natAbs*p),h2]
 exact up (m+1) m (Qcb m)
noncomputable def jZ(f g:Int->Nat):Nat->Nat->Nat
 | 0,i=>i
 | n+1,i=>if f i=g i then jZ f g n (i+1) else i
theorem gh(f g:Int->Nat):∀n i:Nat,i<=jZ f g n i/\jZ f g n i<=i+n/\(∀j:Nat,i<=j->j<jZ f g n i->f j=g j)/\(jZ f g n i<i+n->f (jZ f g n i)≠g (jZ f g n i))
 | 0,i=>⟨RP _,RP _,λj h1 h2=>absurd (Qa3 h1 h2) (Qbe _),λh=>absurd h (Qbe _)⟩
 | n+1,i=>by
  unfold jZ
  by_cases z:f i=g i
  ·rw[if_pos z]
   obtain ⟨h1,h2,h3,h4⟩:=gh f g n (i+1)
   refine ⟨(),(),λj g1 g2=>?_,λg1=>h4 ()⟩
   by_cases e:j=i
   ·rw[e];exact z
   ·exact h3 j () g2
  ·rw[if_neg z]
   exact ⟨RP _,(),λj g1 g2=>absurd (Qa3 g1 g2) (Qbe _),λ_=>z⟩
theorem EE{f g:Int->Nat}{n m:Nat}(h1:∀j:Nat,j<m->f j=g j)(h2:f m≠g m)(hm:m<n):jZ f g n 0=m:=by
 obtain ⟨_,b,c,d⟩:=gh f g n 0
 by_cases z:jZ f g n 0<m
 ·exact absurd (h1 _ z) (d ())
 ·by_cases y:m<jZ f g n 0
  ·exact absurd (c m (Qac _) y) h2
  ·lia
noncomputable def al(y:Z)(f g:Int->Nat)(n:Nat):Nat:=
 if f 0≠g 0\/f (-1)=g (-1) then 0 else
 if gr y (aB (f (-1))) (aB (g (-1))) (f 0)=gr y (f (jZ f g n 0)) (g (jZ f g n 0)) (aB (f ((jZ f g n 0:Nat) - 1))) then jZ f g n 0 else 0
theorem w_{y:Z}{f g:Int->Nat}{n:Nat}(h:0<al y f g n):∀j:Nat,j<al y f g n->f j=g j:=by
 unfold al at h ⊢
 by_cases z:f 0≠g 0\/f (-1)=g (-1)
 ·rw[if_pos z]at h;lia
 ·rw[if_neg z]at h ⊢
  by_cases u:gr y (aB (f (-1))) (aB (g (-1))) (f 0)=gr y (f (jZ f g n 0)) (g (jZ f g n 0)) (aB (f ((jZ f g n 0:Nat) - 1)))
  ·rw[if_pos u]at h ⊢
   exact λj hj=>(gh f g n 0).2.2.1 j (Qac _) hj
  ·rw[if_neg u]at h;lia
noncomputable def ac(y:Z)(a b p q:Nat):Bool:=if p=a\/p=b\/q=a\/q=b then false else (gr y a p b != gr y a q b)
noncomputable def sq(w:Z)(i:Int):Int->Nat:=λn=>rd w (i+n)
noncomputable def bq(v:Z)(j:Int):Int->Nat:=λn=>aB (rd v (j - n))
theorem dk(w:Z)(i k:Int):sq w i (k+(w:))=sq w i k:=by unfold sq;rw[<-Int.add_assoc,ir]
theorem y7(w:Z)(k:Int):rd w (k - (w:))=rd w k:=by rw[<-ir w (k - (w:))];congr 1;lia
theorem qt(w:Z)(i k:Int):bq w i (k+(w:))=bq w i k:=by unfold bq;rw[show i - (k+((w:):Int))=i - k - (w:) by lia,y7]
theorem m3{v:Z}(h:v≠[])(k:Int):rd (gQ v) k=aB (rd v (-1 - k)):=by
 have qe:0<(v:):=VJ.mpr h
 have h1:=Qb1 k (b:=((v:):Int)) ()
 have h2:=Qbw k (b:=((v:):Int)) ()
 have e:(-1 - k)%((v:):Int)=(v:) - 1 - k%(v:):=by
  have e1:=Qe6 k (v:)
  have: -1 - k=((v:) - 1 - k%(v:))+(v:)*(-(k / (v:)) - 1):=by rw[Int.mul_sub,Int.mul_neg];lia
  rw[this,Qea,Qay () ()]
 generalize hr:k%((v:):Int)=r at h1 h2 e
 obtain ⟨n,rfl⟩:∃n:Nat,r=n:=⟨r.toNat,()⟩
 have hn:n<(v:):=by lia
 have e2:rd v (-1 - k)=v[(v:) - 1 - n]'():=w9 (n:=(v:) - 1 - n) () (by rw[e];lia) (LK ())
 rw[e2]
 refine w9 (n:=n) (by rw[cC];exact hn) (by rw[cC];exact hr) ?_
 unfold gQ
 rw[Qco (by rw[NA];exact hn),NA,ZN,LK ()]
 rfl
theorem Mn{v:Z}(h:v≠[])(j:Nat):sq (gQ v) (((v:):Int) - 1 - j)=bq v j:=by
 funext n
 unfold sq bq
 rw[m3 h,show -1 - (((v:):Int) - 1 - j+n)=j - n - (v:) by lia,y7]
structure SW(y w:Z):Prop where
 ne:w≠[]
 bU:∀c∈w,c∈y
 red:∀k:Int,rd w k≠aB (rd w (k - 1))
theorem SW.rd{y w:Z}(h:SW y w)(k:Int):rd w k∈y:=h.bU _ (gG h.ne k)
theorem jL{w v:Z}{f g:Int->Nat}(hw:w≠[])(hv:v≠[])(pf:∀k,f (k+(w:))=f k)(pg:∀k,g (k+(v:))=g k)(h:f (-1)≠g (-1)):jZ f g ((w:)+(v:)) 0<(w:)+(v:)/\f (jZ f g ((w:)+(v:)) 0)≠g (jZ f g ((w:)+(v:)) 0):=by
 obtain ⟨_,b,c,d⟩:=gh f g ((w:)+(v:)) 0
 by_cases z:jZ f g ((w:)+(v:)) 0<(w:)+(v:)
 ·exact ⟨z,d ()⟩
 ·exact absurd (fw (VJ.mpr hw) (VJ.mpr hv) pf pg (λn hn=>c n (Qac _) ()) (-1)) h
theorem Iw{y w:Z}{i j:Nat}(hy:Yd y)(h:SW y w)(m0:0<al y (sq w i) (bq w j) ((w:)+(w:)))(e:((j:Int) - al y (sq w i) (bq w j) ((w:)+(w:))+1)%(w:)=i):False:=by
 have ha:=w_ m0
 generalize al y (sq w i) (bq w j) ((w:)+(w:))=m at*
 have key:∀k:Nat,k<m->rd w (i+k)=aB (rd w (i+(m - 1 - k))):=λk hk=>by
  have:=ha k hk
  unfold sq bq at this
  rw[this]
  congr 1
  rw[<-gg w (j - k), <-gg w (i+((m:Int) - 1 - k)), <-e,Qdq]
  congr 2
  lia
 rcases Nat.mod_two_eq_zero_or_one m with z | z
 ·have k1:=key (m / 2) ()
  rw[show (i:Int)+((m:Int) - 1 - ((m / 2:Nat):Int))=i+((m / 2:Nat):Int) - 1 by lia]at k1
  exact h.red _ k1
 ·have k1:=key (m / 2) ()
  rw[show (i:Int)+((m:Int) - 1 - ((m / 2:Nat):Int))=i+((m / 2:Nat):Int) by lia]at k1
  exact gE (hy.lt _ (h.rd _)) k1.symm
structure Fm where
 c:Nat
 i:Nat
 d:Nat
 j:Nat
 m:Nat
 t:Z
noncomputable def Iy:Z:=[97,99,114,111,115,115]
noncomputable def Mo:Z:=[97,108,111,110,103]
noncomputable def EF:Z:=[97,103,97,105,110,115,116]
noncomputable def R1(y w v:Z)(i j:Nat):Bool:=ac y (aB (rd w ((i:Int) - 1))) (rd w i) (aB (rd v ((j:Int) - 1))) (rd v j)
noncomputable def QN(y w v:Z)(i j:Nat):Nat:=al y (sq w i) (sq v j) ((w:)+(v:))
noncomputable def iW(y w v:Z)(i j:Nat):Nat:=al y (sq w i) (bq v j) ((w:)+(v:))
noncomputable def Mp(y w v:Z)(c i d j:Nat):List Fm:=(if R1 y w v i j=true then [⟨c,i,d,j,0,Iy⟩] else [])++(if 0<QN y w v i j then [⟨c,i,d,j,QN y w v i j,Mo⟩] else [])
noncomputable def fO(w:Z)(i j m:Nat):Bool:=rM (((j:Int) - m+1)%(w:)) (((i:Int)+m - 1)%(w:)) i j
noncomputable def Uy(y w v:Z)(c i d j:Nat):List Fm:=if iW y w v i j=0\/(c=d/\fO w i j (iW y w v i j)=true) then [] else [⟨c,i,d,j,iW y w v i j,EF⟩]
noncomputable def tE(y:Z)(ws:List Z)(o p:Nat×Nat):List Fm:=
 (if rM o.1 o.2 p.1 p.2=true then Mp y (ws.getD o.1 []) (ws.getD p.1 []) o.1 o.2 p.1 p.2 else [])++(if o.1<=p.1 then Uy y (ws.getD o.1 []) (ws.getD p.1 []) o.1 o.2 p.1 p.2 else [])
noncomputable def uZ(ws:List Z):Nat->List (Nat×Nat)
 | 0=>[]
 | n+1=>uZ ws n++(List.range ((ws|||n):)).map λi=>(n,i)
noncomputable def places(ws:List Z):List (Nat×Nat):=uZ ws (ws:)
noncomputable def xa(y:Z)(ws:List Z):List Fm:=(places ws).flatMap λo=>(places ws).flatMap λp=>tE y ws o p
theorem iw{ws:List Z}:∀{n:Nat} {o:Nat×Nat},o∈uZ ws n↔o.1<n/\o.2<(ws.getD o.1 []:)
 | 0,o=>by simp[uZ]
 | n+1,o=>by
  unfold uZ
  rw[Qaa,iw (n:=n),Qam]
  constructor
  ·rintro (⟨h1,h2⟩ | ⟨i,hi,rfl⟩)
   ·exact ⟨(),h2⟩
   ·exact ⟨by simp,Qav.mp hi⟩
  ·rintro ⟨h1,h2⟩
   by_cases z:o.1<n
   ·exact .inl ⟨z,h2⟩
   ·have e:o.1=n:=by lia
    exact .inr ⟨o.2,Qav.mpr (by rw[<-e];exact h2),by rw[<-e]⟩
theorem AG{ws:List Z}:∀n:Nat,(uZ ws n).Pairwise λa b=>rM a.1 a.2 b.1 b.2=true
 | 0=>List.Pairwise.nil
 | n+1=>by
  unfold uZ
  rw[Qcu]
  refine ⟨AG n,?_,λa ha b hb=>?_⟩
  ·rw[Qbl]
   refine List.pairwise_lt_range.imp λ{a b} h=>?_
   unfold rM
   rw[if_pos rfl]
   exact decide_eq_true (by show (a:Int)<b;lia)
  ·obtain ⟨i,hi,rfl⟩:=Qam.mp hb
   have:=(iw.mp ha).1
   unfold rM
   rw[if_neg (by show ¬((a.1:Nat):Int)=(n:Nat);lia)]
   exact decide_eq_true (by show ((a.1:Nat):Int)<(n:Nat);lia)
theorem m4:∀{a b:List Int},bP a b=true->bP b a=false/\a≠b
 | [],[],h=>by simp[bP]at h
 | [],_::_,h=>⟨rfl,by simp⟩
 | _::_,[],h=>by simp[bP]at h
 | x::r,z::t,h=>by
  simp only[bP]at h ⊢
  split at h
  ·rename_i e
   obtain ⟨h1,h2⟩:=m4 h
   rw[if_pos e.symm]
   exact ⟨h1,λq=>h2 (List.cons.inj q).2⟩
  ·rename_i e
   have h':=of_decide_eq_true h
   rw[if_neg (λq=>e q.symm)]
   exact ⟨decide_eq_false (),λq=>e (List.cons.inj q).1⟩
theorem EG{a b c d:Int}(h: ¬(c=a/\d=b)):rM a b c d=!rM c d a b:=by
 unfold rM
 by_cases z:a=c
 ·rw[if_pos z,if_pos z.symm]
  have:d≠b:=λq=>h ⟨z.symm,q⟩
  by_cases u:b<d
  ·rw[decide_eq_true u,decide_eq_false ()];rfl
  ·rw[decide_eq_false u,decide_eq_true ()];rfl
 ·rw[if_neg z,if_neg (λq=>z q.symm)]
  by_cases u:a<c
  ·rw[decide_eq_true u,decide_eq_false ()];rfl
  ·rw[decide_eq_false u,decide_eq_true ()];rfl
noncomputable def jl(n:Nat)(l:Z):Z:=(List.replicate n l).flatten
def CG(w:Z):Prop:=∀(k a b:Nat),w[k]? =some a->w[k+1]? =some b->b≠aB a
theorem CG.nil:CG []:=λk a b h=>by simp at h
theorem CG.take{w:Z}(h:CG w)(n:Nat):CG (w.take n):=λk a b h1 h2=>by
 rw[Qdk]at h1 h2
 split at h1
 ·split at h2
  ·exact h k a b h1 h2
  ·cases h2
 ·cases h1
theorem CG.snoc{w:Z}{c:Nat}(h:CG w)(hc:∀a,w.getLast? =some a->c≠aB a):CG (w++[c]):=λk a b h1 h2=>by
 by_cases z:k+1<(w:)
 ·rw[Qa0 ()]at h1
  rw[Qa0 z]at h2
  exact h k a b h1 h2
 ·have yL:k+1<(w++[c]:):=(LL.mp h2).1
  rw[VG]at yL
  have e:k+1=(w:):=by simp at yL;lia
  rw[Qa0 ()]at h1
  rw[e,Qa5 (RP _),Qew]at h2
  have e2:c=b:=by simpa using h2
  rw[<-e2]
  refine hc a ?_
  rw[Qdd, show (w:) - 1=k by lia]
  exact h1
theorem SW.of{y w:Z}(ne:w≠[])(bU:∀c∈w,c∈y)(G7:CG w)(hd:∀a b,w.head? =some a->w.getLast? =some b->a≠aB b):SW y w:=by
 refine ⟨ne,bU,λk=>?_⟩
 have qe:0<(w:):=VJ.mpr ne
 have h1:=Qb1 k (b:=((w:):Int)) ()
 have h2:=Qbw k (b:=((w:):Int)) ()
 have hk:=eX ne k
 have H_:=eX ne (k - 1)
 by_cases z:k%((w:):Int)=0
 ·have e:(k - 1)%((w:):Int)=(w:) - 1:=by
   rw[<-Int.emod_sub_emod,z]
   have:(0:Int) - 1=((w:) - 1)+(w:)*(-1):=by lia
   rw[this,Qea,Qay () ()]
  rw[z]at hk
  rw[e]at H_
  refine hd _ _ ?_ ?_
  ·rw[Qey];exact hk
  ·rw[Qdd, show (w:) - 1=(((w:):Int) - 1).toNat by lia];exact H_
 ·have e:(k - 1)%((w:):Int)=k%(w:) - 1:=by
   rw[<-Int.emod_sub_emod,Qay () ()]
  rw[e]at H_
  refine G7 _ _ _ H_ ?_
  rw[show (k%((w:):Int) - 1).toNat+1=(k%((w:):Int)).toNat by lia]
  exact hk
theorem SW.G7{y w:Z}(h:SW y w):CG w:=λk a b h1 h2=>by
 have hk:=(LL.mp h2).1
 have e1:=mZ (w:=w) (k:=k) ()
 have e2:=mZ (w:=w) (k:=k+1) hk
 rw[h1]at e1
 rw[h2]at e2
 rw[Qaf e1,Qaf e2]
 have:=h.red ((k+1:Nat):Int)
 rwa [show (((k+1:Nat):Int) - 1)=(k:Int) by lia]at this
theorem EH{w:Z}{n:Nat}(h:w≠[])(hn:n<=(w:))(k:Int):rd (w.drop n++w.take n) k=rd w (k+n):=by
 have qe:0<(w:):=VJ.mpr h
 have hl:(w.drop n++w.take n:)=(w:):=by rw[VG,Qaw,Qai];lia
 have h1:=Qb1 k (b:=((w:):Int)) ()
 have h2:=Qbw k (b:=((w:):Int)) ()
 have e:(k+n)%((w:):Int)=(k%(w:)+n)%(w:):=by rw[Qdq]
 generalize hr:k%((w:):Int)=r at h1 h2 e
 obtain ⟨m,rfl⟩:∃m:Nat,r=m:=⟨r.toNat,()⟩
 have hm:m<(w:):=by lia
 by_cases z:m+n<(w:)
 ·have hg:w[m+n]? =some (rd w (k+n)):=by
   have:=eX h (k+n)
   rwa [e,Qay () (),show ((m:Int)+n).toNat=m+n by lia]at this
  walk_at"6"
  rw[Qa0 (by rw[Qaw];lia),Qcd,Qfq]
  exact hg
 ·have hg:w[m+n - (w:)]? =some (rd w (k+n)):=by
   have:=eX h (k+n)
   have e2:((m:Int)+n)%(w:)=((m+n - (w:):Nat):Int):=by
    have:(m:Int)+n=((m+n - (w:):Nat):Int)+(w:):=by lia
    rw[this,Qc1,Qay () ()]
   rwa [e,e2,Xt]at this
  walk_at"6"
  rw[Qa5 (by rw[Qaw];lia),Qaw,Qdk,if_pos (),show m - ((w:) - n)=m+n - (w:) by lia]
  exact hg
theorem SW.hV{y w:Z}{n:Nat}(h:SW y w)(hn:n<=(w:)):SW y (w.drop n++w.take n):=by
 refine ⟨λz=>h.ne ?_,λc hc=>?_,λk=>?_⟩
 ·have l0:(w.drop n++w.take n:)=0:=by rw[z];rfl
  rw[VG,Qaw,Qai]at l0
  exact Qbt.mp ()
 ·exact h.bU c ((Qaa.mp hc).elim Qdz Qcg)
 ·rw[EH h.ne hn,EH h.ne hn,show k - 1+n=k+n - 1 by lia]
  exact h.red _
theorem SW.gQ{y w:Z}(hy:Yd y)(h:SW y w):SW y (gQ w):=by
 refine ⟨λz=>h.ne ?_,λc hc=>?_,λk=>?_⟩
 ·have:=cC w
  rw[z]at this
  exact Qbt.mp this.symm
 ·obtain ⟨d,hd,rfl⟩:=Qam.mp (Qdw.mp hc)
  exact hy.cl d (h.bU d hd)
 ·rw[m3 h.ne,m3 h.ne,show -1 - (k - 1)= -1 - k+1 by lia]
  intro q
  have l1:=hy.lt _ (h.rd (-1 - k))
  have l2:=hy.lt _ (h.rd (-1 - k+1))
  rw[aK l2]at q
  have:=h.red (-1 - k+1)
  rw[show -1 - k+1 - 1= -1 - k by lia]at this
  exact this q.symm
theorem lR(n:Nat)(l:Z):jl (n+1) l=l++jl n l:=by unfold jl;rw[Qfd,Qc5]
theorem AH(n:Nat)(l:Z):(jl n l:)=n*(l:):=by
 induction n with
 | zero=>simp[jl]
 | succ n ih=>rw[lR,VG,ih,Qcr,Qfq]
theorem AI{l:Z}:∀{n k:Nat},k<n*(l:)->(jl n l)[k]? =l[k%(l:)]?
 | 0,k,h=>by simp at h
 | n+1,k,h=>by
  rw[lR]
  by_cases z:k<(l:)
  ·rw[Qa0 z,Qbg z]
  ·rw[Qa5 (),AI (by rw[Qcr]at h;lia),Qfl (by lia:(l:)<=k)]
theorem AJ{w:Z}{n:Nat}(h:w≠[])(hn:0<n)(k:Int):rd (jl n w) k=rd w k:=by
 have qe:0<(w:):=VJ.mpr h
 have hl:=AH n w
 have V0:0<n*(w:):=Nat.mul_pos hn qe
 have h1:=Qb1 k (b:=((n*(w:):Nat):Int)) ()
 have h2:=Qbw k (b:=((n*(w:):Nat):Int)) ()
 have e:k%((w:):Int)=(k%((n*(w:):Nat):Int))%(w:):=(Qc8 k (by rw[Qdi];exact Int.dvd_mul_left _ _)).symm
 generalize hr:k%((n*(w:):Nat):Int)=r at h1 h2 e
 obtain ⟨m,rfl⟩:∃m:Nat,r=m:=⟨r.toNat,()⟩
 have hm:m<n*(w:):=by lia
 walk_at"6"
 rw[AI hm]
 have:=eX h k
 rwa [e,show (((m:Int)%(w:)).toNat)=m%(w:) by rw[<-Qem,Xt]]at this
theorem Iz{w:Z}{n c:Nat}(h:c∈jl n w):c∈w:=by
 obtain ⟨l,hl,hc⟩:=List.mem_flatten.mp h
 rwa [List.eq_of_mem_replicate hl]at hc
theorem SW.dj{y w:Z}{n:Nat}(h:SW y w)(hn:0<n):SW y (jl n w):=by
 refine ⟨λz=>?_,λc hc=>h.bU c (Iz hc),λk=>by rw[AJ h.ne hn,AJ h.ne hn];exact h.red k⟩
 have:=AH n w
 rw[z]at this
 have h2:0<n*(w:):=Nat.mul_pos hn (VJ.mpr h.ne)
 simp at this
 lia
theorem SW.twice{y w:Z}(h:SW y w):SW y (w++w):=by
 have:=h.dj (n:=2) ∅
 rwa [show jl 2 w=w++w by rw[lR,lR];simp[jl]]at this
theorem SW.snoc{y w:Z}{c:Nat}(hy:Yd y)(G7:CG w)(bU:∀a∈w,a∈y)(hc:c∈y)(h1:∀a,w.getLast? =some a->c≠aB a)(h2:∀a,w.head? =some a->c≠aB a):SW y (w++[c]):=by
 refine SW.of (by simp) (λa ha=>?_) (G7.snoc h1) λa b ha hb=>?_
 ·rcases Qaa.mp ha with q | q
  ·exact bU a q
  ·rw[VH.mp q];exact hc
 ·have eb:b=c:=by simpa using hb.symm
  subst eb
  cases w with
  | nil=>
   have:b=a:=by simpa using ha
   rw[<-this]
   exact λq=>gE (hy.lt b hc) q.symm
  | cons x r=>
   have:x=a:=by simpa using ha
   subst this
   have hx:x∈y:=bU x ZP
   intro q
   exact h2 x rfl (by rw[q,aK (hy.lt b hc)])
theorem u6{w:Z}(h:w≠[]):w.getLast? =some (rd w (-1)):=by
 have qe:0<(w:):=VJ.mpr h
 have:=eX h (-1)
 have e:(-1:Int)%((w:):Int)=(w:) - 1:=by
  have e2:(-1:Int)=(((w:):Int) - 1)+(w:)*(-1):=by lia
  rw[e2,Qea,Qay () ()]
 rw[e]at this
 rw[Qdd, show (w:) - 1=(((w:):Int) - 1).toNat by lia]
 exact this
theorem o7{w:Z}(h:w≠[]):w.head? =some (rd w 0):=by
 have:=eX h 0
 rw[Qey]
 simpa using this
theorem CH(w:Z):∃k,kz w k:=by
 by_cases h:w=[]
 ·exact ⟨0,.inl ⟨h,rfl⟩⟩
 ·obtain ⟨k,_,_,t⟩:=qr h
  exact ⟨k,t⟩
theorem bT.turn{w:Z}{s:Nat}(h:bT w s):kz w s:=by
 obtain ⟨k,t⟩:=CH w
 rw[jK h t];exact t
theorem bT.least{w:Z}{s j:Nat}(h:bT w s)(j1:1<=j)(j2:j<s)(hp:x4 w j):False:=by
 rcases h.turn with ⟨_,e⟩ | ⟨h1,h2,h3,h4⟩
 ·lia
 ·have hn:w≠[]:=λz=>by rw[z]at h2;simp at h2;lia
  exact h4 j j1 j2 ((gy hn ()).mpr hp)
theorem SW.X9{y w:Z}(hy:Yd y)(h:SW y w):yZ w:=Ex λk a b ha hb e=>by
 have Kv:b∈y:=h.bU b (Xu hb)
 have:=h.G7 k a b ha hb
 rw[e,aK (hy.lt b Kv)]at this
 exact this rfl
theorem SW.core{y w:Z}(hy:Yd y)(h:SW y w):My.core (My.red w)=w:=by
 rw[Eu (h.X9 hy)]
 by_cases z:(w:)<2
 ·exact il z
 ·obtain ⟨a,m,e,hw⟩:=Ey (l:=w) ()
  have h0:=o7 h.ne
  have h1:=u6 h.ne
  have hr:=h.red 0
  rw[show (0:Int) - 1= -1 by lia]at hr
  rw[hw]at h0 h1 hr ⊢
  have e0:a=My.rd (a::(m++[e])) 0:=Qaf h0
  have e1:e=My.rd (a::(m++[e])) (-1):=by
   have:(a::(m++[e])).getLast? =some e:=by rw[<-List.cons_append,List.getLast?_append];rfl
   exact Qaf (this.symm.trans h1)
  exact mX (by rw[<-e0, <-e1]at hr;exact hr)
theorem u7{w:Z}{k:Nat}(hk:k<=(w:))(i:Nat):Fw (hV w k) i=Fw w (i+k):=by
 by_cases z:w=[]
 ·subst z
  unfold Fw hV
  simp
 ·have hp:0<(w:):=VJ.mpr z
  have e:Fw (hV w k) i=(hV w k)[i%(w:)]?:= by unfold Fw;rw[cI]
  rw[e,o6 hk (Qc0 _ hp),EA]
theorem AK{w:Z}{k s:Nat}(hk:k<=(w:))(hn:w≠[]):x4 (hV w k) s↔x4 w s:=by
 constructor
 ·intro h i
  have h1:=h (i+((w:) - k))
  rw[u7 hk,u7 hk]at h1
  have e1:i+((w:) - k)+s+k=i+s+(w:):=by lia
  have e2:i+((w:) - k)+k=i+(w:):=by lia
  rw[e1,e2,x4.whole w,x4.whole w]at h1
  exact h1
 ·intro h i
  rw[u7 hk,u7 hk,show i+s+k=i+k+s by lia]
  exact h _
theorem tF{w:Z}(hn:w≠[]){s:Nat}(h:bT w s):kz w s:=by
 obtain ⟨k,r,_,g⟩:=qr hn
 rw[jK h g]
 exact g
theorem EI{w:Z}{k s:Nat}(hk:k<=(w:))(hn:w≠[])(h:kz (hV w k) s):kz w s:=by
 have uq:hV w k≠[]:=λz=>hn (Qbt.mp (by have:=cI w k;rw[z]at this;exact this.symm))
 rcases h with ⟨z,_⟩ | ⟨h1,h2,h3,h4⟩
 ·exact absurd z uq
 ·rw[cI]at h2
  refine .inr ⟨h1,h2,(gy hn h2).mpr ((AK hk hn).mp ((gy uq (by rw[cI];exact h2)).mp h3)),λj j1 j2 j3=>h4 j j1 j2 ?_⟩
  exact (gy uq (by rw[cI];lia)).mpr ((AK hk hn).mpr ((gy hn ()).mp j3))
theorem CI{y w:Z}{s t:Nat}(hy:Yd y)(h:SW y w)(hr:bT (dY w) s)(hw:bT w t):s=t/\(dY w:)=(w:):=by
 have e:dY w=fN w:=by unfold dY;rw[h.core hy]
 obtain ⟨k,ek⟩:=tu w
 have yL:∃k,k<=(w:)/\fN w=hV w k:=by
  by_cases z:k<=(w:)
  ·exact ⟨k,z,ek⟩
  ·refine ⟨(w:),RP _,?_⟩
   rw[ek]
   unfold hV
   rw[Qcj (),Qar (),List.drop_length,Qau]
 obtain ⟨k,hk,ek⟩:=yL
 rw[e,ek]at hr ⊢
 have uq:hV w k≠[]:=λz=>h.ne (Qbt.mp (by have:=cI w k;rw[z]at this;exact this.symm))
 refine ⟨?_,cI w k⟩
 exact (jK hw (EI hk h.ne (tF uq hr))).symm
theorem AL{w:Z}(hn:w≠[]):∃s,bT w s:=by
 obtain ⟨k,r,_,g⟩:=qr hn
 rcases g with ⟨z,_⟩ | ⟨h1,h2,h3,h4⟩
 ·exact absurd z hn
 ·exact ⟨k,.inr ⟨h1,h2,tw hn h1 h2 h3 h4,λj j1 j2 j3=>h4 j j1 j2 (uX j1 () j3)⟩⟩
theorem EJ{w:Z}{s t:Nat}(hn:w≠[])(h:bT w s)(g:bT w t):s=t:=jK h (tF hn g)
structure NJ(y:Z)(ws:List Z):Prop where
 sw:∀w∈ws,SW y w/\(w:)<=12
 wW:(ws:)<=4
 all:(places ws:)<=24
theorem getD_in{ws:List Z}{c:Nat}(h:c<(ws:)):(ws|||c)∈ws:=by
 rw[Xw,LK h];exact Qa7 h
def jm(_:Fr):Sp:=λvs H Q _=>∃(w:Z) (i:Nat),vs=[.str (S w),.int i]/\(∀c∈w,Lt c)/\(w:)<=1000/\i<(w:)/\∀q H',H q=none->H' q=some (.tup [.str (S [aB (rd w ((i:Int) - 1))]),.str (S [rd w i])])->aj H H'->Q (.ref q) H'
theorem oM{K:Fr}{vs:List V}{H:Hp}{Q:VK}{E:XK}(h:jm K vs H Q E):(vs:)=2:=by obtain ⟨_,_,rfl,_⟩:=h;rfl
def tG(_:Fr):Sp:=λvs H Q _=>∃(b:Addr) (y:Z) (top:Nat),vs=[.ref b,.str (S y),.int top]/\c_ H b/\Yd y/\2<=(y:)/\(y:)<=8/\1<=top/\top<=100/\∀(w:Z) H',SW y w->(w:)<=top->c_ H' b->aO b H H'->Q (.str (S w)) H'
theorem y8{K:Fr}{vs:List V}{H:Hp}{Q:VK}{E:XK}(h:tG K vs H Q E):(vs:)=3:=by obtain ⟨_,_,_,rfl,_⟩:=h;rfl
def xb(_:Fr):Sp:=λvs H Q _=>∃(b:Addr) (y w:Z) (top:Nat),vs=[.ref b,.str (S y),.str (S w),.int top]/\c_ H b/\Yd y/\2<=(y:)/\(y:)<=8/\1<=top/\top<=100/\SW y w/\(w:)<=top/\∀(u:Z) H',SW y u->(u:)<=top->c_ H' b->aO b H H'->Q (.str (S u)) H'
theorem CJ{K:Fr}{vs:List V}{H:Hp}{Q:VK}{E:XK}(h:xb K vs H Q E):(vs:)=4:=by obtain ⟨_,_,_,_,rfl,_⟩:=h;rfl
theorem AM{ws:List Z}{m:Nat}(h:∀w∈ws,(w:)<=m):∀n:Nat,n<=(ws:)->(uZ ws n:)<=n*m
 | 0,_=>Qac _
 | n+1,hn=>by
  unfold uZ
  have:=AM h n ()
  have h2:=h _ (getD_in (ws:=ws) (c:=n) ())
  rw[VG,NA,Qcv,Qcr]
  lia
theorem EK{α:Type}(w:List α):cut w none (some (-1))=w.take ((w:) - 1):=by
 unfold cut
 rw[HT.kW,Mi]
 simp
structure Wd(y w:Z):Prop where
 G7:CG w
 bU:∀c∈w,c∈y
theorem Wd.more{y w:Z}{c:Nat}(h:Wd y w)(hc:c∈y)(hn:w≠[]->c≠aB (rd w (-1))):Wd y (w++[c]):=
 ⟨h.G7.snoc λa ha=>by
  have cP:w≠[]:=λz=>by rw[z]at ha;simp at ha
  rw[u6 cP]at ha
  rw[<-Qaf ha]
  exact hn cP,λa ha=>by
  rcases Qaa.mp ha with g | g
  ·exact h.bU a g
  ·rw[VH.mp g];exact hc⟩
theorem Wd.sw{y w:Z}(h:Wd y w)(cP:w≠[])(he:rd w 0≠aB (rd w (-1))):SW y w:=
 SW.of cP h.bU h.G7 λa b ha hb=>by
  rw[o7 cP]at ha
  rw[u6 cP]at hb
  rw[<-Qaf ha, <-Qaf hb]
  exact he
theorem Wd.one{y w:Z}(hy:Yd y)(h:Wd y w)(h1:(w:)=1):SW y w:=by
 have cP:w≠[]:=λz=>by rw[z]at h1;simp at h1
 refine h.sw cP ?_
 have e:rd w 0=rd w (-1):=by
  have:=ir w (-1)
  rw[h1]at this
  exact this
 rw[<-e]
 exact λq=>gE (hy.lt _ (h.bU _ (gG cP 0))) q.symm
noncomputable def xc(y:Z)(a b:Nat):Int:=((y.idxOf b:Int) - (y.idxOf a:Int))%((y:):Int)
noncomputable def fP(y:Z)(f:Int->Nat)(k:Int):Int:=xc y (aB (f (k - 1))) (f k)
structure iX(y:Z)(f:Int->Nat):Prop where
 bU:∀k,f k∈y
 red:∀k,f k≠aB (f (k - 1))
structure Run(f g:Int->Nat)(a b:Nat):Prop where
 kM:∀k:Int, -(b:Int)<=k->k<=a->f k=g k
 hi:f (a+1)≠g (a+1)
 lo:f (-(b:Int) - 1)≠g (-(b:Int) - 1)
noncomputable def jM(f:Int->Nat):Int->Nat:=λk=>aB (f (-k))
noncomputable def dR(f:Int->Nat):Int->Nat:=λk=>f (k - 1)
noncomputable def jn(y:Z)(f g:Int->Nat)(a:Nat):Bool:=decide (fP y f (a+1)<fP y g (a+1))
noncomputable def iY(y:Z)(f g:Int->Nat)(b:Nat):Bool:=decide (fP y f (-(b:Int))<fP y g (-(b:Int)))
noncomputable def vY(x a b:Nat):Bool:=decide (b<a\/(a=b/\ay x=false))
noncomputable def y9(y:Z)(f g:Int->Nat)(a b:Nat):Bool:=if vY (f 0) a b=true then iY y f g b else jn y f g a
theorem Run.one{f g:Int->Nat}{a b a' b':Nat}(h:Run f g a b)(h':Run f g a' b'):a=a'/\b=b':=by
 constructor
 ·by_cases z:a<a'
  ·exact absurd (h'.kM (a+1) () ()) h.hi
  ·by_cases z2:a'<a
   ·exact absurd (h.kM (a'+1) () ()) h'.hi
   ·lia
 ·by_cases z:b<b'
  ·exact absurd (h'.kM (-(b:Int) - 1) () ()) h.lo
  ·by_cases z2:b'<b
   ·exact absurd (h.kM (-(b':Int) - 1) () ()) h'.lo
   ·lia
theorem Run.bk{f g:Int->Nat}{a b:Nat}(h:Run f g a (b+1)):Run (dR f) (dR g) (a+1) b:=
 ⟨λk h1 h2=>h.kM (k - 1) () (),λz=>h.hi (by
  unfold dR at z
  rwa [show ((a+1:Nat):Int)+1 - 1=a+1 by lia]at z),λz=>h.lo (by
  unfold dR at z
  rwa [show -(b:Int) - 1 - 1= -((b+1:Nat):Int) - 1 by lia]at z)⟩
theorem Run.fd{f g:Int->Nat}{a b:Nat}(h:Run (dR f) (dR g) (a+1) b):Run f g a (b+1):=
 ⟨λk h1 h2=>by
  have:=h.kM (k+1) () ()
  unfold dR at this
  rwa [show k+1 - 1=k by lia]at this,λz=>h.hi (by
  unfold dR
  rwa [show ((a+1:Nat):Int)+1 - 1=a+1 by lia]),λz=>h.lo (by
  unfold dR
  rwa [show -(b:Int) - 1 - 1= -((b+1:Nat):Int) - 1 by lia])⟩
theorem o8(y:Z)(f:Int->Nat)(k:Int):fP y (dR f) k=fP y f (k - 1):=rfl
theorem o9(y:Z)(f g:Int->Nat)(a:Nat):jn y (dR f) (dR g) (a+1)=jn y f g a:=by
 unfold jn
 rw[o8,o8,show ((a+1:Nat):Int)+1 - 1=a+1 by lia]
theorem lS(y:Z)(f g:Int->Nat)(b:Nat):iY y (dR f) (dR g) b=iY y f g (b+1):=by
 unfold iY
 rw[o8,o8,show -(b:Int) - 1= -((b+1:Nat):Int) by lia]
theorem EL{x z a b:Nat}(h:vY x a (b+1)=true):vY z (a+1) b=true:=by
 unfold vY at h ⊢
 have:=of_decide_eq_true h
 exact decide_eq_true ()
theorem eY{y:Z}{a b:Nat}(ha:a∈y)(hb:b∈y)(h:a≠b):0<xc y a b/\xc y a b<(y:)/\xc y b a=(y:) - xc y a b:=by
 have ia:=Qab ha
 have ib:=Qab hb
 have n:=b6 ha hb h
 unfold xc
 rw[jj ia ib,jj ib ia]
 generalize y.idxOf a=i at*
 generalize y.idxOf b=j at*
 split<;>split<;>lia
theorem lT{y:Z}{a b c:Nat}(ha:a∈y)(hb:b∈y)(hc:c∈y)(h:xc y a b=xc y a c):b=c:=by
 have ia:=Qab ha
 have ib:=Qab hb
 have ic:=Qab hc
 refine Classical.byContradiction λz=>b6 hb hc z ?_
 unfold xc at h
 rw[jj ia ib,jj ia ic]at h
 split at h<;>split at h<;>lia
theorem iX.rv{y:Z}{f:Int->Nat}(hy:Yd y)(h:iX y f):iX y (jM f):=⟨λk=>hy.cl _ (h.bU _),λk z=>by
 unfold jM at z
 have e:=aK (hy.lt _ (h.bU (-(k - 1))))
 rw[e]at z
 have:=h.red (-(k - 1))
 rw[show -(k - 1) - 1= -k by lia]at this
 exact this z.symm⟩
theorem tH{y:Z}{f:Int->Nat}(hy:Yd y)(h:iX y f):jM (jM f)=f:=by
 funext k
 unfold jM
 rw[aK (hy.lt _ (h.bU _)),Int.neg_neg]
theorem jo{y:Z}{f:Int->Nat}(hy:Yd y)(h:iX y f)(k:Int):fP y (jM f) (k+1)=(y:) - fP y f (-k):=by
 unfold fP jM
 rw[show k+1 - 1=k by lia,aK (hy.lt _ (h.bU _)),show -(k+1)= -k - 1 by lia]
 exact (eY (hy.cl _ (h.bU _)) (h.bU _) (Ne.symm (h.red _))).2.2
theorem Run.rv{y:Z}{f g:Int->Nat}{a b:Nat}(hy:Yd y)(hf:iX y f)(hg:iX y g)(h:Run f g a b):Run (jM f) (jM g) b a:=
 ⟨λk h1 h2=>by unfold jM;rw[h.kM _ () ()],λz=>h.lo (by
  unfold jM at z
  have:=gx (hy.lt _ (hf.bU _)) (hy.lt _ (hg.bU _)) z
  rwa [show -((b:Int)+1)= -(b:Int) - 1 by lia]at this),λz=>h.hi (by
  unfold jM at z
  have:=gx (hy.lt _ (hf.bU _)) (hy.lt _ (hg.bU _)) z
  rwa [show -(-(a:Int) - 1)=a+1 by lia]at this)⟩
theorem fh:∀c∈aL++ik,ay (aB c)=!ay c:=⋯
theorem Mq{y:Z}{f g:Int->Nat}{a b:Nat}(hy:Yd y)(hf:iX y f)(hg:iX y g)(h0:f 0=g 0):y9 y (jM g) (jM f) b a=y9 y f g a b:=by
 have e1:iY y (jM g) (jM f) a=jn y f g a:=by
  unfold iY jn
  have h1:=jo hy hf (-(a:Int) - 1)
  have h2:=jo hy hg (-(a:Int) - 1)
  rw[show -(a:Int) - 1+1= -a by lia,show -(-(a:Int) - 1)=a+1 by lia]at h1 h2
  rw[h1,h2]
  exact decide_eq_decide.mpr ()
 have e2:jn y (jM g) (jM f) b=iY y f g b:=by
  unfold iY jn
  rw[jo hy hf,jo hy hg]
  exact decide_eq_decide.mpr ()
 unfold y9
 rw[e1,e2]
 have e3:vY (jM g 0) b a=!vY (f 0) a b:=by
  unfold vY jM
  rw[show (-0:Int)=0 from rfl, <-h0,fh _ (hy.lt _ (hf.bU 0)).mem]
  rw[<-decide_not]
  refine decide_eq_decide.mpr ?_
  cases ay (f 0)
  ·simp;lia
  ·simp;lia
 rw[e3]
 cases vY (f 0) a b<;>rfl
def uB(y:Z)(f g:Int->Nat):Prop:=∃a b,Run f g a b/\vY (f 0) a b=true/\jn y f g a≠iY y f g b
def qu(y:Z)(f g:Int->Nat):Prop:=∃a,Run f g a 0/\jn y f g a≠iY y f g 0
open Classical in
noncomputable def one(p:Prop):Int:=if p then 1 else 0
theorem eJ{p:Prop}(h:p):one p=1:=by unfold one;rw[if_pos h]
theorem aU{p:Prop}(h: ¬p):one p=0:=by unfold one;rw[if_neg h]
theorem bC{p q:Prop}(h:p↔q):one p=one q:=by rw[propext h]
theorem Run.zero{f g:Int->Nat}{a b:Nat}(h:Run f g a b):f 0=g 0:=h.kM 0 () ()
theorem EM{y:Z}{f g:Int->Nat}{e0 e1:Bool}{m:Prop}
  (r0:f 0=g 0->∃a b,Run f g a b) (r1:f (-1)=g (-1)->∃a b,Run (dR f) (dR g) a b)
  (h0:∀a b,Run f g a b->e0=y9 y f g a b) (h1:∀a b,Run (dR f) (dR g) a b->e1=y9 y (dR f) (dR g) a b)
  (ma:f 0=g 0->f (-1)≠g (-1)->(m↔e0≠iY y f g 0)) (mb:f (-1)=g (-1)->f 0≠g 0->(m↔e1≠jn y (dR f) (dR g) 0)) (mc:f (-1)=g (-1)->f 0=g 0->(m↔e1≠e0))
  (t:f 0=g 0\/f (-1)=g (-1)):one m=one (qu y f g)+one (uB y (dR f) (dR g)) - one (uB y f g):=by
 have hb:∀{a b},Run (dR f) (dR g) a b->f (-1)=g (-1):=λh=>h.zero
 by_cases z0:f 0=g 0
 ·obtain ⟨a,b,r⟩:=r0 z0
  have e:=h0 a b r
  unfold y9 at e
  have hu:uB y f g↔(vY (f 0) a b=true/\jn y f g a≠iY y f g b):=⟨λ⟨a',b',r',x⟩=>by obtain ⟨rfl,rfl⟩:=r.one r';exact x,λx=>⟨a,b,r,x⟩⟩
  by_cases z1:f (-1)=g (-1)
  ·cases b with
   | zero=>exact absurd z1 r.lo
   | succ b=>
    have r2:=r.bk
    have e2:=h1 _ _ r2
    unfold y9 at e2
    have IA:uB y (dR f) (dR g)↔(vY (dR f 0) (a+1) b=true/\jn y f g a≠iY y f g (b+1)):=⟨λ⟨a',b',r',x⟩=>by
     obtain ⟨rfl,rfl⟩:=r2.one r'
     rw[o9,lS]at x;exact x,λx=>⟨_,_,r2,by rw[o9,lS];exact x⟩⟩
    rw[o9,lS]at e2
    have IB: ¬qu y f g:=λ⟨a',r',_⟩=>absurd (r.one r').2 (Nat.succ_ne_zero b)
    rw[aU IB,bC hu,bC IA,bC (mc z1 z0),e,e2]
    have mono:= @EL (f 0) (dR f 0) a b
    generalize vY (f 0) a (b+1)=B0 at*
    generalize vY (dR f 0) (a+1) b=B1 at*
    generalize jn y f g a=A at*
    generalize iY y f g (b+1)=C at*
    revert mono
    cases B0<;>cases B1<;>cases A<;>cases C<;>simp[one]
  ·have b0:b=0:=by
    cases b with
    | zero=>rfl
    | succ b=>exact absurd (r.kM (-1) () ()) z1
   subst b0
   have IA: ¬uB y (dR f) (dR g):=λ⟨_,_,r',_⟩=>z1 (hb r')
   have IB:qu y f g↔jn y f g a≠iY y f g 0:=⟨λ⟨a',r',x⟩=>by obtain ⟨rfl,_⟩:=r.one r';exact x,λx=>⟨a,r,x⟩⟩
   rw[aU IA,bC IB,bC hu,bC (ma z0 z1),e]
   generalize vY (f 0) a 0=B0 at*
   generalize jn y f g a=A at*
   generalize iY y f g 0=C at*
   cases B0<;>cases A<;>cases C<;>simp[one]
 ·have z1:=t.resolve_left z0
  obtain ⟨a,b,r⟩:=r1 z1
  have a0:a=0:=by
   cases a with
   | zero=>rfl
   | succ a=>exact absurd (r.fd.zero) z0
  subst a0
  have e:=h1 _ _ r
  unfold y9 at e
  have X_: ¬uB y f g:=λ⟨_,_,r',_⟩=>z0 r'.zero
  have IB: ¬qu y f g:=λ⟨_,r',_⟩=>z0 r'.zero
  have IA:uB y (dR f) (dR g)↔(vY (dR f 0) 0 b=true/\jn y (dR f) (dR g) 0≠iY y (dR f) (dR g) b):=⟨λ⟨a',b',r',x⟩=>by
   obtain ⟨rfl,rfl⟩:=r.one r';exact x,λx=>⟨_,_,r,x⟩⟩
  rw[aU X_,aU IB,bC IA,bC (mb z1 z0),e]
  generalize vY (dR f 0) 0 b=B0 at*
  generalize jn y (dR f) (dR g) 0=A at*
  generalize iY y (dR f) (dR g) b=C at*
  cases B0<;>cases A<;>cases C<;>simp[one]
theorem cQ{f g:Int->Nat}{p q:Nat}(hp:0<p)(hq:0<q)(Pf:∀k,f (k+p)=f k)(Pg:∀k,g (k+q)=g k)(h0:f 0=g 0)(hn:∃k,f k≠g k):∃a b,Run f g a b/\a<p+q/\b<p+q:=by
 obtain ⟨k0,V1⟩:=hn
 have up:∃a:Nat,a<p+q/\(∀j:Nat,j<a->f (j+1)=g (j+1))/\f (a+1)≠g (a+1):=by
  obtain ⟨_,b,c,d⟩:=gh (λk=>f (k+1)) (λk=>g (k+1)) (p+q) 0
  by_cases z:jZ (λk=>f (k+1)) (λk=>g (k+1)) (p+q) 0<p+q
  ·exact ⟨_,z,λj hj=>c j (Qac _) hj,d ()⟩
  ·refine absurd ?_ V1
   have:=fw (f:=λk=>f (k+1)) (g:=λk=>g (k+1)) hp hq (λk=>by rw[show k+(p:Int)+1=k+1+p by lia];exact Pf _) (λk=>by rw[show k+(q:Int)+1=k+1+q by lia];exact Pg _) (λn hn=>c n (Qac _) ()) (k0 - 1)
   rwa [show k0 - 1+1=k0 by lia]at this
 have Ya:∀k,f (-(k+p))=f (-k):=λk=>by have:=Pf (-(k+p));rw[<-this];congr 1;lia
 have Yb:∀k,g (-(k+q))=g (-k):=λk=>by have:=Pg (-(k+q));rw[<-this];congr 1;lia
 have dn:∃a:Nat,a<p+q/\(∀j:Nat,j<a->f (-(j:Int) - 1)=g (-(j:Int) - 1))/\f (-(a:Int) - 1)≠g (-(a:Int) - 1):=by
  obtain ⟨_,b,c,d⟩:=gh (λk=>f (-k - 1)) (λk=>g (-k - 1)) (p+q) 0
  by_cases z:jZ (λk=>f (-k - 1)) (λk=>g (-k - 1)) (p+q) 0<p+q
  ·exact ⟨_,z,λj hj=>c j (Qac _) hj,d ()⟩
  ·refine absurd ?_ V1
   have:=fw (f:=λk=>f (-k - 1)) (g:=λk=>g (-k - 1)) hp hq (λk=>by have:=Ya (k+1);rw[show -(k+(p:Int)) - 1= -(k+1+p) by lia,this];congr 1;lia) (λk=>by have:=Yb (k+1);rw[show -(k+(q:Int)) - 1= -(k+1+q) by lia,this];congr 1;lia) (λn hn=>c n (Qac _) ()) (-k0 - 1)
   rwa [show -(-k0 - 1) - 1=k0 by lia]at this
 obtain ⟨a,ha,a1,a2⟩:=up
 obtain ⟨b,hb,b1,b2⟩:=dn
 refine ⟨a,b,⟨λk h1 h2=>?_,a2,b2⟩,ha,hb⟩
 by_cases z:k=0
 ·rw[z];exact h0
 ·by_cases z2:0<k
  ·obtain ⟨j,rfl⟩:∃j:Nat,k=j+1:=⟨(k - 1).toNat,()⟩
   exact a1 j ()
  ·obtain ⟨j,rfl⟩:∃j:Nat,k= -(j:Int) - 1:=⟨(-k - 1).toNat,()⟩
   exact b1 j ()
theorem EN{y:Z}{p p' x:Nat}(hy:Yd y)(hp:p∈y)(xf:p'∈y)(hx:x∈y)(h1:p≠p')(h2:p≠x)(h3:p'≠x):decide (xc y p x<xc y p' x)=!gr y p p' x:=by
 have ip:=Qab hp
 have Yc:=Qab xf
 have ix:=Qab hx
 have n1:=b6 hp xf h1
 have n2:=b6 hp hx h2
 have n3:=b6 xf hx h3
 rw[gF hy.nd hp xf hx h1 h2 h3]
 unfold xc
 rw[jj ip ix,jj Yc ix, <-decide_not]
 refine decide_eq_decide.mpr ?_
 unfold jY
 split<;>split<;>lia
theorem EO{y:Z}{f g:Int->Nat}(hy:Yd y)(hf:iX y f)(hg:iX y g)(h0:f 0=g 0)(h1:f (-1)≠g (-1)):iY y f g 0=!gr y (aB (f (-1))) (aB (g (-1))) (f 0):=by
 have e:iY y f g 0=decide (xc y (aB (f (-1))) (f 0)<xc y (aB (g (-1))) (g 0)):=rfl
 rw[e, <-h0]
 have r1:=hf.red 0
 have r2:=hg.red 0
 rw[show (0:Int) - 1= -1 by lia]at r1 r2
 exact EN hy (hy.cl _ (hf.bU _)) (hy.cl _ (hg.bU _)) (hf.bU 0) (λz=>h1 (gx (hy.lt _ (hf.bU _)) (hy.lt _ (hg.bU _)) z)) (Ne.symm r1) (by rw[h0];exact Ne.symm r2)
theorem ER{y:Z}{f g:Int->Nat}{a:Nat}(h:f a=g a):jn y f g a=gr y (aB (f a)) (f (a+1)) (g (a+1)):=by
 unfold jn fP
 rw[show (a:Int)+1 - 1=a by lia, <-h]
 rfl
theorem xg{y:Z}{f g:Int->Nat}{n:Nat}(hy:Yd y)(hf:iX y f)(hg:iX y g)(hd:f (-1)≠g (-1)->jZ f g n 0<n/\f (jZ f g n 0)≠g (jZ f g n 0)):qu y f g↔0<al y f g n:=by
 unfold al
 by_cases z:f 0≠g 0\/f (-1)=g (-1)
 ·rw[if_pos z]
  refine ⟨λ⟨a,r,_⟩=>?_,λh=>absurd h (Qbe _)⟩
  rcases z with z | z
  ·exact absurd r.zero z
  ·exact absurd z r.lo
 ·rw[if_neg z]
  have z0:f 0=g 0:=Classical.byContradiction λq=>z (.inl q)
  have z1:f (-1)≠g (-1):=λq=>z (.inr q)
  obtain ⟨d1,d2⟩:=hd z1
  obtain ⟨_,_,d3,_⟩:=gh f g n 0
  generalize jZ f g n 0=D at*
  cases D with
  | zero=>exact absurd z0 d2
  | succ a=>
   have r:Run f g a 0:=⟨λk h1 h2=>by
    obtain ⟨j,rfl⟩:∃j:Nat,k=j:=⟨k.toNat,()⟩
    exact d3 j (Qac _) (),d2,z1⟩
   have e1:((a+1:Nat):Int)=(a:Int)+1:=by lia
   rw[e1,show (a:Int)+1 - 1=a by lia]
   have R3:=d3 a (Qac _) (Qcb a)
   have rf:=hf.red (a+1)
   have rg:=hg.red (a+1)
   rw[show (a:Int)+1 - 1=a by lia]at rf rg
   have Ye:f (a+1)≠g (a+1):=d2
   have eg:=Iv hy.nd (hy.cl _ (hf.bU a)) (hf.bU (a+1)) (hg.bU (a+1)) (Ne.symm rf) (by rw[R3];exact Ne.symm rg) Ye
   rw[eg, <-ER R3]
   have eb:=EO hy hf hg z0 z1
   have key:qu y f g↔jn y f g a≠iY y f g 0:=⟨λ⟨a',r',x⟩=>by obtain ⟨rfl,_⟩:=r.one r';exact x,λx=>⟨a,r,x⟩⟩
   rw[key,eb]
   generalize gr y (aB (f (-1))) (aB (g (-1))) (f 0)=G
   generalize jn y f g a=A
   cases G<;>cases A<;>simp
noncomputable def n6(a b a' b':Nat):Bool:=decide (jY a a' b) != decide (jY a b' b)
theorem jq(a b a' b':Nat):n6 a b a' b'=n6 a b b' a':=by unfold n6;generalize decide (jY a a' b)=p;generalize decide (jY a b' b)=q;cases p<;>cases q<;>rfl
theorem lU(a b:Nat):n6 a b a b=false:=by
 unfold n6
 have h1: ¬jY a a b:=by unfold jY;lia
 have h2: ¬jY a b b:=by unfold jY;lia
 rw[decide_eq_false h1,decide_eq_false h2]
 rfl
theorem fj{a b:Nat}(h:a≠b):decide (b<a)=!decide (a<b):=by
 rcases Qcn h with q | q
 ·rw[decide_eq_true q,decide_eq_false (Qd4 q)];rfl
 ·rw[decide_eq_true q,decide_eq_false (Qd4 q)];rfl
theorem Kw{a b c:Nat}(h1:a≠b)(h2:b≠c)(h3:a≠c):decide (jY a b c)=!(decide (a<b) ^^ (decide (b<c) ^^ decide (c<a))):=by
 have e:decide (jY a b c)=((decide (a<b)&&decide (b<c))||((decide (b<c)&&decide (c<a))||(decide (c<a)&&decide (a<b)))):=by
  rw[<-Qf4, <-Qf4, <-Qf4, <-Bool.decide_or, <-Bool.decide_or]
  exact decide_eq_decide.mpr Iff.rfl
 rw[e]
 have k1:decide (a<b)=true->decide (b<c)=true->decide (c<a)=true->False:=λp q r=>Qd4 (Qdm (of_decide_eq_true p) (of_decide_eq_true q)) (of_decide_eq_true r)
 have k2:decide (b<a)=true->decide (c<b)=true->decide (a<c)=true->False:=λp q r=>Qd4 (Qdm (of_decide_eq_true q) (of_decide_eq_true p)) (of_decide_eq_true r)
 rw[fj h1,fj h2,fj (Ne.symm h3)]at k2
 revert k1 k2
 generalize decide (a<b)=p
 generalize decide (b<c)=q
 generalize decide (c<a)=r
 revert p q r
 decide
theorem AN{a b a' b':Nat}(h1:a≠b)(h3:a≠a')(h4:a≠b')(h5:b≠a')(h6:b≠b'):n6 a b a' b'=((decide (a<a') ^^ decide (a'<b)) ^^ (decide (a<b') ^^ decide (b'<b))):=by
 unfold n6
 rw[Kw h3 (Ne.symm h5) h1,Kw h4 (Ne.symm h6) h1]
 generalize decide (a<a')=p
 generalize decide (a'<b)=q
 generalize decide (a<b')=r
 generalize decide (b'<b)=s
 generalize decide (b<a)=t
 revert p q r s t
 decide
theorem lV{a b a' b':Nat}(h1:a≠b)(h2:a'≠b')(h3:a≠a')(h4:a≠b')(h5:b≠a')(h6:b≠b'):n6 a b a' b'=n6 a' b' a b:=by
 rw[AN h1 h3 h4 h5 h6,AN h2 (Ne.symm h3) (Ne.symm h5) (Ne.symm h4) (Ne.symm h6),fj h3,fj (Ne.symm h6)]
 generalize decide (a<a')=p
 generalize decide (a'<b)=q
 generalize decide (a<b')=r
 generalize decide (b'<b)=s
 revert p q r s
 decide
theorem xh{a b a' b':Nat}(h1:a≠b)(h2:a'≠b')(h3:a≠a')(h4:a≠b')(h5:b≠a')(h6:b≠b'):n6 b a a' b'=n6 a b a' b':=by
 rw[lV (Ne.symm h1) h2 h5 h6 h3 h4,jq,lV h2 h1 (Ne.symm h3) (Ne.symm h5) (Ne.symm h4) (Ne.symm h6)]
theorem IC{a b c i j k:Nat}(n1:i≠j)(n2:i≠k)(n3:j≠k)(h1:i<j->a<b)(h2:j<i->b<a)(h3:i<k->a<c)(h4:k<i->c<a)(h5:j<k->b<c)(h6:k<j->c<b):jY a b c↔jY i j k:=by
 have e:∀{i j a b:Nat},i≠j->(i<j->a<b)->(j<i->b<a)->(i<j↔a<b):=λ{i j a b} n f g=>⟨f,λq=>(Qcn n).elim id λr=>absurd (g r) (Qd4 q)⟩
 unfold jY
 rw[e n1 h1 h2,e n3 h5 h6,e (Ne.symm n2) h4 h3]
def Sep(y:Z)(ps:List (Nat×Nat)):Prop:=∀p∈ps,∀q∈ps,y.idxOf p.1<y.idxOf q.1->p.2<q.2
theorem Sep.jY{y:Z}{ps:List (Nat×Nat)}(h:Sep y ps){a b c:Nat×Nat}(ha:a∈ps)(hb:b∈ps)(hc:c∈ps)(n1:y.idxOf a.1≠y.idxOf b.1)(n2:y.idxOf a.1≠y.idxOf c.1)(n3:y.idxOf b.1≠y.idxOf c.1):My.jY a.2 b.2 c.2↔My.jY (y.idxOf a.1) (y.idxOf b.1) (y.idxOf c.1):=IC n1 n2 n3 (h a ha b hb) (h b hb a ha) (h a ha c hc) (h c hc a ha) (h b hb c hc) (h c hc b hb)
theorem Sep.gr{y:Z}{ps:List (Nat×Nat)}(h:Sep y ps)(hn:y.Nodup){a b c:Nat×Nat}(ha:a∈ps)(hb:b∈ps)(hc:c∈ps)(ya:a.1∈y)(yb:b.1∈y)(yc:c.1∈y)(n1:a.1≠b.1)(n2:a.1≠c.1)(n3:b.1≠c.1):decide (My.jY a.2 b.2 c.2)=My.gr y a.1 b.1 c.1:=by
 rw[gF hn ya yb yc n1 n2 n3]
 exact decide_eq_decide.mpr (h.jY ha hb hc (b6 ya yb n1) (b6 ya yc n2) (b6 yb yc n3))
theorem Sep.same{y:Z}{ps:List (Nat×Nat)}(h:Sep y ps){a b c:Nat×Nat}(ha:a∈ps)(hb:b∈ps)(hc:c∈ps)(e:b.1=c.1)(n:y.idxOf a.1≠y.idxOf c.1):My.jY a.2 b.2 c.2↔b.2<c.2:=by
 have h1:=h a ha b hb
 have h2:=h b hb a ha
 have h3:=h a ha c hc
 have h4:=h c hc a ha
 rw[e]at h1 h2
 unfold My.jY
 lia
theorem Sep.Kx{y:Z}{ps:List (Nat×Nat)}(h:Sep y ps){a b c:Nat×Nat}(ha:a∈ps)(hb:b∈ps)(hc:c∈ps)(e:a.1=b.1)(n:y.idxOf a.1≠y.idxOf c.1):My.jY a.2 b.2 c.2↔a.2<b.2:=by
 have h1:=h b hb c hc
 have h2:=h c hc b hb
 have h3:=h a ha c hc
 have h4:=h c hc a ha
 rw[<-e]at h1 h2
 unfold My.jY
 lia
section
variable{y:Z}{f g:Int->Nat}{a b a' b':Nat}
theorem ES(hy:Yd y)(hf:iX y f)(hg:iX y g)(h:Sep y [(aB (f (-1)),a),(f 0,b),(aB (g (-1)),a'),(g 0,b')])(hb:b≠b')(z0:f 0=g 0)(z1:f (-1)≠g (-1)):n6 a b a' b'=true↔decide (b<b')≠iY y f g 0:=by
 have r1:=hf.red 0
 have r2:=hg.red 0
 rw[show (0:Int) - 1= -1 by lia]at r1 r2
 have ya:=hy.cl _ (hf.bU (-1))
 have R4:=hy.cl _ (hg.bU (-1))
 have n1:aB (f (-1))≠aB (g (-1)):=λz=>z1 (gx (hy.lt _ (hf.bU _)) (hy.lt _ (hg.bU _)) z)
 have e1:=h.gr hy.nd (a:=(aB (f (-1)),a)) (b:=(aB (g (-1)),a')) (c:=(f 0,b)) (by simp) (by simp) (by simp) ya R4 (hf.bU 0) n1 (Ne.symm r1) (by rw[z0];exact Ne.symm r2)
 walk_at"O"
 unfold n6
 rw[EO hy hf hg z0 z1]
 simp only at e1 e2
 rw[e1]
 generalize gr y (aB (f (-1))) (aB (g (-1))) (f 0)=G
 by_cases q:b<b'
 ·rw[decide_eq_true q,decide_eq_false (by rw[e2];lia)]
  cases G<;>simp
 ·rw[decide_eq_false q,decide_eq_true (by rw[e2];lia)]
  cases G<;>simp
theorem ET(hy:Yd y)(hf:iX y f)(hg:iX y g)(h:Sep y [(aB (f (-1)),a),(f 0,b),(aB (g (-1)),a'),(g 0,b')])(ha:a≠a')(z1:f (-1)=g (-1))(z0:f 0≠g 0):n6 a b a' b'=true↔decide (a'<a)≠jn y (dR f) (dR g) 0:=by
 have r1:=hf.red 0
 have r2:=hg.red 0
 rw[show (0:Int) - 1= -1 by lia]at r1 r2
 have ya:=hy.cl _ (hf.bU (-1))
 have R4:=hy.cl _ (hg.bU (-1))
 walk_at"C"
 have e2:=h.gr hy.nd (a:=(aB (f (-1)),a)) (b:=(g 0,b')) (c:=(f 0,b)) (by simp) (by simp) (by simp) ya (hg.bU 0) (hf.bU 0) (by show aB _≠_;rw[z1];exact Ne.symm r2) (Ne.symm r1) (Ne.symm z0)
 have e3:jn y (dR f) (dR g) 0=gr y (aB (f (-1))) (f 0) (g 0):=ER (f:=dR f) (g:=dR g) (a:=0) z1
 have e4:=Ml hy.nd ya (hf.bU 0) (hg.bU 0) (Ne.symm r1) (by rw[z1];exact Ne.symm r2) z0
 unfold n6
 simp only at e1 e2
 rw[e3,e2,e4]
 generalize gr y (aB (f (-1))) (f 0) (g 0)=G
 by_cases q:a'<a
 ·rw[decide_eq_true q,decide_eq_false (by rw[e1];lia)]
  cases G<;>simp
 ·rw[decide_eq_false q,decide_eq_true (by rw[e1];lia)]
  cases G<;>simp
theorem m5(hy:Yd y)(hf:iX y f)(hg:iX y g)(h:Sep y [(aB (f (-1)),a),(f 0,b),(aB (g (-1)),a'),(g 0,b')])(ha:a≠a')(hb:b≠b')(z1:f (-1)=g (-1))(z0:f 0=g 0):n6 a b a' b'=true↔decide (a'<a)≠decide (b<b'):=by
 have r1:=hf.red 0
 rw[show (0:Int) - 1= -1 by lia]at r1
 have ya:=hy.cl _ (hf.bU (-1))
 walk_at"C"
 walk_at"O"
 unfold n6
 simp only at e1 e2
 rw[decide_eq_decide.mpr e1,decide_eq_decide.mpr e2]
 by_cases q:a'<a<;>by_cases q2:b<b'
 ·rw[decide_eq_true q,decide_eq_true q2,decide_eq_false (show ¬a<a' by lia),decide_eq_false (show ¬b'<b by lia)];simp
 ·rw[decide_eq_true q,decide_eq_false q2,decide_eq_false (show ¬a<a' by lia),decide_eq_true (show b'<b by lia)];simp
 ·rw[decide_eq_false q,decide_eq_true q2,decide_eq_true (show a<a' by lia),decide_eq_false (show ¬b'<b by lia)];simp
 ·rw[decide_eq_false q,decide_eq_false q2,decide_eq_true (show a<a' by lia),decide_eq_true (show b'<b by lia)];simp
theorem Mr(hy:Yd y)(hf:iX y f)(hg:iX y g)(h:Sep y [(aB (f (-1)),a),(f 0,b),(aB (g (-1)),a'),(g 0,b')])(z0:f 0≠g 0)(z1:f (-1)≠g (-1))(z2:aB (f (-1))≠g 0)(z3:aB (g (-1))≠f 0):n6 a b a' b'=ac y (aB (f (-1))) (f 0) (aB (g (-1))) (g 0):=by
 have r1:=hf.red 0
 have r2:=hg.red 0
 rw[show (0:Int) - 1= -1 by lia]at r1 r2
 have ya:=hy.cl _ (hf.bU (-1))
 have R4:=hy.cl _ (hg.bU (-1))
 have n1:aB (f (-1))≠aB (g (-1)):=λz=>z1 (gx (hy.lt _ (hf.bU _)) (hy.lt _ (hg.bU _)) z)
 have e1:=h.gr hy.nd (a:=(aB (f (-1)),a)) (b:=(aB (g (-1)),a')) (c:=(f 0,b)) (by simp) (by simp) (by simp) ya R4 (hf.bU 0) n1 (Ne.symm r1) z3
 have e2:=h.gr hy.nd (a:=(aB (f (-1)),a)) (b:=(g 0,b')) (c:=(f 0,b)) (by simp) (by simp) (by simp) ya (hg.bU 0) (hf.bU 0) z2 (Ne.symm r1) (Ne.symm z0)
 unfold n6 ac
 simp only at e1 e2
 rw[e1,e2,if_neg (λq=>q.elim (λq=>n1 q.symm) λq=>q.elim z3 λq=>q.elim (λq=>z2 q.symm) λq=>z0 q.symm)]
end
noncomputable def sm:Nat->(Int->Int)->Int
 | 0,_=>0
 | n+1,h=>sm n h+h n
theorem aQ{h g:Int->Int}:∀{n:Nat},(∀i:Nat,i<n->h i=g i)->sm n h=sm n g
 | 0,_=>rfl
 | n+1,e=>by
  show sm n h+h n=sm n g+g n
  rw[aQ λi hi=>e i (),e n ()]
theorem kA(h g:Int->Int):∀n:Nat,sm n (λi=>h i+g i)=sm n h+sm n g
 | 0=>rfl
 | n+1=>by
  show sm n _+(h n+g n)=(sm n h+h n)+(sm n g+g n)
  rw[kA h g n];lia
theorem y_(h g:Int->Int):∀n:Nat,sm n (λi=>h i - g i)=sm n h - sm n g
 | 0=>rfl
 | n+1=>by
  show sm n _+(h n - g n)=(sm n h+h n) - (sm n g+g n)
  rw[y_ h g n];lia
theorem de:∀n:Nat,sm n (λ_=>0)=0
 | 0=>rfl
 | n+1=>by show sm n _+0=0;rw[de n];rfl
theorem AO(h:Int->Int):∀n:Nat,sm n (λi=>h (i - 1))+h ((n:Int) - 1)=sm n h+h (-1)
 | 0=>rfl
 | n+1=>by
  have:=AO h n
  show sm n _+h ((n:Int) - 1)+h (((n+1:Nat):Int) - 1)=(sm n h+h n)+h (-1)
  rw[show ((n+1:Nat):Int) - 1=n by lia]
  lia
theorem qv{h:Int->Int}{n:Nat}(P:∀k,h (k+n)=h k):sm n (λi=>h (i - 1))=sm n h:=by
 have h1:=AO h n
 have h2:=P (-1)
 rw[show (-1:Int)+n=(n:Int) - 1 by lia]at h2
 lia
theorem AQ(h:Int->Int):∀n:Nat,sm n (λi=>h ((n:Int) - 1 - i))=sm n h
 | 0=>rfl
 | n+1=>by
  have e:∀(m:Nat) (g:Int->Int),sm (m+1) g=g 0+sm m (λi=>g (i+1)):=λm=>by
   induction m with
   | zero=>intro g;show (0:Int)+g 0=g 0+0;lia
   | succ m ih=>intro g;show sm (m+1) g+g ((m+1:Nat):Int)=g 0+(sm m (λi=>g (i+1))+g ((m:Int)+1));rw[ih];rw[show ((m+1:Nat):Int)=(m:Int)+1 by lia];lia
  rw[e]
  have:=AQ h n
  show h (((n+1:Nat):Int) - 1 - 0)+sm n (λi=>h (((n+1:Nat):Int) - 1 - (i+1)))=sm n h+h n
  rw[show ((n+1:Nat):Int) - 1 - 0=n by lia, <-this,Int.add_comm]
  congr 1
  exact aQ λi _=>by congr 1;lia
theorem AR{h:Int->Int}{n:Nat}(P:∀k,h (k+n)=h k):sm n (λi=>h (i+1))=sm n h:=by
 have:=qv (h:=λi=>h (i+1)) (n:=n) (λk=>by show h (k+n+1)=h (k+1);rw[<-P (k+1)];congr 1;lia)
 rw[<-this]
 exact aQ λi _=>by show h ((i:Int) - 1+1)=h i;congr 1;lia
theorem EU{h:Int->Int}{n:Nat}(P:∀k,h (k+n)=h k):sm n (λi=>h (-i))=sm n h:=by
 rw[<-AQ (λi=>h (-i)) n, <-AR P]
 exact aQ λi _=>by
  show h (-((n:Int) - 1 - i))=h (i+1)
  rw[<-P (-((n:Int) - 1 - i))];congr 1;lia
theorem Ms{h:Int->Int}{n:Nat}(P:∀k,h (k+n)=h k):sm n (λi=>h (1 - i))=sm n h:=by
 rw[<-AR P, <-EU (h:=λi=>h (i+1)) (λk=>by show h (k+n+1)=h (k+1);rw[<-P (k+1)];congr 1;lia)]
 exact aQ λi _=>by show h (1 - (i:Int))=h (-(i:Int)+1);congr 1;lia
noncomputable def br(n m:Nat)(h:Int->Int->Int):Int:=sm n λi=>sm m λj=>h i j
theorem bS{n m:Nat}{h g:Int->Int->Int}(e:∀i j:Nat,i<n->j<m->h i j=g i j):br n m h=br n m g:=aQ λi hi=>aQ λj hj=>e i j hi hj
theorem cj(n m:Nat)(h g:Int->Int->Int):br n m (λi j=>h i j+g i j)=br n m h+br n m g:=by
 unfold br
 rw[<-kA]
 exact aQ λi _=>kA _ _ _
theorem ID(n m:Nat)(h g:Int->Int->Int):br n m (λi j=>h i j - g i j)=br n m h - br n m g:=by
 unfold br
 rw[<-y_]
 exact aQ λi _=>y_ _ _ _
theorem tI{n m:Nat}{h:Int->Int->Int}(P:∀i j,h (i+n) j=h i j)(Q:∀i j,h i (j+m)=h i j):br n m (λi j=>h (i - 1) (j - 1))=br n m h:=by
 unfold br
 have e:∀i:Int,sm m (λj=>h i (j - 1))=sm m (h i):=λi=>qv (Q i)
 rw[<-qv (h:=λi=>sm m λj=>h i j) (n:=n) (λk=>aQ λj _=>P k j)]
 exact aQ λi _=>e _
structure Ky(y:Z)(n:Nat)(F:Int->Int->Nat)(o i:Int->Nat):Prop where
 pos:0<n
 rQ:∀k,iX y (F k)
 bk:∀k,dR (F k)=F (k - 1)
 Mt:∀k,F (k+n)=F k
 own:∀k x,F k (x+n)=F k x
 op:∀k,o (k+n)=o k
 ip:∀k,i (k+n)=i k
structure Kz(y:Z)(F:Int->Int->Nat)(o i:Int->Nat)(G:Int->Int->Nat)(o' i':Int->Nat):Prop where
 sep:∀s t,Sep y [(aB (F s (-1)),i (s - 1)),(F s 0,o s),(aB (G t (-1)),i' (t - 1)),(G t 0,o' t)]
 on:∀s t a b,Run (F s) (G t) a b->o s≠o' t/\i s≠i' t/\decide (o s<o' t)=y9 y (F s) (G t) a b/\decide (i' t<i s)=y9 y (F s) (G t) a b
def xi(F G:Int->Int->Nat)(s t:Int):Prop:=F s 0=G t 0\/F s (-1)=G t (-1)
def par(F G:Int->Int->Nat)(s t:Int):Prop:=∀k,F s k=G t k
noncomputable def xj(o i o' i':Int->Nat)(s t:Int):Bool:=n6 (i (s - 1)) (o s) (i' (t - 1)) (o' t)
theorem u9{y:Z}{n m:Nat}{F G:Int->Int->Nat}{o i o' i':Int->Nat}(hF:Ky y n F o i)(hG:Ky y m G o' i'){s t:Int}:par F G (s - 1) (t - 1)↔par F G s t:=by
 unfold par
 rw[<-hF.bk, <-hG.bk]
 unfold dR
 exact ⟨λh k=>by have:=h (k+1);rwa [show k+1 - 1=k by lia]at this,λh k=>h _⟩
theorem AS{y:Z}{n m:Nat}{F G:Int->Int->Nat}{o i o' i':Int->Nat}(hy:Yd y)(hF:Ky y n F o i)(hG:Ky y m G o' i')(h:Kz y F o i G o' i'):
  br n m (λs t=>one (xi F G s t/\xj o i o' i' s t=true/\ ¬par F G s t))=br n m λs t=>one (qu y (F s) (G t)):=by
 have pt:∀s t:Int,one (xi F G s t/\xj o i o' i' s t=true/\ ¬par F G s t)=one (qu y (F s) (G t))+one (uB y (F (s - 1)) (G (t - 1))) - one (uB y (F s) (G t)):=λs t=>by
  by_cases hp:par F G s t
  ·have nr:∀{a b}, ¬Run (F s) (G t) a b:=λr=>r.hi (hp _)
   have xf:=(u9 hF hG).mpr hp
   have Uz:∀{a b}, ¬Run (F (s - 1)) (G (t - 1)) a b:=λr=>r.hi (xf _)
   rw[aU (λz=>z.2.2 hp),aU (λ⟨_,r,_⟩=>nr r),aU (λ⟨_,_,r,_⟩=>Uz r),aU (λ⟨_,_,r,_⟩=>nr r)]
   rfl
  ·by_cases ht:xi F G s t
   ·have cP:∃k,F s k≠G t k:=Classical.byContradiction λz=>hp λk=>Classical.byContradiction λq=>z ⟨k,q⟩
    have EV:∃k,F (s - 1) k≠G (t - 1) k:=Classical.byContradiction λz=>hp ((u9 hF hG).mp λk=>Classical.byContradiction λq=>z ⟨k,q⟩)
    have e1:∀s,F (s - 1) 0=F s (-1):=λs=>by rw[<-hF.bk];rfl
    have e2:∀t,G (t - 1) 0=G t (-1):=λs=>by rw[<-hG.bk];rfl
    have ei:one (xi F G s t/\xj o i o' i' s t=true/\ ¬par F G s t)=one (xj o i o' i' s t=true):=bC ⟨λz=>z.2.1,λz=>⟨ht,z,hp⟩⟩
    rw[ei, <-hF.bk, <-hG.bk]
    refine EM (e0:=decide (o s<o' t)) (e1:=decide (i' (t - 1)<i (s - 1))) (λz=>?_) (λz=>?_) (λa b r=>(h.on s t a b r).2.2.1) (λa b r=>?_) (λz0 z1=>?_) (λz1 z0=>?_) (λz1 z0=>?_) ht
    ·obtain ⟨a,b,r,_⟩:=cQ hF.pos hG.pos (hF.own s) (hG.own t) z cP
     exact ⟨a,b,r⟩
    ·obtain ⟨a,b,r,_⟩:=cQ hF.pos hG.pos (hF.own (s - 1)) (hG.own (t - 1)) (by rw[e1,e2];exact z) EV
     rw[hF.bk,hG.bk]
     exact ⟨a,b,r⟩
    ·rw[hF.bk,hG.bk]at r ⊢
     exact (h.on _ _ a b r).2.2.2
    ·obtain ⟨a,b,r,_⟩:=cQ hF.pos hG.pos (hF.own s) (hG.own t) z0 cP
     exact ES hy (hF.rQ s) (hG.rQ t) (h.sep s t) (h.on s t a b r).1 z0 z1
    ·obtain ⟨a,b,r,_⟩:=cQ hF.pos hG.pos (hF.own (s - 1)) (hG.own (t - 1)) (by rw[e1,e2];exact z1) EV
     exact ET hy (hF.rQ s) (hG.rQ t) (h.sep s t) (h.on _ _ a b r).2.1 z1 z0
    ·obtain ⟨a,b,r,_⟩:=cQ hF.pos hG.pos (hF.own s) (hG.own t) z0 cP
     obtain ⟨a2,b2,r2,_⟩:=cQ hF.pos hG.pos (hF.own (s - 1)) (hG.own (t - 1)) (by rw[e1,e2];exact z1) EV
     exact m5 hy (hF.rQ s) (hG.rQ t) (h.sep s t) (h.on _ _ a2 b2 r2).2.1 (h.on s t a b r).1 z1 z0
   ·have t0:F s 0≠G t 0:=λz=>ht (.inl z)
    have t1:F (s - 1) 0≠G (t - 1) 0:=by
     rw[<-hF.bk, <-hG.bk]
     exact λz=>ht (.inr z)
    rw[aU (λz=>ht z.1),aU (λ⟨_,r,_⟩=>t0 r.zero),aU (λ⟨_,_,r,_⟩=>t1 r.zero),aU (λ⟨_,_,r,_⟩=>t0 r.zero)]
    rfl
 have e:br n m (λs t=>one (xi F G s t/\xj o i o' i' s t=true/\ ¬par F G s t))=br n m (λs t=>(one (qu y (F s) (G t))+one (uB y (F (s - 1)) (G (t - 1)))) - one (uB y (F s) (G t))):=bS λs t _ _=>pt s t
 rw[e,ID,cj,tI (h:=λs t=>one (uB y (F s) (G t))) (λs t=>by rw[hF.Mt]) (λs t=>by rw[hG.Mt])]
 lia
theorem bg{y w:Z}(h:SW y w)(i:Int):iX y (sq w i):=⟨λk=>h.rd _,λk=>by
 unfold sq
 have:=h.red (i+k)
 rwa [show i+k - 1=i+(k - 1) by lia]at this⟩
theorem fD(w:Z)(i:Int):jM (sq w i)=bq w i:=by
 funext k
 unfold jM sq bq
 rw[show i+ -k=i - k by lia]
theorem m6{y w:Z}(hy:Yd y)(h:SW y w)(i:Int):iX y (bq w i):=by rw[<-fD];exact (bg h i).rv hy
theorem za(w:Z)(i:Int):sq w (i+(w:))=sq w i:=by
 funext k
 unfold sq
 rw[show i+((w:):Int)+k=i+k+(w:) by lia,ir]
theorem zc(w:Z)(i:Int):bq w (i+(w:))=bq w i:=by rw[<-fD, <-fD,za]
theorem m7{y w:Z}{po pi:Int->Nat}(h:SW y w)(P:∀k,po (k+(w:))=po k)(Q:∀k,pi (k+(w:))=pi k):Ky y (w:) (sq w) po pi:=
 ⟨VJ.mpr h.ne,bg h,λk=>by funext x;unfold dR sq;congr 1;lia,za w,λk x=>dk w k x,P,Q⟩
theorem AU{n:Nat}{h:Int->Nat}(P:∀k,h (k+n)=h k)(k:Int):h (-(k+n))=h (-k):=by rw[<-P (-(k+n))];congr 1;lia
theorem EW{y w:Z}{po pi:Int->Nat}(hy:Yd y)(h:SW y w)(P:∀k,po (k+(w:))=po k)(Q:∀k,pi (k+(w:))=pi k):Ky y (w:) (λk=>bq w (-k)) (λk=>pi (-k)) (λk=>po (-k)):=
 ⟨VJ.mpr h.ne,λk=>m6 hy h _,λk=>by funext x;unfold dR bq;congr 2;lia,λk=>by
  show bq w (-(k+(w:)))=bq w (-k)
  rw[<-zc w (-(k+(w:)))];congr 1;lia,λk x=>qt w _ x,AU Q,AU P⟩
section
variable{y w v:Z}{po pi qo qi:Int->Nat}
noncomputable def dE(po pi qo qi:Int->Nat)(i j:Int):Bool:=n6 (pi (i - 1)) (po i) (qi (j - 1)) (qo j)
def bI(w v:Z)(i j:Int):Prop:=∀k,sq w i k=sq v j k
def iS(w v:Z)(i j:Int):Prop:=∀k,sq w i k=bq v (j - 1) k
def NK(w v:Z)(i j:Int):Prop:=rd w i=rd v j\/rd w (i - 1)=rd v (j - 1)
def zd(w v:Z)(i j:Int):Prop:=rd w i=aB (rd v (j - 1))\/rd w (i - 1)=aB (rd v j)
theorem IE(w v:Z)(i j:Int):xi (sq w) (sq v) i j↔NK w v i j:=by
 unfold xi NK sq
 rw[show i+0=i by lia,show j+0=j by lia]
 rfl
theorem IF(w v:Z)(i k:Int):xi (sq w) (λk=>bq v (-k)) i k↔zd w v i (1 - k):=by
 unfold xi zd sq bq
 show rd w (i+0)=aB (rd v (-k - 0))\/rd w (i+ -1)=aB (rd v (-k - -1))↔_
 rw[show i+0=i by lia,show -k - 0=1 - k - 1 by lia,show -k - -1=1 - k by lia]
 rfl
theorem UA(hy:Yd y)(hw:SW y w)(hv:SW y v){i j:Int}(h:NK w v i j)(g:zd w v i j):False:=by
 have wj:=hw.red i
 have V2:=hv.red j
 have l1:=hy.lt _ (hw.rd (i - 1))
 have l2:=hy.lt _ (hv.rd (j - 1))
 have l3:=hy.lt _ (hv.rd j)
 rcases h with h | h<;>rcases g with g | g
 ·exact V2 (h.symm.trans g)
 ·rw[<-h]at g;exact wj (by rw[g,aK (hy.lt _ (hw.rd i))])
 ·rw[<-h]at g;exact wj g
 ·rw[h]at g;exact V2 (by rw[g,aK l3])
theorem AV(hy:Yd y)(hw:SW y w)(hv:SW y v):br (w:) (v:) (λs t=>one (qu y (sq w s) (sq v t)))=br (w:) (v:) (λi j=>one (0<al y (sq w i) (sq v j) ((w:)+(v:)))):=bS λi j _ _=>bC (xg hy (bg hw _) (bg hv _) λz=>jL hw.ne hv.ne (λk=>dk w i k) (λk=>dk v j k) z)
theorem AW(hy:Yd y)(hw:SW y w)(hv:SW y v):br (w:) (v:) (λs t=>one (qu y (sq w s) (bq v (-t))))=br (w:) (v:) (λi j=>one (0<al y (sq w i) (bq v j) ((w:)+(v:)))):=by
 have:br (w:) (v:) (λs t=>one (qu y (sq w s) (bq v (-t))))=br (w:) (v:) (λs t=>one (qu y (sq w s) (bq v t))):=aQ λi _=>EU (h:=λt=>one (qu y (sq w i) (bq v t))) λk=>by rw[zc]
 rw[this]
 exact bS λi j _ _=>bC (xg hy (bg hw _) (m6 hy hv _) λz=>jL hw.ne hv.ne (λk=>dk w i k) (λk=>qt v j k) z)
theorem AX(Q1:∀k,qo (k+(v:))=qo k)(Q2:∀k,qi (k+(v:))=qi k):br (w:) (v:) (λs t=>one (xi (sq w) (λk=>bq v (-k)) s t/\xj po pi (λk=>qi (-k)) (λk=>qo (-k)) s t=true/\ ¬par (sq w) (λk=>bq v (-k)) s t))=br (w:) (v:) (λi j=>one (zd w v i j/\dE po pi qo qi i j=true/\ ¬iS w v i j)):=by
 have P:∀i:Int,∀k:Int,(λj=>one (zd w v i j/\dE po pi qo qi i j=true/\ ¬iS w v i j)) (k+(v:))=(λj=>one (zd w v i j/\dE po pi qo qi i j=true/\ ¬iS w v i j)) k:=λi k=>by
  show one (zd w v i (k+(v:))/\dE po pi qo qi i (k+(v:))=true/\ ¬iS w v i (k+(v:)))=_
  unfold zd dE iS
  rw[show k+((v:):Int) - 1=k - 1+(v:) by lia,ir,ir,Q1,Q2,zc]
 refine aQ λi _=>(aQ λk _=>?_).trans (Ms (P i))
 refine bC ?_
 rw[IF]
 have ec:xj po pi (λk=>qi (-k)) (λk=>qo (-k)) i k=dE po pi qo qi i (1 - k):=by
  unfold xj dE
  rw[jq]
  show n6 (pi ((i:Int) - 1)) (po i) (qi (-(k:Int))) (qo (-((k:Int) - 1)))=_
  rw[show -((k:Int) - 1)=1 - k by lia,show (1:Int) - k - 1= -k by lia]
 have ep:par (sq w) (λk=>bq v (-k)) i k↔iS w v i (1 - k):=by
  unfold par iS
  rw[show (1:Int) - k - 1= -k by lia]
 rw[ec,ep]
theorem qw(hy:Yd y)(hw:SW y w)(hv:SW y v)(sep:∀s t,Sep y [(aB (sq w s (-1)),pi (s - 1)),(sq w s 0,po s),(aB (sq v t (-1)),qi (t - 1)),(sq v t 0,qo t)]):
  br (w:) (v:) (λi j=>one (dE po pi qo qi i j=true))=
   br (w:) (v:) (λi j=>one (ac y (aB (rd w (i - 1))) (rd w i) (aB (rd v (j - 1))) (rd v j)=true))+br (w:) (v:) (λi j=>one (xi (sq w) (sq v) i j/\xj po pi qo qi i j=true/\ ¬par (sq w) (sq v) i j))+br (w:) (v:) (λi j=>one (zd w v i j/\dE po pi qo qi i j=true/\ ¬iS w v i j))
   +br (w:) (v:) (λi j=>one (bI w v i j/\dE po pi qo qi i j=true))+br (w:) (v:) (λi j=>one (iS w v i j/\dE po pi qo qi i j=true)):=by
 rw[<-cj, <-cj, <-cj, <-cj]
 refine bS λi j _ _=>?_
 have hc:xj po pi qo qi i j=dE po pi qo qi i j:=rfl
 have et:=IE w v i j
 have pS:bI w v i j->NK w v i j:=λz=> .inl (by have:=z 0;unfold sq at this;rwa [show (i:Int)+0=i by lia,show (j:Int)+0=j by lia]at this)
 have pO:iS w v i j->zd w v i j:=λz=> .inl (by have:=z 0;unfold sq bq at this;rwa [show (i:Int)+0=i by lia,show (j:Int) - 1 - 0=j - 1 by lia]at this)
 have Yf:NK w v i j-> ¬ac y (aB (rd w (i - 1))) (rd w i) (aB (rd v (j - 1))) (rd v j)=true:=λz=>by
  unfold ac
  rw[if_pos (z.elim (λz=> .inr (.inr (.inr z.symm))) λz=> .inl (by rw[z]))]
  decide
 have Yg:zd w v i j-> ¬ac y (aB (rd w (i - 1))) (rd w i) (aB (rd v (j - 1))) (rd v j)=true:=λz=>by
  unfold ac
  rw[if_pos (z.elim (λz=> .inr (.inl z.symm)) λz=> .inr (.inr (.inl (by rw[z,aK (hy.lt _ (hv.rd _))]))))]
  decide
 have ep:par (sq w) (sq v) i j↔bI w v i j:=Iff.rfl
 by_cases tS:NK w v i j
 ·have nO: ¬zd w v i j:=λz=>UA hy hw hv tS z
  rw[aU (Yf tS),aU (p:=zd w v i j/\_) (λz=>nO z.1),aU (p:=iS w v i j/\_) (λz=>nO (pO z.1))]
  by_cases c:dE po pi qo qi i j=true
  ·by_cases q:bI w v i j
   ·rw[eJ c,aU (λz=>z.2.2 q),eJ ⟨q,c⟩];rfl
   ·rw[eJ c,eJ ⟨et.mpr tS,c,q⟩,aU (λz=>q z.1)];rfl
  ·rw[aU c,aU (λz=>c z.2.1),aU (λz=>c z.2)];rfl
 ·rw[aU (p:=xi _ _ _ _/\_) (λz=>tS (et.mp z.1)),aU (p:=bI w v i j/\_) (λz=>tS (pS z.1))]
  by_cases tO:zd w v i j
  ·rw[aU (Yg tO)]
   by_cases c:dE po pi qo qi i j=true
   ·by_cases q:iS w v i j
    ·rw[eJ c,aU (λz=>z.2.2 q),eJ ⟨q,c⟩];rfl
    ·rw[eJ c,eJ ⟨tO,c,q⟩,aU (λz=>q z.1)];rfl
   ·rw[aU c,aU (λz=>c z.2.1),aU (λz=>c z.2)];rfl
  ·rw[aU (p:=zd w v i j/\_) (λz=>tO z.1),aU (p:=iS w v i j/\_) (λz=>tO (pO z.1))]
   have l2:=hy.lt _ (hv.rd (j - 1))
   have l3:=hy.lt _ (hv.rd j)
   have l1:=hy.lt _ (hw.rd (i - 1))
   have f0:∀(u:Z) (i:Int),sq u i 0=rd u i:=λu i=>by unfold sq;rw[show i+0=i by lia]
   have f1:∀(u:Z) (i:Int),sq u i (-1)=rd u (i - 1):=λu i=>rfl
   have e:=Mr hy (bg hw i) (bg hv j) (sep i j) (λz=>tS (.inl (by rw[f0,f0]at z;exact z))) (λz=>tS (.inr z)) (λz=>tO (.inr (by rw[f0,f1]at z;rw[<-z,aK l1]))) (λz=>tO (.inl (by rw[f0,f1]at z;exact z.symm)))
   rw[f0,f0,f1,f1]at e
   have e':dE po pi qo qi i j=ac y (aB (rd w (i - 1))) (rd w i) (aB (rd v (j - 1))) (rd v j):=e
   rw[e']
   lia
theorem xk(hy:Yd y)(hw:SW y w)(hv:SW y v)(P1:∀k,po (k+(w:))=po k)(P2:∀k,pi (k+(w:))=pi k)(Q1:∀k,qo (k+(v:))=qo k)(Q2:∀k,qi (k+(v:))=qi k)
  (hS:Kz y (sq w) po pi (sq v) qo qi) (hO:Kz y (sq w) po pi (λk=>bq v (-k)) (λk=>qi (-k)) (λk=>qo (-k))):
  br (w:) (v:) (λi j=>one (dE po pi qo qi i j=true))=
   br (w:) (v:) (λi j=>one (ac y (aB (rd w (i - 1))) (rd w i) (aB (rd v (j - 1))) (rd v j)=true))+br (w:) (v:) (λi j=>one (0<al y (sq w i) (sq v j) ((w:)+(v:))))+br (w:) (v:) (λi j=>one (0<al y (sq w i) (bq v j) ((w:)+(v:))))
   +br (w:) (v:) (λi j=>one (bI w v i j/\dE po pi qo qi i j=true))+br (w:) (v:) (λi j=>one (iS w v i j/\dE po pi qo qi i j=true)):=by
 have s1:=AS hy (m7 hw P1 P2) (m7 hv Q1 Q2) hS
 have s2:=AS hy (m7 hw P1 P2) (EW hy hv Q1 Q2) hO
 rw[AV hy hw hv]at s1
 rw[AW hy hw hv,AX Q1 Q2]at s2
 rw[qw hy hw hv hS.sep,s1,s2]
theorem IG(hy:Yd y)(hw:SW y w)(hv:SW y v)(hS:Kz y (sq w) po pi (sq v) qo qi)(D:Bool)
  (h:∀i j,bI w v i j->po i≠qo j/\pi i≠qi j/\decide (po i<qo j)=D/\decide (qi j<pi i)=D):br (w:) (v:) (λi j=>one (bI w v i j/\dE po pi qo qi i j=true))=0:=by
 have:∀i j:Int, ¬(bI w v i j/\dE po pi qo qi i j=true):=λi j ⟨p,c⟩=>by
  have p1:bI w v (i - 1) (j - 1):=λk=>by
   have:=p (k - 1)
   unfold sq at this ⊢
   rw[show i - 1+k=i+(k - 1) by lia,show j - 1+k=j+(k - 1) by lia]
   exact this
  have h0:=h i j p
  have h1:=h _ _ p1
  have:=(m5 hy (bg hw i) (bg hv j) (hS.sep i j) h1.2.1 h0.1 (p (-1)) (p 0)).mp c
  exact this (h1.2.2.2.trans h0.2.2.1.symm)
 walk_at"K"
 exact bS λi j _ _=>aU (this i j)
theorem IH(hy:Yd y)(hw:SW y w)(hv:SW y v)(hO:Kz y (sq w) po pi (λk=>bq v (-k)) (λk=>qi (-k)) (λk=>qo (-k)))(D:Bool)
  (h:∀i j,(∀k,sq w i k=bq v j k)->po i≠qi j/\pi i≠qo j/\decide (po i<qi j)=D/\decide (qo j<pi i)=D):br (w:) (v:) (λi j=>one (iS w v i j/\dE po pi qo qi i j=true))=0:=by
 have:∀i j:Int, ¬(iS w v i j/\dE po pi qo qi i j=true):=λi j ⟨p,c⟩=>by
  have p1:∀k,sq w (i - 1) k=bq v j k:=λk=>by
   have:=p (k - 1)
   unfold sq bq at this ⊢
   rw[show i - 1+k=i+(k - 1) by lia,this]
   congr 2;lia
  have h0:=h i (j - 1) p
  have h1:=h _ _ p1
  have s:=hO.sep i (1 - j)
  simp only[show -(1 - j)=j - 1 by lia,show -(1 - j - 1)=j by lia]at s
  unfold dE at c
  rw[jq]at c
  have:=(m5 hy (bg hw i) (m6 hy hv (j - 1)) s h1.2.1 h0.1 (p (-1)) (p 0)).mp c
  exact this (h1.2.2.2.trans h0.2.2.1.symm)
 walk_at"K"
 exact bS λi j _ _=>aU (this i j)
theorem u_(hy:Yd y)(hw:SW y w)(i j:Int): ¬ ∀k,sq w i k=bq w j k:=λh=>by
 unfold sq bq at h
 rcases (show (j - i)%2=0\/(j - i)%2=1 by lia) with z | z
 ·have:=h ((j - i) / 2)
  rw[show i+(j - i) / 2=j - (j - i) / 2 by lia]at this
  exact gE (hy.lt _ (hw.rd _)) this.symm
 ·have:=h ((j - i) / 2+1)
  rw[show j - ((j - i) / 2+1)=i+((j - i) / 2+1) - 1 by lia]at this
  exact hw.red _ this
theorem qx(h:Int->Int)(n:Nat):∀m:Nat,sm (n+m) h=sm n h+sm m (λi=>h (n+i))
 | 0=>by show sm n h=sm n h+0;lia
 | m+1=>by
  show sm (n+m) h+h ((n+m:Nat):Int)=sm n h+(sm m (λi=>h (n+i))+h (n+m))
  rw[qx h n m,show ((n+m:Nat):Int)=(n:Int)+m by lia]
  lia
theorem jr{h:Int->Int}:∀{s:Nat},0<s->(∀i:Nat,0<i->i<s->h i=0)->sm s h=h 0
 | 0,h0,_=>absurd h0 (Qbe _)
 | 1,_,_=>by show (0:Int)+h 0=h 0;lia
 | s+2,_,g=>by
  show sm (s+1) h+h ((s+1:Nat):Int)=h 0
  rw[jr (s:=s+1) () (λi h1 h2=>g i h1 ()),g (s+1) () ()]
  lia
theorem AY{h:Int->Int}{s:Nat}(hs:0<s)(g:∀i:Nat,h i=if i%s=0 then 1 else 0):∀k:Nat,sm (k*s) h=k
 | 0=>by rw[Qev];rfl
 | k+1=>by
  rw[Qcr,qx,AY hs g k,jr hs]
  ·have:=g (k*s)
   rw[if_pos (Nat.mul_mod_left k s)]at this
   show (k:Int)+h (((k*s:Nat):Int)+0)=((k+1:Nat):Int)
   rw[Qd7,this]
   lia
  ·intro i h1 h2
   have:=g (k*s+i)
   rw[if_neg (by rw[Qcs,Nat.mul_add_mod,Qbg h2];lia)]at this
   rw[<-this]
   congr 1
theorem EX(hy:Yd y)(hw:SW y w)(hS:Kz y (sq w) po pi (sq w) po pi){s k:Nat}(hs:0<s)(hn:(w:)=k*s)(hk:0<k)(hr:∀j:Nat,j<(w:)->(bI w w 0 j↔j%s=0))
  (h:∀i j:Int,bI w w i j->i%(w:)≠j%(w:)->po i≠po j/\pi i≠pi j/\decide (po i<po j)=decide (i%(w:)<j%(w:))/\decide (pi j<pi i)=decide (i%(w:)<j%(w:))):
  br (w:) (w:) (λi j=>one (bI w w i j/\dE po pi po pi i j=true))=2*((k:Int) - 1):=by
 have pt:∀i j:Nat,i<(w:)->j<(w:)->one (bI w w i j/\dE po pi po pi i j=true)=(if i=0 then one (j≠0/\bI w w 0 j) else 0)+(if j=0 then one (i≠0/\bI w w 0 i) else 0):=λi j hi hj=>by
  have sym:bI w w 0 i↔bI w w i 0:=⟨λq k=>(q k).symm,λq k=>(q k).symm⟩
  by_cases e:i=j
  ·subst e
   rw[aU (λq=>by have:=q.2;unfold dE at this;rw[lU]at this;cases this)]
   by_cases z:i=0
   ·rw[if_pos z,aU (λq=>q.1 z)];rfl
   ·rw[if_neg z];rfl
  ·have key:bI w w i j->(dE po pi po pi i j=true↔(i=0\/j=0)):=λp=>by
    have p1:bI w w ((i:Int) - 1) ((j:Int) - 1):=λk=>by
     have:=p (k - 1)
     unfold sq at this ⊢
     rw[show (i:Int) - 1+k=i+(k - 1) by lia,show (j:Int) - 1+k=j+(k - 1) by lia]
     exact this
    have m0:∀i:Nat,i<(w:)->(i:Int)%(w:)=i:=λi hi=>Qay () ()
    have m1:∀i:Nat,i<(w:)->((i:Int) - 1)%(w:)=if i=0 then ((w:):Int) - 1 else i - 1:=λi hi=>by
     split
     ·rename_i z
      rw[<-Qc1,Qay () ()];lia
     ·exact Qay () ()
    have h0:=h i j p (by rw[m0 i hi,m0 j hj];lia)
    have h1:=h _ _ p1 (by rw[m1 i hi,m1 j hj];split<;>split<;>lia)
    have c:=m5 hy (bg hw i) (bg hw j) (hS.sep i j) h1.2.1 h0.1 (p (-1)) (p 0)
    rw[h0.2.2.1,h1.2.2.2,m0 i hi,m0 j hj,m1 i hi,m1 j hj]at c
    have c':dE po pi po pi i j=true↔_:=c
    rw[c',Ne,decide_eq_decide]
    split<;>split<;>lia
   by_cases z:i=0
   ·have j0:j≠0:=λq=>e (z.trans q.symm)
    rw[if_pos z,if_neg j0]
    rw[z]at key ⊢
    have:one (bI w w ((0:Nat):Int) j/\dE po pi po pi ((0:Nat):Int) j=true)=one (j≠0/\bI w w 0 j):=bC ⟨λq=>⟨j0,q.1⟩,λq=>⟨q.2,(key q.2).mpr (.inl rfl)⟩⟩
    rw[this];lia
   ·rw[if_neg z]
    by_cases j0:j=0
    ·rw[if_pos j0]
     rw[j0]at key ⊢
     have:one (bI w w i ((0:Nat):Int)/\dE po pi po pi i ((0:Nat):Int)=true)=one (i≠0/\bI w w 0 i):=bC ⟨λq=>⟨z,sym.mpr q.1⟩,λq=>⟨sym.mp q.2,(key (sym.mp q.2)).mpr (.inr rfl)⟩⟩
     rw[this];lia
    ·rw[if_neg j0,aU (λq=>by rcases (key q.1).mp q.2 with q | q<;>contradiction)];rfl
 have cnt:sm (w:) (λj=>one (j≠0/\bI w w 0 j))=(k:Int) - 1:=by
  have e1:sm (w:) (λj=>one (bI w w 0 j))=k:=by
   have:sm (w:) (λj=>one (bI w w 0 j))=sm (w:) (λj=>if j.toNat%s=0 then 1 else 0):=aQ λj hj=>by
    rw[bC (hr j hj),Xt]
    by_cases z:j%s=0
    ·rw[eJ z,if_pos z]
    ·rw[aU z,if_neg z]
   rw[this,hn]
   exact AY hs (λi=>by rw[Xt]) k
  have e2:sm (w:) (λj=>one (bI w w 0 j))=sm (w:) (λj=>one (j≠0/\bI w w 0 j))+sm (w:) (λj=>if j=0 then 1 else 0):=by
   rw[<-kA]
   refine aQ λj hj=>?_
   by_cases z:j=0
   ·subst z
    rw[eJ (show bI w w 0 ((0:Nat):Int) from λk=>rfl),aU (λq=>q.1 rfl)];rfl
   ·rw[if_neg (),Qd7]
    exact bC ⟨λq=>⟨(),q⟩,λq=>q.2⟩
  have e3:sm (w:) (λj=>if j=0 then (1:Int) else 0)=1:=by
   rw[jr (VJ.mpr hw.ne) (λi h1 _=>by rw[if_neg ()]),if_pos rfl]
  lia
 have lp:0<(w:):=VJ.mpr hw.ne
 have e:br (w:) (w:) (λi j=>one (bI w w i j/\dE po pi po pi i j=true))=br (w:) (w:) (λi j=>(if i=0 then one (j≠0/\bI w w 0 j) else 0)+(if j=0 then one (i≠0/\bI w w 0 i) else 0)):=bS λi j hi hj=>by
  rw[pt i j hi hj]
  congr 1
  ·by_cases z:i=0
   ·rw[if_pos z,if_pos ()]
    exact bC ⟨λq=>⟨(),q.2⟩,λq=>⟨(),q.2⟩⟩
   ·rw[if_neg z,if_neg ()]
  ·by_cases z:j=0
   ·rw[if_pos z,if_pos ()]
    exact bC ⟨λq=>⟨(),q.2⟩,λq=>⟨(),q.2⟩⟩
   ·rw[if_neg z,if_neg ()]
 rw[e,cj]
 have a1:br (w:) (w:) (λi j=>if i=0 then one (j≠0/\bI w w 0 j) else 0)=(k:Int) - 1:=by
  unfold br
  rw[jr lp]
  ·rw[<-cnt]
   exact aQ λj _=>if_pos rfl
  ·intro i h1 _
   refine Eq.trans (aQ (g:=λ_=>0) λj _=>?_) (de _)
   have: ¬((i:Int)=0):=by lia
   exact if_neg this
 have a2:br (w:) (w:) (λi j=>if j=0 then one (i≠0/\bI w w 0 i) else 0)=(k:Int) - 1:=by
  unfold br
  rw[<-cnt]
  refine aQ λi _=>?_
  have:∀j:Nat,0<j-> ¬((j:Int)=0):=λj h=>by lia
  rw[jr lp (λj h1 _=>if_neg (this j h1))]
  exact if_pos rfl
 lia
end
noncomputable def kk(y:Z)(f:Int->Nat):Nat->Nat->List Int
 | _,0=>[]
 | k,n+1=>fP y f (k+1)::fP y f (-(k:Int))::kk y f (k+1) n
theorem fE:∀(l r t:List Int),bP (l++r) (l++t)=bP r t
 | [],_,_=>rfl
 | a::l,r,t=>by
  show (if a=a then bP (l++r) (l++t) else _)=_
  rw[if_pos rfl,fE l r t]
theorem m8{y:Z}{f g:Int->Nat}{a b:Nat}(hy:Yd y)(hf:iX y f)(hg:iX y g)(h:Run f g a b)(r t:List Int):∀(n k:Nat),k<=a->k<=b->a<k+n->b<k+n->bP (kk y f k n++r) (kk y g k n++t)=if a<=b then jn y f g a else iY y f g b
 | 0,k,h1,_,h3,_=>by lia
 | n+1,k,h1,h2,h3,h4=>by
  show (if fP y f (k+1)=fP y g (k+1) then (if fP y f (-(k:Int))=fP y g (-(k:Int)) then bP (kk y f (k+1) n++r) (kk y g (k+1) n++t) else decide (fP y f (-(k:Int))<fP y g (-(k:Int)))) else decide (fP y f (k+1)<fP y g (k+1)))=_
  have e0:=h.kM k () ()
  have e1:=h.kM (-(k:Int)) () ()
  by_cases z:k=a
  ·subst z
   rw[if_neg (λq=>h.hi (by
    unfold fP at q
    rw[show (k:Int)+1 - 1=k by lia, <-e0]at q
    exact lT (hy.cl _ (hf.bU _)) (hf.bU _) (hg.bU _) q)),if_pos h2]
   rfl
  ·have e2:=h.kM (k+1) () ()
   rw[if_pos (by unfold fP;rw[show (k:Int)+1 - 1=k by lia,e0,e2])]
   by_cases z2:k=b
   ·subst z2
    rw[if_neg (λq=>h.lo (by
     unfold fP at q
     rw[<-e1]at q
     have r1:=hf.red (-(k:Int))
     have r2:=hg.red (-(k:Int))
     have c1:=(eY (hy.cl _ (hf.bU (-(k:Int) - 1))) (hf.bU (-(k:Int))) (Ne.symm r1)).2.2
     have c2:=(eY (hy.cl _ (hg.bU (-(k:Int) - 1))) (hf.bU (-(k:Int))) (by rw[e1];exact Ne.symm r2)).2.2
     have:=lT (hf.bU (-(k:Int))) (hy.cl _ (hf.bU (-(k:Int) - 1))) (hy.cl _ (hg.bU (-(k:Int) - 1))) (by rw[c1,c2,q])
     exact gx (hy.lt _ (hf.bU _)) (hy.lt _ (hg.bU _)) this)),if_neg ()]
    rfl
   ·have e3:=h.kM (-(k:Int) - 1) () ()
    rw[if_pos (by unfold fP;rw[e1,e3])]
    exact m8 hy hf hg h r t n (k+1) () () () ()
noncomputable def mE(w:Z)(i:Int):Int->Nat:=if ay (rd w i)=true then sq w i else bq w i
noncomputable def G8(n r:Nat)(l low:Bool)(c i:Nat):List Int:=if low=l then [(c:Int),(((if low=true then i else n - 1 - i) / r:Nat):Int)] else [-(c:Int), -(((if low=true then n - 1 - i else i) / r:Nat):Int)]
noncomputable def eK(y:Z)(ws:List Z)(L:Nat->Bool)(r:Nat->Nat)(M c i:Nat):List Int:=kk y (mE (ws|||c) i) 0 M++G8 ((ws|||c):) (r c) (L c) (ay (rd (ws|||c) i)) c i
def Dl(w:Z)(i:Int)(f:Int->Nat):Prop:=f=sq w i\/f=bq w i
theorem va{y w:Z}{i:Int}{f:Int->Nat}(hy:Yd y)(hw:SW y w)(h:Dl w i f):mE w i=if ay (f 0)=true then f else jM f:=by
 have s0:sq w i 0=rd w i:=by unfold sq;rw[show i+0=i by lia]
 have b0:bq w i 0=aB (rd w i):=by unfold bq;rw[show i - 0=i by lia]
 have lc:=fh _ (hy.lt _ (hw.rd i)).mem
 unfold mE
 rcases h with rfl | rfl
 ·rw[s0,fD]
 ·rw[b0,lc, <-fD,tH hy (bg hw i)]
  cases ay (rd w i)<;>rfl
theorem Dl.rQ{y w:Z}{i:Int}{f:Int->Nat}(hy:Yd y)(hw:SW y w)(h:Dl w i f):iX y f:=by
 rcases h with rfl | rfl
 ·exact bg hw i
 ·exact m6 hy hw i
theorem Run.sy{f g:Int->Nat}{a b:Nat}(h:Run f g a b):Run g f a b:=⟨λk h1 h2=>(h.kM k h1 h2).symm,Ne.symm h.hi,Ne.symm h.lo⟩
section
variable{y:Z}{ws:List Z}{L:Nat->Bool}{r:Nat->Nat}{M:Nat}{N:Nat->Nat->Nat->Nat}
structure cR(y:Z)(ws:List Z)(R:Nat->Nat->Nat->Nat->Bool)(N:Nat->Nat->Nat->Nat):Prop where
 sep:∀c i d j e e',c<(ws:)->d<(ws:)->i<((ws|||c):)->j<((ws|||d):)->(e=rd (ws|||c) i\/e=aB (rd (ws|||c) i))->(e'=rd (ws|||d) j\/e'=aB (rd (ws|||d) j))->y.idxOf e<y.idxOf e'->N c i e<N d j e'
 low:∀c i d j x,c<(ws:)->d<(ws:)->i<((ws|||c):)->j<((ws|||d):)->(c,i)≠(d,j)->ay x=true->(rd (ws|||c) i=x\/rd (ws|||c) i=aB x)->(rd (ws|||d) j=x\/rd (ws|||d) j=aB x)->
  N c i x≠N d j x/\N c i (aB x)≠N d j (aB x)/\decide (N c i x<N d j x)=R c i d j/\decide (N d j (aB x)<N c i (aB x))=R c i d j
abbrev Lies(y:Z)(ws:List Z)(L:Nat->Bool)(r:Nat->Nat)(M:Nat)(N:Nat->Nat->Nat->Nat):Prop:=cR y ws (λc i d j=>bP (eK y ws L r M c i) (eK y ws L r M d j)) N
theorem cR.at{R:Nat->Nat->Nat->Nat->Bool}(hy:Yd y)(hN:cR y ws R N){c i d j:Nat}{f g:Int->Nat}(hc:c<(ws:))(hd:d<(ws:))(hi:i<((ws|||c):))(hj:j<((ws|||d):))(hw:SW y (ws|||c))(hv:SW y (ws|||d))
  (hf:Dl (ws|||c) i f) (hg:Dl (ws|||d) j g) (h0:f 0=g 0) (cP:(c,i)≠(d,j)):
  N c i (f 0)≠N d j (f 0)/\N c i (aB (f 0))≠N d j (aB (f 0))/\decide (N c i (f 0)<N d j (f 0))=(if ay (f 0)=true then R c i d j else R d j c i)/\decide (N d j (aB (f 0))<N c i (aB (f 0)))=(if ay (f 0)=true then R c i d j else R d j c i):=by
 walk_at"c"
 walk_at"j"
 have ly:Lt (f 0):=hy.lt _ ((hf.rQ hy hw).bU 0)
 have Nu:=aK ly
 have ef:rd (ws|||c) i=f 0\/rd (ws|||c) i=aB (f 0):=by
  rcases hf with rfl | rfl
  ·exact .inl (s0 _ _).symm
  ·exact .inr (by rw[b0,aK (hy.lt _ (hw.rd _))])
 have eg:rd (ws|||d) j=f 0\/rd (ws|||d) j=aB (f 0):=by
  rw[h0]
  rcases hg with rfl | rfl
  ·exact .inl (s0 _ _).symm
  ·exact .inr (by rw[b0,aK (hy.lt _ (hv.rd _))])
 by_cases z:ay (f 0)=true
 ·rw[if_pos z]
  exact hN.low c i d j (f 0) hc hd hi hj cP z ef eg
 ·rw[if_neg z]
  have z':ay (aB (f 0))=true:=by rw[fh _ ly.mem];simpa using z
  have:=hN.low d j c i (aB (f 0)) hd hc hj hi (Ne.symm cP) z' (by rw[Nu];exact eg.symm) (by rw[Nu];exact ef.symm)
  rw[Nu]at this
  exact ⟨Ne.symm this.2.1,Ne.symm this.1,this.2.2.2,this.2.2.1⟩
theorem Lies.run(hy:Yd y)(hN:Lies y ws L r M N){c i d j:Nat}{f g:Int->Nat}{a b:Nat}(hc:c<(ws:))(hd:d<(ws:))(hi:i<((ws|||c):))(hj:j<((ws|||d):))(hw:SW y (ws|||c))(hv:SW y (ws|||d))
  (hf:Dl (ws|||c) i f) (hg:Dl (ws|||d) j g) (hr:Run f g a b) (ha:a<M) (hb:b<M) (cP:(c,i)≠(d,j)):
  N c i (f 0)≠N d j (g 0)/\N c i (aB (f 0))≠N d j (aB (g 0))/\decide (N c i (f 0)<N d j (g 0))=y9 y f g a b/\decide (N d j (aB (g 0))<N c i (aB (f 0)))=y9 y f g a b:=by
 have h0:=hr.zero
 have lf:=hf.rQ hy hw
 have lg:=hg.rQ hy hv
 have e:(if ay (f 0)=true then bP (eK y ws L r M c i) (eK y ws L r M d j) else bP (eK y ws L r M d j) (eK y ws L r M c i))=y9 y f g a b:=by
  unfold eK
  rw[va hy hw hf,va hy hv hg, <-h0]
  by_cases z:ay (f 0)=true
  ·rw[if_pos z,if_pos z,if_pos z,m8 hy lf lg hr _ _ M 0 (Qac _) (Qac _) () ()]
   unfold y9 vY
   by_cases q:a<=b
   ·rw[if_pos q,if_neg (by simp[z];lia)]
   ·rw[if_neg q,if_pos (by simp;lia)]
  ·rw[if_neg z,if_neg z,if_neg z,m8 hy (lg.rv hy) (lf.rv hy) (hr.rv hy lf lg).sy _ _ M 0 (Qac _) (Qac _) () (), <-Mq hy lf lg h0]
   unfold y9 vY
   have z':ay (jM g 0)=true:=by
    show ay (aB (g 0))=true
    rw[<-h0,fh _ (hy.lt _ (lf.bU 0)).mem];simpa using z
   by_cases q:b<=a
   ·rw[if_pos q,if_neg (by simp[z'];lia)]
   ·rw[if_neg q,if_pos (by simp;lia)]
 have:=hN.at hy hc hd hi hj hw hv hf hg h0 cP
 rw[e]at this
 rw[<-h0]
 exact this
end
noncomputable def fK(n:Nat)(k:Int):Nat:=(k%(n:Int)).toNat
theorem aZ{n:Nat}(h:0<n)(k:Int):fK n k<n:=by
 unfold fK
 have h1:=Qb1 k (b:=(n:Int)) ()
 have h2:=Qbw k (b:=(n:Int)) ()
 lia
theorem bY{n:Nat}(h:0<n)(k:Int):((fK n k:Nat):Int)=k%n:=by
 unfold fK
 have h1:=Qb1 k (b:=(n:Int)) ()
 lia
theorem AZ{n:Nat}(k:Int):fK n (k+n)=fK n k:=by unfold fK;rw[Qc1]
theorem bQ{w:Z}(h:w≠[])(k:Int):rd w (fK (w:) k:Nat)=rd w k:=by rw[bY (VJ.mpr h),gg]
theorem bM{w:Z}(h:w≠[])(k:Int):sq w (fK (w:) k:Nat)=sq w k:=by
 funext x
 unfold sq
 rw[bY (VJ.mpr h), <-gg w (k%(w:)+x),Qdq,gg]
theorem m9{w:Z}(h:w≠[])(k:Int):bq w (fK (w:) k:Nat)=bq w k:=by rw[<-fD, <-fD,bM h]
noncomputable def pO(ws:List Z)(N:Nat->Nat->Nat->Nat)(c:Nat)(k:Int):Nat:=N c (fK ((ws|||c):) k) (rd (ws|||c) k)
noncomputable def pI(ws:List Z)(N:Nat->Nat->Nat->Nat)(c:Nat)(k:Int):Nat:=N c (fK ((ws|||c):) k) (aB (rd (ws|||c) k))
theorem Mu{x x' p p':Int}(h:x≠x'):bP [x,p] [x',p']=decide (x<x'):=by
 show (if x=x' then _ else decide (x<x'))=_
 rw[if_neg h]
theorem vb{x p p':Int}(h:p≠p'):bP [x,p] [x,p']=decide (p<p'):=by
 show (if x=x then (if p=p' then bP [] [] else decide (p<p')) else _)=_
 rw[if_pos rfl,if_neg h]
section
variable{y:Z}{ws:List Z}{L:Nat->Bool}{r:Nat->Nat}{M:Nat}{N:Nat->Nat->Nat->Nat}
structure cy(y:Z)(ws:List Z)(L:Nat->Bool)(r:Nat->Nat)(M:Nat):Prop where
 yd:Yd y
 sw:∀c,c<(ws:)->SW y (ws|||c)
 big:∀c d,c<(ws:)->d<(ws:)->((ws|||c):)+((ws|||d):)<=M
 l1:∀c d i j,c<(ws:)->d<(ws:)->bI (ws|||c) (ws|||d) i j->L c=L d
 l2:∀c d i j,c<(ws:)->d<(ws:)->(∀k,sq (ws|||c) i k=bq (ws|||d) j k)->L d=!L c
 rp:∀c,c<(ws:)->0<r c
 rr:∀c,c<(ws:)->∀i j:Int,(bI (ws|||c) (ws|||c) i j↔(i - j)%(r c:Int)=0)
theorem cR.Mv{R:Nat->Nat->Nat->Nat->Bool}(h:cy y ws L r M)(hN:cR y ws R N){c d:Nat}(hc:c<(ws:))(hd:d<(ws:))(s t:Int):Sep y [(aB (sq (ws|||c) s (-1)),pI ws N c (s - 1)),(sq (ws|||c) s 0,pO ws N c s),(aB (sq (ws|||d) t (-1)),pI ws N d (t - 1)),(sq (ws|||d) t 0,pO ws N d t)]:=by
 have hw:=h.sw c hc
 have hv:=h.sw d hd
 walk_at"P"
 have lv:=VJ.mpr hv.ne
 walk_at"c"
 have key:∀p∈[(aB (sq (ws|||c) s (-1)),pI ws N c (s - 1)),(sq (ws|||c) s 0,pO ws N c s),(aB (sq (ws|||d) t (-1)),pI ws N d (t - 1)),(sq (ws|||d) t 0,pO ws N d t)],∃e i:Nat,e<(ws:)/\i<((ws|||e):)/\(p.1=rd (ws|||e) i\/p.1=aB (rd (ws|||e) i))/\p.2=N e i p.1:=by
  intro p hp
  simp only[ZQ,kb,or_false]at hp
  rcases hp with rfl | rfl | rfl | rfl
  ·exact ⟨c,_,hc,aZ lw (s - 1),.inr (by rw[bQ hw.ne];rfl),rfl⟩
  ·exact ⟨c,_,hc,aZ lw s,.inl (by rw[bQ hw.ne,s0]),by rw[s0];rfl⟩
  ·exact ⟨d,_,hd,aZ lv (t - 1),.inr (by rw[bQ hv.ne];rfl),rfl⟩
  ·exact ⟨d,_,hd,aZ lv t,.inl (by rw[bQ hv.ne,s0]),by rw[s0];rfl⟩
 intro p hp q hq di
 obtain ⟨e,i,he,hi,h1,h2⟩:=key p hp
 obtain ⟨e',j,qf,hj,h3,h4⟩:=key q hq
 rw[h2,h4]
 exact hN.sep e i e' j _ _ he qf hi hj h1 h3 di
theorem cR.QO{R:Nat->Nat->Nat->Nat->Bool}(h:cy y ws L r M)(hN:cR y ws R N){c d:Nat}(hc:c<(ws:))(hd:d<(ws:))(s t:Int):Sep y [(aB (sq (ws|||c) s (-1)),pI ws N c (s - 1)),(sq (ws|||c) s 0,pO ws N c s),(aB (bq (ws|||d) (-t) (-1)),pO ws N d (-(t - 1))),(bq (ws|||d) (-t) 0,pI ws N d (-t))]:=by
 have hw:=h.sw c hc
 have hv:=h.sw d hd
 walk_at"P"
 have lv:=VJ.mpr hv.ne
 walk_at"c"
 walk_at"j"
 have bb:∀t:Int,aB (bq (ws|||d) (-t) (-1))=rd (ws|||d) (-(t - 1)):=λt=>by
  unfold bq
  rw[aK (h.yd.lt _ (hv.rd _))]
  congr 1;lia
 have key:∀p∈[(aB (sq (ws|||c) s (-1)),pI ws N c (s - 1)),(sq (ws|||c) s 0,pO ws N c s),(aB (bq (ws|||d) (-t) (-1)),pO ws N d (-(t - 1))),(bq (ws|||d) (-t) 0,pI ws N d (-t))],∃e i:Nat,e<(ws:)/\i<((ws|||e):)/\(p.1=rd (ws|||e) i\/p.1=aB (rd (ws|||e) i))/\p.2=N e i p.1:=by
  intro p hp
  simp only[ZQ,kb,or_false]at hp
  rcases hp with rfl | rfl | rfl | rfl
  ·exact ⟨c,_,hc,aZ lw (s - 1),.inr (by rw[bQ hw.ne];rfl),rfl⟩
  ·exact ⟨c,_,hc,aZ lw s,.inl (by rw[bQ hw.ne,s0]),by rw[s0];rfl⟩
  ·exact ⟨d,_,hd,aZ lv (-(t - 1)),.inl (by rw[bQ hv.ne];exact bb t),by rw[bb t];rfl⟩
  ·exact ⟨d,_,hd,aZ lv (-t),.inr (by rw[bQ hv.ne,b0]),by rw[b0];rfl⟩
 intro p hp q hq di
 obtain ⟨e,i,he,hi,h1,h2⟩:=key p hp
 obtain ⟨e',j,qf,hj,h3,h4⟩:=key q hq
 rw[h2,h4]
 exact hN.sep e i e' j _ _ he qf hi hj h1 h3 di
theorem Lies.two(h:cy y ws L r M)(hN:Lies y ws L r M N){c d:Nat}(hc:c<(ws:))(hd:d<(ws:)):Kz y (sq (ws|||c)) (pO ws N c) (pI ws N c) (sq (ws|||d)) (pO ws N d) (pI ws N d):=by
 have hw:=h.sw c hc
 have hv:=h.sw d hd
 walk_at"P"
 have lv:=VJ.mpr hv.ne
 walk_at"c"
 refine ⟨cR.Mv h hN hc hd,λs t a b rn=>?_⟩
 obtain ⟨a',b',UB,ha,hb⟩:=cQ lw lv (λk=>dk _ s k) (λk=>dk _ t k) rn.zero ⟨_,rn.hi⟩
 obtain ⟨rfl,rfl⟩:=rn.one UB
 have:=h.big c d hc hd
 have key:=hN.run h.yd hc hd (aZ lw s) (aZ lv t) hw hv (.inl (bM hw.ne s).symm) (.inl (bM hv.ne t).symm) rn () () (λz=>rn.hi (by
  obtain ⟨z1,z2⟩:=Prod.mk.inj z
  subst z1
  rw[<-bM hw.ne s, <-bM hw.ne t,z2]))
 rw[s0,s0]at key
 exact key
theorem Lies.V3(h:cy y ws L r M)(hN:Lies y ws L r M N){c d:Nat}(hc:c<(ws:))(hd:d<(ws:)):Kz y (sq (ws|||c)) (pO ws N c) (pI ws N c) (λk=>bq (ws|||d) (-k)) (λk=>pI ws N d (-k)) (λk=>pO ws N d (-k)):=by
 have hw:=h.sw c hc
 have hv:=h.sw d hd
 walk_at"P"
 have lv:=VJ.mpr hv.ne
 walk_at"c"
 walk_at"j"
 have bb:∀t:Int,aB (bq (ws|||d) (-t) (-1))=rd (ws|||d) (-(t - 1)):=λt=>by
  unfold bq
  rw[aK (h.yd.lt _ (hv.rd _))]
  congr 1;lia
 refine ⟨cR.QO h hN hc hd,λs t a b rn=>?_⟩
 obtain ⟨a',b',UB,ha,hb⟩:=cQ lw lv (λk=>dk _ s k) (λk=>qt _ (-t) k) rn.zero ⟨_,rn.hi⟩
 obtain ⟨rfl,rfl⟩:=rn.one UB
 have:=h.big c d hc hd
 have key:=hN.run h.yd hc hd (aZ lw s) (aZ lv (-t)) hw hv (.inl (bM hw.ne s).symm) (.inr (m9 hv.ne (-t)).symm) rn () () (λz=>by
  obtain ⟨z1,z2⟩:=Prod.mk.inj z
  subst z1
  have z0:=rn.zero
  rw[s0,b0, <-bQ hw.ne s, <-bQ hw.ne (-t),z2]at z0
  exact gE (h.yd.lt _ (hw.rd _)) z0.symm)
 rw[s0,b0,aK (h.yd.lt _ (hv.rd _))]at key
 exact key
theorem vc{n n' r r' c d i j:Nat}{l low Mw:Bool}(h:c≠d):bP (G8 n r l low c i) (G8 n' r' (if Mw=low then l else !l) Mw d j)=if low=l then decide (c<d) else decide (d<c):=by
 unfold G8
 cases low<;>cases Mw<;>cases l<;>simp only[Qb6,Qeb,if_true,if_false,Bool.true_eq_false,Qbf]<;>rw[Mu ()]<;>exact decide_eq_decide.mpr ()
theorem Lies.EY(h:cy y ws L r M)(hN:Lies y ws L r M N){c d:Nat}(hc:c<(ws:))(hd:d<(ws:))(oA:c≠d){i j:Nat}{f g:Int->Nat}(hi:i<((ws|||c):))(hj:j<((ws|||d):))(hf:Dl (ws|||c) i f)(hg:Dl (ws|||d) j g)(hp:∀k,f k=g k)
  (hl:L d=if ay (rd (ws|||d) j)=ay (rd (ws|||c) i) then L c else !L c) (hs:f=sq (ws|||c) i):
  N c i (f 0)≠N d j (g 0)/\N c i (aB (f 0))≠N d j (aB (g 0))/\decide (N c i (f 0)<N d j (g 0))=(if L c=true then decide (c<d) else decide (d<c))/\decide (N d j (aB (g 0))<N c i (aB (f 0)))=(if L c=true then decide (c<d) else decide (d<c)):=by
 have hw:=h.sw c hc
 have hv:=h.sw d hd
 have e:(if ay (f 0)=true then bP (eK y ws L r M c i) (eK y ws L r M d j) else bP (eK y ws L r M d j) (eK y ws L r M c i))=if L c=true then decide (c<d) else decide (d<c):=by
  have es:mE (ws|||c) i=mE (ws|||d) j:=by
   rw[va h.yd hw hf,va h.yd hv hg,show f=g from funext hp]
  have f0:f 0=rd (ws|||c) i:=by rw[hs];unfold sq;rw[show (i:Int)+0=i by lia]
  unfold eK
  rw[es,fE,fE,f0]
  have wa:L c=if ay (rd (ws|||c) i)=ay (rd (ws|||d) j) then L d else !L d:=by
   rw[hl]
   cases ay (rd (ws|||d) j)<;>cases ay (rd (ws|||c) i)<;>cases L c<;>rfl
  have e1:= @vc ((ws|||c):) ((ws|||d):) (r c) (r d) c d i j (L c) (ay (rd (ws|||c) i)) (ay (rd (ws|||d) j)) oA
  have e2:= @vc ((ws|||d):) ((ws|||c):) (r d) (r c) d c j i (L d) (ay (rd (ws|||d) j)) (ay (rd (ws|||c) i)) (Ne.symm oA)
  rw[<-hl]at e1
  rw[<-wa]at e2
  rw[e1,e2,hl]
  cases ay (rd (ws|||d) j)<;>cases ay (rd (ws|||c) i)<;>cases L c<;>rfl
 have:=hN.at h.yd hc hd hi hj hw hv hf hg (hp 0) (λz=>oA (Prod.mk.inj z).1)
 rw[e]at this
 rw[<-hp 0]
 exact this
end
theorem xl{n k r i:Nat}(hr:0<r)(hn:n=k*r)(hi:i<n):(n - 1 - i) / r=k - 1 - i / r:=by
 have h1:=Qd1 i r
 have h2:=Qc0 i hr
 have h3:i / r<k:=by
  rw[Qe3 hr];lia
 rw[Nat.div_eq_iff hr]
 obtain ⟨t,rfl⟩:∃t,k=i / r+1+t:=⟨k - 1 - i / r,()⟩
 generalize hq:i / r=q at*
 rw[Nat.add_mul,Nat.add_mul,Nat.one_mul,Qcs q r]at hn
 have e:q+1+t - 1 - q=t:=by lia
 rw[e]
 generalize r*q=A at*
 generalize t*r=B at*
 lia
theorem CK{r i j:Nat}(hr:0<r)(h:i%r=j%r)(cP:i≠j):(i / r<j / r↔i<j)/\i / r≠j / r:=by
 have h1:=Qd1 i r
 have h2:=Qd1 j r
 have vd:i / r≠j / r:=λz=>cP (by rw[<-h1, <-h2,z,h])
 refine ⟨⟨λq=>?_,λq=>?_⟩,vd⟩
 ·have:r*(i / r+1)<=r*(j / r):=Nat.mul_le_mul_left r q
  rw[Nat.mul_add,Qec]at this
  lia
 ·refine Classical.byContradiction λz=>?_
  have h3:j / r+1<=i / r:=by lia
  have:r*(j / r+1)<=r*(i / r):=Nat.mul_le_mul_left r h3
  rw[Nat.mul_add,Qec]at this
  lia
theorem ze{n k r c i j:Nat}{l low:Bool}(hr:0<r)(hn:n=k*r)(hi:i<n)(hj:j<n)(h:i%r=j%r)(cP:i≠j):(if low=true then bP (G8 n r l low c i) (G8 n r l low c j) else bP (G8 n r l low c j) (G8 n r l low c i))=decide (i<j):=by
 obtain ⟨d1,d2⟩:=CK hr h cP
 have e1:=xl hr hn hi
 have e2:=xl hr hn hj
 have b1:i / r<k:=by rw[Qe3 hr];lia
 have b2:j / r<k:=by rw[Qe3 hr];lia
 unfold G8
 cases low<;>cases l<;>simp only[if_true,if_false,Bool.true_eq_false,Qbf]
 ·rw[e1,e2,vb ()];exact decide_eq_decide.mpr ()
 ·rw[vb ()];exact decide_eq_decide.mpr ()
 ·rw[e1,e2,vb ()];exact decide_eq_decide.mpr ()
 ·rw[vb ()];exact decide_eq_decide.mpr ()
noncomputable def fc(y w v:Z)(i j:Int):Int:=one (ac y (aB (rd w (i - 1))) (rd w i) (aB (rd v (j - 1))) (rd v j)=true)+one (0<al y (sq w i) (sq v j) ((w:)+(v:)))+one (0<al y (sq w i) (bq v j) ((w:)+(v:)))
section
variable{y:Z}{ws:List Z}{L:Nat->Bool}{r:Nat->Nat}{M:Nat}{N:Nat->Nat->Nat->Nat}
theorem iy(ws:List Z)(N:Nat->Nat->Nat->Nat)(c:Nat)(k:Int):pO ws N c (k+((ws|||c):))=pO ws N c k:=by unfold pO;rw[AZ,ir]
theorem js(ws:List Z)(N:Nat->Nat->Nat->Nat)(c:Nat)(k:Int):pI ws N c (k+((ws|||c):))=pI ws N c k:=by unfold pI;rw[AZ,ir]
theorem cy.root(h:cy y ws L r M){c:Nat}(hc:c<(ws:)):((ws|||c):)=((ws|||c):) / r c*r c/\0<((ws|||c):) / r c:=by
 have hp:=h.rp c hc
 have hl:=VJ.mpr (h.sw c hc).ne
 have h1:=(h.rr c hc ((ws|||c):) 0).mp (λk=>by
  have:=congrFun (za (ws|||c) 0) k
  rwa [Qck]at this)
 rw[Qez]at h1
 have h2:((ws|||c):)%r c=0:=by
  have:(((((ws|||c):)%r c:Nat)):Int)=0:=by rw[<-h1];rfl
  lia
 have h3:=Qd1 ((ws|||c):) (r c)
 rw[h2,Nat.add_zero,Qcs]at h3
 refine ⟨h3.symm,Nat.pos_of_ne_zero λz=>?_⟩
 rw[z,Qev]at h3
 lia
theorem CL(h:cy y ws L r M)(hN:Lies y ws L r M N){c d:Nat}(hc:c<(ws:))(hd:d<(ws:))(oA:c≠d):
  br ((ws|||c):) ((ws|||d):) (λi j=>one (dE (pO ws N c) (pI ws N c) (pO ws N d) (pI ws N d) i j=true))=br ((ws|||c):) ((ws|||d):) (fc y (ws|||c) (ws|||d)):=by
 have hw:=h.sw c hc
 have hv:=h.sw d hd
 walk_at"P"
 have lv:=VJ.mpr hv.ne
 walk_at"c"
 walk_at"j"
 have hS:=hN.two h hc hd
 have hO:=hN.V3 h hc hd
 rw[xk h.yd hw hv (iy ws N c) (js ws N c) (iy ws N d) (js ws N d) hS hO,IG h.yd hw hv hS (if L c=true then decide (c<d) else decide (d<c)),IH h.yd hw hv hO (if L c=true then decide (c<d) else decide (d<c)), <-cj, <-cj]
 ·unfold fc
  lia
 ·intro i j p
  have p0:=p 0
  rw[s0,b0]at p0
  have lo:=fh _ (h.yd.lt _ (hv.rd j)).mem
  have:=hN.EY h hc hd oA (aZ lw i) (aZ lv j) (f:=sq (ws|||c) i) (g:=bq (ws|||d) j) (.inl (bM hw.ne i).symm) (.inr (m9 hv.ne j).symm) p (by
   rw[bQ hw.ne,bQ hv.ne,p0,lo,h.l2 c d i j hc hd p]
   cases ay (rd (ws|||d) j)<;>rfl) (bM hw.ne i).symm
  rw[s0,b0,aK (h.yd.lt _ (hv.rd _))]at this
  exact this
 ·intro i j p
  have p0:=p 0
  rw[s0,s0]at p0
  have:=hN.EY h hc hd oA (aZ lw i) (aZ lv j) (f:=sq (ws|||c) i) (g:=sq (ws|||d) j) (.inl (bM hw.ne i).symm) (.inl (bM hv.ne j).symm) p (by
   rw[bQ hw.ne,bQ hv.ne,p0,if_pos rfl]
   exact (h.l1 c d i j hc hd p).symm) (bM hw.ne i).symm
  rw[s0,s0]at this
  exact this
theorem zf(h:cy y ws L r M)(hN:Lies y ws L r M N){c:Nat}(hc:c<(ws:)):
  br ((ws|||c):) ((ws|||c):) (λi j=>one (dE (pO ws N c) (pI ws N c) (pO ws N c) (pI ws N c) i j=true))=br ((ws|||c):) ((ws|||c):) (fc y (ws|||c) (ws|||c))+2*((((ws|||c):) / r c:Nat) - 1):=by
 have hw:=h.sw c hc
 walk_at"P"
 walk_at"c"
 have hS:=hN.two h hc hc
 have hO:=hN.V3 h hc hc
 obtain ⟨G6,NG⟩:=h.root hc
 have V4:=h.rp c hc
 have e0:br ((ws|||c):) ((ws|||c):) (λi j=>one (iS (ws|||c) (ws|||c) i j/\dE (pO ws N c) (pI ws N c) (pO ws N c) (pI ws N c) i j=true))=0:=by
  rw[show (0:Int)=br ((ws|||c):) ((ws|||c):) (λ_ _=>0) by unfold br;rw[show (λ_:Int=>sm ((ws|||c):) λ_=>0)=λ_=>0 from funext λ_=>de _,de]]
  exact bS λi j _ _=>aU λz=>u_ h.yd hw _ _ z.1
 rw[xk h.yd hw hw (iy ws N c) (js ws N c) (iy ws N c) (js ws N c) hS hO,e0,EX h.yd hw hS V4 G6 NG, <-cj, <-cj]
 ·unfold fc
  lia
 ·intro j hj
  rw[h.rr c hc]
  constructor
  ·intro q
   have:(j:Int)%(r c:Int)=0:=by
    rw[Int.zero_sub]at q
    exact Int.emod_eq_zero_of_dvd (Int.dvd_neg.mp (Int.dvd_of_emod_eq_zero q))
   have h2:((j%r c:Nat):Int)=0:=by rw[<-this];rfl
   lia
  ·intro q
   have:(j:Int)%(r c:Int)=0:=by
    have h2:((j%r c:Nat):Int)=(j:Int)%(r c:Int):=rfl
    rw[<-h2,q];rfl
   rw[Int.zero_sub]
   exact Int.emod_eq_zero_of_dvd (Int.dvd_neg.mpr (Int.dvd_of_emod_eq_zero this))
 ·intro i j p cP
  have p0:=p 0
  rw[s0,s0]at p0
  have vd:fK ((ws|||c):) i≠fK ((ws|||c):) j:=λz=>cP (by rw[<-bY lw, <-bY lw,z])
  have:=hN.at h.yd hc hc (aZ lw i) (aZ lw j) hw hw (f:=sq (ws|||c) i) (g:=sq (ws|||c) j) (.inl (bM hw.ne i).symm) (.inl (bM hw.ne j).symm) (p 0) (λz=>vd (Prod.mk.inj z).2)
  have II:fK ((ws|||c):) i%r c=fK ((ws|||c):) j%r c:=by
   have p':bI (ws|||c) (ws|||c) (fK ((ws|||c):) i:Nat) (fK ((ws|||c):) j:Nat):=λk=>by rw[bM hw.ne,bM hw.ne];exact p k
   have q:=(h.rr c hc _ _).mp p'
   have q2:=Qch.mpr q
   have q3:((fK ((ws|||c):) i%r c:Nat):Int)=((fK ((ws|||c):) j%r c:Nat):Int):=q2
   lia
  have es:mE (ws|||c) (fK ((ws|||c):) i:Nat)=mE (ws|||c) (fK ((ws|||c):) j:Nat):=by
   unfold mE
   rw[bQ hw.ne,bQ hw.ne,p0,bM hw.ne,bM hw.ne,m9 hw.ne,m9 hw.ne,show sq (ws|||c) i=sq (ws|||c) j from funext p, <-fD, <-fD,show sq (ws|||c) i=sq (ws|||c) j from funext p]
  have e:= @ze ((ws|||c):) _ (r c) c _ _ (L c) (ay (rd (ws|||c) j)) V4 G6 (aZ lw i) (aZ lw j) II vd
  unfold eK at this
  rw[es,fE,fE,s0,bQ hw.ne,bQ hw.ne,p0,e,decide_eq_decide.mpr (show fK ((ws|||c):) i<fK ((ws|||c):) j↔i%(((ws|||c):):Int)<j%(((ws|||c):):Int) by rw[<-bY lw, <-bY lw];lia)]at this
  unfold pO pI
  rw[p0]
  exact this
end
noncomputable def gH:Nat->(Int->Int->Int)->Int
 | 0,_=>0
 | n+1,h=>gH n h+sm n (λj=>h j n)
theorem jN(n m:Nat)(h:Int->Int->Int):br (n+1) m h=br n m h+sm m (λj=>h n j):=rfl
theorem lW(m:Nat)(h:Int->Int->Int):∀n:Nat,br n (m+1) h=br n m h+sm n (λi=>h i m)
 | 0=>rfl
 | n+1=>by
  rw[jN,jN,lW m h n]
  show br n m h+sm n (λi=>h i m)+(sm m (λj=>h n j)+h n m)=br n m h+sm m (λj=>h n j)+(sm n (λi=>h i m)+h n m)
  lia
theorem jO{h:Int->Int->Int}:∀{n:Nat},(∀i j:Nat,i<n->j<n->h i j=h j i)->(∀i:Nat,i<n->h i i=0)->br n n h=2*gH n h
 | 0,_,_=>rfl
 | n+1,sy,dg=>by
  rw[lW,jN,jO (n:=n) (λi j hi hj=>sy i j () ()) (λi hi=>dg i ())]
  show 2*gH n h+sm n (λj=>h n j)+(sm n (λi=>h i n)+h n n)=2*(gH n h+sm n (λj=>h j n))
  rw[dg n (),aQ (h:=λj=>h n j) (g:=λj=>h j n) (λj hj=>sy n j () ())]
  lia
theorem jP{h g:Int->Int->Int}:∀{n:Nat},(∀i j:Nat,i<j->j<n->h i j=g i j)->gH n h=gH n g
 | 0,_=>rfl
 | n+1,e=>by
  show gH n h+_=gH n g+_
  rw[jP (n:=n) λi j h1 h2=>e i j h1 (),aQ (g:=λj=>g j n) λj hj=>e j n hj ()]
theorem A1(h g:Int->Int->Int):∀n:Nat,gH n (λi j=>h i j+g i j)=gH n h+gH n g
 | 0=>rfl
 | n+1=>by
  show gH n _+sm n _=(gH n h+sm n _)+(gH n g+sm n _)
  rw[A1 h g n,kA];lia
section
variable{y:Z}{ws:List Z}{L:Nat->Bool}{r:Nat->Nat}{M:Nat}{N:Nat->Nat->Nat->Nat}
theorem cR.inj{R:Nat->Nat->Nat->Nat->Bool}(h:cy y ws L r M)(hN:cR y ws R N){c i d j e e':Nat}(hc:c<(ws:))(hd:d<(ws:))(hi:i<((ws|||c):))(hj:j<((ws|||d):))(he:e=rd (ws|||c) i\/e=aB (rd (ws|||c) i))(qf:e'=rd (ws|||d) j\/e'=aB (rd (ws|||d) j))
  (cP:(c,i,e)≠(d,j,e')):N c i e≠N d j e':=by
 have ly:∀{c i e:Nat},c<(ws:)->(e=rd (ws|||c) i\/e=aB (rd (ws|||c) i))->e∈y:=λhc he=>he.elim (λz=>z▸(h.sw _ hc).rd _) λz=>z▸h.yd.cl _ ((h.sw _ hc).rd _)
 have ye:=ly hc he
 have Yh:=ly hd qf
 by_cases z:e=e'
 ·subst z
  have vd:(c,i)≠(d,j):=λq=>cP (by rw[(Prod.mk.inj q).1,(Prod.mk.inj q).2])
  have le:=h.yd.lt _ ye
  have lc:=h.yd.lt _ ((h.sw c hc).rd i)
  have ld:=h.yd.lt _ ((h.sw d hd).rd j)
  by_cases l:ay e=true
  ·exact (hN.low c i d j e hc hd hi hj vd l (he.elim (λz=> .inl z.symm) λz=> .inr (by rw[z,aK lc])) (qf.elim (λz=> .inl z.symm) λz=> .inr (by rw[z,aK ld]))).1
  ·have:=(hN.low c i d j (aB e) hc hd hi hj vd (by rw[fh _ le.mem];simpa using l) (by rw[aK le];exact he.elim (λz=> .inr z.symm) λz=> .inl (by rw[z,aK lc])) (by rw[aK le];exact qf.elim (λz=> .inr z.symm) λz=> .inl (by rw[z,aK ld]))).2.1
   rwa [aK le]at this
 ·have n:=b6 ye Yh z
  rcases Qcn n with q | q
  ·exact Qal (hN.sep c i d j e e' hc hd hi hj he qf q)
  ·exact Qex (hN.sep d j c i e' e hd hc hj hi qf he q)
theorem A3{n i j:Nat}{k:Int}(hi:i<n)(hj:j<n)(q:fK n ((i:Int) - k)=fK n ((j:Int) - k)):i=j:=by
 have lw:0<n:=Qa3 (Qac _) hi
 have q2:((i:Int) - k)%n=((j:Int) - k)%n:=by rw[<-bY lw, <-bY lw,q]
 have q3:=(Int.emod_sub_cancel_right k).mp q2
 rw[Qay (Qfm _) (Int.ofNat_lt.mpr hi),Qay (Qfm _) (Int.ofNat_lt.mpr hj)]at q3
 exact Int.ofNat.inj q3
theorem dh{R:Nat->Nat->Nat->Nat->Bool}(h:cy y ws L r M)(hN:cR y ws R N){c d i j:Nat}(hc:c<(ws:))(hd:d<(ws:))(hi:i<((ws|||c):))(hj:j<((ws|||d):)):
  pI ws N c ((i:Int) - 1)≠pO ws N d j/\((c,i)≠(d,j)->pI ws N c ((i:Int) - 1)≠pI ws N d ((j:Int) - 1)/\pO ws N c i≠pO ws N d j):=by
 have hw:=h.sw c hc
 have hv:=h.sw d hd
 walk_at"P"
 have lv:=VJ.mpr hv.ne
 have vo:∀{c:Nat} (hw:SW y (ws|||c)) (k:Int),rd (ws|||c) k=rd (ws|||c) (fK ((ws|||c):) k:Nat)\/rd (ws|||c) k=aB (rd (ws|||c) (fK ((ws|||c):) k:Nat)):=λhw k=> .inl (bQ hw.ne k).symm
 have vi:∀{c:Nat} (hw:SW y (ws|||c)) (k:Int),aB (rd (ws|||c) k)=rd (ws|||c) (fK ((ws|||c):) k:Nat)\/aB (rd (ws|||c) k)=aB (rd (ws|||c) (fK ((ws|||c):) k:Nat)):=λhw k=> .inr (by rw[bQ hw.ne k])
 refine ⟨hN.inj h hc hd (aZ lw _) (aZ lv _) (vi hw _) (vo hv _) λq=>?_,λcP=>⟨hN.inj h hc hd (aZ lw _) (aZ lv _) (vi hw _) (vi hv _) λq=>?_,hN.inj h hc hd (aZ lw _) (aZ lv _) (vo hw _) (vo hv _) λq=>?_⟩⟩
 ·obtain ⟨q1,q⟩:=Prod.mk.inj q
  obtain ⟨q2,q3⟩:=Prod.mk.inj q
  subst q1
  rw[<-bQ hw.ne ((i:Int) - 1), <-bQ hw.ne (j:Int),q2]at q3
  exact gE (h.yd.lt _ (hw.rd _)) q3
 ·obtain ⟨q1,q⟩:=Prod.mk.inj q
  subst q1
  exact cP (by rw[A3 hi hj (Prod.mk.inj q).1])
 ·obtain ⟨q1,q⟩:=Prod.mk.inj q
  subst q1
  exact cP (by rw[A3 (k:=0) hi hj (by rw[Qez,Qez];exact (Prod.mk.inj q).1)])
theorem ve{R:Nat->Nat->Nat->Nat->Bool}(h:cy y ws L r M)(hN:cR y ws R N){c d:Nat}(hc:c<(ws:))(hd:d<(ws:)){i j:Nat}(hi:i<((ws|||c):))(hj:j<((ws|||d):)):dE (pO ws N c) (pI ws N c) (pO ws N d) (pI ws N d) i j=dE (pO ws N d) (pI ws N d) (pO ws N c) (pI ws N c) j i:=by
 by_cases z:(c,i)=(d,j)
 ·obtain ⟨rfl,rfl⟩:=Prod.mk.inj z
  rfl
 have n:=dh h hN hc hd hi hj
 exact lV (dh h hN hc hc hi hi).1 (dh h hN hd hd hj hj).1 (n.2 z).1 n.1 (Ne.symm (dh h hN hd hc hj hi).1) (n.2 z).2
theorem EZ(h:cy y ws L r M)(hN:Lies y ws L r M N){c:Nat}(hc:c<(ws:)):
  2*gH ((ws|||c):) (λi j=>one (dE (pO ws N c) (pI ws N c) (pO ws N c) (pI ws N c) i j=true))=br ((ws|||c):) ((ws|||c):) (fc y (ws|||c) (ws|||c))+2*((((ws|||c):) / r c:Nat) - 1):=by
 rw[<-zf h hN hc]
 exact (jO (λi j hi hj=>by rw[ve h hN hc hc hi hj]) (λi hi=>aU (by unfold dE;rw[lU];decide))).symm
end
theorem E1{y:Z}{f g:Int->Nat}{a:Nat}(hy:Yd y)(hf:iX y f)(hg:iX y g)(h:f a=g a)(hn:f (a+1)≠g (a+1)):jn y g f a=!jn y f g a:=by
 have:fP y f (a+1)≠fP y g (a+1):=λq=>hn (by
  unfold fP at q
  rw[show (a:Int)+1 - 1=a by lia, <-h]at q
  exact lT (hy.cl _ (hf.bU _)) (hf.bU _) (hg.bU _) q)
 unfold jn
 rw[<-decide_not]
 exact decide_eq_decide.mpr ()
theorem zg{y:Z}{f g:Int->Nat}{b:Nat}(hy:Yd y)(hf:iX y f)(hg:iX y g)(h:f (-(b:Int))=g (-(b:Int)))(hn:f (-(b:Int) - 1)≠g (-(b:Int) - 1)):iY y g f b=!iY y f g b:=by
 have:fP y f (-(b:Int))≠fP y g (-(b:Int)):=λq=>hn (by
  unfold fP at q
  rw[<-h]at q
  have r1:=hf.red (-(b:Int))
  have r2:=hg.red (-(b:Int))
  have c1:=(eY (hy.cl _ (hf.bU (-(b:Int) - 1))) (hf.bU (-(b:Int))) (Ne.symm r1)).2.2
  have c2:=(eY (hy.cl _ (hg.bU (-(b:Int) - 1))) (hf.bU (-(b:Int))) (by rw[h];exact Ne.symm r2)).2.2
  have:=lT (hf.bU (-(b:Int))) (hy.cl _ (hf.bU (-(b:Int) - 1))) (hy.cl _ (hg.bU (-(b:Int) - 1))) (by rw[c1,c2,q])
  exact gx (hy.lt _ (hf.bU _)) (hy.lt _ (hg.bU _)) this)
 unfold iY
 rw[<-decide_not]
 exact decide_eq_decide.mpr ()
theorem KA{y:Z}{f g:Int->Nat}(hy:Yd y)(hf:iX y f)(hg:iX y g):qu y f g->qu y g f:=λ⟨a,r,x⟩=>⟨a,r.sy,by
 rw[E1 hy hf hg (r.kM a () ()) r.hi,zg hy hf hg (r.kM _ () ()) r.lo]
 exact λq=>x (by simpa using q)⟩
theorem Mx{y:Z}{a b p q:Nat}(hy:Yd y)(ha:a∈y)(hb:b∈y)(hp:p∈y)(hq:q∈y)(mV:a≠b)(QL:p≠q):ac y a b p q=ac y p q a b:=by
 unfold ac
 by_cases z:p=a\/p=b\/q=a\/q=b
 ·rw[if_pos z,if_pos (z.elim (λz=> .inl z.symm) λz=>z.elim (λz=> .inr (.inr (.inl z.symm))) λz=>z.elim (λz=> .inr (.inl z.symm)) λz=> .inr (.inr (.inr z.symm)))]
 ·have n1:a≠p:=λq=>z (.inl q.symm)
  have n2:b≠p:=λq=>z (.inr (.inl q.symm))
  have n3:a≠q:=λq=>z (.inr (.inr (.inl q.symm)))
  have n4:b≠q:=λq=>z (.inr (.inr (.inr q.symm)))
  rw[if_neg z,if_neg (λz=>z.elim n1 λz=>z.elim n3 λz=>z.elim n2 n4)]
  rw[gF hy.nd ha hp hb n1 mV (Ne.symm n2),gF hy.nd ha hq hb n3 mV (Ne.symm n4),gF hy.nd hp ha hq (Ne.symm n1) QL n3,gF hy.nd hp hb hq (Ne.symm n2) QL n4]
  exact lV (b6 ha hb mV) (b6 hp hq QL) (b6 ha hp n1) (b6 ha hq n3) (b6 hb hp n2) (b6 hb hq n4)
noncomputable def G9(n m:Nat):List (Nat×Nat):=(List.range n).flatMap λi=>(List.range m).map λj=>(i,j)
theorem A4{n m:Nat}{x:Nat×Nat}:x∈G9 n m↔x.1<n/\x.2<m:=by
 unfold G9
 rw[Qbc]
 constructor
 ·rintro ⟨i,hi,h⟩
  obtain ⟨j,hj,rfl⟩:=Qam.mp h
  exact ⟨Qav.mp hi,Qav.mp hj⟩
 ·rintro ⟨h1,h2⟩
  exact ⟨x.1,Qav.mpr h1,Qam.mpr ⟨x.2,Qav.mpr h2,rfl⟩⟩
theorem Mz(n m:Nat):(G9 n m).Nodup:=by
 unfold G9
 induction n with
 | zero=>exact List.Pairwise.nil
 | succ n ih=>
  rw[Qbq,Qbd,Qbx]
  refine ⟨ih,?_,?_⟩
  ·rw[Qb8]
   exact List.Pairwise.map _ (λa b h q=>h (Prod.mk.inj q).2) Qdv
  ·intro a ha b hb e
   obtain ⟨i,hi,h⟩:=Qbc.mp ha
   obtain ⟨j,_,rfl⟩:=Qam.mp h
   rw[Qb8]at hb
   obtain ⟨k,_,rfl⟩:=Qam.mp hb
   have:=(Prod.mk.inj e).1
   have:=Qav.mp hi
   lia
theorem zh{Q:Int->Prop}{P:Nat->Bool}:∀{m:Nat},(∀j:Nat,j<m->(Q j↔P j=true))->sm m (λj=>one (Q j))=((List.range m).filter P:)
 | 0,_=>rfl
 | m+1,h=>by
  show sm m _+one (Q m)=_
  rw[zh (m:=m) λj hj=>h j (),Qbq,Qb2,VG,bC (h m ())]
  cases e:P m
  ·rw[Qao (by rw[e];decide),aU ∅];simp
  ·rw[Qax e,eJ rfl];simp
theorem vf{Q:Int->Int->Prop}{P:Nat×Nat->Bool}{m:Nat}:∀{n:Nat},(∀i j:Nat,i<n->j<m->(Q i j↔P (i,j)=true))->br n m (λi j=>one (Q i j))=((G9 n m).filter P:)
 | 0,_=>rfl
 | n+1,h=>by
  rw[jN,vf (n:=n) λi j hi hj=>h i j () hj]
  unfold G9
  rw[Qbq,Qbd,Qb2,VG,Qb8,Qe2,NA,zh (P:=λj=>P (n,j)) λj hj=>h n j () hj]
  show _=(((_+_:Nat)):Int)
  rw[Qa2]
  rfl
theorem E2{l:List (Nat×Nat)}(hl:l.Nodup)(t:Nat×Nat->Nat×Nat)(p q:Nat×Nat->Bool)(h1:∀x∈l,p x=true->t x∈l/\p (t x)=true/\t (t x)=x/\q (t x)=!q x):((l.filter λx=>p x&&q x):)=((l.filter λx=>p x&&!q x):):=by
 have le:∀q:Nat×Nat->Bool,(∀x∈l,p x=true->t x∈l/\p (t x)=true/\t (t x)=x/\q (t x)=!q x)->((l.filter λx=>p x&&q x):)<=((l.filter λx=>p x&&!q x):):=λq h1=>by
  rw[<-NA t]
  refine List.Nodup.length_le_of_subset ?_ λx hx=>?_
  ·have:(l.filter λx=>p x&&q x).Nodup:=hl.filter _
   refine Qbl.mpr (Qcf (λ{a b} ha hb mV z=>mV ?_) this)
   obtain ⟨a1,a2⟩:=Qaz.mp ha
   obtain ⟨b1,b2⟩:=Qaz.mp hb
   rw[Qa8]at a2 b2
   rw[<-(h1 a a1 a2.1).2.2.1, <-(h1 b b1 b2.1).2.2.1,z]
  ·obtain ⟨a,ha,rfl⟩:=Qam.mp hx
   obtain ⟨a1,a2⟩:=Qaz.mp ha
   rw[Qa8]at a2
   obtain ⟨g1,g2,_,g4⟩:=h1 a a1 a2.1
   exact Qaz.mpr ⟨g1,by rw[g2,g4,a2.2];rfl⟩
 have l1:=le q h1
 have l2:=le (λx=>!q x) λx hx hp=>by
  obtain ⟨g1,g2,g3,g4⟩:=h1 x hx hp
  exact ⟨g1,g2,g3,by show (!q (t x))=!!q x;rw[g4]⟩
 have e:(l.filter λx=>p x&&!!q x)=l.filter λx=>p x&&q x:=Qc6 λx _=>by rw[Bool.not_not]
 rw[e]at l2
 lia
section
variable{y w:Z}
theorem MA{f g:Int->Nat}{a:Nat}(hy:Yd y)(hf:iX y f)(hg:iX y g)(h:Run f g a 0)(x:jn y f g a≠iY y f g 0):Run (λk=>jM g (k - a)) (λk=>jM f (k - a)) a 0/\jn y (λk=>jM g (k - a)) (λk=>jM f (k - a)) a≠iY y (λk=>jM g (k - a)) (λk=>jM f (k - a)) 0:=by
 have r:=(h.rv hy hf hg).sy
 refine ⟨⟨λk h1 h2=>r.kM (k - a) () (),λq=>r.hi ?_,λq=>r.lo ?_⟩,?_⟩
 ·simp only[show (a:Int)+1 - a=(0:Nat)+1 by lia]at q;exact q
 ·simp only[show -((0:Nat):Int) - 1 - a= -(a:Int) - 1 by lia]at q;exact q
 ·have sh:∀(f:Int->Nat) (k:Int),fP y (λk=>f (k - a)) k=fP y f (k - a):=λf k=>by
   unfold fP
   simp only[show k - 1 - (a:Int)=k - a - 1 by lia]
  unfold jn iY at x ⊢
  rw[sh,sh,sh,sh,show (a:Int)+1 - a=0+1 by lia,show -((0:Nat):Int) - a=(-(a:Int) - 1)+1 by lia,jo hy hf,jo hy hg,jo hy hf,jo hy hg,show -(-(a:Int) - 1)=a+1 by lia]
  intro q
  refine x ?_
  rw[decide_eq_decide]at q ⊢
  rw[show -((0:Nat):Int)= -(0:Int) by lia]
  lia
theorem A5(hy:Yd y)(hw:SW y w){i j:Int}{a:Nat}:al y (sq w i) (bq w j) ((w:)+(w:))=a+1↔Run (sq w i) (bq w j) a 0/\jn y (sq w i) (bq w j) a≠iY y (sq w i) (bq w j) 0:=by
 have hd:=λz=>jL (f:=sq w i) (g:=bq w j) hw.ne hw.ne (λk=>dk w i k) (λk=>qt w j k) z
 have key:=xg (n:=(w:)+(w:)) hy (bg hw i) (m6 hy hw j) hd
 constructor
 ·intro e
  obtain ⟨a',r,x⟩:=key.mpr ()
  have:=w_ (y:=y) (f:=sq w i) (g:=bq w j) (n:=(w:)+(w:)) ()
  have e2:a'=a:=by
   have z1:sq w i (-1)≠bq w j (-1):=r.lo
   obtain ⟨d1,d2⟩:=hd z1
   have d3:al y (sq w i) (bq w j) ((w:)+(w:))=jZ (sq w i) (bq w j) ((w:)+(w:)) 0:=by
    unfold al at e ⊢
    split at e
    ·lia
    ·rename_i z
     rw[if_neg z]
     split at e
     ·rename_i z2;rw[if_pos z2]
     ·lia
   have d4:jZ (sq w i) (bq w j) ((w:)+(w:)) 0=a'+1:=by
    by_cases q:a'+1<(w:)+(w:)
    ·exact EE (λk hk=>r.kM k () ()) r.hi q
    ·exact absurd (r.kM (jZ (sq w i) (bq w j) ((w:)+(w:)) 0:Nat) () ()) d2
   lia
  subst e2
  exact ⟨r,x⟩
 ·rintro ⟨r,x⟩
  have h0:=key.mp ⟨a,r,x⟩
  obtain ⟨b,e⟩:∃b,al y (sq w i) (bq w j) ((w:)+(w:))=b+1:=⟨_,(Nat.succ_pred_eq_of_pos h0).symm⟩
  obtain ⟨d1,d2⟩:=hd r.lo
  have d3:al y (sq w i) (bq w j) ((w:)+(w:))=jZ (sq w i) (bq w j) ((w:)+(w:)) 0:=by
   unfold al at e ⊢
   split at e
   ·lia
   ·rename_i z
    rw[if_neg z]
    split at e
    ·rename_i z2;rw[if_pos z2]
    ·lia
  rw[d3]
  by_cases q:a+1<(w:)+(w:)
  ·exact EE (λk hk=>r.kM k () ()) r.hi q
  ·exact absurd (r.kM (jZ (sq w i) (bq w j) ((w:)+(w:)) 0:Nat) () ()) d2
theorem IJ(hy:Yd y)(hw:SW y w){i j:Int}{a:Nat}(h:al y (sq w i) (bq w j) ((w:)+(w:))=a+1):al y (sq w (j - a)) (bq w (i+a)) ((w:)+(w:))=a+1:=by
 obtain ⟨r,x⟩:=(A5 hy hw).mp h
 obtain ⟨r2,x2⟩:=MA hy (bg hw i) (m6 hy hw j) r x
 have e1:(λk=>jM (bq w j) (k - a))=sq w (j - a):=by
  rw[<-fD,tH hy (bg hw j)]
  funext k
  unfold sq
  congr 1;lia
 have e2:(λk=>jM (sq w i) (k - a))=bq w (i+a):=by
  rw[fD]
  funext k
  unfold bq
  congr 2;lia
 rw[e1,e2]at r2 x2
 exact (A5 hy hw).mpr ⟨r2,x2⟩
end
theorem E3{y:Z}{f g:Int->Nat}{n:Nat}(h:f (-1)=g (-1)):al y f g n=0:=by unfold al;rw[if_pos (.inr h)]
theorem n_{α:Type}(p q:α->Bool):∀l:List α,(l.filter p:)=((l.filter λx=>p x&&q x):)+((l.filter λx=>p x&&!q x):)
 | []=>rfl
 | a::l=>by
  have ih:=n_ p q l
  simp only[Qel]
  cases p a<;>cases q a<;>simp<;>lia
theorem E4(h:Int->Int->Int):∀n:Nat,br n n (λi j=>if i<j then h i j else 0)=gH n h
 | 0=>rfl
 | n+1=>by
  rw[lW,jN,E4 h n]
  show gH n h+sm n (λj=>if (n:Int)<j then h n j else 0)+(sm n (λi=>if i<(n:Int) then h i n else 0)+(if (n:Int)<n then h n n else 0))=gH n h+sm n (λj=>h j n)
  rw[if_neg (),aQ (g:=λ_=>0) (λj hj=>if_neg ()),de,aQ (h:=λi=>if i<(n:Int) then h i n else 0) (g:=λj=>h j n) (λj hj=>if_pos ())]
  lia
section
variable{y w:Z}
noncomputable def dB(y w:Z)(x:Nat×Nat):Nat×Nat:=(fK (w:) ((x.2:Int) - iW y w w x.1 x.2+1),fK (w:) ((x.1:Int)+iW y w w x.1 x.2 - 1))
theorem IK(hy:Yd y)(hw:SW y w):br (w:) (w:) (λi j=>one (0<al y (sq w i) (bq w j) ((w:)+(w:))))=2*((((G9 (w:) (w:)).filter λx=>decide (0<iW y w w x.1 x.2)&&!fO w x.1 x.2 (iW y w w x.1 x.2)):):Int):=by
 walk_at"P"
 have e1:br (w:) (w:) (λi j=>one (0<al y (sq w i) (bq w j) ((w:)+(w:))))=(((G9 (w:) (w:)).filter λx=>decide (0<iW y w w x.1 x.2)):):=
  vf (P:=λx=>decide (0<iW y w w x.1 x.2)) λi j _ _=>by rw[decide_eq_true_iff];rfl
 have e2:=n_ (λx=>decide (0<iW y w w x.1 x.2)) (λx=>fO w x.1 x.2 (iW y w w x.1 x.2)) (G9 (w:) (w:))
 have e3:=E2 (Mz (w:) (w:)) (dB y w) (λx=>decide (0<iW y w w x.1 x.2)) (λx=>fO w x.1 x.2 (iW y w w x.1 x.2)) (λx hx hp=>by
  obtain ⟨hi,hj⟩:=A4.mp hx
  have hm:=of_decide_eq_true hp
  obtain ⟨a,ha⟩:∃a,iW y w w x.1 x.2=a+1:=⟨_,(Nat.succ_pred_eq_of_pos hm).symm⟩
  have et:dB y w x=(fK (w:) ((x.2:Int) - a),fK (w:) ((x.1:Int)+a)):=by
   unfold dB
   rw[ha,show (x.2:Int) - ((a+1:Nat):Int)+1=x.2 - a by lia,show (x.1:Int)+((a+1:Nat):Int) - 1=x.1+a by lia]
  have em:iW y w w (dB y w x).1 (dB y w x).2=a+1:=by
   rw[et]
   show al y (sq w (fK (w:) ((x.2:Int) - a):Nat)) (bq w (fK (w:) ((x.1:Int)+a):Nat)) ((w:)+(w:))=a+1
   rw[bM hw.ne,m9 hw.ne]
   exact IJ hy hw ha
  have m0:∀{i:Nat},i<(w:)->(i:Int)%(w:)=i:=λ{i} hi=>Qay () ()
  have c1:(((fK (w:) ((x.1:Int)+a):Nat):Int) - a)%(w:)=x.1:=by
   rw[bY lw,Qd5,Qc8 _ (Qfv _), <-Qd5,show (x.1:Int)+a - a=x.1 by lia,m0 hi]
  have c2:(((fK (w:) ((x.2:Int) - a):Nat):Int)+a)%(w:)=x.2:=by
   rw[bY lw,Qdq,show (x.2:Int) - a+a=x.2 by lia,m0 hj]
  have Yi:dB y w (dB y w x)=x:=by
   have:dB y w (dB y w x)=(fK (w:) (((dB y w x).2:Int) - a),fK (w:) (((dB y w x).1:Int)+a)):=by
    unfold dB at em ⊢
    simp only at em ⊢
    rw[em,show ∀z:Int,z - ((a+1:Nat):Int)+1=z - a from λz=>by lia,show ∀z:Int,z+((a+1:Nat):Int) - 1=z+a from λz=>by lia]
   rw[this,et]
   refine Prod.ext ?_ ?_
   ·show fK (w:) (((fK (w:) ((x.1:Int)+a):Nat):Int) - a)=x.1
    have:=bY lw (((fK (w:) ((x.1:Int)+a):Nat):Int) - a)
    rw[c1]at this;lia
   ·show fK (w:) (((fK (w:) ((x.2:Int) - a):Nat):Int)+a)=x.2
    have:=bY lw (((fK (w:) ((x.2:Int) - a):Nat):Int)+a)
    rw[c2]at this;lia
  refine ⟨?_,decide_eq_true (by rw[em];lia),Yi,?_⟩
  ·rw[et];exact A4.mpr ⟨aZ lw ((x.2:Int) - a),aZ lw ((x.1:Int)+a)⟩
  ·show fO w (dB y w x).1 (dB y w x).2 (iW y w w (dB y w x).1 (dB y w x).2)=!fO w x.1 x.2 (iW y w w x.1 x.2)
   rw[em,ha,et]
   unfold fO
   simp only
   rw[show ∀z:Int,z - ((a+1:Nat):Int)+1=z - a from λz=>by lia,show ∀z:Int,z - ((a+1:Nat):Int)+1=z - a from λz=>by lia,show ∀z:Int,z+((a+1:Nat):Int) - 1=z+a from λz=>by lia,show ∀z:Int,z+((a+1:Nat):Int) - 1=z+a from λz=>by lia,c1,c2,bY lw,bY lw]
   refine EG λq=>Iw (i:=x.1) (j:=x.2) hy hw hm ?_
   have q1:=q.1
   show ((x.2:Int) - (iW y w w x.1 x.2:Nat)+1)%(w:)=x.1
   rw[ha,show (x.2:Int) - ((a+1:Nat):Int)+1=x.2 - a by lia]
   exact q1)
 rw[e1]
 lia
end
section
variable{y:Z}{ws:List Z}
theorem xm(y w v:Z)(c i d j:Nat):((Mp y w v c i d j:):Int)=one (R1 y w v i j=true)+one (0<QN y w v i j):=by
 unfold Mp
 rw[VG]
 by_cases p:R1 y w v i j=true<;>by_cases q:0<QN y w v i j<;>simp only[p,q,if_true,if_false,eJ,aU,Qap,Qf2,not_false_eq_true]<;>simp[one]
theorem A6(y w v:Z)(c i d j:Nat):((Uy y w v c i d j:):Int)=one (0<iW y w v i j/\ ¬(c=d/\fO w i j (iW y w v i j)=true)):=by
 unfold Uy
 by_cases z:iW y w v i j=0\/(c=d/\fO w i j (iW y w v i j)=true)
 ·rw[if_pos z,aU (λq=>z.elim (λz=>by lia) q.2)];rfl
 ·rw[if_neg z,eJ ⟨Nat.pos_of_ne_zero λq=>z (.inl q),λq=>z (.inr q)⟩];rfl
theorem A7{c d i j:Nat}(h:c<d):((tE y ws (c,i) (d,j):):Int)=fc y (ws|||c) (ws|||d) i j:=by
 unfold tE
 have l:rM (c:Int) i d j=true:=by unfold rM;rw[if_neg ()];exact decide_eq_true ()
 rw[if_pos l,if_pos (Qa4 h),VG,Qa2,xm,A6]
 have e:one (0<iW y (ws|||c) (ws|||d) i j/\ ¬(c=d/\fO (ws|||c) i j (iW y (ws|||c) (ws|||d) i j)=true))=one (0<al y (sq (ws|||c) i) (bq (ws|||d) j) (((ws|||c):)+((ws|||d):))):=bC ⟨λq=>q.1,λq=>⟨q,λz=>by lia⟩⟩
 unfold fc
 rw[<-e]
 rfl
theorem E5{c d i j:Nat}(h:d<c):((tE y ws (c,i) (d,j):):Int)=0:=by
 unfold tE
 have l: ¬rM (c:Int) i d j=true:=by unfold rM;rw[if_neg (),decide_eq_true_iff];lia
 rw[if_neg l,if_neg (by simp;lia)]
 rfl
theorem E6{c i j:Nat}:((tE y ws (c,i) (c,j):):Int)=(if (i:Int)<j then one (R1 y (ws|||c) (ws|||c) i j=true)+one (0<QN y (ws|||c) (ws|||c) i j) else 0)+one (0<iW y (ws|||c) (ws|||c) i j/\ ¬fO (ws|||c) i j (iW y (ws|||c) (ws|||c) i j)=true):=by
 unfold tE
 have l:rM (c:Int) i c j=decide ((i:Int)<j):=by unfold rM;rw[if_pos rfl]
 simp only
 rw[if_pos (RP c),VG,Qa2,A6,l]
 congr 1
 ·by_cases z:(i:Int)<j
  ·rw[if_pos (decide_eq_true z),if_pos z,xm]
  ·rw[if_neg (by simpa using z),if_neg z];rfl
 ·exact bC ⟨λq=>⟨q.1,λz=>q.2 ⟨rfl,z⟩⟩,λq=>⟨q.1,λz=>q.2 z.2⟩⟩
theorem tJ{c:Nat}(hy:Yd y)(hw:SW y (ws|||c)):2*br ((ws|||c):) ((ws|||c):) (λi j=>((tE y ws (c,i.toNat) (c,j.toNat):):Int))=br ((ws|||c):) ((ws|||c):) (fc y (ws|||c) (ws|||c)):=by
 generalize hg:(ws|||c)=w at*
 have e1:br (w:) (w:) (λi j=>((tE y ws (c,i.toNat) (c,j.toNat):):Int))=br (w:) (w:) (λi j=>(if i<j then one (ac y (aB (rd w (i - 1))) (rd w i) (aB (rd w (j - 1))) (rd w j)=true)+one (0<al y (sq w i) (sq w j) ((w:)+(w:))) else 0)+one (0<iW y w w i.toNat j.toNat/\ ¬fO w i.toNat j.toNat (iW y w w i.toNat j.toNat)=true)):=bS λi j _ _=>by
  rw[Xt,Xt,E6,hg]
  rfl
 have e2:br (w:) (w:) (λi j=>one (0<iW y w w i.toNat j.toNat/\ ¬fO w i.toNat j.toNat (iW y w w i.toNat j.toNat)=true))=(((G9 (w:) (w:)).filter λx=>decide (0<iW y w w x.1 x.2)&&!fO w x.1 x.2 (iW y w w x.1 x.2)):):=
  vf (Q:=λi j=>0<iW y w w i.toNat j.toNat/\ ¬fO w i.toNat j.toNat (iW y w w i.toNat j.toNat)=true) (P:=λx=>decide (0<iW y w w x.1 x.2)&&!fO w x.1 x.2 (iW y w w x.1 x.2)) λi j _ _=>by
   rw[Xt,Xt,Qa8,decide_eq_true_iff]
   simp
 have e3:=IK hy hw
 have ty:∀k,aB (rd w (k - 1))≠rd w k:=λk=>Ne.symm (hw.red k)
 have t1:=jO (n:=(w:)) (h:=λi j=>one (ac y (aB (rd w (i - 1))) (rd w i) (aB (rd w (j - 1))) (rd w j)=true)) (λi j _ _=>by
  rw[Mx hy (hy.cl _ (hw.rd _)) (hw.rd _) (hy.cl _ (hw.rd _)) (hw.rd _) (ty _) (ty _)]) (λi _=>aU (by unfold ac;rw[if_pos (.inl rfl)];decide))
 have t2:=jO (n:=(w:)) (h:=λi j=>one (0<al y (sq w i) (sq w j) ((w:)+(w:)))) (λi j _ _=>by
  have hd:=λ(i j:Int) z=>jL (f:=sq w i) (g:=sq w j) hw.ne hw.ne (λk=>dk w i k) (λk=>dk w j k) z
  have k1:=xg hy (bg hw i) (bg hw j) (hd i j)
  have k2:=xg hy (bg hw j) (bg hw i) (hd j i)
  exact bC ⟨λq=>k2.mp (KA hy (bg hw i) (bg hw j) (k1.mpr q)),λq=>k1.mp (KA hy (bg hw j) (bg hw i) (k2.mpr q))⟩) (λi _=>aU (by rw[E3 rfl];exact Qbe _))
 rw[e1,cj,E4 (λi j=>one (ac y (aB (rd w (i - 1))) (rd w i) (aB (rd w (j - 1))) (rd w j)=true)+one (0<al y (sq w i) (sq w j) ((w:)+(w:)))),A1,e2]
 have e4:br (w:) (w:) (fc y w w)=br (w:) (w:) (λi j=>one (ac y (aB (rd w (i - 1))) (rd w i) (aB (rd w (j - 1))) (rd w j)=true))+br (w:) (w:) (λi j=>one (0<al y (sq w i) (sq w j) ((w:)+(w:))))+br (w:) (w:) (λi j=>one (0<al y (sq w i) (bq w j) ((w:)+(w:)))):=by
  rw[<-cj, <-cj];rfl
 lia
end
theorem vg(n:Nat)(h:Int->Int->Int):∀m:Nat,sm n (λi=>sm m λj=>h i j)=sm m λj=>sm n λi=>h i j
 | 0=>de n
 | m+1=>by
  show br n (m+1) h=sm m (λj=>sm n λi=>h i j)+sm n (λi=>h i m)
  rw[lW, <-vg n h m]
  rfl
theorem qy{α β:Type}(F:α->List β):∀l:List α,((l.flatMap F:):Int)=(l.map λx=>((F x:):Int)).sum
 | []=>rfl
 | a::l=>by
  rw[Qa6,VG,Qa2,qy F l,Qad,Qbk]
theorem m_(h:Nat->Int):∀n:Nat,((List.range n).map h).sum=sm n (λi=>h i.toNat)
 | 0=>rfl
 | n+1=>by
  rw[Qbq,Xs,Qf0,m_ h n]
  show _=sm n _+h (((n:Nat):Int).toNat)
  rw[Xt]
  simp
theorem o_(ws:List Z)(h:Nat×Nat->Int):∀n:Nat,((uZ ws n).map h).sum=sm n λc=>sm (ws.getD c.toNat []:) λi=>h (c.toNat,i.toNat)
 | 0=>rfl
 | n+1=>by
  unfold uZ
  rw[Xs,Qf0,o_ ws h n,Qbo]
  show _+((List.range _).map λi=>h (n,i)).sum=_
  rw[m_]
  rfl
noncomputable def cl{α:Type}(p:α->α->Bool):List α->Nat
 | []=>0
 | x::r=>(r.filter (p x):)+cl p r
theorem zi{α:Type}(p:α->α->Bool)(m:List α):∀l:List α,(cl p (l++m):Int)=cl p l+cl p m+(l.map λx=>((m.filter (p x):):Int)).sum
 | []=>by show (cl p m:Int)=((0:Nat):Int)+cl p m+0;lia
 | a::l=>by
  show ((((l++m).filter (p a):)+cl p (l++m):Nat):Int)=(((l.filter (p a):)+cl p l:Nat):Int)+cl p m+(((a::l).map λx=>((m.filter (p x):):Int)).sum)
  rw[Qb2,VG,Qad,Qbk,Qa2,Qa2,zi p m l,Qa2]
  lia
theorem zj(p:Nat×Nat->Nat×Nat->Bool)(c:Nat):∀n:Nat,(cl p ((List.range n).map λi=>(c,i)):Int)=gH n (λi j=>one (p (c,i.toNat) (c,j.toNat)=true))
 | 0=>rfl
 | n+1=>by
  rw[Qbq,Xs,zi,zj p c n,Qbo]
  show _+((0:Nat):Int)+((List.range n).map λi=>((([(c,n)]:List (Nat×Nat)).filter (p (c,i)):):Int)).sum=gH n _+sm n _
  rw[m_,Int.add_assoc]
  congr 1
  rw[show ((0:Nat):Int)=0 from rfl,Qck]
  refine aQ λi _=>?_
  show (((([(c,n)]:List (Nat×Nat)).filter (p (c,i)):):Int))=one (p (c,((i:Nat):Int).toNat) (c,((n:Nat):Int).toNat)=true)
  rw[Xt,Xt]
  cases e:p (c,i) (c,n)
  ·rw[Qao (by rw[e];decide),aU ∅];rfl
  ·rw[Qax e,eJ rfl];rfl
theorem IL(P:Nat×Nat->Bool)(c n:Nat):((((List.range n).map λi=>(c,i)).filter P:):Int)=sm n (λj=>one (P (c,j.toNat)=true)):=by
 rw[Qe2,NA,zh (P:=λj=>P (c,j)) λj _=>by rw[Xt]]
 rfl
theorem zk(ws:List Z)(p:Nat×Nat->Nat×Nat->Bool):∀n:Nat,(cl p (uZ ws n):Int)=sm n (λc=>gH (ws.getD c.toNat []:) (λi j=>one (p (c.toNat,i.toNat) (c.toNat,j.toNat)=true)))+gH n (λc d=>br (ws.getD c.toNat []:) (ws.getD d.toNat []:) λi j=>one (p (c.toNat,i.toNat) (d.toNat,j.toNat)=true))
 | 0=>rfl
 | n+1=>by
  unfold uZ
  rw[zi,zk ws p n,zj,o_]
  have u:((n:Nat):Int).toNat=n:=Xt n
  show _+_+sm n _=(sm n _+gH (ws.getD ((n:Nat):Int).toNat []:) (λi j=>one (p (((n:Nat):Int).toNat,i.toNat) (((n:Nat):Int).toNat,j.toNat)=true)))+(gH n _+sm n (λc=>br (ws.getD c.toNat []:) (ws.getD ((n:Nat):Int).toNat []:) λi j=>one (p (c.toNat,i.toNat) (((n:Nat):Int).toNat,j.toNat)=true)))
  rw[u]
  have:sm n (λc=>sm (ws.getD c.toNat []:) λi=>(((((List.range ((ws|||n):)).map λi=>(n,i)).filter (p (c.toNat,i.toNat)):):Nat):Int))=sm n (λc=>br (ws.getD c.toNat []:) ((ws|||n):) λi j=>one (p (c.toNat,i.toNat) (n,j.toNat)=true)):=aQ λc _=>aQ λi _=>IL _ _ _
  rw[this]
  lia
theorem E7{h:Int->Int->Int}:∀{n:Nat},(∀i j:Nat,j<i->i<n->h i j=0)->br n n h=sm n (λi=>h i i)+gH n h
 | 0,_=>rfl
 | n+1,z=>by
  rw[lW,jN,E7 (n:=n) λi j h1 h2=>z i j h1 (),aQ (h:=λj=>h n j) (g:=λ_=>0) (λj hj=>z n j hj ()),de]
  show _+0+(sm n (λi=>h i n)+h n n)=(sm n (λi=>h i i)+h n n)+(gH n h+sm n (λj=>h j n))
  lia
theorem xn(y:Z)(ws:List Z):((xa y ws:):Int)=sm (ws:) (λc=>br (ws.getD c.toNat []:) (ws.getD c.toNat []:) λi j=>((tE y ws (c.toNat,i.toNat) (c.toNat,j.toNat):):Int))+gH (ws:) (λc d=>br (ws.getD c.toNat []:) (ws.getD d.toNat []:) λi j=>((tE y ws (c.toNat,i.toNat) (d.toNat,j.toNat):):Int)):=by
 unfold xa places
 rw[qy]
 have e:((uZ ws (ws:)).map λo=>((((uZ ws (ws:)).flatMap λp=>tE y ws o p):):Int))=(uZ ws (ws:)).map λo=>sm (ws:) λd=>sm (ws.getD d.toNat []:) λj=>((tE y ws o (d.toNat,j.toNat):):Int):=Qb9 λo _=>by rw[qy,o_]
 rw[e,o_]
 have e2:sm (ws:) (λc=>sm (ws.getD c.toNat []:) λi=>sm (ws:) λd=>sm (ws.getD d.toNat []:) λj=>((tE y ws (c.toNat,i.toNat) (d.toNat,j.toNat):):Int))=br (ws:) (ws:) (λc d=>br (ws.getD c.toNat []:) (ws.getD d.toNat []:) λi j=>((tE y ws (c.toNat,i.toNat) (d.toNat,j.toNat):):Int)):=aQ λc _=>vg _ _ _
 rw[e2,E7]
 intro c d QP _
 rw[Xt,Xt]
 have:∀n m:Nat,br n m (λ_ _=>0)=0:=λn m=>by unfold br;rw[show (λ_:Int=>sm m λ_=>0)=λ_=>0 from funext λ_=>de _,de]
 rw[<-this ((ws|||c):) ((ws|||d):)]
 exact bS λi j _ _=>E5 QP
section
variable{y:Z}{ws:List Z}{L:Nat->Bool}{r:Nat->Nat}{M:Nat}{N:Nat->Nat->Nat->Nat}
noncomputable def tK(ws:List Z)(N:Nat->Nat->Nat->Nat)(o p:Nat×Nat):Bool:=dE (pO ws N o.1) (pI ws N o.1) (pO ws N p.1) (pI ws N p.1) o.2 p.2
theorem qz(h:cy y ws L r M)(hN:Lies y ws L r M N):(cl (tK ws N) (places ws):Int)=(xa y ws:)+sm (ws:) (λc=>(((ws.getD c.toNat []:) / r c.toNat:Nat):Int) - 1):=by
 unfold places
 rw[zk,xn]
 have e1:sm (ws:) (λc=>gH (ws.getD c.toNat []:) (λi j=>one (tK ws N (c.toNat,i.toNat) (c.toNat,j.toNat)=true)))=sm (ws:) (λc=>br (ws.getD c.toNat []:) (ws.getD c.toNat []:) λi j=>((tE y ws (c.toNat,i.toNat) (c.toNat,j.toNat):):Int))+sm (ws:) (λc=>(((ws.getD c.toNat []:) / r c.toNat:Nat):Int) - 1):=by
  rw[<-kA]
  refine aQ λc hc=>?_
  rw[Xt]
  have a:=EZ h hN hc
  have b:=tJ (c:=c) h.yd (h.sw c hc)
  have e:gH ((ws|||c):) (λi j=>one (tK ws N (c,i.toNat) (c,j.toNat)=true))=gH ((ws|||c):) (λi j=>one (dE (pO ws N c) (pI ws N c) (pO ws N c) (pI ws N c) i j=true)):=jP λi j _ _=>by
   unfold tK
   rw[Xt,Xt]
  rw[e]
  lia
 have e2:gH (ws:) (λc d=>br (ws.getD c.toNat []:) (ws.getD d.toNat []:) λi j=>one (tK ws N (c.toNat,i.toNat) (d.toNat,j.toNat)=true))=gH (ws:) (λc d=>br (ws.getD c.toNat []:) (ws.getD d.toNat []:) λi j=>((tE y ws (c.toNat,i.toNat) (d.toNat,j.toNat):):Int)):=jP λc d oA hd=>by
  rw[Xt,Xt]
  have b:=CL h hN (c:=c) (d:=d) () hd ()
  have e3:br ((ws|||c):) ((ws|||d):) (λi j=>one (tK ws N (c,i.toNat) (d,j.toNat)=true))=br ((ws|||c):) ((ws|||d):) (λi j=>one (dE (pO ws N c) (pI ws N c) (pO ws N d) (pI ws N d) i j=true)):=bS λi j _ _=>by
   unfold tK
   rw[Xt,Xt]
  rw[e3,b]
  exact (bS λi j _ _=>by rw[Xt,Xt];exact A7 oA).symm
 rw[e1,e2]
 lia
end
def Lx(f g:Int->Nat):Prop:=∃m:Nat,f m<g m/\∀l:Nat,l<m->f l=g l
theorem vh{w:Z}(hw:w≠[]){i k:Nat}(hi:i<=(w:))(hk:k<(w:)):(hV w i)[k]? =some (rd w ((i:Int)+k)):=by
 rw[o6 hi hk]
 unfold Fw
 have:=eX hw ((i:Int)+k)
 rw[<-this]
 congr 1
 have e:(((k+i)%(w:):Nat):Int)=((i:Int)+k)%(w:):=by rw[Qem,Qa2,Int.add_comm]
 lia
theorem E8{w u:Z}(hw:w≠[])(hl:(u:)=(w:)){i j:Nat}(hi:i<=(w:))(hj:j<=(w:)):hV w i<hV u j↔Lx (sq w i) (sq u j):=by
 have hu:u≠[]:=λz=>hw (by rw[z]at hl;exact Qbt.mp hl.symm)
 have g1:∀{k:Nat} (hk:k<(hV w i:)),(hV w i)[k]=sq w i k:=λ{k} hk=>by
  have:=vh hw hi (k:=k) (by rw[cI]at hk;exact hk)
  rw[LK hk]at this
  exact Qaf this
 have g2:∀{k:Nat} (hk:k<(hV u j:)),(hV u j)[k]=sq u j k:=λ{k} hk=>by
  have:=vh hu (i:=j) (k:=k) () (by rw[cI]at hk;exact hk)
  rw[LK hk]at this
  exact Qaf this
 rw[List.lt_iff_exists]
 constructor
 ·rintro (⟨_,h⟩ | ⟨m,h1,h2,h3,h4⟩)
  ·rw[cI,cI,hl]at h;lia
  ·refine ⟨m,by rw[<-g1 h1, <-g2 h2];exact h4,λl wa=>?_⟩
   rw[<-g1 (), <-g2 ()]
   exact h3 l wa
 ·rintro ⟨m,h1,h2⟩
  have hp:=VJ.mpr hw
  have hm:m<(w:):=by
   refine Classical.byContradiction λz=>?_
   have d:=Qe1 m (w:)
   have c1:=iu (f:=sq w i) (p:=(w:)) (λk=>dk w i k) (m%(w:):Nat) (m / (w:))
   have c2:=iu (f:=sq u j) (p:=(w:)) (λk=>by rw[<-hl];exact dk u j k) (m%(w:):Nat) (m / (w:))
   have e:((m%(w:):Nat):Int)+((m / (w:):Nat):Int)*((w:):Nat)=m:=by
    rw[Qd6];exact_mod_cast d
   rw[e]at c1 c2
   rw[c1,c2,h2 (m%(w:)) (by have:=Qc0 m hp;lia)]at h1
   lia
  refine .inr ⟨m,by rw[cI];exact hm,by rw[cI,hl];exact hm,λl wa=>?_,?_⟩
  ·rw[g1,g2];exact h2 l wa
  ·rw[g1,g2];exact h1
theorem lX{w:Z}(hw:w≠[]):∃i:Nat,i<(w:)/\fN w=hV w i:=by
 have hp:=VJ.mpr hw
 rcases ku (lN w ((w:) - 1)) w with h | h
 ·exact ⟨0,hp,by unfold fN;rw[h,w5]⟩
 ·unfold lN at h
  obtain ⟨k,hk,e⟩:=Qam.mp h
  have:=Qav.mp hk
  exact ⟨k+1,(),by unfold fN;exact e.symm⟩
theorem oe{w:Z}{i:Nat}(hi:i<(w:)): ¬hV w i<fN w:=by
 unfold fN
 refine kx _ _ _ ?_
 cases i with
 | zero=>rw[w5];exact ZP
 | succ i=>exact ZO _ (Qam.mpr ⟨i,Qav.mpr (),rfl⟩)
noncomputable def leads(w:Z):Bool:=decide (fN w<fN (gQ w))
theorem jQ{v:Z}(h:v≠[])(k:Int):sq (gQ v) k=bq v (-1 - k):=by
 funext x
 unfold sq bq
 rw[m3 h]
 congr 2;lia
theorem qA{v:Z}(h:v≠[]):gQ v≠[]:=λz=>h (Qbt.mp (by rw[<-cC v,z];rfl))
theorem tL{w:Z}(hw:w≠[]):leads w=true↔ ∃i:Int,∀j:Int,Lx (sq w i) (bq w j):=by
 have hp:=VJ.mpr hw
 have hl:=cC w
 have ht:=qA hw
 unfold leads
 rw[decide_eq_true_iff]
 constructor
 ·intro h
  obtain ⟨i,hi,ei⟩:=lX hw
  refine ⟨i,λj=>?_⟩
  have hj:=aZ (n:=(gQ w:)) (by rw[hl];exact hp) (-1 - j)
  have h2:fN w<hV (gQ w) (fK (gQ w:) (-1 - j)):=List.not_le.mp λz=>by
   have:=List.lt_of_le_of_lt z h
   exact oe hj this
  rw[ei]at h2
  have h3:=(E8 hw hl () ()).mp h2
  rw[bM ht,jQ hw,show -1 - (-1 - j)=j by lia]at h3
  exact h3
 ·rintro ⟨i,h⟩
  obtain ⟨j,hj,ej⟩:=lX ht
  have h2:=h (-1 - j)
  rw[show (-1:Int) - (j:Int)= -1 - j by lia, <-jQ hw, <-bM hw]at h2
  have hi:=aZ hp i
  have h3:=(E8 hw hl () ()).mpr h2
  rw[<-ej]at h3
  exact List.lt_of_le_of_lt (List.not_lt.mp (oe hi)) h3
theorem tM{w v:Z}(hw:w≠[])(hv:v≠[]){i j:Int}(h:bI w v i j):leads w=leads v:=by
 have e1:∀k,sq w k=sq v (k - i+j):=λk=>by
  funext x
  have:=h (k - i+x)
  unfold sq at this ⊢
  rw[show k+x=i+(k - i+x) by lia,this]
  congr 1;lia
 have e2:∀k,bq w k=bq v (k - i+j):=λk=>by rw[<-fD, <-fD,e1]
 rw[Qdj,tL hw,tL hv]
 constructor
 ·rintro ⟨a,h⟩
  refine ⟨a - i+j,λb=>?_⟩
  have:=h (b - j+i)
  rwa [e1,e2,show b - j+i - i+j=b by lia]at this
 ·rintro ⟨a,h⟩
  refine ⟨a - j+i,λb=>?_⟩
  rw[e1,e2,show a - j+i - i+j=a by lia]
  exact h _
theorem tN{y w:Z}(hy:Yd y)(hw:SW y w):leads (gQ w)=!leads w:=by
 have hl:AllLt w:=λc hc=>hy.lt c (hw.bU c hc)
 have ne:fN w≠fN (gQ w):=λz=>by
  obtain ⟨i,hi,ei⟩:=lX hw.ne
  obtain ⟨j,hj,ej⟩:=lX (qA hw.ne)
  rw[cC]at hj
  have:∀k:Nat,k<(w:)->sq w i k=sq (gQ w) j k:=λk hk=>by
   have h1:=vh hw.ne (i:=i) (k:=k) () hk
   have h2:=vh (qA hw.ne) (i:=j) (k:=k) (by rw[cC];lia) (by rw[cC];exact hk)
   rw[<-ei,z,ej,h2]at h1
   exact (Qaf h1).symm
  refine u_ hy hw i (-1 - j) ?_
  rw[<-jQ hw.ne]
  have hp:=VJ.mpr hw.ne
  refine fw (p:=(w:)) (q:=(w:)) hp hp (λk=>dk w i k) (λk=>by rw[<-cC w];exact dk (gQ w) j k) λn hn=>?_
  by_cases q:n<(w:)
  ·exact this n q
  ·have c1:=dk w i ((n - (w:):Nat):Int)
   have c2:=dk (gQ w) j ((n - (w:):Nat):Int)
   rw[show ((n - (w:):Nat):Int)+(w:)=n by lia]at c1
   rw[cC,show ((n - (w:):Nat):Int)+(w:)=n by lia]at c2
   rw[c1,c2]
   exact this _ ()
 unfold leads
 rw[Io hl, <-decide_not]
 refine decide_eq_decide.mpr ⟨λh z=>?_,λh=>?_⟩
 ·exact Qdo _ (List.lt_trans h z)
 ·exact List.not_le.mp λz=>ne (List.le_antisymm z (List.not_lt.mp h))
theorem CM{y w v:Z}(hy:Yd y)(hw:SW y w)(hv:SW y v){i j:Int}(h:∀k,sq w i k=bq v j k):leads v=!leads w:=by
 have:bI w (gQ v) i (-1 - j):=λk=>by rw[jQ hv.ne,show -1 - (-1 - j)=j by lia];exact h k
 rw[tM hw.ne (qA hv.ne) this,tN hy hv,Bool.not_not]
theorem E9{w:Z}(hw:w≠[]){d:Nat}:x4 w d↔ ∀k:Int,rd w (k+d)=rd w k:=by
 have hp:=VJ.mpr hw
 have fr:∀i:Nat,Fw w i=some (rd w i):=λi=>by
  unfold Fw
  rw[<-eX hw (i:Int)]
  congr 1
 constructor
 ·intro h k
  have:=h (fK (w:) k)
  rw[fr,fr]at this
  have:=Qaf this
  rw[bQ hw]at this
  rw[<-this, <-gg w (k+d), <-gg w (((fK (w:) k+d:Nat)):Int),Qa2,bY hp,Qdq]
 ·intro h i
  rw[fr,fr,Qa2,h]
theorem jt{w:Z}(hw:w≠[]){s:Nat}(h:bT w s):0<s/\∀i j:Int,bI w w i j↔(i - j)%(s:Int)=0:=by
 rcases h with ⟨z,_⟩ | h'
 ·exact absurd z hw
 have h:bT w s:= .inr h'
 obtain ⟨h1,h2,h3,_⟩:=h'
 have ps:∀k:Int,rd w (k+s)=rd w k:=(E9 hw).mp ((gy hw h2).mp (uX h1 h2 h3))
 have pm:∀(k t:Int),rd w (k+t*s)=rd w k:=λk t=>by
  rcases Int.le_total 0 t with q | q
  ·obtain ⟨n,rfl⟩:∃n:Nat,t=n:=⟨t.toNat,()⟩
   exact iu ps k n
  ·obtain ⟨n,rfl⟩:∃n:Nat,t= -(n:Int):=⟨(-t).toNat,()⟩
   have:=iu ps (k+ -(n:Int)*s) n
   rw[<-this]
   congr 1
   rw[Int.neg_mul];lia
 refine ⟨h1,λi j=>⟨λp=>?_,λp k=>?_⟩⟩
 ·have pd:∀k:Int,rd w (k+(i - j))=rd w k:=λk=>by
   have:=p (k - j)
   unfold sq at this
   rw[show i+(k - j)=k+(i - j) by lia,show j+(k - j)=k by lia]at this
   exact this
  have e:=Qe6 (i - j) s
  have hn:=Qb1 (i - j) (b:=(s:Int)) ()
  have di:=Qbw (i - j) (b:=(s:Int)) ()
  refine Classical.byContradiction λz=>?_
  obtain ⟨d,hd⟩:∃d:Nat,(i - j)%(s:Int)=d:=⟨((i - j)%(s:Int)).toNat,()⟩
  refine bT.least h (j:=d) () () ((E9 hw).mpr λk=>?_)
  have q:=pd k
  rw[<-e,hd,Qd6, <-Int.add_assoc,pm]at q
  exact q
 ·unfold sq
  have e:=Qe6 (i - j) s
  rw[p,Qck,Qd6]at e
  rw[show i+k=j+k+(i - j) by lia, <-e,pm]
theorem xo{y:Z}{ws:List Z}{r:Nat->Nat}{M:Nat}(hy:Yd y)(hw:∀c,c<(ws:)->SW y (ws|||c))(hr:∀c,c<(ws:)->bT (ws|||c) (r c))(hM:∀c d,c<(ws:)->d<(ws:)->((ws|||c):)+((ws|||d):)<=M):cy y ws (λc=>leads (ws|||c)) r M:=
 ⟨hy,hw,hM,λc d i j hc hd h=>tM (hw c hc).ne (hw d hd).ne h,λc d i j hc hd h=>CM hy (hw c hc) (hw d hd) h,λc hc=>(jt (hw c hc).ne (hr c hc)).1,λc hc=>(jt (hw c hc).ne (hr c hc)).2⟩
noncomputable def cq(y:Z):Z:=(y.filter ay).mergeSort λa b=>decide (a<=b)
theorem dq(y:Z):(cq y).Perm (y.filter ay):=List.mergeSort_perm _ _
theorem xp(y:Z):(cq y).Pairwise (· <= ·):=
 (List.pairwise_mergeSort (le:=λa b=>decide (a<=b)) (λa b c h1 h2=>decide_eq_true (Qak (of_decide_eq_true h1) (of_decide_eq_true h2))) (λa b=>by
  rcases Nat.le_total a b with z | z
  ·rw[decide_eq_true z];rfl
  ·rw[decide_eq_true z,Bool.or_true]) (y.filter ay)).imp λz=>of_decide_eq_true z
theorem pb{y l:Z}(h:l.Perm (y.filter ay))(p:l.Pairwise (· <= ·)):l=cq y:=CD (h.trans (dq y).symm) p (xp y)
theorem kB{y:Z}(h:∀c∈y,Lt c):(y.filter λc=>decide (c∈aL))=y.filter ay:=Qc6 λc hc=>(f_ (h c hc)).symm
theorem A8{y:Z}(h:Yd y){e:Nat}(he:e∈y):PyProof.Rows.lo1 e∈cq y:=by
 refine (dq y).mem_iff.mpr (Qaz.mpr ?_)
 rcases h.lt e he with z | z
 ·rw[(aX e z).2.1];exact ⟨he,(aX e z).1⟩
 ·rw[(bL e z).2.1];exact ⟨h.cl e he,(aX _ (bL e z).2.2.2).1⟩
theorem KC:∀c∈aL++ik,isUp c=decide (c∈ik):=⋯
theorem fF{y:Z}(h:Yd y):2*(cq y:)=(y:):=by rw[(dq y).length_eq];exact ED h
structure Pr where
 t:Addr
 c:Nat
 i:Nat
noncomputable def iA(ps:List Pr):List V:=ps.map λp=>V.ref p.t
theorem ck(ps:List Pr):(iA ps:)=(ps:):=by unfold iA;rw[NA]
theorem IM(a b:List Pr):iA a++iA b=iA (a++b):=by unfold iA;rw[Xs]
theorem xq(a:List Pr)(p:Pr):iA a++[V.ref p.t]=iA (a++[p]):=by unfold iA;rw[Xs];rfl
theorem A9(a:List Pr):(iA a).reverse=iA a.reverse:=by unfold iA;rw[Qb4]
theorem qB{ps:List Pr}{i:Nat}{x:V}(h:(iA ps)[i]? =some x):∃p,ps[i]? =some p/\x=V.ref p.t:=by
 unfold iA at h
 rw[ZN]at h
 cases e:ps[i]? with
 | none=>rw[e]at h;cases h
 | some p=>rw[e]at h;cases h;exact ⟨p,rfl,rfl⟩
structure iT(H:Hp)(p:Pr):Prop where
 tp:H p.t=some (.tup [.int p.c,.int p.i])
 cz:p.c<1000
 iz:p.i<1000
theorem iT.same{H H':Hp}{p:Pr}(h:iT H p)(s:aj H H'):iT H' p:=⟨s _ _ h.tp,h.cz,h.iz⟩
structure Od where
 o:Addr
 ps:List Pr
structure kC(H:Hp)(o:Od):Prop where
 tp:H o.o=some (.tup (iA o.ps))
 pr:∀p∈o.ps,iT H p
 fw:(o.ps:)<=100
theorem kC.same{H H':Hp}{o:Od}(h:kC H o)(s:aj H H'):kC H' o:=⟨s _ _ h.tp,λp hp=>(h.pr p hp).same s,h.fw⟩
noncomputable def iJ(os:List Od):List V:=os.map λo=>V.ref o.o
theorem fW(os:List Od):(iJ os:)=(os:):=by unfold iJ;rw[NA]
theorem lY(a:List Od)(p:Od):iJ a++[V.ref p.o]=iJ (a++[p]):=by unfold iJ;rw[Xs];rfl
theorem zl{os:List Od}{i:Nat}{o:Od}(h:os[i]? =some o):(iJ os)[i]? =some (V.ref o.o):=by unfold iJ;rw[ZN,h];rfl
structure qC(H:Hp)(dr:Addr)(ws:List Z)(os:List Od):Prop where
 ex:∃wt ot,H dr=some (.tup [.ref wt,.ref ot])/\H wt=some (.tup (j7 ws))/\H ot=some (.tup (iJ os))
 od:∀o∈os,kC H o
theorem qC.same{H H':Hp}{dr:Addr}{ws:List Z}{os:List Od}(h:qC H dr ws os)(s:aj H H'):qC H' dr ws os:=by
 obtain ⟨⟨wt,ot,h1,h2,h3⟩,g⟩:=h
 exact ⟨⟨wt,ot,s _ _ h1,s _ _ h2,s _ _ h3⟩,λo ho=>(g o ho).same s⟩
noncomputable def rR(y:Z)(os:List Od)(e:Nat):List Pr:=((os[(cq y).idxOf (PyProof.Rows.lo1 e)]?).map Od.ps).getD []
noncomputable def lZ(y:Z)(os:List Od)(e:Nat):List Pr:=if isUp e=true then (rR y os e).reverse else rR y os e
theorem gZ{y:Z}{os:List Od}{e:Nat}(h:Yd y)(he:e∈y)(ho:2*(os:)=(y:)):∃o∈os,os[(cq y).idxOf (PyProof.Rows.lo1 e)]? =some o/\rR y os e=o.ps:=by
 have hi:=Qab (A8 h he)
 have hl:=fF h
 have QQ:(cq y).idxOf (PyProof.Rows.lo1 e)<(os:):=by lia
 exact ⟨os[(cq y).idxOf (PyProof.Rows.lo1 e)],Qa7 QQ,LK QQ,by unfold rR;rw[LK QQ];rfl⟩
structure Pt where
 t:Addr
 c:Nat
 i:Nat
 e:Nat
noncomputable def G_(ps:List Pt):List V:=ps.map λp=>V.ref p.t
theorem A_(ps:List Pt):(G_ ps:)=(ps:):=by unfold G_;rw[NA]
theorem E_(a:List Pt)(p:Pt):G_ a++[V.ref p.t]=G_ (a++[p]):=by unfold G_;rw[Xs];rfl
noncomputable def Pt.is(p:Pt):Nat×Nat×Nat:=(p.c,p.i,p.e)
structure rS(H:Hp)(p:Pt):Prop where
 tp:H p.t=some (.tup [.int p.c,.int p.i,.str (S [p.e])])
 cz:p.c<1000
 iz:p.i<1000
 ez:p.e<128
theorem rS.same{H H':Hp}{p:Pt}(h:rS H p)(s:aj H H'):rS H' p:=⟨s _ _ h.tp,h.cz,h.iz,h.ez⟩
theorem rS.upd{H:Hp}{p:Pt}{q:Addr}{o:HO}(h:rS H p)(n:p.t≠q):rS (L2.upd H q o) p:=⟨by rw[ar n];exact h.tp,h.cz,h.iz,h.ez⟩
noncomputable def cG(y:Z)(os:List Od)(e:Nat):List (Nat×Nat×Nat):=(lZ y os e).map λp=>(p.c,p.i,e)
noncomputable def dF(y:Z)(os:List Od):List (Nat×Nat×Nat):=y.flatMap (cG y os)
noncomputable def Pr.pair(p:Pr):Nat×Nat:=(p.c,p.i)
noncomputable def rT(band l:Nat):Bool:=decide (l=band)||decide (l=aB band)
noncomputable def gz(band c:Nat)(w:Z)(n:Nat):List (Nat×Nat):=((List.range n).filter λi=>rT band (w.getD i 0)).map λi=>(c,i)
noncomputable def bV(band:Nat)(ws:List Z)(n:Nat):List (Nat×Nat):=(List.range n).flatMap λc=>gz band c (ws|||c) ((ws|||c):)
theorem qD{band c i l:Nat}{w:Z}(h:w[i]? =some l):gz band c w (i+1)=gz band c w i++if rT band l=true then [(c,i)] else []:=by
 have e:w.getD i 0=l:=by rw[Xw,h];rfl
 unfold gz
 rw[Qbq,Qb2,Xs]
 congr 1
 by_cases z:rT band l=true
 ·rw[if_pos z,Qax (by rw[e];exact z)];rfl
 ·rw[if_neg z,Qao (by rw[e];exact z)];rfl
theorem ju{band i:Nat}{ws:List Z}{w:Z}(h:ws[i]? =some w):bV band ws (i+1)=bV band ws i++gz band i w (w:):=by
 have e:(ws|||i)=w:=by rw[Xw,h];rfl
 unfold bV
 rw[Qbq,Qbd]
 congr 1
 rw[Qa6,Qek,Qba,e]
structure zo(y:Z)(ws:List Z):Prop where
 wW:(ws:)<=4
 all:∀w∈ws,(∀c∈w,c∈y)/\(w:)<=12
def iU(y:Z)(ws:List Z)(os:List Od):Prop:=(os:)=(cq y:)/\∀(j:Nat) (o:Od) (b:Nat),os[j]? =some o->(cq y)[j]? =some b->(o.ps.map Pr.pair).Perm (bV b ws (ws:))
def j8(_:Fr):Sp:=λvs H Q _=>∃(y:Z) (dr:Addr) (ws:List Z) (os:List Od) (e:Nat),vs=[.str (S y),.ref dr,.str (S [e])]/\Yd y/\(y:)<=8/\e∈y/\2*(os:)=(y:)/\qC H dr ws os/\∀(q:Addr) (H':Hp),H q=none->H' q=some (.lst (iA (lZ y os e)))->aj H H'->Q (.ref q) H'
theorem qE{K:Fr}{vs:List V}{H:Hp}{Q:VK}{E:XK}(h:j8 K vs H Q E):(vs:)=3:=by obtain ⟨c,_,_,_,_,rfl,_⟩:=h;rfl
def tP(_:Fr):Sp:=λvs H Q _=>∃(y:Z) (dr:Addr) (ws:List Z) (os:List Od),vs=[.str (S y),.ref dr]/\Yd y/\(y:)<=8/\2*(os:)=(y:)/\qC H dr ws os/\∀(q:Addr) (ps:List Pt) (H':Hp),H q=none->H' q=some (.lst (G_ ps))->(∀p∈ps,rS H' p/\p.t≠q)->ps.map Pt.is=dF y os->(ps:)<=800->aj H H'->Q (.ref q) H'
theorem zp{K:Fr}{vs:List V}{H:Hp}{Q:VK}{E:XK}(h:tP K vs H Q E):(vs:)=2:=by obtain ⟨c,_,_,_,rfl,_⟩:=h;rfl
theorem IQ{y:Z}{os:List Od}{e:Nat}{p:Pr}(h:Yd y)(he:e∈y)(ho:2*(os:)=(y:))(hp:p∈lZ y os e):∃o∈os,p∈o.ps:=by
 obtain ⟨o,h1,h2,h3⟩:=gZ h he ho
 refine ⟨o,h1,?_⟩
 unfold lZ at hp
 rw[h3]at hp
 split at hp
 ·exact Qdw.mp hp
 ·exact hp
theorem IS{H:Hp}{y:Z}{os:List Od}{e:Nat}(h:Yd y)(he:e∈y)(ho:2*(os:)=(y:))(hd:∀o∈os,kC H o):(lZ y os e:)<=100:=by
 obtain ⟨o,h1,h2,h3⟩:=gZ h he ho
 have:=(hd o h1).fw
 unfold lZ
 rw[h3]
 split
 ·rw[Qa1];exact this
 ·exact this
theorem iT.ts{H H':Hp}{p:Pr}(h:iT H p)(s:aY H H'):iT H' p:=⟨s _ _ h.tp,h.cz,h.iz⟩
theorem kC.ts{H H':Hp}{o:Od}(h:kC H o)(s:aY H H'):kC H' o:=⟨s _ _ h.tp,λp hp=>(h.pr p hp).ts s,h.fw⟩
theorem Fb{band l:Nat}(hb:band∈aL)(hl:Lt l):decide (PyProof.Rows.lo1 l=band)=rT band l:=by
 unfold rT
 rcases hl with h | h
 ·have e:=(aX l h).2.1
  have n:l≠aB band:=λz=>mY _ (aX band hb).2.2 (z▸h)
  rw[e,decide_eq_false n,Qfj]
 ·have e:=(bL l h).2.1
  have n:l≠band:=λz=>mY l h (z▸hb)
  rw[e,decide_eq_false n,Qfk]
  refine decide_eq_decide.mpr ⟨λz=>by rw[<-z,aK (.inr h)],λz=>by rw[z,aK (.inl hb)]⟩
theorem V5{α:Type}{l:List α}(h:l.Nodup){i j:Nat}(hi:i<(l:))(hj:j<(l:))(e:l[i]=l[j]):i=j:=by
 have hp:=Qdc.mp h
 rcases Nat.lt_trichotomy i j with z | z | z
 ·exact absurd e (hp i j hi hj z)
 ·exact z
 ·exact absurd e.symm (hp j i hj hi z)
theorem tQ{l:List (Nat×Nat×Nat)}(h:l.Nodup){n:Nat}{p:Nat×Nat×Nat}(e:l[n]? =some p):l.idxOf p=n:=by
 obtain ⟨hn,e2⟩:=LL.mp e
 have hm:p∈l:=Xu e
 have hi:=Qab hm
 exact V5 h hi hn ((Qbv hi).trans e2.symm)
theorem qF{α:Type}{f:Nat->List α}(g:α->Nat):∀{l:Z},l.Nodup->(∀e∈l,(f e).Nodup)->(∀e∈l,∀p∈f e,g p=e)->(l.flatMap f).Nodup
 | [],_,_,_=>Qe7
 | a::l,hn,h1,h2=>by
  obtain ⟨n1,n2⟩:=Qa9.mp hn
  rw[Qa6,Qbx]
  refine ⟨h1 a ZP,qF g n2 (λe he=>h1 e (ZO _ he)) (λe he=>h2 e (ZO _ he)),λx hx y hy z=>?_⟩
  subst z
  obtain ⟨e,he,Yj⟩:=Qbc.mp hy
  have g1:=h2 a ZP x hx
  have g2:=h2 e (ZO _ he) x Yj
  exact n1 (by rw[<-g1,g2];exact he)
theorem Fc(band c:Nat)(w:Z)(n:Nat):(gz band c w n).Nodup:=by
 unfold gz
 show (List.map _ _).Pairwise (· ≠ ·)
 rw[Qbl]
 exact (Qdv.filter _).imp λ{i j} h z=>h (by cases z;rfl)
theorem nc(band:Nat)(ws:List Z)(n:Nat):(bV band ws n).Nodup:=
 qF Prod.fst Qdv (λc _=>Fc _ _ _ _) λc _ p hp=>by
  unfold gz at hp
  obtain ⟨i,_,rfl⟩:=Qam.mp hp
  rfl
theorem zq{band c i n:Nat}{ws:List Z}(hc:c<n)(hi:i<((ws|||c):))(hb:rT band ((ws|||c).getD i 0)=true):(c,i)∈bV band ws n:=
 Qbc.mpr ⟨c,Qav.mpr hc,Qam.mpr ⟨i,Qaz.mpr ⟨Qav.mpr hi,hb⟩,rfl⟩⟩
theorem iU.at{y:Z}{ws:List Z}{os:List Od}{e:Nat}(h:Yd y)(ho:iU y ws os)(he:e∈y):(((lZ y os e).map Pr.pair)).Perm (bV (PyProof.Rows.lo1 e) ws (ws:)):=by
 have hl:=fF h
 have CN:=ho.1
 obtain ⟨o,o1,o2,o3⟩:=gZ (os:=os) h he ()
 have hm:=A8 h he
 have hb:(cq y)[(cq y).idxOf (PyProof.Rows.lo1 e)]? =some (PyProof.Rows.lo1 e):=by
  have hi:=Qab hm
  rw[LK hi,Qbv hi]
 have p:=ho.2 _ o _ o2 hb
 unfold lZ
 rw[o3]
 split
 ·rw[Qb4]
  exact (List.reverse_perm _).trans p
 ·exact p
theorem zr{y:Z}{ws:List Z}{os:List Od}(h:Yd y)(ho:iU y ws os):(dF y os).Nodup:=by
 refine qF (λp=>p.2.2) h.nd (λe he=>?_) λe _ p hp=>?_
 ·have hn:=(ho.at h he).nodup_iff.mpr (nc _ _ _)
  have e1:cG y os e=((lZ y os e).map Pr.pair).map λx=>(x.1,x.2,e):=by unfold cG;rw[Qbo];rfl
  rw[e1]
  show (List.map _ _).Pairwise (· ≠ ·)
  rw[Qbl]
  exact hn.imp λ{a b} g z=>g (by cases a;cases b;cases z;rfl)
 ·unfold cG at hp
  obtain ⟨x,_,rfl⟩:=Qam.mp hp
  rfl
theorem xr{y:Z}{ws:List Z}{os:List Od}{c i l e:Nat}{w:Z}(h:Yd y)(ho:iU y ws os)(hw:ws[c]? =some w)(hl:w[i]? =some l)(IT:l∈y)(he:e=l\/e=aB l):(c,i,e)∈dF y os:=by
 have di:=h.lt l IT
 have zt:e∈y:=by rcases he with rfl | rfl;exact IT;exact h.cl l IT
 have e1:PyProof.Rows.lo1 e=PyProof.Rows.lo1 l:=by
  rcases he with rfl | rfl
  ·rfl
  ·rcases di with g | g
   ·rw[(bL _ (aX l g).2.2).2.1,(aX l g).2.1,aK (.inl g)]
   ·rw[(aX _ (bL l g).2.2.2).2.1,(bL l g).2.1]
 have hb:PyProof.Rows.lo1 l∈aL:=by
  rcases di with g | g
  ·rw[(aX l g).2.1];exact g
  ·rw[(bL l g).2.1];exact (bL l g).2.2.2
 have Yk:rT (PyProof.Rows.lo1 l) l=true:=by rw[<-Fb hb di];exact decide_eq_true rfl
 have d1:(ws|||c)=w:=by rw[Xw,hw];rfl
 have d2:w.getD i 0=l:=by rw[Xw,hl];rfl
 have hm:(c,i)∈(lZ y os e).map Pr.pair:=by
  rw[(ho.at h zt).mem_iff,e1]
  exact zq (LL.mp hw).1 (by rw[d1];exact (LL.mp hl).1) (by rw[d1,d2];exact Yk)
 obtain ⟨p,hp,ep⟩:=Qam.mp hm
 refine Qbc.mpr ⟨e,zt,Qam.mpr ⟨p,hp,?_⟩⟩
 have e2:p.c=c:=congrArg Prod.fst ep
 have e3:p.i=i:=congrArg Prod.snd ep
 rw[e2,e3]
noncomputable def vm(p:Nat×Nat×Nat):List Key:=[Sum.inl (p.1:Int),Sum.inl (p.2.1:Int),Sum.inr (S [p.2.2])]
theorem Fd{p q:Nat×Nat×Nat}(h:vm p=vm q):p=q:=by
 unfold vm at h
 injection h with h1 h2
 injection h2 with h2 h3
 injection h3 with h3 _
 have a1:(p.1:Int)=q.1:=Sum.inl.inj h1
 have a2:(p.2.1:Int)=q.2.1:=Sum.inl.inj h2
 have a3:[p.2.2]=[q.2.2]:=by
  have:=Sum.inr.inj h3
  rw[<-eS [p.2.2],this,eS]
 have a4:p.2.2=q.2.2:=by simpa using a3
 exact Prod.ext () (Prod.ext () a4)
def Nums(ps:List (Nat×Nat×Nat))(aH:List (List Key×V))(n:Nat):Prop:=∀p∈ps.take n,dI aH (vm p)=some (.int (ps.idxOf p:Nat))
theorem Nums.put{ps:List (Nat×Nat×Nat)}{aH:List (List Key×V)}{n:Nat}{p:Nat×Nat×Nat}(h:Nums ps aH n)(hn:ps.Nodup)(e:ps[n]? =some p):Nums ps (putK aH (vm p) (.int (n:Nat))) (n+1):=λr hr=>by
 rw[D_]
 by_cases z:r=p
 ·rw[if_pos (by rw[z]),z,tQ hn e]
 ·rw[if_neg λg=>z (Fd g)]
  rw[<-take_snoc e]at hr
  exact h r ((Qaa.mp hr).resolve_right λg=>z (VH.mp g))
noncomputable def ng(n i:Nat):Nat:=if i=0 then n - 1 else i - 1
theorem vn{n i:Nat}(h:i<n):ng n i<n:=by unfold ng;split<;>lia
theorem vp{n i:Nat}(h:i<n):((i:Int) - 1)%(n:Int)=((ng n i:Nat):Int):=by
 unfold ng
 split
 ·rename_i z
  subst z
  have:((0:Nat):Int) - 1+(n:Int)=((n - 1:Nat):Int):=by lia
  rw[<-Qc1,this]
  exact Qay () ()
 ·have:(i:Int) - 1=((i - 1:Nat):Int):=by lia
  rw[this]
  exact Qay () ()
noncomputable abbrev C4:=Nat×Nat×Nat×Nat
noncomputable def dJ(ps:List (Nat×Nat×Nat))(c:Nat)(w:Z)(i:Nat):C4:=(c,i,ps.idxOf (c,ng (w:) i,aB (w.getD (ng (w:) i) 0)),ps.idxOf (c,i,w.getD i 0))
noncomputable def kD(ps:List (Nat×Nat×Nat))(c:Nat)(w:Z)(n:Nat):List C4:=(List.range n).map (dJ ps c w)
noncomputable def fk(ps:List (Nat×Nat×Nat))(ws:List Z)(n:Nat):List C4:=(List.range n).flatMap λc=>kD ps c (ws|||c) ((ws|||c):)
theorem og(ps:List (Nat×Nat×Nat))(c:Nat)(w:Z)(n:Nat):kD ps c w (n+1)=kD ps c w n++[dJ ps c w n]:=by unfold kD;rw[Qbq,Xs];rfl
theorem l_{ps:List (Nat×Nat×Nat)}{ws:List Z}{i:Nat}{w:Z}(h:ws[i]? =some w):fk ps ws (i+1)=fk ps ws i++kD ps i w (w:):=by
 have e:(ws|||i)=w:=by rw[Xw,h];rfl
 unfold fk
 rw[Qbq,Qbd]
 congr 1
 rw[Qa6,Qek,Qba,e]
noncomputable def Hc(lo hi x:Int):Bool:=decide (lo<x)&&decide (x<hi)
noncomputable def xt(p q r s:Int):Bool:=!decide (Hc (if q<p then q else p) (if q>p then q else p) r=Hc (if q<p then q else p) (if q>p then q else p) s)
noncomputable def meets(x y:C4):Bool:=xt x.2.2.1 x.2.2.2 y.2.2.1 y.2.2.2
structure Q4 where
 t:Addr
 v:C4
noncomputable def CO(qs:List Q4):List V:=qs.map λq=>V.ref q.t
theorem Ba(qs:List Q4):(CO qs:)=(qs:):=by unfold CO;rw[NA]
theorem Fe(a:List Q4)(q:Q4):CO a++[V.ref q.t]=CO (a++[q]):=by unfold CO;rw[Xs];rfl
theorem MB{qs:List Q4}{i:Nat}{x:V}(h:(CO qs)[i]? =some x):∃q,qs[i]? =some q/\x=V.ref q.t:=by
 unfold CO at h
 rw[ZN]at h
 cases e:qs[i]? with
 | none=>rw[e]at h;cases h
 | some p=>rw[e]at h;cases h;exact ⟨p,rfl,rfl⟩
def rV(H:Hp)(q:Q4):Prop:=H q.t=some (.tup [.int q.v.1,.int q.v.2.1,.int q.v.2.2.1,.int q.v.2.2.2])
theorem rV.ts{H H':Hp}{q:Q4}(h:rV H q)(s:aY H H'):rV H' q:=s _ _ h
noncomputable def cS(y:Z)(ws:List Z)(os:List Od):List C4:=fk (dF y os) ws (ws:)
theorem QR{y:Z}{os:List Od}{p:Pt}{ps:List Pt}(h:ps.map Pt.is=dF y os){i:Nat}(hi:ps[i]? =some p):(dF y os)[i]? =some p.is:=by rw[<-h,ZN,hi];rfl
def g7(_:Fr):Sp:=λvs H Q _=>∃(w:Z) (c i:Nat),vs=[.str (S w),.int c,.int i]/\(∀l∈w,l<128)/\i<(w:)/\(w:)<=1000/\∀(t t1 t2:Addr) (H':Hp),H' t=some (.tup [.ref t1,.ref t2])->H' t1=some (.tup ((vm (c,ng (w:) i,aB (w.getD (ng (w:) i) 0))).map kV))->H' t2=some (.tup ((vm (c,i,w.getD i 0)).map kV))->aj H H'->Q (.ref t) H'
theorem md{K:Fr}{vs:List V}{H:Hp}{Q:VK}{E:XK}(h:g7 K vs H Q E):(vs:)=3:=by obtain ⟨c,_,_,rfl,_⟩:=h;rfl
def qG(_:Fr):Sp:=λvs H Q _=>∃(y:Z) (dr:Addr) (ws:List Z) (os:List Od),vs=[.str (S y),.ref dr]/\Yd y/\(y:)<=8/\zo y ws/\iU y ws os/\qC H dr ws os/\∀(q:Addr) (qs:List Q4) (H':Hp),H q=none->H' q=some (.lst (CO qs))->(∀x∈qs,rV H' x)->qs.map Q4.v=cS y ws os->aj H H'->Q (.ref q) H'
theorem xu{K:Fr}{vs:List V}{H:Hp}{Q:VK}{E:XK}(h:qG K vs H Q E):(vs:)=2:=by obtain ⟨c,_,_,_,rfl,_⟩:=h;rfl
theorem IU{y:Z}{os:List Od}{i m e:Nat}{p:Pr}(he:y[i]? =some e)(hp:(lZ y os e)[m]? =some p):(dF y os)[((y.take i).flatMap (cG y os):)+m]? =some (p.c,p.i,e):=by
 obtain ⟨hi,e1⟩:=LL.mp he
 have hy:y=y.take i++e::y.drop (i+1):=by
  rw[<-e1, <-Qbn hi,Qby]
 have h1:dF y os=(y.take i).flatMap (cG y os)++(cG y os e++(y.drop (i+1)).flatMap (cG y os)):=by
  unfold dF
  conv=>lhs;arg 2;rw[hy]
  rw[Qbd,Qa6]
 have h2:(cG y os e)[m]? =some (p.c,p.i,e):=by unfold cG;rw[ZN,hp];rfl
 rw[h1,Qa5 (Qfw _ _),Nat.add_sub_cancel_left,Qa0 (LL.mp h2).1]
 exact h2
structure zu(y:Z)(ws:List Z)(L:Nat->Bool)(r:Nat->Nat)(M:Nat)(os:List Od):Prop where
 ok:iU y ws os
 asc:∀o∈os,(o.ps.map Pr.pair).Pairwise λs t=>bP (eK y ws L r M s.1 s.2) (eK y ws L r M t.1 t.2)=true
theorem zw:∀c∈aL++ik,PyProof.Rows.lo1 (aB c)=PyProof.Rows.lo1 c/\isUp c=!ay c:=⋯
theorem CP{α:Type}{y:Z}(F:Nat->List α){k k' e:Nat}(he:y[k]? =some e)(h:k<k'):((y.take k).flatMap F:)+(F e:)<=((y.take k').flatMap F:):=by
 have e1:(y.take k').take (k+1)=y.take (k+1):=by rw[List.take_take,Qbp ()]
 have e2:y.take k'=y.take (k+1)++(y.take k').drop (k+1):=by rw[<-e1,Qby]
 rw[e2,Qbd,VG, <-take_snoc he,Qbd,VG]
 simp
theorem nh{y:Z}{ws:List Z}{os:List Od}(hy:Yd y)(ho:iU y ws os)(hs:∀c,c<(ws:)->∀k:Int,rd (ws|||c) k∈y){c i e:Nat}(hc:c<(ws:))(hi:i<((ws|||c):))(he:e=rd (ws|||c) i\/e=aB (rd (ws|||c) i)):
  e∈y/\∃(m:Nat) (p:Pr),(lZ y os e)[m]? =some p/\p.pair=(c,i)/\(dF y os).idxOf (c,i,e)=((y.take (y.idxOf e)).flatMap (cG y os):)+m:=by
 have hw:=hs c hc
 have ey:e∈y:=he.elim (λz=>z▸hw _) λz=>z▸hy.cl _ (hw _)
 have Bb:=xr hy ho (c:=c) (i:=i) (l:=rd (ws|||c) i) (e:=e) (w:=(ws|||c)) (by rw[Xw,LK hc];rfl) (mZ hi) (hw _) he
 unfold dF at Bb
 obtain ⟨e',qf,hp⟩:=Qbc.mp Bb
 unfold cG at hp
 obtain ⟨p,iZ,mU⟩:=Qam.mp hp
 obtain ⟨q1,V6⟩:=Prod.mk.inj mU
 obtain ⟨q2,q3⟩:=Prod.mk.inj V6
 clear V6
 subst q3
 obtain ⟨m,hm,em⟩:=Qcy iZ
 have Ff:(lZ y os e')[m]? =some p:=by rw[LK hm,em]
 refine ⟨ey,m,p,Ff,by unfold Pr.pair;rw[q1,q2],?_⟩
 have hk:y[y.idxOf e']? =some e':=by rw[LK (Qab ey),Qbv]
 have:=IU (os:=os) hk Ff
 rw[q1,q2]at this
 exact tQ (zr hy ho) this
theorem Fg(y:Z)(os:List Od)(e:Nat):(cG y os e:)=(lZ y os e:):=by unfold cG;rw[NA]
theorem Fh{l:List Pr}{y:Z}{ws:List Z}{L:Nat->Bool}{r:Nat->Nat}{M:Nat}(h:(l.map Pr.pair).Pairwise λs t=>bP (eK y ws L r M s.1 s.2) (eK y ws L r M t.1 t.2)=true){m n c i d j:Nat}{p q:Pr}(hp:l[m]? =some p)(hq:l[n]? =some q)(ep:p.pair=(c,i))(eq:q.pair=(d,j))(cP:(c,i)≠(d,j)):
  m≠n/\decide (m<n)=bP (eK y ws L r M c i) (eK y ws L r M d j):=by
 have R5:m≠n:=λz=>cP (by rw[z,hq]at hp;rw[<-ep, <-eq,Qaf hp])
 obtain ⟨hm,em⟩:=LL.mp hp
 obtain ⟨hn,en⟩:=LL.mp hq
 refine ⟨R5,?_⟩
 have key:=Qdc.mp h
 by_cases z:m<n
 ·have:=key m n (by rw[NA];exact hm) (by rw[NA];exact hn) z
  rw[Qda,Qda,em,en,ep,eq]at this
  rw[decide_eq_true z]
  exact this.symm
 ·have:=key n m (by rw[NA];exact hn) (by rw[NA];exact hm) ()
  rw[Qda,Qda,em,en,ep,eq]at this
  rw[decide_eq_false z]
  exact (m4 this).1.symm
theorem Bc{α:Type}{l:List α}{m:Nat}{p:α}(h:l.reverse[m]? =some p):m<(l:)/\l[(l:) - 1 - m]? =some p:=by
 obtain ⟨hm,_⟩:=LL.mp h
 rw[Qa1]at hm
 rw[Qco hm]at h
 exact ⟨hm,h⟩
theorem Fi{y:Z}{ws:List Z}{os:List Od}(hy:Yd y)(hs:∀c,c<(ws:)->∀k:Int,rd (ws|||c) k∈y)(ho:iU y ws os)(c i d j e e':Nat)(hc:c<(ws:))(hd:d<(ws:))(hi:i<((ws|||c):))(hj:j<((ws|||d):))(he:e=rd (ws|||c) i\/e=aB (rd (ws|||c) i))(qf:e'=rd (ws|||d) j\/e'=aB (rd (ws|||d) j))(di:y.idxOf e<y.idxOf e'):(dF y os).idxOf (c,i,e)<(dF y os).idxOf (d,j,e'):=by
 obtain ⟨ey,m,p,hm,_,e1⟩:=nh hy ho hs hc hi he
 obtain ⟨ZR,m',p',Ff,_,e2⟩:=nh hy ho hs hd hj qf
 rw[e1,e2]
 have hk:y[y.idxOf e]? =some e:=by rw[LK (Qab ey),Qbv]
 have:=CP (cG y os) hk di
 rw[Fg]at this
 have vX:=(LL.mp hm).1
 lia
theorem pos_at{y:Z}{ws:List Z}{os:List Od}(hy:Yd y)(hs:∀c,c<(ws:)->∀k:Int,rd (ws|||c) k∈y)(ho:iU y ws os){c i d j x:Nat}(hc:c<(ws:))(hd:d<(ws:))(hi:i<((ws|||c):))(hj:j<((ws|||d):))(hx:ay x=true)(NL:rd (ws|||c) i=x\/rd (ws|||c) i=aB x)(IV:rd (ws|||d) j=x\/rd (ws|||d) j=aB x):
  ∃o∈os,∃(m n m' n' A B:Nat) (p q p' q':Pr),o.ps[m]? =some p/\o.ps[n]? =some q/\o.ps[(o.ps:) - 1 - m']? =some p'/\o.ps[(o.ps:) - 1 - n']? =some q'/\m'<(o.ps:)/\n'<(o.ps:)/\p.pair=(c,i)/\q.pair=(d,j)/\p'.pair=(c,i)/\q'.pair=(d,j)/\
   (dF y os).idxOf (c,i,x)=A+m/\(dF y os).idxOf (d,j,x)=A+n/\(dF y os).idxOf (c,i,aB x)=B+m'/\(dF y os).idxOf (d,j,aB x)=B+n':=by
 have ol:2*(os:)=(y:):=by rw[ho.1];exact fF hy
 have lc:Lt (rd (ws|||c) i):=hy.lt _ (hs c hc _)
 have ld:Lt (rd (ws|||d) j):=hy.lt _ (hs d hd _)
 have vi:(x=rd (ws|||c) i\/x=aB (rd (ws|||c) i))/\(aB x=rd (ws|||c) i\/aB x=aB (rd (ws|||c) i))/\Lt x:=by
  rcases NL with z | z
  ·exact ⟨.inl z.symm,.inr (by rw[z]),z▸lc⟩
  ·have Yl:x<128/\x∈aL:=by
    have h9:97<=x/\x<=122:=by unfold ay at hx;simpa using hx
    refine ⟨(),?_⟩
    have:∀k,k<26->k+97∈aL:=by decide
    have h8:=this (x - 97) ()
    rwa [show x - 97+97=x by lia]at h8
   have lx:Lt x:= .inl Yl.2
   exact ⟨.inr (by rw[z,aK lx]),.inl z.symm,lx⟩
 have lx:=vi.2.2
 have vj:(x=rd (ws|||d) j\/x=aB (rd (ws|||d) j))/\(aB x=rd (ws|||d) j\/aB x=aB (rd (ws|||d) j)):=by
  rcases IV with z | z
  ·exact ⟨.inl z.symm,.inr (by rw[z])⟩
  ·exact ⟨.inr (by rw[z,aK lx]),.inl z.symm⟩
 obtain ⟨xy,m,p,hm,ep,e1⟩:=nh hy ho hs hc hi vi.1
 obtain ⟨_,n,q,hn,eq,e2⟩:=nh hy ho hs hd hj vj.1
 obtain ⟨_,m',p',Ff,Ho,yH⟩:=nh hy ho hs hc hi vi.2.1
 obtain ⟨_,n',q',RE,QS,Fj⟩:=nh hy ho hs hd hj vj.2
 obtain ⟨o,NM,_,eo⟩:=gZ hy xy ol
 have Ym:isUp x=false:=by rw[(zw x lx.mem).2,hx];rfl
 have up1:isUp (aB x)=true:=by rw[(zw _ lx.aB.mem).2,fh x lx.mem,hx];rfl
 have s0:lZ y os x=o.ps:=by unfold lZ;rw[Ym,if_neg ∅,eo]
 have s1:lZ y os (aB x)=o.ps.reverse:=by
  unfold lZ
  rw[up1,if_pos rfl]
  have:rR y os (aB x)=rR y os x:=by unfold rR;rw[(zw x lx.mem).1]
  rw[this,eo]
 rw[s0]at hm hn
 rw[s1]at Ff RE
 obtain ⟨b1,vX⟩:=Bc Ff
 obtain ⟨b2,uq⟩:=Bc RE
 exact ⟨o,NM,m,n,m',n',_,_,p,q,p',q',hm,hn,vX,uq,b1,b2,ep,eq,Ho,QS,e1,e2,yH,Fj⟩
theorem lies_of{y:Z}{ws:List Z}{L:Nat->Bool}{r:Nat->Nat}{M:Nat}{os:List Od}(hy:Yd y)(hs:∀c,c<(ws:)->SW y (ws|||c))(h:zu y ws L r M os):Lies y ws L r M λc i e=>(dF y os).idxOf (c,i,e):=by
 refine ⟨Fi hy (λc hc=>(hs c hc).rd) h.ok,λc i d j x hc hd hi hj cP hx NL IV=>?_⟩
 obtain ⟨o,NM,m,n,m',n',A,B,p,q,p',q',hm,hn,vX,uq,b1,b2,ep,eq,Ho,QS,e1,e2,yH,Fj⟩:=pos_at hy (λc hc=>(hs c hc).rd) h.ok hc hd hi hj hx NL IV
 have k1:=Fh (h.asc o NM) hm hn ep eq cP
 have k2:=Fh (h.asc o NM) vX uq Ho QS cP
 rw[e1,e2,yH,Fj]
 refine ⟨(),(),?_,?_⟩
 ·rw[<-k1.2];exact decide_eq_decide.mpr ()
 ·rw[<-k2.2];exact decide_eq_decide.mpr ()
noncomputable def ph(st:Nat->Nat)(T R:Z):Z:=T.filter λx=>R.any λe=>decide (st e=x)
noncomputable def CQ(st:Nat->Nat)(T R:Z)(p:Nat):Nat:=if st p=p then 0 else (((ph st T (p::R)).filter λx=>decide (st p<x)):)
noncomputable def Hd(st:Nat->Nat):Z->Z->Nat
 | _,[]=>0
 | T,p::R=>CQ st T R p+Hd st (T++[p]) R
structure Fl(ch:List (Nat×Nat))(st:Nat->Nat)(P:Z):Prop where
 lt:∀x∈ch,x.1<x.2
 nd:(ch.flatMap λx=>[x.1,x.2]).Nodup
 pm:P.Perm (ch.flatMap λx=>[x.1,x.2])
 up:P.Pairwise (· < ·)
 st:∀x∈ch,st x.1=x.1/\st x.2=x.1
section
variable{ch:List (Nat×Nat)}{st:Nat->Nat}{P:Z}
theorem Fl.pt(h:Fl ch st P){p:Nat}(hp:p∈P):∃x∈ch,p=x.1\/p=x.2:=by
 obtain ⟨x,hx,e⟩:=Qbc.mp (h.pm.mem_iff.mp hp)
 exact ⟨x,hx,by simpa using e⟩
theorem Fl.in1(h:Fl ch st P){x:Nat×Nat}(hx:x∈ch):x.1∈P/\x.2∈P:=⟨h.pm.mem_iff.mpr (Qbc.mpr ⟨x,hx,by simp⟩),h.pm.mem_iff.mpr (Qbc.mpr ⟨x,hx,by simp⟩)⟩
theorem xv:∀{ch:List (Nat×Nat)},(ch.flatMap λx=>[x.1,x.2]).Nodup->∀x∈ch,∀z∈ch,(x.1=z.1\/x.2=z.2\/x.1=z.2)->x=z
 | [],_,x,hx,_,_,_=>absurd hx kb
 | a::r,nd,x,hx,z,hz,e=>by
  rw[Qa6,Qbx]at nd
  obtain ⟨n1,n2,n3⟩:=nd
  have inr:∀z∈r,z.1∈r.flatMap (λx=>[x.1,x.2])/\z.2∈r.flatMap (λx=>[x.1,x.2]):=λz hz=>⟨Qbc.mpr ⟨z,hz,by simp⟩,Qbc.mpr ⟨z,hz,by simp⟩⟩
  have a12:a.1≠a.2:=by
   rw[Qa9]at n1
   simpa using n1.1
  rcases ZQ.mp hx with rfl | B6<;>rcases ZQ.mp hz with rfl | G5
  ·rfl
  ·exfalso
   rcases e with e | e | e
   ·exact n3 x.1 (by simp) z.1 (inr z G5).1 e
   ·exact n3 x.2 (by simp) z.2 (inr z G5).2 e
   ·exact n3 x.1 (by simp) z.2 (inr z G5).2 e
  ·exfalso
   rcases e with e | e | e
   ·exact n3 z.1 (by simp) x.1 (inr x B6).1 e.symm
   ·exact n3 z.2 (by simp) x.2 (inr x B6).2 e.symm
   ·exact n3 z.2 (by simp) x.1 (inr x B6).1 e.symm
  ·exact xv n2 x B6 z G5 e
theorem Fn(h:Fl ch st P){T R:Z}{p:Nat}(e:P=T++p::R)(hs:st p=p):ph st (T++[p]) R=ph st T (p::R)++[p]:=by
 obtain ⟨x,hx,hp⟩:=h.pt (p:=p) (by rw[e];simp)
 have MC:p=x.1:=hp.elim id λz=>by rw[z,(h.st x hx).2]at hs;rw[z, <-hs]
 have up:=h.up
 rw[e,Qcu,Qcc]at up
 obtain ⟨u1,⟨u2,u3⟩,u4⟩:=up
 have hR:x.2∈R:=by
  have:=(h.in1 hx).2
  rw[e]at this
  rcases Qaa.mp this with q | q
  ·have:=u4 _ q p ZP
   have:=h.lt x hx
   lia
  ·rcases ZQ.mp q with q | q
   ·have:=h.lt x hx
    lia
   ·exact q
 unfold ph
 rw[Qb2]
 congr 1
 ·refine Qc6 λz hz=>?_
  rw[Qce,decide_eq_false (λq=>by have:=u4 z hz p ZP;lia),Qfk]
 ·have:(R.any λe=>decide (st e=p))=true:=Qfx.mpr ⟨x.2,hR,decide_eq_true (by rw[(h.st x hx).2,MC])⟩
  rw[Qax (p:=λx=>R.any λe=>decide (st e=x)) this]
  rfl
theorem erase_filter{s:Nat}{p q:Nat->Bool}:∀{T:Z},T.Nodup->q s=true->p s=false->(∀x,x≠s->q x=p x)->(T.filter q).erase s=T.filter p
 | [],_,_,_,_=>rfl
 | a::T,nd,hq,hp,h=>by
  rw[Qa9]at nd
  by_cases z:a=s
  ·subst z
   rw[Qax hq,List.erase_cons_head,Qao (by rw[hp];decide)]
   exact Qc6 λx hx=>h x λq=>nd.1 (q▸hx)
  ·have ih:=erase_filter nd.2 hq hp h
   cases e:p a
   ·rw[Qao (by rw[h a z,e];decide),Qao (by rw[e];decide)]
    exact ih
   ·rw[Qax (by rw[h a z,e]),Qax e,List.erase_cons_tail (by simpa using z),ih]
theorem MD(h:Fl ch st P){T R:Z}{p:Nat}(e:P=T++p::R)(hs:st p≠p):ph st (T++[p]) R=(ph st T (p::R)).erase (st p)/\st p∈ph st T (p::R):=by
 obtain ⟨x,hx,hp⟩:=h.pt (p:=p) (by rw[e];simp)
 have MC:p=x.2:=hp.elim (λz=>absurd (by rw[z,(h.st x hx).1]) hs) id
 have kL:st p=x.1:=by rw[MC,(h.st x hx).2]
 have up:=h.up
 rw[e,Qcu,Qcc]at up
 obtain ⟨u1,⟨u2,u3⟩,u4⟩:=up
 have only:∀z∈R,st z≠x.1:=λz hz q=>by
  obtain ⟨v,hv,LY⟩:=h.pt (p:=z) (by rw[e];simp[hz])
  have ZS:=u2 z hz
  rcases LY with r | r
  ·rw[r,(h.st v hv).1]at q
   have:=xv h.nd v hv x hx (.inl q)
   subst this
   have:=h.lt v hv
   lia
  ·rw[r,(h.st v hv).2]at q
   have:=xv h.nd v hv x hx (.inl q)
   subst this
   lia
 have none:∀z∈R,st z≠p:=λz hz q=>by
  obtain ⟨v,hv,LY⟩:=h.pt (p:=z) (by rw[e];simp[hz])
  have:st z=v.1:=LY.elim (λr=>by rw[r,(h.st v hv).1]) λr=>by rw[r,(h.st v hv).2]
  rw[this,MC]at q
  have:=xv h.nd v hv x hx (.inr (.inr q))
  subst this
  have:=h.lt v hv
  lia
 have hT:x.1∈T:=by
  have:=(h.in1 hx).1
  rw[e]at this
  have l:=h.lt x hx
  rcases Qaa.mp this with q | q
  ·exact q
  ·rcases ZQ.mp q with q | q
   ·lia
   ·have:=u2 _ q
    lia
 have nd:T.Nodup:=Qfu (λh=>Qal h) u1
 have hq:((p::R).any λe=>decide (st e=x.1))=true:=by rw[Qce,decide_eq_true kL];rfl
 refine ⟨?_,?_⟩
 ·rw[kL]
  unfold ph
  rw[Qb2,Qao (by
   rw[Qdb,Qft]
   exact λz hz=>by simpa using none z hz),List.filter_nil,Qba]
  refine (erase_filter nd hq ?_ λz hz=>?_).symm
  ·rw[Qft]
   exact λz hz=>by simpa using only z hz
  ·rw[Qce,decide_eq_false (by rw[kL];exact Ne.symm hz),Qfk]
 ·rw[kL]
  exact Qaz.mpr ⟨hT,hq⟩
noncomputable def kN(x z:Nat×Nat):Bool:=decide (x.1<z.1)&&(decide (z.1<x.2)&&decide (x.2<z.2))
theorem Fo(h:Fl ch st P){T R:Z}{x:Nat×Nat}(hx:x∈ch)(e:P=T++x.2::R):CQ st T R x.2=(ch.filter (kN x):):=by
 have l:=h.lt x hx
 have kL:=(h.st x hx).2
 have up:=h.up
 rw[e,Qcu,Qcc]at up
 obtain ⟨u1,⟨u2,u3⟩,u4⟩:=up
 unfold CQ
 rw[if_neg (),kL, <-NA (as:=ch.filter (kN x)) (f:=Prod.fst)]
 refine List.Perm.length_eq ((List.perm_ext_iff_of_nodup ?_ ?_).mpr λa=>?_)
 ·exact (Qfu (λh=>Qal h) ((u1.filter _).filter _))
 ·have nd:(ch.map Prod.fst).Nodup:=by
   have:∀{ch:List (Nat×Nat)},(ch.flatMap λx=>[x.1,x.2]).Nodup->(ch.map Prod.fst).Nodup:=λ{ch}=>by
    induction ch with
    | nil=>exact λ_=>List.Pairwise.nil
    | cons a r ih=>
     intro nd
     rw[Qa6,Qbx]at nd
     rw[Qad,Qa9]
     refine ⟨λq=>?_,ih nd.2.1⟩
     obtain ⟨z,hz,ez⟩:=Qam.mp q
     exact nd.2.2 a.1 (by simp) z.1 (Qbc.mpr ⟨z,hz,by simp⟩) ez.symm
   exact this h.nd
  exact List.Nodup.sublist (List.Sublist.map _ List.filter_sublist) nd
 ·rw[Qaz,Qam]
  unfold ph
  rw[Qaz,decide_eq_true_iff,Qfx]
  constructor
  ·rintro ⟨⟨a1,p,hp,ep⟩,a2⟩
   have ep:=of_decide_eq_true ep
   obtain ⟨z,hz,UC⟩:=h.pt (p:=p) (by rw[e];exact Qaq _ hp)
   have:st p=z.1:=UC.elim (λr=>by rw[r,(h.st z hz).1]) λr=>by rw[r,(h.st z hz).2]
   rw[this]at ep
   have ax:=u4 a a1 x.2 ZP
   have pz:p=z.2:=UC.elim (λr=>by
    have:=u4 a a1 p hp
    lia) id
   have px:x.2<p:=by
    rcases ZQ.mp hp with q | q
    ·rw[q]at pz
     have:=xv h.nd x hx z hz (.inr (.inl pz))
     subst this
     lia
    ·exact u2 p q
   refine ⟨z,Qaz.mpr ⟨hz,?_⟩,ep⟩
   unfold kN
   rw[Qa8,Qa8,decide_eq_true_iff,decide_eq_true_iff,decide_eq_true_iff]
   lia
  ·rintro ⟨z,hz,rfl⟩
   obtain ⟨hz,q⟩:=Qaz.mp hz
   unfold kN at q
   rw[Qa8,Qa8,decide_eq_true_iff,decide_eq_true_iff,decide_eq_true_iff]at q
   have i1:=(h.in1 hz).1
   have i2:=(h.in1 hz).2
   rw[e]at i1 i2
   refine ⟨⟨?_,z.2,?_,decide_eq_true (h.st z hz).2⟩,q.1⟩
   ·rcases Qaa.mp i1 with r | r
    ·exact r
    ·rcases ZQ.mp r with r | r
     ·lia
     ·have:=u2 _ r;lia
   ·rcases Qaa.mp i2 with r | r
    ·have:=u4 _ r x.2 ZP;lia
    ·exact r
theorem Fp(h:Fl ch st P):∀(R T:Z),P=T++R->Hd st T R=(R.map λp=>if st p=p then 0 else (ch.filter (kN (st p,p)):)).sum
 | [],_,_=>rfl
 | p::R,T,e=>by
  rw[Qad,Qbk, <-Fp h R (T++[p]) (by rw[e];simp)]
  show CQ st T R p+_=_
  congr 1
  by_cases z:st p=p
  ·rw[if_pos z];unfold CQ;rw[if_pos z]
  ·rw[if_neg z]
   obtain ⟨x,hx,hp⟩:=h.pt (p:=p) (by rw[e];simp)
   have MC:p=x.2:=hp.elim (λq=>absurd (by rw[q,(h.st x hx).1]) z) id
   have kL:st p=x.1:=by rw[MC,(h.st x hx).2]
   rw[kL]
   subst MC
   exact Fo h hx e
theorem ME(h:Fl ch st P):Hd st [] P=(ch.map λx=>(ch.filter (kN x):)).sum:=by
 rw[Fp h P [] rfl,(h.pm.map _).sum_nat]
 have:∀l:List (Nat×Nat),(∀x∈l,x∈ch)->(((l.flatMap λx=>[x.1,x.2]).map λp=>if st p=p then 0 else (ch.filter (kN (st p,p)):)).sum)=(l.map λx=>(ch.filter (kN x):)).sum:=λl hl=>by
  induction l with
  | nil=>rfl
  | cons a r ih=>
   have ha:=h.st a (hl a ZP)
   have la:=h.lt a (hl a ZP)
   rw[Qa6,Xs,List.sum_append_nat,ih λx hx=>hl x (ZO _ hx),Qad,Qbk]
   congr 1
   show (if st a.1=a.1 then 0 else _)+((if st a.2=a.2 then 0 else (ch.filter (kN (st a.2,a.2)):))+0)=_
   rw[if_pos ha.1,if_neg (),ha.2,Qc9,Nat.add_zero]
 exact this ch λx hx=>hx
theorem CT{α:Type}(X:α->α->Bool)(hd:∀x,X x x=false)(ha:∀x z,X x z=true->X z x=false):∀l:List α,(l.map λx=>(l.filter (X x):)).sum=cl (λx z=>X x z||X z x) l:=λl=>by
 have key:∀(a:α) (l:List α),((l.filter λz=>X a z||X z a):)=(l.filter (X a):)+(l.map λz=>if X z a=true then 1 else 0).sum:=λa l=>by
  induction l with
  | nil=>rfl
  | cons b r ih=>
   have:=ha a b
   simp only[Qel,Qad,Qbk]
   cases e1:X a b<;>cases e2:X b a
   ·simp[ih]
   ·simp[ih];lia
   ·simp[ih];lia
   ·rw[this e1]at e2;cases e2
 induction l with
 | nil=>rfl
 | cons a r ih=>
  show (((a::r).map λx=>((a::r).filter (X x):)).sum)=((r.filter λz=>X a z||X z a):)+cl _ r
  rw[Qad,Qbk,Qao (by rw[hd a];decide),key a r, <-ih]
  have e:∀l:List α,(l.map λx=>((a::r).filter (X x):)).sum=(l.map λz=>if X z a=true then 1 else 0).sum+(l.map λx=>(r.filter (X x):)).sum:=λl=>by
   induction l with
   | nil=>rfl
   | cons b l UD=>
    rw[Qad,Qbk,UD,Qad,Qbk,Qad,Qbk]
    cases e1:X b a
    ·rw[Qao (by rw[e1];decide)]
     simp;lia
    ·rw[Qax e1]
     simp;lia
  rw[e r]
  lia
theorem QT(h:Fl ch st P):Hd st [] P=cl (λx z=>kN x z||kN z x) ch:=by
 rw[ME h,CT]
 ·intro x;unfold kN;rw[decide_eq_false (Qbe _)];rfl
 ·intro x z q
  unfold kN at q ⊢
  rw[Qa8,Qa8,decide_eq_true_iff,decide_eq_true_iff,decide_eq_true_iff]at q
  rw[decide_eq_false ()]
  rfl
end
noncomputable def KD(p q:Nat):Int:=if (q:Int)<p then q else p
noncomputable def eL(cs:List C4):Z:=cs.flatMap λx=>[x.2.2.1,x.2.2.2]
noncomputable def gs(cs:List C4):List (Key×V):=cs.flatMap λx=>[(Sum.inl (x.2.2.1:Int),V.int (KD x.2.2.1 x.2.2.2)),(Sum.inl (x.2.2.2:Int),V.int (KD x.2.2.1 x.2.2.2))]
noncomputable def oh(cs:List C4):List (Nat×Nat):=cs.map λx=>(min x.2.2.1 x.2.2.2,max x.2.2.1 x.2.2.2)
theorem g8:∀cs:List C4,(gs cs).map (·.1)=(eL cs).map λn:Nat=>(Sum.inl (n:Int):Key)
 | []=>rfl
 | x::r=>by
  unfold gs eL
  rw[Qa6,Qa6,Xs,Xs]
  exact congrArg _ (g8 r)
theorem xw{aH:List (Key×V)}{k:Key}(h:k∉aH.map (·.1)):dI aH k=none:=by
 induction aH with
 | nil=>rfl
 | cons a r ih=>
  rw[Qad,ZQ,not_or]at h
  rw[cF (λe=>h.1 e.symm),ih h.2]
theorem Fq{aH:List (Key×V)}(nd:(aH.map (·.1)).Nodup){k:Key}{v:V}(h:(k,v)∈aH):dI aH k=some v:=by
 induction aH with
 | nil=>exact absurd h kb
 | cons a r ih=>
  rw[Qad,Qa9]at nd
  rcases ZQ.mp h with e | e
  ·subst e;exact cO rfl
  ·rw[cF (λz=>nd.1 (Qam.mpr ⟨_,e,z.symm⟩))]
   exact ih nd.2 e
theorem MF:∀{l:Z},l.Nodup->(l.map λn:Nat=>(Sum.inl (n:Int):Key)).Nodup:=λ{l} h=>Qbl.mpr (h.imp λmV z=>mV (by have:=Sum.inl.inj z;lia))
noncomputable def ins(l:Z):List V:=l.map λn=>V.int (n:Nat)
theorem me(l:Z):(ins l:)=(l:):=by unfold ins;rw[NA]
theorem Fs(l:Z)(n:Nat):ins l++[V.int (n:Nat)]=ins (l++[n]):=by unfold ins;rw[Xs];rfl
theorem Ft{l:Z}{i n:Nat}(h:l[i]? =some n):(ins l)[i]? =some (V.int (n:Nat)):=by unfold ins;rw[ZN,h];rfl
def iK(_:Fr):Sp:=λvs H Q _=>∃(a:Addr) (qs:List Q4),vs=[.ref a]/\H a=some (.lst (CO qs))/\(∀x∈qs,rV H x)/\(qs:)<=1000/\(eL (qs.map Q4.v)).Nodup/\∀d H',H d=none->H' d=some (.dK (gs (qs.map Q4.v)))->aj H H'->Q (.ref d) H'
theorem ni{K:Fr}{vs:List V}{H:Hp}{Q:VK}{E:XK}(h:iK K vs H Q E):(vs:)=1:=by obtain ⟨_,_,rfl,_⟩:=h;rfl
def mf(_:Fr):Sp:=λvs H Q _=>∃(a:Addr) (l:Z) (p:Nat),vs=[.ref a,.int p]/\H a=some (.lst (ins l))/\l.Pairwise (· < ·)/\p∈l/\(l:)<=100000/\Q (.int (l.idxOf p:Nat)) H
theorem rW{K:Fr}{vs:List V}{H:Hp}{Q:VK}{E:XK}(h:mf K vs H Q E):(vs:)=2:=by obtain ⟨_,_,_,rfl,_⟩:=h;rfl
def gA(_:Fr):Sp:=λvs H Q _=>∃(a:Addr) (qs:List Q4),vs=[.ref a]/\H a=some (.lst (CO qs))/\(∀x∈qs,rV H x)/\(qs:)<=24/\(eL (qs.map Q4.v)).Nodup/\∀H',aj H H'->Q (.int (cl (λx z=>kN x z||kN z x) (oh (qs.map Q4.v)):Nat)) H'
theorem kE{K:Fr}{vs:List V}{H:Hp}{Q:VK}{E:XK}(h:gA K vs H Q E):(vs:)=1:=by obtain ⟨_,_,rfl,_⟩:=h;rfl
theorem CU(cs:List C4)(x:C4):eL (cs++[x])=eL cs++[x.2.2.1,x.2.2.2]:=by unfold eL;rw[Qbd,Qb8]
theorem CV(cs:List C4)(x:C4):gs (cs++[x])=gs cs++[(Sum.inl (x.2.2.1:Int),V.int (KD x.2.2.1 x.2.2.2)),(Sum.inl (x.2.2.2:Int),V.int (KD x.2.2.1 x.2.2.2))]:=by unfold gs;rw[Qbd,Qb8]
theorem xx(cs:List C4):(gs cs:)=2*(cs:):=by
 induction cs with
 | nil=>rfl
 | cons x r ih=>
  unfold gs at ih ⊢
  rw[Qa6,VG,ih,Qap]
  show 2+2*(r:)=2*((r:)+1)
  lia
theorem IW{cs:List C4}{x:C4}(nd:(eL (cs++[x])).Nodup):putK (putK (gs cs) (Sum.inl (x.2.2.1:Int)) (V.int (KD x.2.2.1 x.2.2.2))) (Sum.inl (x.2.2.2:Int)) (V.int (KD x.2.2.1 x.2.2.2))=gs (cs++[x]):=by
 rw[CU,Qbx]at nd
 obtain ⟨n1,n2,n3⟩:=nd
 have k:∀n:Nat,n∉eL cs->(Sum.inl (n:Int):Key)∉(gs cs).map (·.1):=λn hn z=>by
  rw[g8]at z
  obtain ⟨m,hm,e⟩:=Qam.mp z
  have:m=n:=by have:=Sum.inl.inj e;lia
  exact hn (this▸hm)
 have h1:x.2.2.1∉eL cs:=λz=>n3 _ z _ (by simp) rfl
 have h2:x.2.2.2∉eL cs:=λz=>n3 _ z _ (by simp) rfl
 have h3:x.2.2.1≠x.2.2.2:=by
  rw[Qa9]at n2
  simpa using n2.1
 rw[wK _ (xw (k _ h1)),wK,CV,Qbs]
 ·rfl
 ·refine xw λz=>?_
  rw[Xs,Qaa]at z
  rcases z with z | z
  ·exact k _ h2 z
  ·have:=Sum.inl.inj (VH.mp z)
   lia
noncomputable def cJ(cs:List C4)(p:Nat):Nat:=(((dI (gs cs) (Sum.inl (p:Int))).map λv=>match v with | .int i=>i.toNat | _=>0).getD 0)
theorem Fu(p q:Nat):KD p q=(min p q:Nat):=by unfold KD;split<;>lia
theorem KG{cs:List C4}(nd:(eL cs).Nodup){x:C4}(hx:x∈cs):(dI (gs cs) (Sum.inl (x.2.2.1:Int))=some (.int (min x.2.2.1 x.2.2.2:Nat))/\dI (gs cs) (Sum.inl (x.2.2.2:Int))=some (.int (min x.2.2.1 x.2.2.2:Nat)))/\cJ cs x.2.2.1=min x.2.2.1 x.2.2.2/\cJ cs x.2.2.2=min x.2.2.1 x.2.2.2:=by
 have kn:((gs cs).map (·.1)).Nodup:=by rw[g8];exact MF nd
 have e1:dI (gs cs) (Sum.inl (x.2.2.1:Int))=some (.int (min x.2.2.1 x.2.2.2:Nat)):=by
  rw[<-Fu]
  exact Fq kn (Qbc.mpr ⟨x,hx,by simp⟩)
 have e2:dI (gs cs) (Sum.inl (x.2.2.2:Int))=some (.int (min x.2.2.1 x.2.2.2:Nat)):=by
  rw[<-Fu]
  exact Fq kn (Qbc.mpr ⟨x,hx,by simp⟩)
 refine ⟨⟨e1,e2⟩,?_,?_⟩
 ·unfold cJ;rw[e1];exact Xt _
 ·unfold cJ;rw[e2];exact Xt _
theorem Bd(cs:List C4):((oh cs).flatMap λx=>[x.1,x.2]).Perm (eL cs):=by
 induction cs with
 | nil=>exact .nil
 | cons x r ih=>
  unfold oh eL at ih ⊢
  rw[Qad,Qa6,Qa6]
  refine List.Perm.append ?_ ih
  show [min x.2.2.1 x.2.2.2,max x.2.2.1 x.2.2.2].Perm [x.2.2.1,x.2.2.2]
  by_cases z:x.2.2.1<=x.2.2.2
  ·rw[Qbp z,Qcz z]
  ·rw[Qbr (),Qcq ()]
   exact List.Perm.swap _ _ _
theorem MG{cs:List C4}{P:Z}(nd:(eL cs).Nodup)(hp:P.Perm (eL cs))(up:P.Pairwise (· < ·)):Fl (oh cs) (cJ cs) P:=by
 refine ⟨λx hx=>?_,((Bd cs).nodup_iff).mpr nd,hp.trans (Bd cs).symm,up,λx hx=>?_⟩
 ·obtain ⟨c,hc,rfl⟩:=Qam.mp hx
  have cP:c.2.2.1≠c.2.2.2:=λz=>by
   have:∀{cs:List C4},(eL cs).Nodup->∀c∈cs,c.2.2.1≠c.2.2.2:=λ{cs}=>by
    induction cs with
    | nil=>exact λ_ _ h=>absurd h kb
    | cons a r ih=>
     intro nd c hc
     unfold eL at nd
     rw[Qa6,Qbx]at nd
     rcases ZQ.mp hc with e | e
     ·subst e
      have:=nd.1
      rw[Qa9]at this
      simpa using this.1
     ·exact ih nd.2.1 c e
   exact this nd c hc z
  show min c.2.2.1 c.2.2.2<max c.2.2.1 c.2.2.2
  lia
 ·obtain ⟨c,hc,rfl⟩:=Qam.mp hx
  obtain ⟨_,e1,e2⟩:=KG nd hc
  show cJ cs (min c.2.2.1 c.2.2.2)=min c.2.2.1 c.2.2.2/\cJ cs (max c.2.2.1 c.2.2.2)=min c.2.2.1 c.2.2.2
  by_cases z:c.2.2.1<=c.2.2.2
  ·rw[Qbp z,Qcz z]at*
   exact ⟨e1,e2⟩
  ·rw[Qbr (),Qcq ()]at*
   exact ⟨e2,e1⟩
theorem Fv{l:Z}{p:Nat}(h:p∈l):l.eraseIdx (l.idxOf p)=l.erase p:=(List.erase_eq_eraseIdx_of_idxOf rfl).symm
theorem behind{l:Z}(up:l.Pairwise (· < ·)){p:Nat}(h:p∈l):(l.erase p:) - l.idxOf p=((l.filter λx=>decide (p<x)):):=by
 induction l with
 | nil=>exact absurd h kb
 | cons a r ih=>
  rw[Qcc]at up
  by_cases z:a=p
  ·subst z
   rw[List.erase_cons_head,Qe9,Qao (by simp),List.filter_eq_self.mpr (λx hx=>decide_eq_true (up.1 x hx))]
   rfl
  ·have hr:=(ZQ.mp h).resolve_left (Ne.symm z)
   rw[List.erase_cons_tail (by simpa using z),Mm,if_neg z,Qao (by
    have:=up.1 p hr
    simp;lia), <-ih up.2 hr,Qap]
   lia
theorem MH{st:Nat->Nat}{P T R:Z}(h:P.Pairwise (· < ·))(e:P=T++R)(R':Z):(ph st T R').Pairwise (· < ·):=by
 rw[e,Qcu]at h
 exact h.1.filter _
theorem IX{st:Nat->Nat}{T R:Z}:(ph st T R:)<=T.length:=Qdt _ _
theorem MI{cs:List C4}(nd:(eL cs).Nodup){p:Nat}(hp:p∈eL cs):dI (gs cs) (Sum.inl (p:Int))=some (.int (cJ cs p:Nat)):=by
 unfold eL at hp
 obtain ⟨x,hx,e⟩:=Qbc.mp hp
 obtain ⟨⟨e1,e2⟩,e3,e4⟩:=KG nd hx
 have e':p=x.2.2.1\/p=x.2.2.2:=by simpa using e
 rcases e' with rfl | rfl
 ·rw[e1,e3]
 ·rw[e2,e4]
theorem zx{ms:List Int}{l:Z}(nd:l.Nodup)(hp:ms.Perm (l.map λn:Nat=>(n:Int)))(hw:ms.Pairwise λa b=> ¬b<a):∃P:Z,ms.map V.int=ins P/\P.Perm l/\P.Pairwise (· < ·):=by
 have Bb:∀m∈ms,∃n:Nat,m=n:=λm hm=>by
  obtain ⟨n,_,rfl⟩:=Qam.mp (hp.mem_iff.mp hm)
  exact ⟨n,rfl⟩
 have e1:ms=(ms.map Int.toNat).map λn:Nat=>(n:Int):=by
  rw[Qbo]
  refine (Qfy ms).symm.trans (Qb9 λm hm=>?_)
  obtain ⟨n,rfl⟩:=Bb m hm
  exact (congrArg _ (Xt n)).symm
 have p1:(ms.map Int.toNat).Perm l:=by
  have:=hp.map Int.toNat
  rw[Qbo]at this
  have e2:l.map (Int.toNat ∘ λn:Nat=>(n:Int))=l:=(Qb9 λn _=>Xt n).trans (Qfy l)
  rwa [e2]at this
 refine ⟨ms.map Int.toNat,?_,p1,?_⟩
 ·unfold ins
  conv=>lhs;rw[e1]
  rw[Qbo]
  rfl
 ·have R0:(ms.map Int.toNat).Nodup:=p1.nodup_iff.mpr nd
  have UE:(ms.map Int.toNat).Pairwise λa b=> ¬b<a:=by
   rw[e1,Qbl]at hw
   exact hw.imp λh z=>h ()
  refine Qfu (λ{a b} h=>?_) (List.Pairwise.and UE R0)
  have:=h.1
  have:=h.2
  lia
theorem Fx{st:Nat->Nat}{P:Z}{k p:Nat}(h:P[k]? =some p):Hd st (P.take k) (P.drop k)=CQ st (P.take k) (P.drop (k+1)) p+Hd st (P.take (k+1)) (P.drop (k+1)):=by
 obtain ⟨hk,e⟩:=LL.mp h
 rw[Qbn hk,e]
 show CQ st _ _ p+Hd st (P.take k++[p]) _=_
 rw[take_snoc h]
theorem QU{n k:Nat}(h:k<n):seqIndex? (k:Int) n=some k:=by
 unfold seqIndex?
 simp
 lia
theorem tR:∀(l:Z) (k:Nat),(ins l).eraseIdx k=ins (l.eraseIdx k)
 | [],_=>rfl
 | _::_,0=>rfl
 | a::l,k+1=>congrArg (V.int (a:Nat):: ·) (tR l k)
noncomputable def cst(y w:Z)(i:Int):Int:=xc y (aB (rd w (i - 1))) (rd w i)
theorem Fy(y w:Z)(p k:Int):fP y (sq w p) k=cst y w (p+k):=by
 unfold fP cst sq
 rw[show p+(k - 1)=p+k - 1 by lia]
noncomputable def x5(n:Int):Nat:=(48+n).toNat
noncomputable def stx(y w:Z):Z:=(List.range (w:)).map λi:Nat=>x5 (cst y w i)
theorem du(y w:Z):(stx y w:)=(w:):=by unfold stx;rw[NA,Qcv]
theorem MJ:∀n:Nat,n<10->dg n=[48+n]:=⋯
noncomputable def jv(lg n:Nat):Nat:=3+lg / max n 1
noncomputable def nj(y u:Z)(lg r:Nat):List (Str×V):=eA "backward" (.str (S (dj (jv lg (u:)) (stx y u).reverse))) (eA "onward" (.str (S (dj (jv lg (u:)) (stx y u)))) (eA "leads" (.bl (leads u)) (eA "root_size" (.int r) (eA "size" (.int (u:)) []))))
noncomputable def KH(t w:Addr)(p:Nat):List (Str×V):=eA "place" (.int p) (eA "way" (.ref w) (eA "strand" (.ref t) []))
section
variable{y u:Z}{lg r:Nat}{t w:Addr}{p:Nat}
theorem Be:(nj y u lg r).lookup ("size":Str)=some (.int (u:)):=by
 unfold nj
 rw[aI,if_neg ⋯,aI,if_neg ⋯,aI,if_neg ⋯,aI,if_neg ⋯,aI,if_pos rfl]
theorem pj:(nj y u lg r).lookup ("root_size":Str)=some (.int r):=by
 unfold nj
 rw[aI,if_neg ⋯,aI,if_neg ⋯,aI,if_neg ⋯,aI,if_pos rfl]
theorem Fz:(nj y u lg r).lookup ("leads":Str)=some (.bl (leads u)):=by
 unfold nj
 rw[aI,if_neg ⋯,aI,if_neg ⋯,aI,if_pos rfl]
theorem QV:(nj y u lg r).lookup ("onward":Str)=some (.str (S (dj (jv lg (u:)) (stx y u)))):=by
 unfold nj
 rw[aI,if_neg ⋯,aI,if_pos rfl]
theorem IZ:(nj y u lg r).lookup ("backward":Str)=some (.str (S (dj (jv lg (u:)) (stx y u).reverse))):=by
 unfold nj
 rw[aI,if_pos rfl]
theorem mh:(KH t w p).lookup ("place":Str)=some (.int p):=by unfold KH;rw[aI,if_pos rfl]
theorem nk:(KH t w p).lookup ("way":Str)=some (.ref w):=by unfold KH;rw[aI,if_neg ⋯,aI,if_pos rfl]
theorem tT:(KH t w p).lookup ("strand":Str)=some (.ref t):=by unfold KH;rw[aI,if_neg ⋯,aI,if_neg ⋯,aI,if_pos rfl]
end
theorem dm(f:Str)(v:V):∀fs:List (Str×V),(eA f v fs:)<=(fs:)+1
 | []=>RP _
 |(g,x)::r=>by
  unfold eA
  split
  ·exact Qcl _
  ·exact Qcm (dm f v r)
structure Sn where
 a:Addr
 t:Addr
 wy:Addr
 c:Nat
 i:Nat
 u:Z
 p:Nat
 r:Nat
structure CY(H:Hp)(C a:Addr)(y u:Z)(lg r:Nat):Prop where
 ob:∃dx,H a=some (.ins C dx (nj y u lg r))
 sw:SW y u
 uz:(u:)<=lg
 lz:lg<=1000
 rt:bT u r
theorem CY.same{H H':Hp}{C a:Addr}{y u:Z}{lg r:Nat}(h:CY H C a y u lg r)(s:aj H H'):CY H' C a y u lg r:=by
 obtain ⟨dx,e⟩:=h.ob
 exact ⟨⟨dx,s _ _ e⟩,h.sw,h.uz,h.lz,h.rt⟩
structure jw(H:Hp)(CW CS:Addr)(y:Z)(lg:Nat)(s:Sn):Prop where
 ob:∃dx,H s.a=some (.ins CS dx (KH s.t s.wy s.p))
 st:H s.t=some (.tup [.int s.c,.int s.i])
 wy:CY H CW s.wy y s.u lg s.r
 pz:s.p<(s.u:)
theorem jw.same{H H':Hp}{CW CS:Addr}{y:Z}{lg:Nat}{s:Sn}(h:jw H CW CS y lg s)(sm:aj H H'):jw H' CW CS y lg s:=by
 obtain ⟨dx,e⟩:=h.ob
 exact ⟨⟨dx,sm _ _ e⟩,sm _ _ h.st,h.wy.same sm,h.pz⟩
noncomputable def Dr(y:Z)(lg:Nat)(s:Sn):Z:=(dj (jv lg (s.u:)) (stx y s.u)).drop (s.p+1)
noncomputable def Ds(y:Z)(lg:Nat)(s:Sn):Z:=(dj (jv lg (s.u:)) (stx y s.u).reverse).drop ((s.u:) - 1 - s.p)
noncomputable def seg(l:Z)(x z:Nat):Z:=(l.drop x).take (z - x)
def iL(_:Fr):Sp:=λvs H Q _=>∃(y w:Z) (i:Nat),vs=[.str (S y),.str (S w),.int i]/\Yd y/\(y:)<=8/\SW y w/\(w:)<=1000/\i<(w:)/\∀(n:Nat) H',cst y w i=n->n<8->aj H H'->Q (.int n) H'
theorem nu{K:Fr}{vs:List V}{H:Hp}{Q:VK}{E:XK}(h:iL K vs H Q E):(vs:)=3:=by obtain ⟨_,_,_,rfl,_⟩:=h;rfl
def xA(_:Fr)(C:Addr):Sp:=λvs H Q _=>∃(x dx:Addr) (y w:Z) (lg:Nat),vs=[.ref x,.str (S y),.str (S w),.int lg]/\H x=some (.ins C dx [])/\Yd y/\(y:)<=8/\SW y w/\(w:)<=lg/\lg<=1000/\∀(r:Nat) H',bT w r->H' x=some (.ins C dx (nj y w lg r))->aO x H H'->Q .fQ H'
theorem CZ{K:Fr}{C:Addr}{vs:List V}{H:Hp}{Q:VK}{E:XK}(h:xA K C vs H Q E):(vs:)=4:=by obtain ⟨_,_,_,_,_,rfl,_⟩:=h;rfl
def tV(_:Fr)(C:Addr):Sp:=λvs H Q _=>∃(x dx t w:Addr) (p:Nat),vs=[.ref x,.ref t,.ref w,.int p]/\H x=some (.ins C dx [])/\∀H',H' x=some (.ins C dx (KH t w p))->aO x H H'->Q .fQ H'
theorem zy{K:Fr}{C:Addr}{vs:List V}{H:Hp}{Q:VK}{E:XK}(h:tV K C vs H Q E):(vs:)=4:=by obtain ⟨_,_,_,_,_,rfl,_⟩:=h;rfl
def gi(_:Fr)(CW CS:Addr):Sp:=λvs H Q _=>∃(y:Z) (lg:Nat) (s:Sn) (x z:Nat),vs=[.ref s.a,.int x,.int z]/\(y:)<=8/\jw H CW CS y lg s/\x<=z/\Q (.str (S (seg (Dr y lg s) x z))) H
theorem oN{K:Fr}{CW CS:Addr}{vs:List V}{H:Hp}{Q:VK}{E:XK}(h:gi K CW CS vs H Q E):(vs:)=3:=by obtain ⟨_,_,_,_,_,rfl,_⟩:=h;rfl
def gI(_:Fr)(CW CS:Addr):Sp:=λvs H Q _=>∃(y:Z) (lg:Nat) (s:Sn) (x z:Nat),vs=[.ref s.a,.int x,.int z]/\(y:)<=8/\jw H CW CS y lg s/\x<=z/\Q (.str (S (seg (Ds y lg s) x z))) H
theorem qH{K:Fr}{CW CS:Addr}{vs:List V}{H:Hp}{Q:VK}{E:XK}(h:gI K CW CS vs H Q E):(vs:)=3:=by obtain ⟨_,_,_,_,_,rfl,_⟩:=h;rfl
theorem I_{l:Z}{a b:Nat}(h:a<=b):cut l (some (a:Int)) (some (b:Int))=(l.drop a).take (b - a):=by
 unfold cut
 rw[HT.fR,HT.fR]
 by_cases z:a<=(l:)
 ·rw[Qbp z]
  by_cases z2:b<=(l:)
  ·rw[Qbp z2]
  ·rw[Qbr (),Qar (by rw[Qaw];lia),Qar (by rw[Qaw];lia)]
 ·rw[Qbr (),Qbr (),Qcj (RP _),Qcj ()]
  simp
theorem Bf{l:Z}{f x z:Nat}(h:x<=z):cut l (some ((f:Int)+x)) (some ((f:Int)+z))=seg (l.drop f) x z:=by
 rw[show (f:Int)+x=((f+x:Nat):Int) by lia,show (f:Int)+z=((f+z:Nat):Int) by lia,I_ ()]
 unfold seg
 rw[List.drop_drop,show f+z - (f+x)=z - x by lia]
theorem mi{lg n:Nat}(h:1<=n):n*jv lg n<=3*n+lg/\2*n+lg<n*jv lg n:=by
 unfold jv
 rw[Qcq h,Nat.mul_add]
 have h1:=Qd1 lg n
 have h2:=Qc0 lg (show 0<n by lia)
 lia
theorem tW(m:Nat)(l:Z):(dj m l:)=(l:)*m:=by
 unfold dj
 rw[List.length_flatten,List.map_replicate,List.sum_replicate_nat,Qcs]
theorem SW.dY{y w:Z}(hy:Yd y)(h:SW y w):My.dY w=fN w:=by unfold My.dY;rw[h.core hy]
theorem vq(l:Z)(x z j:Nat):(seg l x z)[j]? =if j<z - x then l[x+j]? else none:=by
 unfold seg
 rw[Qdk]
 split
 ·rw[Qcd]
 ·rfl
theorem zA{l m:Z}{x z:Nat}:seg l x (x+z)=seg m x (x+z)↔ ∀k,x<=k->k<x+z->l[k]? =m[k]?:= by
 constructor
 ·intro h k h1 h2
  have:=congrArg (·[k - x]?) h
  simp only[vq]at this
  rwa [if_pos (),if_pos (),show x+(k - x)=k by lia]at this
 ·intro h
  refine Qfs λj=>?_
  rw[vq,vq]
  by_cases z':j<x+z - x
  ·rw[if_pos z',if_pos z',h (x+j) () ()]
  ·rw[if_neg z',if_neg z']
noncomputable def MK(b:Bool)(y:Z)(lg:Nat)(s:Sn):Z:=if b=true then Dr y lg s else Ds y lg s
def jx(l m:Z)(n:Nat):Prop:=∀k,k<n->l[k]? =m[k]?
def qI(_:Fr)(CW CS fa fb:Addr):Sp:=λvs H Q _=>∃(y:Z) (lg:Nat) (s t:Sn) (b:Bool) (en:Nat),vs=[.ref (if b=true then fa else fb),.ref s.a,.ref t.a,.int en]/\(y:)<=8/\jw H CW CS y lg s/\jw H CW CS y lg t/\en<=100000/\∀m:Nat,jx (MK b y lg s) (MK b y lg t) m->(en<=m\/(MK b y lg s)[m]?≠ (MK b y lg t)[m]?)->Q (.int m) H
theorem xB{K:Fr}{CW CS fa fb:Addr}{vs:List V}{H:Hp}{Q:VK}{E:XK}(h:qI K CW CS fa fb vs H Q E):(vs:)=4:=by obtain ⟨_,_,_,_,_,_,rfl,_⟩:=h;rfl
theorem jx.more{l m:Z}{x z:Nat}(h:jx l m x)(e:seg l x (x+z)=seg m x (x+z)):jx l m (x+z):=λk hk=>by
 by_cases q:k<x
 ·exact h k q
 ·exact zA.mp e k () hk
theorem FA{l m:Z}{x z:Nat}(h:seg l x (x+z)≠seg m x (x+z)):∃k,x<=k/\k<x+z/\l[k]?≠ m[k]?:= Classical.byContradiction λq=>h (zA.mpr λk h1 h2=>Classical.byContradiction λr=>q ⟨k,h1,h2,r⟩)
noncomputable def zB(s:Sn):Int×Int:=if leads s.u=true then ((s.c:Int),((s.p / s.r:Nat):Int)) else (-(s.c:Int), -((((s.u:) - 1 - s.p) / s.r:Nat):Int))
def qJ(_:Fr)(CW CS:Addr):Sp:=λvs H Q _=>∃(y:Z) (lg:Nat) (s:Sn),vs=[.ref s.a]/\jw H CW CS y lg s/\∀p H',H p=none->H' p=some (.tup [.int (zB s).1,.int (zB s).2])->aj H H'->Q (.ref p) H'
theorem xC{K:Fr}{CW CS:Addr}{vs:List V}{H:Hp}{Q:VK}{E:XK}(h:qJ K CW CS vs H Q E):(vs:)=1:=by obtain ⟨_,_,_,rfl,_⟩:=h;rfl
noncomputable def j4(y:Z)(M:Nat)(s:Sn):List Int:=kk y (sq s.u s.p) 0 M++[(zB s).1,(zB s).2]
def jy(_:Fr)(CW CS:Addr):Sp:=λvs H Q _=>∃(y:Z) (lg:Nat) (s t:Sn),vs=[.ref s.a,.ref t.a]/\Yd y/\(y:)<=8/\jw H CW CS y lg s/\jw H CW CS y lg t/\rd s.u s.p=rd t.u t.p/\∀H',aj H H'->Q (.bl (bP (j4 y (2*lg) s) (j4 y (2*lg) t))) H'
theorem oO{K:Fr}{CW CS:Addr}{vs:List V}{H:Hp}{Q:VK}{E:XK}(h:jy K CW CS vs H Q E):(vs:)=2:=by obtain ⟨_,_,_,_,rfl,_⟩:=h;rfl
theorem jz{u:Z}{r:Nat}(hn:u≠[])(h:bT u r):1<=r/\r<=(u:):=by
 rcases h with ⟨z,_⟩ | ⟨h1,h2,_⟩
 ·exact absurd z hn
 ·exact ⟨h1,h2⟩
theorem Bg{y u:Z}{i:Nat}(h:i<(u:)):(stx y u)[i]? =some (x5 (cst y u i)):=by
 unfold stx
 rw[ZN,List.getElem?_range h]
 rfl
theorem vv(y u:Z)(i:Int):cst y u (i%(u:))=cst y u i:=by
 unfold cst
 rw[gg, <-gg u (i%(u:) - 1),Qd5,Qc8 _ (Qfv _), <-Qd5,gg]
theorem FC{y:Z}{lg:Nat}{s:Sn}(hn:s.u≠[]){k:Nat}(h:s.p+1+k<(s.u:)*jv lg (s.u:)):(Dr y lg s)[k]? =some (x5 (fP y (sq s.u s.p) (k+1))):=by
 have hp:=VJ.mpr hn
 unfold Dr
 rw[Qcd,lO _ _ _ (by rw[du,Qcs];exact h),du,Bg (Qc0 _ hp),Fy,Qem,vv]
 congr 3
 lia
theorem FD{y:Z}{lg:Nat}{s:Sn}(hn:s.u≠[])(hp:s.p<(s.u:)){k:Nat}(h:(s.u:) - 1 - s.p+k<(s.u:)*jv lg (s.u:)):(Ds y lg s)[k]? =some (x5 (fP y (sq s.u s.p) (-(k:Int)))):=by
 have hl:=VJ.mpr hn
 unfold Ds
 rw[Qcd,lO _ _ _ (by rw[Qa1,du,Qcs];exact h),Qa1,du]
 have hm:=Qc0 ((s.u:) - 1 - s.p+k) hl
 rw[Qco (by rw[du];exact hm),du,Bg (),Fy]
 congr 2
 rw[<-vv y s.u (s.p+ -(k:Int)), <-vv y s.u (((s.u:) - 1 - ((s.u:) - 1 - s.p+k)%(s.u:):Nat):Int)]
 congr 1
 have e:(((s.u:) - 1 - ((s.u:) - 1 - s.p+k)%(s.u:):Nat):Int)=((s.u:):Int) - 1 - (((s.u:):Int) - 1 - s.p+k)%(s.u:):=by
  have:((((s.u:) - 1 - s.p+k)%(s.u:):Nat):Int)=(((s.u:):Int) - 1 - s.p+k)%(s.u:):=by
   rw[Qem];congr 1;lia
  lia
 rw[e,Qd5,Qc8 _ (Qfv _), <-Qd5]
 congr 1
 lia
theorem tX{lg:Nat}{s:Sn}{en:Nat}(hp:s.p<(s.u:))(he:en<=(s.u:)+lg):s.p+1+en<(s.u:)*jv lg (s.u:)+1/\(s.u:) - 1 - s.p+en<(s.u:)*jv lg (s.u:):=by
 have:=(mi (lg:=lg) (n:=(s.u:)) ()).2
 lia
theorem Bh{u:Z}{r:Nat}(hn:u≠[])(h:bT u r)(p k:Int):sq u p (k+r)=sq u p k:=by
 have:=((jt hn h).2 (p+r) p).mpr (by rw[show p+(r:Int) - p=r by lia,Int.emod_self])
 have e:=this k
 unfold sq at e ⊢
 rw[show p+(k+r)=p+r+k by lia]
 exact e
theorem Bi{a b:Int}(ha:0<=a)(hb:0<=b)(h:x5 a=x5 b):a=b:=by unfold x5 at h;lia
theorem FE{a b:Int}(ha:0<=a)(hb:0<=b):x5 a<x5 b↔a<b:=by unfold x5;lia
theorem Bj{y:Z}{f:Int->Nat}(hy:Yd y)(h:iX y f)(k:Int):0<=fP y f k:=by
 have:=(eY (hy.cl _ (h.bU (k - 1))) (h.bU k) (Ne.symm (h.red k))).1
 unfold fP
 lia
theorem Bk{l m:Z}{en a n:Nat}(ha:a<en)(h1:∀k,k<a->l[k]? =m[k]?)(h2:l[a]?≠ m[a]?)(g1:jx l m n)(g2:en<=n\/l[n]?≠ m[n]?):n=a:=by
 by_cases z:a<n
 ·exact absurd (g1 a z) h2
 ·by_cases z2:n<a
  ·rcases g2 with g2 | g2
   ·lia
   ·exact absurd (h1 n z2) g2
  ·lia
theorem Bl{l m:Z}{en n:Nat}(h1:∀k,k<en->l[k]? =m[k]?)(g2:en<=n\/l[n]?≠ m[n]?):en<=n:=by
 rcases g2 with g2 | g2
 ·exact g2
 ·exact Classical.byContradiction λz=>g2 (h1 n ())
theorem pq{l:Z}{a x:Nat}(h:l[a]? =some x):seg l a (a+1)=[x]:=by
 obtain ⟨ha,e⟩:=LL.mp h
 unfold seg
 rw[Qbn ha,e,show a+1 - a=1 by lia]
 rfl
theorem FF(x z:Nat):decide ([x]<[z])=decide (x<z):=decide_eq_decide.mpr ⟨λh=>(Qe5.mp h).elim id λq=>absurd q.2 (Qdo _),λh=>Qe5.mpr (.inl h)⟩
theorem Ja(a b c d:Int):rM a b c d=bP [a,b] [c,d]:=by
 unfold rM
 show _=if a=c then (if b=d then bP [] [] else decide (b<d)) else decide (a<c)
 by_cases z:a=c
 ·rw[if_pos z,if_pos z]
  by_cases q:b=d
  ·rw[if_pos q,q];simp[bP]
  ·rw[if_neg q]
 ·rw[if_neg z,if_neg z]
noncomputable def Bm(ss:List Sn):List V:=ss.map λs=>V.ref s.a
theorem mj(ss:List Sn):(Bm ss:)=(ss:):=by unfold Bm;rw[NA]
theorem ML{ss:List Sn}{i:Nat}{s:Sn}(h:ss[i]? =some s):(Bm ss)[i]? =some (V.ref s.a):=by unfold Bm;rw[ZN,h];rfl
theorem Jb{ss:List Sn}{i:Nat}{x:V}(h:(Bm ss)[i]? =some x):∃s,ss[i]? =some s/\x=V.ref s.a:=by
 unfold Bm at h
 rw[ZN]at h
 cases e:ss[i]? with
 | none=>rw[e]at h;cases h
 | some p=>rw[e]at h;cases h;exact ⟨p,rfl,rfl⟩
def C0(y:Z)(M:Nat)(ss:List Sn):Prop:=ss.Pairwise λs t=>bP (j4 y M t) (j4 y M s)=false
def iM(_:Fr)(CW CS:Addr):Sp:=λvs H Q _=>∃(y:Z) (lg:Nat) (a:Addr) (ss:List Sn) (t:Sn),vs=[.ref a,.ref t.a]/\Yd y/\(y:)<=8/\H a=some (.lst (Bm ss))/\(∀s∈ss,jw H CW CS y lg s/\rd s.u s.p=rd t.u t.p)/\jw H CW CS y lg t/\C0 y (2*lg) ss/\(ss:)<=100000/\
 ∀(n:Nat) H',n<=(ss:)->(∀k s,ss[k]? =some s->k<n->bP (j4 y (2*lg) s) (j4 y (2*lg) t)=true)->(∀k s,ss[k]? =some s->n<=k->bP (j4 y (2*lg) s) (j4 y (2*lg) t)=false)->aj H H'->Q (.int n) H'
theorem ny{K:Fr}{CW CS:Addr}{vs:List V}{H:Hp}{Q:VK}{E:XK}(h:iM K CW CS vs H Q E):(vs:)=2:=by obtain ⟨_,_,_,_,_,rfl,_⟩:=h;rfl
structure Wp where
 t:Addr
 a:Addr
 b:Addr
 r:Nat
 q:Nat
noncomputable def He(l:List Wp):List V:=l.map λp=>V.ref p.t
theorem FG{l:List Wp}{i:Nat}{p:Wp}(h:l[i]? =some p):(He l)[i]? =some (V.ref p.t):=by unfold He;rw[ZN,h];rfl
theorem FH(l:List Wp)(p:Wp):He l++[V.ref p.t]=He (l++[p]):=by unfold He;rw[Xs];rfl
structure vw(H:Hp)(C:Addr)(y:Z)(lg:Nat)(w:Z)(p:Wp):Prop where
 tp:H p.t=some (.tup [.ref p.a,.ref p.b])
 on:CY H C p.a y w lg p.r
 bk:CY H C p.b y (gQ w) lg p.q
theorem vw.same{H H':Hp}{C:Addr}{y:Z}{lg:Nat}{w:Z}{p:Wp}(h:vw H C y lg w p)(s:aj H H'):vw H' C y lg w p:=⟨s _ _ h.tp,h.on.same s,h.bk.same s⟩
structure zC(w:Z)(c i:Nat)(s:Sn):Prop where
 ec:s.c=c
 ei:s.i=i
 eu:s.u=if ay (rd w i)=true then w else gQ w
 ep:s.p=if ay (rd w i)=true then i else (w:) - 1 - i
def jA(_:Fr)(CW CS:Addr):Sp:=λvs H Q _=>∃(y:Z) (lg:Nat) (wt vt st:Addr) (w:Z) (ws:List Z) (mF:List Wp) (p:Wp) (c i:Nat),vs=[.ref wt,.ref vt,.ref st]/\Yd y/\H wt=some (.tup (j7 ws))/\H vt=some (.lst (He mF))/\H st=some (.tup [.int c,.int i])/\ws[c]? =some w/\mF[c]? =some p/\vw H CW y lg w p/\i<(w:)/\
 ∀(s:Sn) H',zC w c i s->s.t=st->jw H' CW CS y lg s->H s.a=none->aj H H'->Q (.ref s.a) H'
theorem oP{K:Fr}{CW CS:Addr}{vs:List V}{H:Hp}{Q:VK}{E:XK}(h:jA K CW CS vs H Q E):(vs:)=3:=by obtain ⟨_,_,_,_,_,_,_,_,_,_,_,rfl,_⟩:=h;rfl
def j9(_:Fr):Sp:=λvs H Q _=>∃(wt:Addr) (ws:List Z) (band:Nat),vs=[.ref wt,.str (S [band])]/\H wt=some (.tup (j7 ws))/\(ws:)<=4/\(∀w∈ws,(∀c∈w,Lt c)/\(w:)<=12)/\band∈aL/\∀(q:Addr) (ps:List Pr) (H':Hp),H q=none->H' q=some (.lst (iA ps))->(∀p∈ps,iT H' p)->ps.map Pr.pair=bV band ws (ws:)->aj H H'->Q (.ref q) H'
theorem qK{K:Fr}{vs:List V}{H:Hp}{Q:VK}{E:XK}(h:j9 K vs H Q E):(vs:)=2:=by obtain ⟨c,_,_,rfl,_⟩:=h;rfl
open Classical in
noncomputable def R6(w:Z):Nat:=if h:∃s,bT w s then choose h else 0
theorem zD{w:Z}(hn:w≠[]):bT w (R6 w):=by
 have h:=AL hn
 unfold R6
 rw[dif_pos h]
 exact Classical.choose_spec h
theorem FI{y w:Z}{r q:Nat}(hy:Yd y)(hw:SW y w)(h:bT w r)(g:bT (gQ w) q):q=r:=by
 have hn:=hw.ne
 have ht:=qA hn
 have p1:=jz hn h
 have p2:=jz ht g
 have key:∀d:Nat,(d:Int)%(r:Int)=0↔(d:Int)%(q:Int)=0:=λd=>by
  have a:=(jt hn h).2 d 0
  have b:=(jt ht g).2 d 0
  rw[Qez]at a b
  rw[<-a, <-b]
  constructor
  ·intro p k
   rw[jQ hn,jQ hn]
   unfold bq
   have:=p (-1 - (d:Int) - k)
   unfold sq at this
   have e1:rd w (-1 - (0:Int) - k)=rd w ((d:Int)+(-1 - (d:Int) - k)):=by congr 1;lia
   have e2:rd w (-1 - (d:Int) - k)=rd w (0+(-1 - (d:Int) - k)):=by congr 1;lia
   rw[e1,e2,this]
  ·intro p k
   have e:∀x:Int,rd w x=aB (rd (gQ w) (-1 - x)):=λx=>by
    rw[m3 hn,show -1 - (-1 - x)=x by lia,aK (hy.lt _ (hw.rd _))]
   unfold sq
   rw[e,e]
   have:=p (-1 - (d:Int) - k)
   unfold sq at this
   rw[show -1 - ((d:Int)+k)=0+(-1 - (d:Int) - k) by lia, <-this]
   congr 2
   lia
 have a:=(key r).mp (Int.emod_self)
 have b:=(key q).mpr (Int.emod_self)
 have a':r%q=0:=by
  have:((r%q:Nat):Int)=0:=by rw[<-a];rfl
  lia
 have b':q%r=0:=by
  have:((q%r:Nat):Int)=0:=by rw[<-b];rfl
  lia
 exact Qfz (Nat.le_of_dvd () (Nat.dvd_of_mod_eq_zero a')) (Nat.le_of_dvd () (Nat.dvd_of_mod_eq_zero b'))
noncomputable def FJ(ws:List Z)(c:Nat):Bool:=leads (ws|||c)
noncomputable def FK(ws:List Z)(c:Nat):Nat:=R6 (ws|||c)
noncomputable def R7(y:Z)(ws:List Z)(M:Nat)(x:Nat×Nat):List Int:=eK y ws (FJ ws) (FK ws) M x.1 x.2
theorem zC.line{y w:Z}{c i:Nat}{s:Sn}(hy:Yd y)(hw:SW y w)(hi:i<(w:))(h:zC w c i s):sq s.u s.p=mE w i:=by
 rw[h.eu,h.ep]
 unfold mE
 by_cases z:ay (rd w i)=true
 ·rw[if_pos z,if_pos z,if_pos z]
 ·rw[if_neg z,if_neg z,if_neg z, <-Mn hw.ne,show (((w:) - 1 - i:Nat):Int)=((w:):Int) - 1 - i by lia]
theorem Bn{y w:Z}{ws:List Z}{c i M:Nat}{s:Sn}(hy:Yd y)(hw:SW y w)(hi:i<(w:))(e:(ws|||c)=w)(h:zC w c i s)(rt:bT s.u s.r):j4 y M s=R7 y ws M (c,i):=by
 unfold j4 R7 eK
 rw[h.line hy hw hi]
 simp only[e]
 congr 1
 unfold zB G8 FJ FK
 rw[e,h.ec]
 have wj:=zD hw.ne
 by_cases z:ay (rd w i)=true
 ·have eu:s.u=w:=by rw[h.eu,if_pos z]
  have ep:s.p=i:=by rw[h.ep,if_pos z]
  rw[eu]at rt ⊢
  have er:=EJ hw.ne rt wj
  rw[er,ep,z]
  by_cases l:leads w=true
  ·rw[if_pos l,l];rfl
  ·rw[if_neg l,if_neg (λq=>l q.symm)];rfl
 ·have eu:s.u=gQ w:=by rw[h.eu,if_neg z]
  have ep:s.p=(w:) - 1 - i:=by rw[h.ep,if_neg z]
  rw[eu]at rt ⊢
  have er:=FI hy hw wj rt
  have z':ay (rd w i)=false:=by simpa using z
  rw[er,ep,z',tN hy hw,cC]
  have ei:(w:) - 1 - ((w:) - 1 - i)=i:=by lia
  rw[ei]
  cases leads w<;>rfl
theorem zC.band{y w:Z}{c i band:Nat}{s:Sn}(hy:Yd y)(hw:SW y w)(hi:i<(w:))(hb:band∈aL)(ho:rT band (rd w i)=true)(h:zC w c i s):rd s.u s.p=band:=by
 have lb:Lt band:= .inl hb
 have lo:ay band=true:=by rw[f_ lb];exact decide_eq_true hb
 have kO:rd w i=band\/rd w i=aB band:=by
  unfold rT at ho
  simpa using ho
 rw[h.eu,h.ep]
 rcases kO with e | e
 ·rw[if_pos (by rw[e];exact lo),if_pos (by rw[e];exact lo)]
  exact e
 ·have z: ¬ay (rd w i)=true:=by rw[e,fh _ lb.mem,lo];decide
  rw[if_neg z,if_neg z,m3 hw.ne,show -1 - (((w:) - 1 - i:Nat):Int)=i - (w:) by lia,y7,e,aK lb]
def C1(y:Z)(ws:List Z)(M:Nat)(l:List (Nat×Nat)):Prop:=l.Pairwise λs t=>bP (R7 y ws M t) (R7 y ws M s)=false
def j_(_:Fr)(CW CS:Addr):Sp:=λvs H Q _=>∃(y:Z) (lg:Nat) (wt vt:Addr) (ws:List Z) (mF:List Wp) (band:Nat),vs=[.ref wt,.ref vt,.str (S [band])]/\Yd y/\(y:)<=8/\H wt=some (.tup (j7 ws))/\(ws:)<=4/\(∀w∈ws,SW y w/\(w:)<=12)/\band∈aL/\H vt=some (.lst (He mF))/\(mF:)=(ws:)/\(∀(c:Nat) (w:Z) (p:Wp),ws[c]? =some w->mF[c]? =some p->vw H CW y lg w p)/\
 ∀(q:Addr) (ps:List Pr) (H':Hp),H q=none->H' q=some (.tup (iA ps))->(∀p∈ps,iT H' p)->(ps.map Pr.pair).Perm (bV band ws (ws:))->C1 y ws (2*lg) (ps.map Pr.pair)->aj H H'->Q (.ref q) H'
theorem qL{K:Fr}{CW CS:Addr}{vs:List V}{H:Hp}{Q:VK}{E:XK}(h:j_ K CW CS vs H Q E):(vs:)=3:=by obtain ⟨_,_,_,_,_,_,_,rfl,_⟩:=h;rfl
theorem MM{y:Z}{M:Nat}{ss:List Sn}{t:Sn}{n:Nat}(up:C0 y M ss)(h1:∀k s,ss[k]? =some s->k<n->bP (j4 y M s) (j4 y M t)=true)(h2:∀k s,ss[k]? =some s->n<=k->bP (j4 y M s) (j4 y M t)=false):C0 y M (ss.take n++t::ss.drop n):=by
 have tk:∀s∈ss.take n,bP (j4 y M s) (j4 y M t)=true:=λs hs=>by
  obtain ⟨k,hk,e⟩:=Qcy hs
  rw[Qai]at hk
  rw[List.getElem_take]at e
  exact h1 k s (by rw[<-e];exact LK ()) ()
 have dr:∀s∈ss.drop n,bP (j4 y M s) (j4 y M t)=false:=λs hs=>by
  obtain ⟨k,hk,e⟩:=Qcy hs
  rw[Qaw]at hk
  rw[List.getElem_drop]at e
  exact h2 (n+k) s (by rw[<-e];exact LK ()) ()
 have UG:C0 y M (ss.take n++ss.drop n):=by rw[Qby];exact up
 unfold C0 at UG ⊢
 rw[Qcu]at UG ⊢
 rw[Qcc]
 obtain ⟨u1,u2,u3⟩:=UG
 refine ⟨u1,⟨λs hs=>dr s hs,u2⟩,λa ha b hb=>?_⟩
 rcases ZQ.mp hb with e | e
 ·rw[e];exact (m4 (tk a ha)).1
 ·exact u3 a ha b e
theorem gB(band:Nat){ws:List Z}(hw:∀w∈ws,(w:)<=12):∀n,n<=(ws:)->(bV band ws n:)<=12*n
 | 0,_=>Qac _
 | n+1,h=>by
  have ih:=gB band hw n ()
  unfold bV at ih ⊢
  rw[Qbq,Qbd,VG,Qb8]
  have h1:(gz band n (ws|||n) ((ws|||n):):)<=12:=by
   unfold gz
   rw[NA]
   refine Qak (Qdt _ _) ?_
   rw[Qcv]
   exact hw _ (getD_in ())
  lia
theorem zE{band:Nat}{ws:List Z}{x:Nat×Nat}(h:x∈bV band ws (ws:)):∃w,ws[x.1]? =some w/\x.2<(w:)/\rT band (rd w x.2)=true:=by
 unfold bV at h
 obtain ⟨c,hc,h⟩:=Qbc.mp h
 have rB:=Qav.mp hc
 unfold gz at h
 obtain ⟨i,hi,e⟩:=Qam.mp h
 obtain ⟨i1,i2⟩:=Qaz.mp hi
 have V7:=Qav.mp i1
 subst e
 refine ⟨(ws|||c),by rw[Xw,LK rB];rfl,V7,?_⟩
 have:(ws|||c).getD i 0=rd (ws|||c) i:=by
  have:=mZ V7
  rw[Xw,this];rfl
 show rT band (rd (ws|||c) i)=true
 rw[<-this]
 exact i2
theorem tY{H H':Hp}{x dx C:Addr}(nx:H x=none)(MN:H dx=none)(sm:aO x (L2.upd (L2.upd H dx (.own x)) x (.ins C dx [])) H'):aj H H':=λa o e=>by
 refine sm a o ?_ (ao e nx)
 rw[ar (ao e nx),ar (ao e MN)]
 exact e
noncomputable def Jc(ws:List Z):List Int:=ws.map λw=>((w:):Int)
theorem Jd(l:List Int):∀a:Int,a<=l.foldl (λx y=>if y>x then y else x) a/\(∀x∈l,x<=l.foldl (λx y=>if y>x then y else x) a)/\(l.foldl (λx y=>if y>x then y else x) a=a\/l.foldl (λx y=>if y>x then y else x) a∈l):=by
 induction l with
 | nil=>exact λa=>⟨Qfb _,λ_ h=>absurd h kb,.inl rfl⟩
 | cons b r ih=>
  intro a
  rw[Qd3]
  obtain ⟨h1,h2,h3⟩:=ih (if b>a then b else a)
  have h4:a<=(if b>a then b else a)/\b<=(if b>a then b else a):=by split<;>lia
  refine ⟨(),λx hx=>?_,?_⟩
  ·rcases ZQ.mp hx with e | e
   ·rw[e];lia
   ·exact h2 x e
  ·rcases h3 with e | e
   ·rw[e]
    split
    ·exact .inr ZP
    ·exact .inl rfl
   ·exact .inr (ZO _ e)
theorem zF{ws:List Z}(h:∀w∈ws,(w:)<=12):∃lg:Nat,Mc 0 (Jc ws)=lg/\lg<=12/\∀w∈ws,(w:)<=lg:=by
 cases ws with
 | nil=>exact ⟨0,rfl,∅,λ_ h=>absurd h kb⟩
 | cons v r=>
  obtain ⟨h1,h2,h3⟩:=Jd (Jc r) ((v:):Int)
  have e:Mc 0 (Jc (v::r))=(Jc r).foldl (λx y=>if y>x then y else x) ((v:):Int):=rfl
  rw[e]
  generalize (Jc r).foldl (λx y=>if y>x then y else x) ((v:):Int)=m at*
  have hm:∃w∈v::r,m=((w:):Int):=by
   rcases h3 with q | q
   ·exact ⟨v,ZP,q⟩
   ·obtain ⟨w,hw,e'⟩:=Qam.mp q
    exact ⟨w,ZO _ hw,e'.symm⟩
  obtain ⟨w,hw,rfl⟩:=hm
  refine ⟨(w:),rfl,h w hw,λu hu=>?_⟩
  rcases ZQ.mp hu with q | q
  ·rw[q];lia
  ·have:=h2 _ (Qam.mpr ⟨u,q,rfl⟩)
   lia
def ml(y:Z)(ws:List Z)(os:List Od):Prop:=∃M,(∀w∈ws,∀v∈ws,(w:)+(v:)<=M)/\iU y ws os/\∀o∈os,C1 y ws M (o.ps.map Pr.pair)
def Bo(_:Fr):Sp:=λvs H Q _=>∃(y:Z) (wt:Addr) (ws:List Z),vs=[.str (S y),.ref wt]/\Yd y/\(y:)<=8/\H wt=some (.tup (j7 ws))/\(ws:)<=4/\(∀w∈ws,SW y w/\(w:)<=12)/\∀(dr:Addr) (os:List Od) (H':Hp),qC H' dr ws os->ml y ws os->aj H H'->Q (.ref dr) H'
theorem FL{K:Fr}{vs:List V}{H:Hp}{Q:VK}{E:XK}(h:Bo K vs H Q E):(vs:)=2:=by obtain ⟨_,_,_,rfl,_⟩:=h;rfl
theorem Je{H:Hp}{C:Addr}{y:Z}{lg i:Nat}{ws:List Z}{mF:List Wp}{w:Z}{p:Wp}(hl:(mF:)=i)(h:∀(c:Nat) (w:Z) (p:Wp),ws[c]? =some w->mF[c]? =some p->vw H C y lg w p)(hw:ws[i]? =some w)(hp:vw H C y lg w p):∀(c:Nat) (w:Z) (q:Wp),ws[c]? =some w->(mF++[p])[c]? =some q->vw H C y lg w q:=λc v q hv hq=>by
 by_cases z:c<(mF:)
 ·rw[Qa0 z]at hq
  exact h c v q hv hq
 ·rw[Qa5 ()]at hq
  have:c=i:=by
   have:=(LL.mp hq).1
   simp at this
   lia
  subst this
  rw[hl,Qew]at hq
  rw[hw]at hv
  cases hv
  cases hq
  exact hp
theorem xD{y:Z}(h:Yd y){b:Nat}(hb:b∈cq y):b∈aL:=by
 obtain ⟨h1,h2⟩:=Qaz.mp ((dq y).mem_iff.mp hb)
 rw[f_ (h.lt b h1)]at h2
 exact of_decide_eq_true h2
theorem FN{y:Z}{ws:List Z}{L:Nat->Bool}{r:Nat->Nat}{M:Nat}(h:cy y ws L r M){c i d j x:Nat}(hc:c<(ws:))(hd:d<(ws:))(hi:i<((ws|||c):))(hj:j<((ws|||d):))(cP:(c,i)≠(d,j))(hx:ay x=true)(e1:rd (ws|||c) i=x\/rd (ws|||c) i=aB x)(e2:rd (ws|||d) j=x\/rd (ws|||d) j=aB x):
  bP (eK y ws L r M c i) (eK y ws L r M d j)=true\/bP (eK y ws L r M d j) (eK y ws L r M c i)=true:=by
 have hw:=h.sw c hc
 have hv:=h.sw d hd
 have hy:=h.yd
 walk_at"P"
 have lv:=VJ.mpr hv.ne
 have xs:∀{w:Z} {k:Nat},SW y w->(rd w k=x\/rd w k=aB x)->Lt x:=λ{w k} hw e=>by
  have h9:97<=x/\x<=122:=by unfold ay at hx;simpa using hx
  refine .inl ?_
  have:∀k,k<26->k+97∈aL:=by decide
  have h8:=this (x - 97) ()
  rwa [show x - 97+97=x by lia]at h8
 have lx:=xs hw e1
 have rQ:∀{w:Z} {k:Nat},SW y w->Dl w k (mE w k)/\((rd w k=x\/rd w k=aB x)->mE w k 0=x)/\(mE w k=if ay (rd w k)=true then sq w k else bq w k):=λ{w k} hw=>by
  refine ⟨?_,λe=>?_,rfl⟩
  ·unfold mE
   by_cases z:ay (rd w k)=true
   ·rw[if_pos z];exact .inl rfl
   ·rw[if_neg z];exact .inr rfl
  ·unfold mE
   rcases e with e | e
   ·rw[if_pos (by rw[e];exact hx)]
    unfold sq
    rw[Qd7];exact e
   ·have z: ¬ay (rd w k)=true:=by rw[e,fh _ lx.mem,hx];decide
    rw[if_neg z]
    unfold bq
    rw[Qez,e,aK lx]
 obtain ⟨df,f0,fe⟩:=rQ (k:=i) hw
 obtain ⟨Yn,g0,ge⟩:=rQ (k:=j) hv
 have lf:=df.rQ hy hw
 have lg:=Yn.rQ hy hv
 by_cases par:∀k,mE (ws|||c) i k=mE (ws|||d) j k
 ·unfold eK
  rw[show mE (ws|||c) i=mE (ws|||d) j from funext par,fE,fE]
  by_cases cd:c=d
  ·subst cd
   have ij:i≠j:=λz=>cP (by rw[z])
   obtain ⟨h1,h2⟩:=h.root hc
   have hr:=h.rp c hc
   -- one and GW same way
   have low:ay (rd (ws|||c) i)=ay (rd (ws|||c) j):=by
    by_cases z1:ay (rd (ws|||c) i)=true<;>by_cases z2:ay (rd (ws|||c) j)=true
    ·rw[z1,z2]
    ·exfalso
     rw[fe,ge,if_pos z1,if_neg z2]at par
     exact u_ hy hw _ _ par
    ·exfalso
     rw[fe,ge,if_neg z1,if_pos z2]at par
     exact u_ hy hw _ _ λk=>(par k).symm
    ·rw[show ay (rd (ws|||c) i)=false by simpa using z1,show ay (rd (ws|||c) j)=false by simpa using z2]
   have ps:bI (ws|||c) (ws|||c) i j:=by
    by_cases z1:ay (rd (ws|||c) i)=true
    ·have z2:ay (rd (ws|||c) j)=true:=by rw[<-low];exact z1
     rw[fe,ge,if_pos z1,if_pos z2]at par
     exact par
    ·have z2: ¬ay (rd (ws|||c) j)=true:=by rw[<-low];exact z1
     rw[fe,ge,if_neg z1,if_neg z2]at par
     have e:=congrArg jM (funext par)
     rw[<-fD, <-fD,tH hy (bg hw _),tH hy (bg hw _)]at e
     exact λk=>congrFun e k
   have q:=(h.rr c hc _ _).mp ps
   have II:i%r c=j%r c:=by
    have q2:=Qch.mpr q
    have q3:((i%r c:Nat):Int)=((j%r c:Nat):Int):=q2
    lia
   have k1:= @ze ((ws|||c):) _ (r c) c i j (L c) (ay (rd (ws|||c) j)) hr h1 hi hj II ij
   have k2:= @ze ((ws|||c):) _ (r c) c j i (L c) (ay (rd (ws|||c) j)) hr h1 hj hi II.symm (Ne.symm ij)
   rw[low]
   by_cases z:ay (rd (ws|||c) j)=true
   ·rw[if_pos z]at k1 k2
    rw[k1,k2,decide_eq_true_iff,decide_eq_true_iff]
    lia
   ·rw[if_neg z]at k1 k2
    rw[k1,k2,decide_eq_true_iff,decide_eq_true_iff]
    lia
  ·have hl:L d=if ay (rd (ws|||d) j)=ay (rd (ws|||c) i) then L c else !L c:=by
    by_cases z1:ay (rd (ws|||c) i)=true<;>by_cases z2:ay (rd (ws|||d) j)=true
    ·rw[z1,z2,if_pos rfl]
     rw[fe,ge,if_pos z1,if_pos z2]at par
     exact (h.l1 c d i j hc hd par).symm
    ·rw[if_neg (λq=>z2 (q.trans z1))]
     rw[fe,ge,if_pos z1,if_neg z2]at par
     exact h.l2 c d i j hc hd par
    ·rw[if_neg (λq=>z1 (q.symm.trans z2))]
     rw[fe,ge,if_neg z1,if_pos z2]at par
     have:=h.l2 d c j i hd hc λk=>(par k).symm
     rw[this,Bool.not_not]
    ·rw[show ay (rd (ws|||c) i)=false by simpa using z1,show ay (rd (ws|||d) j)=false by simpa using z2,if_pos rfl]
     rw[fe,ge,if_neg z1,if_neg z2]at par
     have e:=congrArg jM (funext par)
     rw[<-fD, <-fD,tH hy (bg hw _),tH hy (bg hv _)]at e
     exact (h.l1 c d i j hc hd λk=>congrFun e k).symm
   have yH:= @vc ((ws|||c):) ((ws|||d):) (r c) (r d) c d i j (L c) (ay (rd (ws|||c) i)) (ay (rd (ws|||d) j)) cd
   have wa:L c=if ay (rd (ws|||c) i)=ay (rd (ws|||d) j) then L d else !L d:=by
    rw[hl]
    cases ay (rd (ws|||d) j)<;>cases ay (rd (ws|||c) i)<;>cases L c<;>rfl
   have Fj:= @vc ((ws|||d):) ((ws|||c):) (r d) (r c) d c j i (L d) (ay (rd (ws|||d) j)) (ay (rd (ws|||c) i)) (Ne.symm cd)
   rw[<-hl]at yH
   rw[<-wa]at Fj
   rw[yH,Fj,hl]
   cases ay (rd (ws|||d) j)<;>cases ay (rd (ws|||c) i)<;>cases L c<;>simp<;>lia
 ·have vd:∃k,mE (ws|||c) i k≠mE (ws|||d) j k:=Classical.byContradiction λz=>par λk=>Classical.byContradiction λw=>z ⟨k,w⟩
  have Mt:∀{w:Z} {k:Nat} (z:Int),mE w k (z+(w:))=mE w k z:=λ{w k} z=>by
   unfold mE
   split
   ·exact dk w k z
   ·exact qt w k z
  obtain ⟨a,b,rn,ha,hb⟩:=cQ lw lv Mt Mt ((f0 e1).trans (g0 e2).symm) vd
  have big:=h.big c d hc hd
  unfold eK
  rw[m8 hy lf lg rn _ _ M 0 (Qac _) (Qac _) () (),m8 hy lg lf rn.sy _ _ M 0 (Qac _) (Qac _) () (),E1 hy lf lg (rn.kM a () ()) rn.hi,zg hy lf lg (rn.kM _ () ()) rn.lo]
  by_cases z:a<=b
  ·rw[if_pos z,if_pos z]
   cases jn y (mE (ws|||c) i) (mE (ws|||d) j) a
   ·exact .inr rfl
   ·exact .inl rfl
  ·rw[if_neg z,if_neg z]
   cases iY y (mE (ws|||c) i) (mE (ws|||d) j) b
   ·exact .inr rfl
   ·exact .inl rfl
theorem Jf{y:Z}{ws:List Z}{os:List Od}{M:Nat}(hy:Yd y)(hw:∀w∈ws,SW y w)(hM:∀w∈ws,∀v∈ws,(w:)+(v:)<=M)(ok:iU y ws os)(up:∀o∈os,C1 y ws M (o.ps.map Pr.pair)):cy y ws (FJ ws) (FK ws) M/\zu y ws (FJ ws) (FK ws) M os:=by
 have hs:∀c,c<(ws:)->SW y (ws|||c):=λc hc=>hw _ (getD_in hc)
 have hC:cy y ws (FJ ws) (FK ws) M:=xo hy hs (λc hc=>zD (hs c hc).ne) λc d hc hd=>hM _ (getD_in hc) _ (getD_in hd)
 refine ⟨hC,ok,λo ho=>?_⟩
 obtain ⟨j,hj,ej⟩:=Qcy ho
 have HW:j<(cq y:):=by rw[<-ok.1];exact hj
 have pm:=ok.2 j o (cq y)[j] (by rw[LK hj,ej]) (LK HW)
 have bs:=xD hy (Qa7 HW)
 have lb:Lt (cq y)[j]:= .inl bs
 have lo:ay (cq y)[j]=true:=by rw[f_ lb];exact decide_eq_true bs
 have nd:(o.ps.map Pr.pair).Nodup:=pm.nodup_iff.mpr (nc _ _ _)
 have u:=up o ho
 unfold C1 at u
 refine Qcf (λ{s t} h1 h2 h=>?_) (List.Pairwise.and u nd)
 obtain ⟨w1,e1,i1,o1⟩:=zE (pm.mem_iff.mp h1)
 obtain ⟨w2,e2,i2,o2⟩:=zE (pm.mem_iff.mp h2)
 have c1:=(LL.mp e1).1
 have c2:=(LL.mp e2).1
 have g1:ws.getD s.1 []=w1:=by rw[Xw,e1];rfl
 have g2:ws.getD t.1 []=w2:=by rw[Xw,e2];rfl
 have on:∀{l:Nat},rT (cq y)[j] l=true->l=(cq y)[j]\/l=aB (cq y)[j]:=λ{l} q=>by unfold rT at q;simpa using q
 have tr:=FN hC (c:=s.1) (i:=s.2) (d:=t.1) (j:=t.2) c1 c2 (by rw[g1];exact i1) (by rw[g2];exact i2) h.2 lo (by rw[g1];exact on o1) (by rw[g2];exact on o2)
 rcases tr with q | q
 ·exact q
 ·have hf:bP (eK y ws (FJ ws) (FK ws) M t.1 t.2) (eK y ws (FJ ws) (FK ws) M s.1 s.2)=false:=h.1
  rw[hf]at q
  cases q
theorem FO{y:Z}{ws:List Z}{os:List Od}(hy:Yd y)(hw:∀w∈ws,SW y w)(h:ml y ws os):∃M,cy y ws (FJ ws) (FK ws) M/\zu y ws (FJ ws) (FK ws) M os:=by
 obtain ⟨M,hM,ok,up⟩:=h
 exact ⟨M,Jf hy hw hM ok up⟩
theorem vx{α β:Type}(p:β->β->Bool)(f:α->β):∀l:List α,cl p (l.map f)=cl (λa b=>p (f a) (f b)) l
 | []=>rfl
 | a::l=>by
  show ((l.map f).filter (p (f a)):)+cl p (l.map f)=((l.filter λb=>p (f a) (f b)):)+cl _ l
  rw[vx p f l,Qe2,NA]
  rfl
theorem qM{α:Type}{p q:α->α->Bool}:∀{l:List α},l.Pairwise (λa b=>p a b=q a b)->cl p l=cl q l
 | [],_=>rfl
 | a::l,h=>by
  rw[Qcc]at h
  show (l.filter (p a):)+cl p l=(l.filter (q a):)+cl q l
  rw[qM h.2,Qc6 λb hb=>h.1 b hb]
theorem FP{a b a' b':Nat}(h1:a<b)(h2:a'<b')(h4:a<a')(h5:b≠a')(h6:b≠b'):(kN (a,b) (a',b')||kN (a',b') (a,b))=n6 a b a' b':=by
 have g4:=Qdm h4 h2
 rw[AN (Qal h1) (Qal h4) (Qal g4) h5 h6]
 unfold kN
 rw[decide_eq_true h4,decide_eq_true g4,decide_eq_false (Qd4 h4),fj (Ne.symm h6)]
 have k:decide (b'<b)=true->decide (a'<b)=true:=λq=>decide_eq_true (Qdm h2 (of_decide_eq_true q))
 revert k
 generalize decide (a'<b)=p
 generalize decide (b'<b)=q
 revert p q
 decide
theorem vy{a b a' b':Nat}(h1:a<b)(h2:a'<b')(h3:a≠a')(h4:a≠b')(h5:b≠a')(h6:b≠b'):(kN (a,b) (a',b')||kN (a',b') (a,b))=n6 a b a' b':=by
 rcases Qcn h3 with q | q
 ·exact FP h1 h2 q h5 h6
 ·rw[Bool.or_comm,FP h2 h1 q (Ne.symm h4) (Ne.symm h6),lV (Qal h2) (Qal h1) (Ne.symm h3) (Ne.symm h5) (Ne.symm h4) (Ne.symm h6)]
theorem Jg{a b a' b':Nat}(h1:a≠b)(h2:a'≠b')(h3:a≠a')(h4:a≠b')(h5:b≠a')(h6:b≠b'):(kN (min a b,max a b) (min a' b',max a' b')||kN (min a' b',max a' b') (min a b,max a b))=n6 a b a' b':=by
 rcases Qcn h1 with q | q<;>rcases Qcn h2 with r | r
 ·rw[Qbp (Qa4 q),Qcz (Qa4 q),Qbp (Qa4 r),Qcz (Qa4 r)]
  exact vy q r h3 h4 h5 h6
 ·rw[Qbp (Qa4 q),Qcz (Qa4 q),Qbr (Qa4 r),Qcq (Qa4 r),jq]
  exact vy q r h4 h3 h6 h5
 ·rw[Qbr (Qa4 q),Qcq (Qa4 q),Qbp (Qa4 r),Qcz (Qa4 r), <-xh h1 h2 h3 h4 h5 h6]
  exact vy q r h5 h6 h3 h4
 ·rw[Qbr (Qa4 q),Qcq (Qa4 q),Qbr (Qa4 r),Qcq (Qa4 r), <-xh h1 h2 h3 h4 h5 h6,jq]
  exact vy q r h6 h5 h4 h3
section
variable{y:Z}{ws:List Z}{L:Nat->Bool}{r:Nat->Nat}{M:Nat}
noncomputable def gu(ps:List (Nat×Nat×Nat))(c i e:Nat):Nat:=ps.idxOf (c,i,e)
theorem Jh{n i:Nat}(h:i<n):fK n ((i:Int) - 1)=ng n i/\fK n (i:Int)=i:=by
 have h1:=bY (n:=n) () ((i:Int) - 1)
 have h2:=bY (n:=n) () (i:Int)
 rw[vp h]at h1
 rw[Qay () ()]at h2
 lia
theorem g9{ps:List (Nat×Nat×Nat)}{c i:Nat}(hi:i<((ws|||c):)):(dJ ps c (ws|||c) i).2.2.1=pI ws (gu ps) c ((i:Int) - 1)/\(dJ ps c (ws|||c) i).2.2.2=pO ws (gu ps) c i:=by
 obtain ⟨e1,e2⟩:=Jh hi
 have g:∀k,k<((ws|||c):)->(ws|||c).getD k 0=rd (ws|||c) k:=λk hk=>by
  rw[Xw,mZ hk];rfl
 have cP:(ws|||c)≠[]:=λz=>by rw[z]at hi;exact absurd hi (Qdh _)
 unfold dJ pI pO gu
 rw[e1,e2,g _ (vn hi),g _ hi]
 refine ⟨?_,rfl⟩
 have:rd (ws|||c) (ng ((ws|||c):) i:Nat)=rd (ws|||c) ((i:Int) - 1):=by rw[<-e1,bQ cP]
 rw[this]
theorem jR(ps:List (Nat×Nat×Nat))(ws:List Z):∀n,fk ps ws n=(uZ ws n).map λx=>dJ ps x.1 (ws.getD x.1 []) x.2
 | 0=>rfl
 | n+1=>by
  have ih:=jR ps ws n
  unfold fk at ih ⊢
  unfold uZ
  rw[Qbq,Qbd,ih,Xs,Qb8,Qbo]
  rfl
theorem zG(ws:List Z)(n:Nat):(uZ ws n).Nodup:=(AG n).imp λ{a b} h z=>by
 rw[z]at h
 unfold rM at h
 simp at h
theorem FQ{R:Nat->Nat->Nat->Nat->Bool}(h:cy y ws L r M){ps:List (Nat×Nat×Nat)}(hN:cR y ws R (gu ps))(l:List (Nat×Nat))(hl:l.Nodup)(Bb:∀x∈l,x.1<(ws:)/\x.2<(ws.getD x.1 []:)):(eL (l.map λx=>dJ ps x.1 (ws.getD x.1 []) x.2)).Nodup:=by
 unfold eL
 induction l with
 | nil=>exact List.Pairwise.nil
 | cons x t ih=>
  rw[Qa9]at hl
  rw[Qad,Qa6,Qbx]
  obtain ⟨x1,x2⟩:=Bb x ZP
  have ex:=g9 (ps:=ps) (ws:=ws) (c:=x.1) x2
  refine ⟨?_,ih hl.2 λz hz=>Bb z (ZO _ hz),λa ha b hb e=>?_⟩
  ·rw[ex.1,ex.2,Qa9]
   exact ⟨by simpa using (dh h hN x1 x1 x2 x2).1,by simp⟩
  ·obtain ⟨c4,UH,Kv⟩:=Qbc.mp hb
   obtain ⟨z,hz,rfl⟩:=Qam.mp UH
   obtain ⟨z1,z2⟩:=Bb z (ZO _ hz)
   have ez:=g9 (ps:=ps) (ws:=ws) (c:=z.1) z2
   have cP:(x.1,x.2)≠(z.1,z.2):=λq=>hl.1 (by
    have:x=z:=Prod.ext (Prod.mk.inj q).1 (Prod.mk.inj q).2
    rw[this];exact hz)
   have n1:=dh h hN x1 z1 x2 z2
   have n2:=dh h hN z1 x1 z2 x2
   rw[ex.1,ex.2]at ha
   rw[ez.1,ez.2]at Kv
   have V8:a=pI ws (gu ps) x.1 ((x.2:Int) - 1)\/a=pO ws (gu ps) x.1 x.2:=by simpa using ha
   have p_:b=pI ws (gu ps) z.1 ((z.2:Int) - 1)\/b=pO ws (gu ps) z.1 z.2:=by simpa using Kv
   rw[e]at V8
   rcases V8 with p | p<;>rcases p_ with q | q<;>rw[p]at q
   ·exact (n1.2 cP).1 q
   ·exact n1.1 q
   ·exact n2.1 q.symm
   ·exact (n1.2 cP).2 q
theorem FR{R:Nat->Nat->Nat->Nat->Bool}(h:cy y ws L r M){ps:List (Nat×Nat×Nat)}(hN:cR y ws R (gu ps))(l:List (Nat×Nat))(hl:l.Nodup)(Bb:∀x∈l,x.1<(ws:)/\x.2<(ws.getD x.1 []:)):cl (λx z=>kN x z||kN z x) (oh (l.map λx=>dJ ps x.1 (ws.getD x.1 []) x.2))=cl (tK ws (gu ps)) l:=by
 unfold oh
 rw[Qbo,vx]
 refine qM (Qcf (λ{a b} ha hb mV=>?_) hl)
 obtain ⟨a1,a2⟩:=Bb a ha
 obtain ⟨b1,b2⟩:=Bb b hb
 have ea:=g9 (ps:=ps) (ws:=ws) (c:=a.1) a2
 have eb:=g9 (ps:=ps) (ws:=ws) (c:=b.1) b2
 have cP:(a.1,a.2)≠(b.1,b.2):=mV
 have n1:=dh h hN a1 b1 a2 b2
 have n2:=dh h hN b1 a1 b2 a2
 have n3:=dh h hN a1 a1 a2 a2
 have n4:=dh h hN b1 b1 b2 b2
 show (kN (min _ _,max _ _) (min _ _,max _ _)||kN (min _ _,max _ _) (min _ _,max _ _))=tK ws (gu ps) a b
 rw[ea.1,ea.2,eb.1,eb.2,Jg n3.1 n4.1 (n1.2 cP).1 n1.1 (Ne.symm n2.1) (n1.2 cP).2]
 rfl
end
noncomputable def Bp(ws:List Z):Int:=sm (ws:) λc=>(((ws.getD c.toNat []:) / R6 (ws.getD c.toNat []):Nat):Int) - 1
theorem FT{y:Z}{ws:List Z}{os:List Od}(hy:Yd y)(hw:∀w∈ws,SW y w)(h:ml y ws os):(eL (cS y ws os)).Nodup/\(cl (λx z=>kN x z||kN z x) (oh (cS y ws os)):Int)=(xa y ws:)+Bp ws:=by
 obtain ⟨M,hC,hT⟩:=FO hy hw h
 have hN:Lies y ws (FJ ws) (FK ws) M (gu (dF y os)):=lies_of hy hC.sw hT
 have Bb:∀x∈places ws,x.1<(ws:)/\x.2<(ws.getD x.1 []:):=λx hx=>iw.mp hx
 unfold cS
 rw[jR]
 refine ⟨FQ hC hN _ (zG ws _) Bb,?_⟩
 rw[FR hC hN _ (zG ws _) Bb]
 exact qz hC hN
theorem NJ.ok{y:Z}{ws:List Z}(h:NJ y ws):zo y ws:=⟨h.wW,λw hw=>⟨(h.sw w hw).1.bU,(h.sw w hw).2⟩⟩
theorem C2{y:Z}{ws:List Z}{os:List Od}(h:NJ y ws):(cS y ws os:)<=24:=by
 unfold cS
 rw[jR,NA]
 exact h.all
noncomputable def FU(y:Z)(ws:List Z):Int:=(xa y ws:)+Bp ws
structure Pu where
 t:Addr
 e:Nat
 p:Pr
noncomputable def oj(ps:List Pu):List V:=ps.map λp=>V.ref p.t
theorem jS(ps:List Pu):(oj ps:)=(ps:):=by unfold oj;rw[NA]
theorem Bq(a b:List Pu):oj a++oj b=oj (a++b):=by unfold oj;rw[Xs]
theorem xE(a:List Pu)(p:Pu):oj a++[V.ref p.t]=oj (a++[p]):=by unfold oj;rw[Xs];rfl
theorem MO{ps:List Pu}{i:Nat}{x:V}(h:(oj ps)[i]? =some x):∃p,ps[i]? =some p/\x=V.ref p.t:=by
 unfold oj at h
 rw[ZN]at h
 cases e:ps[i]? with
 | none=>rw[e]at h;cases h
 | some p=>rw[e]at h;cases h;exact ⟨p,rfl,rfl⟩
noncomputable def Pu.is(p:Pu):Nat×Nat×Nat:=(p.p.c,p.p.i,p.e)
structure vz(H:Hp)(p:Pu):Prop where
 tp:H p.t=some (.tup [.str (S [p.e]),.ref p.p.t])
 pr:iT H p.p
theorem vz.ts{H H':Hp}{p:Pu}(h:vz H p)(s:aY H H'):vz H' p:=⟨s _ _ h.tp,h.pr.ts s⟩
def qN(_:Fr):Sp:=λvs H Q _=>∃(y:Z) (dr:Addr) (ws:List Z) (os:List Od),vs=[.str (S y),.ref dr]/\Yd y/\(y:)<=8/\iU y ws os/\qC H dr ws os/\∀(q:Addr) (ps:List Pu) (H':Hp),H q=none->H' q=some (.lst (oj ps))->(∀p∈ps,vz H' p)->ps.map Pu.is=dF y os->(ps:)<=800->aj H H'->Q (.ref q) H'
theorem xF{K:Fr}{vs:List V}{H:Hp}{Q:VK}{E:XK}(h:qN K vs H Q E):(vs:)=2:=by obtain ⟨_,_,_,_,rfl,_⟩:=h;rfl
noncomputable def mm(x:Nat×Nat×Nat):Key×List Key:=(Sum.inr (S [x.2.2]),[Sum.inl (x.1:Int),Sum.inl (x.2.1:Int)])
theorem xG{p q:Nat×Nat×Nat}(h:mm p=mm q):p=q:=by
 have h1:=congrArg Prod.fst h
 have h2:=congrArg Prod.snd h
 unfold mm at h1 h2
 injection h2 with h2 h3
 injection h3 with h3 _
 have a1:(p.1:Int)=q.1:=Sum.inl.inj h2
 have a2:(p.2.1:Int)=q.2.1:=Sum.inl.inj h3
 have a3:[p.2.2]=[q.2.2]:=by
  have:=Sum.inr.inj h1
  rw[<-eS [p.2.2],this,eS]
 have a4:p.2.2=q.2.2:=by simpa using a3
 exact Prod.ext () (Prod.ext () a4)
theorem vz.key{H:Hp}{p:Pu}(h:vz H p):jg H (mm p.is) p.t:=⟨p.p.t,h.tp,h.pr.tp⟩
theorem KI{x:Nat×Nat×Nat}:∀(l:List (Nat×Nat×Nat)) (es:List Kp) (off:Nat),es.map (·.k)=l.map mm->(∀(m:Nat) (e:Kp),es[m]? =some e->e.n=((off+m:Nat):Int))->x∈l->
  ((Cj es).find? λz=>decide (z.1=mm x)).map (·.2.2)=some ((off+l.idxOf x:Nat):Int)
 | [],_,_,_,_,hx=>by cases hx
 | a::l,[],_,he,_,_=>by cases he
 | a::l,e::es,off,he,hn,hx=>by
  rw[Qad,Qad]at he
  injection he with h1 h2
  show ((((e.k,e.a,e.n)::Cj es).find? λz=>decide (z.1=mm x)).map (·.2.2))=_
  rw[Qca]
  by_cases z:x=a
  ·rw[show decide (e.k=mm x)=true from decide_eq_true (by rw[h1,z])]
   have:=hn 0 e rfl
   rw[z,Qe9]
   show some e.n=_
   rw[this]
  ·rw[show decide (e.k=mm x)=false from decide_eq_false λy=>z (xG (y.symm.trans h1))]
   have ih:=KI (x:=x) l es (off+1) h2 (λm e' hm=>by have:=hn (m+1) e' (by simpa using hm);rw[this];lia) ((ZQ.mp hx).resolve_left z)
   have ei:(a::l).idxOf x=l.idxOf x+1:=by rw[Qf3,show (a==x)=false by simpa using λy=>z y.symm];rfl
   rw[ih,ei]
   congr 2
   lia
theorem Ji{a b r s:Nat}(h1:a≠b)(h3:a≠r)(h4:a≠s)(h5:b≠r)(h6:b≠s):xt a b r s=n6 a b r s:=by
 rw[AN h1 h3 h4 h5 h6]
 have key:∀x:Nat,a≠x->b≠x->Hc (if (b:Int)<a then b else a) (if (b:Int)>a then b else a) x=!(decide (a<x) ^^ decide (x<b)):=λx g1 g2=>by
  unfold Hc
  rcases Qcn h1 with q | q
  ·rw[if_neg (),if_pos (),show decide ((a:Int)<x)=decide (a<x) from decide_eq_decide.mpr (),show decide ((x:Int)<b)=decide (x<b) from decide_eq_decide.mpr ()]
   have k:decide (a<x)=false->decide (x<b)=true:=λz=>decide_eq_true (by have:=of_decide_eq_false z;lia)
   revert k
   generalize decide (a<x)=u
   generalize decide (x<b)=v
   revert u v
   decide
  ·rw[if_pos (),if_neg (),show decide ((b:Int)<x)=!decide (x<b) from by rw[<-fj (Ne.symm g2)];exact decide_eq_decide.mpr (),show decide ((x:Int)<a)=!decide (a<x) from by rw[<-fj g1];exact decide_eq_decide.mpr ()]
   have k:decide (a<x)=true->decide (x<b)=false:=λz=>decide_eq_false (by have:=of_decide_eq_true z;lia)
   revert k
   generalize decide (a<x)=u
   generalize decide (x<b)=v
   revert u v
   decide
 unfold xt
 rw[key r h3 h5,key s h4 h6]
 generalize decide (a<r)=p1
 generalize decide (r<b)=p2
 generalize decide (a<s)=p3
 generalize decide (s<b)=p4
 revert p1 p2 p3 p4
 decide
theorem Jj{α:Type}(q:α->α->Bool)(l:List α)(a:α):cl q (l++[a])=cl q l+((l.filter λx=>q x a):):=by
 induction l with
 | nil=>rfl
 | cons b l ih=>
  show ((l++[a]).filter (q b):)+cl q (l++[a])=((l.filter (q b):)+cl q l)+(((b::l).filter λx=>q x a):)
  rw[ih,Qb2,VG]
  by_cases z:q b a=true
  ·have e1:([a].filter (q b):)=1:=by rw[Qax z];rfl
   have e2:(((b::l).filter λx=>q x a):)=((l.filter λx=>q x a):)+1:=by rw[Qax (p:=λx=>q x a) z];rfl
   lia
  ·have e1:([a].filter (q b):)=0:=by rw[Qao z];rfl
   have e2:(((b::l).filter λx=>q x a):)=((l.filter λx=>q x a):):=by rw[Qao (p:=λx=>q x a) z]
   lia
noncomputable def mq(cs:List C4):Nat:=cl (λx z=>meets z x) cs
theorem C3{cs:List C4}{k:Nat}{x:C4}(h:cs[k]? =some x):mq (cs.take (k+1))=mq (cs.take k)+((cs.take k).filter (meets x):):=by
 unfold mq
 rw[<-take_snoc h,Jj]
theorem Jk{y:Z}{ws:List Z}{os:List Od}{L:Nat->Bool}{r:Nat->Nat}{M:Nat}{R:Nat->Nat->Nat->Nat->Bool}(hC:cy y ws L r M)(hN:cR y ws R (gu (dF y os))){a b:Nat×Nat}(ha:a∈places ws)(hb:b∈places ws)(mV:a≠b):meets (dJ (dF y os) a.1 (ws.getD a.1 []) a.2) (dJ (dF y os) b.1 (ws.getD b.1 []) b.2)=tK ws (gu (dF y os)) a b:=by
 obtain ⟨a1,a2⟩:=iw.mp ha
 obtain ⟨b1,b2⟩:=iw.mp hb
 have ea:=g9 (ps:=dF y os) (ws:=ws) (c:=a.1) a2
 have eb:=g9 (ps:=dF y os) (ws:=ws) (c:=b.1) b2
 have cP:(a.1,a.2)≠(b.1,b.2):=λz=>mV (Prod.ext (Prod.mk.inj z).1 (Prod.mk.inj z).2)
 have n1:=dh hC hN a1 b1 a2 b2
 have n2:=dh hC hN b1 a1 b2 a2
 have n3:=dh hC hN a1 a1 a2 a2
 show xt _ _ _ _=tK ws (gu (dF y os)) a b
 rw[ea.1,ea.2,eb.1,eb.2,Ji n3.1 (n1.2 cP).1 n1.1 (Ne.symm n2.1) (n1.2 cP).2]
 rfl
theorem FV{y:Z}{ws:List Z}{os:List Od}{L:Nat->Bool}{r:Nat->Nat}{M:Nat}{R:Nat->Nat->Nat->Nat->Bool}(hC:cy y ws L r M)(hN:cR y ws R (gu (dF y os))):mq (cS y ws os)=cl (tK ws (gu (dF y os))) (places ws):=by
 unfold mq cS
 rw[jR,vx]
 refine qM (Qcf (λ{a b} ha hb mV=>?_) (zG ws (ws:)))
 obtain ⟨a1,a2⟩:=iw.mp ha
 obtain ⟨b1,b2⟩:=iw.mp hb
 refine (Jk hC hN hb ha (Ne.symm mV)).trans ?_
 unfold tK
 rw[ve hC hN a1 b1 a2 b2]
theorem xH{y:Z}{ws:List Z}{os:List Od}(hy:Yd y)(hw:∀w∈ws,SW y w)(h:ml y ws os):(mq (cS y ws os):Int)=(xa y ws:)+Bp ws:=by
 obtain ⟨M,hC,hT⟩:=FO hy hw h
 have hN:Lies y ws (FJ ws) (FK ws) M (gu (dF y os)):=lies_of hy hC.sw hT
 rw[FV hC hN]
 exact qz hC hN
noncomputable def Jl(x:C4):List Int:=[((min x.2.2.1 x.2.2.2:Nat):Int),((max x.2.2.1 x.2.2.2:Nat):Int)]
theorem MP{x:C4}{ms:List Int}(p:ms.Perm [(x.2.2.1:Int),x.2.2.2])(h:ms.Pairwise (· <= ·)):ms=Jl x:=by
 obtain ⟨a,b,rfl⟩:∃a b,ms=[a,b]:=by
  have:=p.length_eq
  match ms,this with
  | [a,b],_=>exact ⟨a,b,rfl⟩
 have mV:a<=b:=by simpa using h
 have e1:a=(x.2.2.1:Int)\/a=x.2.2.2:=by simpa using p.mem_iff.mp (ZP (a:=a))
 have e2:b=(x.2.2.1:Int)\/b=x.2.2.2:=by simpa using p.mem_iff.mp (ZO a (ZP (a:=b)))
 have e3:(x.2.2.1:Int)=a\/(x.2.2.1:Int)=b:=by simpa using p.mem_iff.mpr (ZP (a:=(x.2.2.1:Int)))
 have e4:(x.2.2.2:Int)=a\/(x.2.2.2:Int)=b:=by simpa using p.mem_iff.mpr (ZO (x.2.2.1:Int) (ZP (a:=(x.2.2.2:Int))))
 unfold Jl
 congr 1
 ·lia
 ·congr 1
  lia
theorem FW(x z:C4):(xor (Hc ((min x.2.2.1 x.2.2.2:Nat):Int) ((max x.2.2.1 x.2.2.2:Nat):Int) ((min z.2.2.1 z.2.2.2:Nat):Int)) (Hc ((min x.2.2.1 x.2.2.2:Nat):Int) ((max x.2.2.1 x.2.2.2:Nat):Int) ((max z.2.2.1 z.2.2.2:Nat):Int)))=meets x z:=by
 unfold meets xt
 have e1:(if (x.2.2.2:Int)<x.2.2.1 then (x.2.2.2:Int) else x.2.2.1)=((min x.2.2.1 x.2.2.2:Nat):Int):=by split<;>lia
 have e2:(if (x.2.2.2:Int)>x.2.2.1 then (x.2.2.2:Int) else x.2.2.1)=((max x.2.2.1 x.2.2.2:Nat):Int):=by split<;>lia
 rw[e1,e2]
 generalize ((min x.2.2.1 x.2.2.2:Nat):Int)=lo
 generalize ((max x.2.2.1 x.2.2.2:Nat):Int)=hi
 rcases Nat.le_total z.2.2.1 z.2.2.2 with g | g
 ·rw[Qbp g,Qcz g]
  generalize Hc lo hi (z.2.2.1:Int)=p
  generalize Hc lo hi (z.2.2.2:Int)=q
  revert p q
  decide
 ·rw[Qbr g,Qcq g]
  generalize Hc lo hi (z.2.2.1:Int)=p
  generalize Hc lo hi (z.2.2.2:Int)=q
  revert p q
  decide
def FX(y:Z)(f g:Int->Nat)(e:Bool):Prop:=∃a b,Run f g a b/\jn y f g a≠iY y f g b/\e=iY y f g b
theorem one_le(p:Prop):0<=one p/\one p<=1:=by unfold one;split<;>decide
theorem zH{p q m:Prop}(h:p->q\/m):one p<=one m+one q:=by
 have a:=one_le m
 have b:=one_le q
 by_cases hp:p
 ·rw[eJ hp]
  rcases h hp with z | z
  ·rw[eJ z];omega
  ·rw[eJ z];omega
 ·rw[aU hp];omega
theorem Jm{y:Z}{f g:Int->Nat}{e0 e1:Bool}{m:Prop}
  (r0:f 0=g 0->∃a b,Run f g a b) (r1:f (-1)=g (-1)->∃a b,Run (dR f) (dR g) a b)
  (ma:f 0=g 0->f (-1)≠g (-1)->(m↔e0≠iY y f g 0)) (mb:f (-1)=g (-1)->f 0≠g 0->(m↔e1≠jn y (dR f) (dR g) 0)) (mc:f (-1)=g (-1)->f 0=g 0->(m↔e1≠e0)):
  one (qu y f g)+one (FX y (dR f) (dR g) e1)<=one m+one (FX y f g e0):=by
 have hm:=one_le m
 have hn:=one_le (FX y f g e0)
 by_cases z0:f 0=g 0
 ·obtain ⟨a,b,r⟩:=r0 z0
  by_cases z1:f (-1)=g (-1)
  ·cases b with
   | zero=>exact absurd z1 r.lo
   | succ b=>
    have IB: ¬qu y f g:=λ⟨a',r',_⟩=>absurd (r.one r').2 (Nat.succ_ne_zero b)
    rw[aU IB,Qck]
    refine zH λ⟨a',b',r',x,e⟩=>?_
    obtain ⟨rfl,rfl⟩:=r.bk.one r'
    rw[o9,lS]at x
    rw[lS]at e
    by_cases q:e1=e0
    ·exact .inl ⟨a,b+1,r,x,q.symm.trans e⟩
    ·exact .inr ((mc z1 z0).mpr q)
  ·have Yo: ¬FX y (dR f) (dR g) e1:=λ⟨_,_,r',_⟩=>z1 r'.zero
   rw[aU Yo,Qd7]
   refine zH λ⟨a',r',x⟩=>?_
   by_cases q:e0=iY y f g 0
   ·exact .inl ⟨a',0,r',x,q⟩
   ·exact .inr ((ma z0 z1).mpr q)
 ·have IB: ¬qu y f g:=λ⟨_,r',_⟩=>z0 r'.zero
  rw[aU IB,Qck]
  refine zH λ⟨a,b,r',x,e⟩=>?_
  have z1:f (-1)=g (-1):=r'.zero
  have ea:a=0:=by
   refine Classical.byContradiction λq=>z0 ?_
   exact r'.kM 1 (by omega) (by omega)
  subst ea
  exact .inr ((mb z1 z0).mpr λq=>x (q.symm.trans e))
theorem fo{h g:Int->Int}:∀{n:Nat},(∀i:Nat,i<n->h i<=g i)->sm n h<=sm n g
 | 0,_=>Qfb 0
 | n+1,e=>by
  have a:=fo (n:=n) λi hi=>e i (by omega)
  have b:=e n (by omega)
  show sm n h+h n<=sm n g+g n
  omega
theorem FY{n m:Nat}{h g:Int->Int->Int}(e:∀i j:Nat,i<n->j<m->h i j<=g i j):br n m h<=br n m g:=fo λi hi=>fo λj hj=>e i j hi hj
structure FZ(y:Z)(F:Int->Int->Nat)(o i:Int->Nat)(G:Int->Int->Nat)(o' i':Int->Nat):Prop where
 sep:∀s t,Sep y [(aB (F s (-1)),i (s - 1)),(F s 0,o s),(aB (G t (-1)),i' (t - 1)),(G t 0,o' t)]
 on:∀s t,F s 0=G t 0-> ¬par F G s t->o s≠o' t/\i s≠i' t/\decide (o s<o' t)=decide (i' t<i s)
theorem Br{y:Z}{n m:Nat}{F G:Int->Int->Nat}{o i o' i':Int->Nat}(hy:Yd y)(hF:Ky y n F o i)(hG:Ky y m G o' i')(h:FZ y F o i G o' i'):
  br n m (λs t=>one (qu y (F s) (G t)))<=br n m λs t=>one (xi F G s t/\xj o i o' i' s t=true/\ ¬par F G s t):=by
 have pt:∀s t:Int,one (qu y (F s) (G t))+one (FX y (F (s - 1)) (G (t - 1)) (decide (o (s - 1)<o' (t - 1))))<=one (xi F G s t/\xj o i o' i' s t=true/\ ¬par F G s t)+one (FX y (F s) (G t) (decide (o s<o' t))):=λs t=>by
  by_cases hp:par F G s t
  ·have nr:∀{a b}, ¬Run (F s) (G t) a b:=λr=>r.hi (hp _)
   have xf:=(u9 hF hG).mpr hp
   have Uz:∀{a b}, ¬Run (F (s - 1)) (G (t - 1)) a b:=λr=>r.hi (xf _)
   rw[aU (p:=qu _ _ _) (λ⟨_,r,_⟩=>nr r),aU (p:=FX _ _ _ _) (λ⟨_,_,r,_⟩=>Uz r)]
   have a:=one_le (xi F G s t/\xj o i o' i' s t=true/\ ¬par F G s t)
   have b:=one_le (FX y (F s) (G t) (decide (o s<o' t)))
   omega
  ·have iZ: ¬par F G (s - 1) (t - 1):=λq=>hp ((u9 hF hG).mp q)
   have cP:∃k,F s k≠G t k:=Classical.byContradiction λz=>hp λk=>Classical.byContradiction λq=>z ⟨k,q⟩
   have EV:∃k,F (s - 1) k≠G (t - 1) k:=Classical.byContradiction λz=>iZ λk=>Classical.byContradiction λq=>z ⟨k,q⟩
   have e1:∀s,F (s - 1) 0=F s (-1):=λs=>by rw[<-hF.bk];rfl
   have e2:∀t,G (t - 1) 0=G t (-1):=λs=>by rw[<-hG.bk];rfl
   have tt:one (F s 0=G t 0/\xj o i o' i' s t=true\/F s (-1)=G t (-1)/\xj o i o' i' s t=true)=one (xi F G s t/\xj o i o' i' s t=true/\ ¬par F G s t):=bC ⟨λz=>z.elim (λz=>⟨.inl z.1,z.2,hp⟩) λz=>⟨.inr z.1,z.2,hp⟩,λz=>z.1.elim (λq=> .inl ⟨q,z.2.1⟩) λq=> .inr ⟨q,z.2.1⟩⟩
   rw[<-tt, <-hF.bk, <-hG.bk]
   refine Jm (λz=>?_) (λz=>?_) (λz0 z1=>?_) (λz1 z0=>?_) (λz1 z0=>?_)
   ·obtain ⟨a,b,r,_⟩:=cQ hF.pos hG.pos (hF.own s) (hG.own t) z cP
    exact ⟨a,b,r⟩
   ·obtain ⟨a,b,r,_⟩:=cQ hF.pos hG.pos (hF.own (s - 1)) (hG.own (t - 1)) (by rw[e1,e2];exact z) EV
    rw[hF.bk,hG.bk]
    exact ⟨a,b,r⟩
   ·have q:=ES hy (hF.rQ s) (hG.rQ t) (h.sep s t) (h.on s t z0 hp).1 z0 z1
    exact ⟨λx=>x.elim (λx=>q.mp x.2) λx=>absurd x.1 z1,λx=> .inl ⟨z0,q.mpr x⟩⟩
   ·have on:=h.on (s - 1) (t - 1) (by rw[e1,e2];exact z1) iZ
    have q:=ET hy (hF.rQ s) (hG.rQ t) (h.sep s t) on.2.1 z1 z0
    rw[on.2.2]
    exact ⟨λx=>x.elim (λx=>absurd x.1 z0) λx=>q.mp x.2,λx=> .inr ⟨z1,q.mpr x⟩⟩
   ·have on:=h.on (s - 1) (t - 1) (by rw[e1,e2];exact z1) iZ
    have q:=m5 hy (hF.rQ s) (hG.rQ t) (h.sep s t) on.2.1 (h.on s t z0 hp).1 z1 z0
    rw[on.2.2]
    exact ⟨λx=>q.mp (x.elim (λx=>x.2) λx=>x.2),λx=> .inl ⟨z0,q.mpr x⟩⟩
 have e:=FY (n:=n) (m:=m) (h:=λs t=>one (qu y (F s) (G t))+one (FX y (F (s - 1)) (G (t - 1)) (decide (o (s - 1)<o' (t - 1))))) (g:=λs t=>one (xi F G s t/\xj o i o' i' s t=true/\ ¬par F G s t)+one (FX y (F s) (G t) (decide (o s<o' t)))) λs t _ _=>pt s t
 rw[cj,cj,tI (h:=λs t=>one (FX y (F s) (G t) (decide (o s<o' t)))) (λs t=>by rw[hF.Mt,hF.op]) (λs t=>by rw[hG.Mt,hG.op])]at e
 omega
theorem zI{α:Type}{p q:α->Bool}:∀{l:List α},(∀x∈l,p x=true->q x=true)->(∃x∈l,q x=true/\p x=false)->l.countP p+1<=l.countP q
 | [],_,⟨_,h,_⟩=>absurd h kb
 | a::l,h,⟨x,hx,h1,h2⟩=>by
  rw[List.countP_cons,List.countP_cons]
  have m:=Qdu (p:=p) (q:=q) (l:=l) λz hz=>h z (ZO _ hz)
  rcases ZQ.mp hx with e | e
  ·subst e
   rw[h1,h2]
   simp
   exact m
  ·have ih:=zI (λz hz=>h z (ZO _ hz)) ⟨x,e,h1,h2⟩
   have ha:=h a ZP
   cases pa:p a
   ·cases q a<;>simp<;>omega
   ·rw[ha pa]
    simp
    omega
theorem C5(k:Nat):((List.range (k+1)).map λm=>(m+1)%(k+1)).Perm (List.range (k+1)):=by
 have e:((List.range (k+1)).map λm=>(m+1)%(k+1))=(List.range k).map Nat.succ++[0]:=by
  rw[Qbq,Xs]
  congr 1
  ·refine Qb9 λm hm=>?_
   exact Qbg (Nat.succ_lt_succ (Qav.mp hm))
  ·show [(k+1)%(k+1)]=[0]
   rw[Qfp]
 rw[e,List.range_succ_eq_map]
 exact Qe4
theorem xI{k c:Nat}{U:Nat->Bool}{f:Nat->Nat}(fi:∀u v,u<k+1->v<k+1->f u=f v->u=v)
  (h:∀u v,u<k+1->v<k+1->U u=true->U v=false->(f u<f v↔f ((u+1)%(k+1))<f ((v+1)%(k+1)))) {m x:Nat} (hm:m<k+1) (hx:x<k+1) (em:f m=c) (ex:f ((x+1)%(k+1))=c)
  (ih:∀x',x'<k+1->f ((x'+1)%(k+1))<c->U ((x'+1)%(k+1))=U x') (um:U m=true) (ux:U x=false):False:=by
 have sl:∀x:Nat,(x+1)%(k+1)<k+1:=λx=>Qc0 _ (Qfo k)
 have tr:∀P:Nat->Bool,(List.range (k+1)).countP (λu=>P (U u |>.toNat)&&decide (f u<c))=(List.range (k+1)).countP (λu=>P (U u |>.toNat)&&decide (f ((u+1)%(k+1))<c)):=λP=>by
  rw[<-(C5 k).countP_eq,List.countP_map]
  refine List.countP_congr λu hu=>?_
  show (P (U ((u+1)%(k+1)) |>.toNat)&&decide (f ((u+1)%(k+1))<c))=true↔_
  by_cases z:f ((u+1)%(k+1))<c
  ·rw[ih u (Qav.mp hu) z]
  ·rw[decide_eq_false z,Qfc,Qfc]
 have a1:=tr (λn=>n==1)
 have b1:=tr (λn=>n==0)
 have t1:∀u,((U u).toNat==1)=U u:=λu=>by cases U u<;>rfl
 have t0:∀u,((U u).toNat==0)=!U u:=λu=>by cases U u<;>rfl
 simp only[t1,t0]at a1 b1
 have up:(List.range (k+1)).countP (λv=>!U v&&decide ((List.range (k+1)).countP (λu=>U u&&decide (f u<f v))<=(List.range (k+1)).countP (λu=>U u&&decide (f u<c))))<=(List.range (k+1)).countP (λv=>!U v&&decide (f v<c)):=by
  refine Qdu λv hv q=>?_
  obtain ⟨q1,q2⟩:=Qb5.mp q
  rw[q1,Qdg]
  refine decide_eq_true (Classical.byContradiction λz=>?_)
  have ne:f v≠c:=λe=>by
   have:=fi v m (Qav.mp hv) hm (e.trans em.symm)
   rw[this,um]at q1
   cases q1
  have:=of_decide_eq_true q2
  have lt:=zI (l:=List.range (k+1)) (p:=λu=>U u&&decide (f u<c)) (q:=λu=>U u&&decide (f u<f v)) (λu _ q=>by
   obtain ⟨g1,g2⟩:=Qb5.mp q
   rw[g1,Qdg]
   have:=of_decide_eq_true g2
   exact decide_eq_true (by omega)) ⟨m,Qav.mpr hm,by rw[um,Qdg];exact decide_eq_true (by omega),by rw[um,Qdg];exact decide_eq_false (by omega)⟩
  omega
 have lo:=zI (l:=List.range (k+1)) (p:=λv=>!U v&&decide (f ((v+1)%(k+1))<c)) (q:=λv=>!U v&&decide ((List.range (k+1)).countP (λu=>U u&&decide (f u<f v))<=(List.range (k+1)).countP (λu=>U u&&decide (f u<c)))) (λv hv q=>?_) ⟨x,Qav.mpr hx,?_,by rw[ex,decide_eq_false (Qbe c),Qfc]⟩
 ·omega
 ·obtain ⟨q1,q2⟩:=Qb5.mp q
  have q2:=of_decide_eq_true q2
  rw[q1,Qdg,a1]
  refine decide_eq_true (Qdu λu hu q=>?_)
  obtain ⟨g1,g2⟩:=Qb5.mp q
  have:=(h u v (Qav.mp hu) (Qav.mp hv) g1 (by simpa using q1)).mp (of_decide_eq_true g2)
  rw[g1,Qdg]
  exact decide_eq_true (by omega)
 ·rw[ux,a1]
  refine Qb5.mpr ⟨rfl,decide_eq_true (Qdu λu hu q=>?_)⟩
  obtain ⟨g1,g2⟩:=Qb5.mp q
  have:=(h u x (Qav.mp hu) hx g1 ux).mp (of_decide_eq_true g2)
  rw[g1,Qdg]
  exact decide_eq_true (by omega)
theorem Jn{k:Nat}{U:Nat->Bool}{f:Nat->Nat}(fi:∀u v,u<k+1->v<k+1->f u=f v->u=v)
  (h:∀u v,u<k+1->v<k+1->U u=true->U v=false->(f u<f v↔f ((u+1)%(k+1))<f ((v+1)%(k+1)))):∀x,x<k+1->U ((x+1)%(k+1))=U x:=by
 have sl:∀x:Nat,(x+1)%(k+1)<k+1:=λx=>Qc0 _ (Qfo k)
 have si:∀u v:Nat,u<k+1->v<k+1->(u+1)%(k+1)=(v+1)%(k+1)->u=v:=λu v hu hv e=>by
  by_cases z:u=k<;>by_cases z2:v=k
  ·omega
  ·rw[z,Qfp,Qbg (by omega)]at e;omega
  ·rw[z2,Qfp,Qbg (by omega)]at e;omega
  ·rw[Qbg (by omega),Qbg (by omega)]at e;omega
 have key:∀c x,x<k+1->f ((x+1)%(k+1))=c->U ((x+1)%(k+1))=U x:=by
  intro c
  induction c using Nat.strongRecOn with
  | _ c ih=>
   intro x hx ex
   have V9:∀x',x'<k+1->f ((x'+1)%(k+1))<c->U ((x'+1)%(k+1))=U x':=λx' B6 l=>ih _ l x' B6 rfl
   cases ux:U x<;>cases um:U ((x+1)%(k+1))
   ·rfl
   ·exact (xI fi h (sl x) hx ex ex V9 um ux).elim
   ·refine (xI (U:=λu=>!U u) fi (λu v hu hv h1 h2=>?_) (sl x) hx ex ex (λx' B6 l=>by rw[V9 x' B6 l]) (by show (!U _)=true;rw[um];rfl) (by show (!U _)=false;rw[ux];rfl)).elim
    have h1:U u=false:=by simpa using h1
    have h2:U v=true:=by simpa using h2
    have q:=h v u hv hu h2 h1
    have ne:u≠v:=λz=>by rw[z,h2]at h1;cases h1
    have n1:f u≠f v:=λz=>ne (fi u v hu hv z)
    have n2:f ((u+1)%(k+1))≠f ((v+1)%(k+1)):=λz=>ne (si u v hu hv (fi _ _ (sl u) (sl v) z))
    omega
   ·rfl
 exact λx hx=>key _ x hx rfl
theorem Jo{α:Type}{p:α->α->Bool}(sy:∀a b,p a b=p b a){l m:List α}(h:l.Perm m):cl p l=cl p m:=by
 induction h with
 | nil=>rfl
 | cons x h ih=>
  show (List.filter (p x) _:)+cl p _=(List.filter (p x) _:)+cl p _
  rw[ih,(h.filter (p x)).length_eq]
 | swap x z l=>
  show ((x::l).filter (p z):)+((l.filter (p x):)+cl p l)=((z::l).filter (p x):)+((l.filter (p z):)+cl p l)
  rw[Qel,Qel,sy z x]
  cases p x z
  ·rw[if_neg Qah,if_neg Qah];omega
  ·rw[if_pos rfl,if_pos rfl,Qap,Qap];omega
 | trans _ _ i1 i2=>exact i1.trans i2
theorem span{k:Nat}{p:Nat->Nat->Bool}(sy:∀a b,p a b=p b a)(cut:∀U:Nat->Bool,(∃u,u<k+1/\U u=true)->(∃v,v<k+1/\U v=false)->∃u v,u<k+1/\v<k+1/\U u=true/\U v=false/\p u v=true):k<=cl p (List.range (k+1)):=by
 have go:∀j,j<k+1->∃l:Z,l.Nodup/\(∀x∈l,x<k+1)/\(l:)=j+1/\j<=cl p l:=by
  intro j
  induction j with
  | zero=>exact λ_=>⟨[0],by simp,by simp,rfl,Qac _⟩
  | succ j ih=>
   intro hj
   obtain ⟨l,nd,lt,hl,hc⟩:=ih (by omega)
   obtain ⟨u,v,hu,hv,u1,v1,q⟩:=cut (λx=>decide (x∈l)) (by
    match l,hl with
    | a::l,_=>exact ⟨a,lt a ZP,decide_eq_true ZP⟩) (Classical.byContradiction λz=>by
     have sub:∀x∈List.range (k+1),x∈l:=λx hx=>Classical.byContradiction λn=>z ⟨x,Qav.mp hx,decide_eq_false n⟩
     have:=(Qdv (n:=k+1)).length_le_of_subset sub
     rw[Qcv]at this
     omega)
   have u1:=of_decide_eq_true u1
   have v1:=of_decide_eq_false v1
   refine ⟨v::l,Qa9.mpr ⟨v1,nd⟩,λx hx=>(ZQ.mp hx).elim (λe=>e▸hv) (lt x),by rw[Qap,hl],?_⟩
   show j+1<=(l.filter (p v):)+cl p l
   have:0<(l.filter (p v):):=VJ.mpr λe=>by
    have:u∈l.filter (p v):=Qaz.mpr ⟨u1,by rw[sy];exact q⟩
    rw[e]at this
    exact absurd this kb
   omega
 obtain ⟨l,nd,lt,hl,hc⟩:=go k (Qcb k)
 have pm:l.Perm (List.range (k+1)):=(List.perm_ext_iff_of_nodup nd Qdv).mpr λx=>⟨λhx=>Qav.mpr (lt x hx),λhx=>Classical.byContradiction λn=>by
  have:=(Qa9.mpr ⟨n,nd⟩).length_le_of_subset (l₂:=List.range (k+1)) λz hz=>(ZQ.mp hz).elim (λe=>e▸hx) λe=>Qav.mpr (lt z e)
  rw[Qap,Qcv]at this
  omega⟩
 rw[<-Jo sy pm]
 exact hc
theorem tZ{h:Int->Int}{n:Nat}(pos:∀i:Nat,i<n->0<=h i):0<=sm n h:=by
 have:=fo (n:=n) (h:=λ_=>0) (g:=h) λi hi=>pos i hi
 rwa [de]at this
theorem zJ{h:Int->Int}:∀{n:Nat},(∀i:Nat,i<n->0<=h i)->∀{i:Nat},i<n->h i<=sm n h
 | 0,_,_,hi=>absurd hi (Qdh _)
 | n+1,pos,i,hi=>by
  have a:=tZ (n:=n) λi hi=>pos i (by omega)
  have b:=pos n (by omega)
  show h i<=sm n h+h n
  by_cases z:i=n
  ·subst z;omega
  ·have:=zJ (n:=n) (λi hi=>pos i (by omega)) (i:=i) (by omega)
   omega
theorem nz(h:Int->Int)(s:Nat):∀k:Nat,sm (k*s) h=sm k λm=>sm s λt=>h (m*s+t)
 | 0=>by rw[Qev];rfl
 | k+1=>by
  rw[Qcr,qx,nz h s k]
  show sm k _+sm s _=sm k _+sm s _
  congr 1
theorem MQ(p:Nat->Nat->Bool)(n:Nat):(cl p (List.range n):Int)=gH n λi j=>one (p i.toNat j.toNat=true):=by
 have:=zj (λx z:Nat×Nat=>p x.2 z.2) 0 n
 rw[vx]at this
 exact this
section
variable{y w:Z}{po pi:Int->Nat}
theorem Jp(hy:Yd y)(hw:SW y w)(P1:∀k,po (k+(w:))=po k)(sep:∀i j,Sep y [(aB (sq w i (-1)),pi (i - 1)),(sq w i 0,po i),(aB (sq w j (-1)),pi (j - 1)),(sq w j 0,po j)]){s k:Nat}(hs:0<s)(hn:(w:)=(k+1)*s)(hr:∀i j:Int,bI w w i j↔(i - j)%(s:Int)=0)
  (h:∀i j:Int,bI w w i j->i%(w:)≠j%(w:)->po i≠po j/\pi i≠pi j/\decide (po i<po j)=decide (pi j<pi i)):
  2*(k:Int)<=br (w:) (w:) λi j=>one (bI w w i j/\dE po pi po pi i j=true):=by
 have par:∀(u v:Nat) (t:Int),bI w w (u*s+t) (v*s+t):=λu v t=>(hr _ _).mpr (by
  rw[show ((u:Int)*s+t) - (v*s+t)=(u - v)*s by rw[Int.sub_mul];omega]
  exact Int.mul_emod_left _ _)
 have apart:∀(u v:Nat) (t:Int),u<k+1->v<k+1->u≠v->((u:Int)*s+t)%(w:)≠(v*s+t)%(w:):=λu v t hu hv ne e=>by
  have e2:=Qch.mp e
  rw[show ((u:Int)*s+t) - (v*s+t)=(u - v)*s by rw[Int.sub_mul];omega,hn,show (((k+1)*s:Nat):Int)=((k+1:Nat):Int)*s from Qdi _ _]at e2
  have e3:((u:Int) - v)*s%(((k+1:Nat):Int)*s)=(((u:Int) - v)%((k+1:Nat):Int))*s:=by
   rw[Qd6 _ (s:Int),Qd6 _ (s:Int),Int.mul_emod_mul_of_pos _ _ (by omega),Qd6]
  rw[e3]at e2
  have e4:((u:Int) - v)%((k+1:Nat):Int)=0:=(Int.mul_eq_zero.mp e2).elim id λz=>by omega
  have e5:=Qch.mpr e4
  rw[Qay (by omega) (by omega),Qay (by omega) (by omega)]at e5
  omega
 have cr:∀(u v:Nat) (t:Int),u<k+1->v<k+1->u≠v->(dE po pi po pi (u*s+t) (v*s+t)=true↔decide (po (u*s+(t - 1))<po (v*s+(t - 1)))≠decide (po (u*s+t)<po (v*s+t))):=λu v t hu hv ne=>by
  have p0:=par u v t
  have a0:=h _ _ p0 (apart u v t hu hv ne)
  have a1:=h _ _ (par u v (t - 1)) (apart u v (t - 1) hu hv ne)
  have e:∀u:Nat,(u:Int)*s+(t - 1)=u*s+t - 1:=λu=>by omega
  rw[e,e]at a1 ⊢
  rw[a1.2.2]
  exact m5 hy (bg hw _) (bg hw _) (sep _ _) a1.2.1 a0.1 (p0 (-1)) (p0 0)
 have sym:∀(u v:Nat) (t:Int),u<k+1->v<k+1->dE po pi po pi (u*s+t) (v*s+t)=true->dE po pi po pi (v*s+t) (u*s+t)=true:=λu v t hu hv q=>by
  by_cases ne:u=v
  ·subst ne;exact q
  ·rw[cr u v t hu hv ne]at q
   rw[cr v u t hv hu (Ne.symm ne)]
   have a0:=(h _ _ (par u v t) (apart u v t hu hv ne)).1
   have a1:=(h _ _ (par u v (t - 1)) (apart u v (t - 1) hu hv ne)).1
   rw[fj a0,fj a1]
   exact λz=>q (by simpa using z)
 obtain ⟨P,hP⟩:∃P:Nat->Nat->Bool,∀u v,P u v=(decide (u<k+1)&&(decide (v<k+1)&&(List.range s).any λt=>dE po pi po pi (u*s+t) (v*s+t))):=⟨_,λ_ _=>rfl⟩
 have iff:∀u v,P u v=true↔u<k+1/\v<k+1/\∃t:Nat,t<s/\dE po pi po pi (u*s+t) (v*s+t)=true:=λu v=>by
  rw[hP,Qb5,Qb5,decide_eq_true_iff,decide_eq_true_iff,Qfx]
  exact ⟨λ⟨a,b,t,ht,q⟩=>⟨a,b,t,Qav.mp ht,q⟩,λ⟨a,b,t,ht,q⟩=>⟨a,b,t,Qav.mpr ht,q⟩⟩
 have sy:∀u v,P u v=P v u:=λu v=>Qdj.mpr (by
  rw[iff,iff]
  exact ⟨λ⟨a,b,t,ht,q⟩=>⟨b,a,t,ht,sym u v t a b q⟩,λ⟨b,a,t,ht,q⟩=>⟨a,b,t,ht,sym v u t b a q⟩⟩)
 have sp:k<=cl P (List.range (k+1)):=by
  refine span sy λU ⟨u,hu,u1⟩ ⟨v,hv,v1⟩=>Classical.byContradiction λno=>?_
  have f1:∀u:Nat,u<k+1->po (((u+1)%(k+1):Nat)*s - 1)=po (u*s+(s - 1)):=λu hu=>by
   by_cases z:u=k
   ·subst z
    rw[Qfp, <-P1 (((0:Nat):Int)*s - 1),hn]
    congr 1
    rw[Qdi,Qa2,Int.add_mul]
    omega
   ·rw[Qbg (by omega),Qa2,Int.add_mul]
    congr 1
    omega
  have al:=Jn (k:=k) (U:=U) (f:=λu=>po (u*s - 1)) (λu v hu hv e=>Classical.byContradiction λne=>by
   have e1:∀u:Nat,(u:Int)*s - 1=u*s+(-1):=λu=>by omega
   rw[e1,e1]at e
   exact (h _ _ (par u v (-1)) (apart u v (-1) hu hv ne)).1 e) (λu v hu hv q1 q2=>by
    have ne:u≠v:=λz=>by rw[z,q2]at q1;cases q1
    have st:∀t:Nat,t<=s->decide (po (u*s+((t:Int) - 1))<po (v*s+((t:Int) - 1)))=decide (po (u*s - 1)<po (v*s - 1)):=by
     intro t
     induction t with
     | zero=>exact λ_=>rfl
     | succ t ih=>
      intro ht
      rw[<-ih (by omega),show ((t+1:Nat):Int) - 1=t by omega]
      refine Classical.byContradiction λq=>no ⟨u,v,hu,hv,q1,q2,(iff u v).mpr ⟨hu,hv,t,by omega,(cr u v t hu hv ne).mpr (Ne.symm q)⟩⟩
    have e:=st s (RP s)
    have:=decide_eq_decide.mp e
    show po _<po _↔po _<po _
    rw[f1 u hu,f1 v hv]
    exact this.symm)
  have all:∀x,x<k+1->U x=U 0:=by
   intro x
   induction x with
   | zero=>exact λ_=>rfl
   | succ x ih=>
    intro hx
    have:=al x (by omega)
    rw[Qbg hx]at this
    rw[this,ih (by omega)]
  rw[all u hu, <-all v hv,v1]at u1
  cases u1
 have low:br (k+1) (k+1) (λi j=>one (P i.toNat j.toNat=true))<=br (w:) (w:) λi j=>one (bI w w i j/\dE po pi po pi i j=true):=by
  rw[hn]
  unfold br
  rw[nz]
  refine fo λm hm=>?_
  have e1:∀t:Int,sm ((k+1)*s) (λj=>one (bI w w (m*s+t) j/\dE po pi po pi (m*s+t) j=true))=sm (k+1) λm'=>sm s λt'=>one (bI w w (m*s+t) (m'*s+t')/\dE po pi po pi (m*s+t) (m'*s+t')=true):=λt=>nz _ s (k+1)
  have e2:sm s (λt=>sm (k+1) λm'=>one (bI w w (m*s+t) (m'*s+t)/\dE po pi po pi (m*s+t) (m'*s+t)=true))<=sm s λt=>sm ((k+1)*s) λj=>one (bI w w (m*s+t) j/\dE po pi po pi (m*s+t) j=true):=fo λt ht=>by
   rw[e1]
   exact fo λm' Ff=>zJ (h:=λt'=>one (bI w w (m*s+t) (m'*s+t')/\dE po pi po pi (m*s+t) (m'*s+t')=true)) (λi _=>(one_le _).1) ht
  refine Int.le_trans ?_ e2
  rw[vg]
  refine fo λm' Ff=>?_
  show one (P (m:Int).toNat (m':Int).toNat=true)<=_
  rw[Xt,Xt]
  by_cases z:P m m'=true
  ·obtain ⟨_,_,t,ht,q⟩:=(iff m m').mp z
   rw[eJ z]
   have:=zJ (h:=λt=>one (bI w w (m*s+t) (m'*s+t)/\dE po pi po pi (m*s+t) (m'*s+t)=true)) (λi _=>(one_le _).1) ht
   have e3:one (bI w w (m*s+t) (m'*s+t)/\dE po pi po pi (m*s+t) (m'*s+t)=true)=1:=eJ ⟨par m m' t,q⟩
   simp only[e3]at this
   exact this
  ·rw[aU z]
   exact tZ λi _=>(one_le _).1
 have e:=jO (n:=k+1) (h:=λi j=>one (P i.toNat j.toNat=true)) (λi j _ _=>by rw[sy]) (λi _=>aU λz=>by
  rw[Xt]at z
  obtain ⟨_,_,t,_,q⟩:=(iff i i).mp z
  unfold dE at q
  rw[lU]at q
  cases q)
 rw[e, <-MQ]at low
 omega
end
section
variable{y w v:Z}{po pi qo qi:Int->Nat}
theorem xJ(hy:Yd y)(hw:SW y w)(hv:SW y v)(P1:∀k,po (k+(w:))=po k)(P2:∀k,pi (k+(w:))=pi k)(Q1:∀k,qo (k+(v:))=qo k)(Q2:∀k,qi (k+(v:))=qi k)
  (hS:FZ y (sq w) po pi (sq v) qo qi) (hO:FZ y (sq w) po pi (λk=>bq v (-k)) (λk=>qi (-k)) (λk=>qo (-k))):
  br (w:) (v:) (fc y w v)+br (w:) (v:) (λi j=>one (bI w v i j/\dE po pi qo qi i j=true))<=br (w:) (v:) (λi j=>one (dE po pi qo qi i j=true)):=by
 have s1:=Br hy (m7 hw P1 P2) (m7 hv Q1 Q2) hS
 have s2:=Br hy (m7 hw P1 P2) (EW hy hv Q1 Q2) hO
 rw[AV hy hw hv]at s1
 rw[AW hy hw hv,AX Q1 Q2]at s2
 have s3:0<=br (w:) (v:) (λi j=>one (iS w v i j/\dE po pi qo qi i j=true)):=tZ λi _=>tZ λj _=>(one_le _).1
 have e:br (w:) (v:) (fc y w v)=br (w:) (v:) (λi j=>one (ac y (aB (rd w (i - 1))) (rd w i) (aB (rd v (j - 1))) (rd v j)=true))+br (w:) (v:) (λi j=>one (0<al y (sq w i) (sq v j) ((w:)+(v:))))+br (w:) (v:) (λi j=>one (0<al y (sq w i) (bq v j) ((w:)+(v:)))):=by
  rw[<-cj, <-cj]
  rfl
 rw[qw hy hw hv hS.sep,e]
 omega
end
section
variable{y:Z}{ws:List Z}{L:Nat->Bool}{r:Nat->Nat}{M:Nat}{N:Nat->Nat->Nat->Nat}{R:Nat->Nat->Nat->Nat->Bool}
theorem cR.anyS(h:cy y ws L r M)(hN:cR y ws R N){c d:Nat}(hc:c<(ws:))(hd:d<(ws:)):FZ y (sq (ws|||c)) (pO ws N c) (pI ws N c) (sq (ws|||d)) (pO ws N d) (pI ws N d):=by
 have hw:=h.sw c hc
 have hv:=h.sw d hd
 walk_at"P"
 have lv:=VJ.mpr hv.ne
 walk_at"t"
 refine ⟨hN.Mv h hc hd,λs t h0 np=>?_⟩
 have key:=hN.at h.yd hc hd (aZ lw s) (aZ lv t) hw hv (.inl (bM hw.ne s).symm) (.inl (bM hv.ne t).symm) h0 (λz=>np (by
  obtain ⟨z1,z2⟩:=Prod.mk.inj z
  subst z1
  have:sq (ws|||c) s=sq (ws|||c) t:=by rw[<-bM hw.ne s, <-bM hw.ne t,z2]
  exact λk=>congrFun this k))
 rw[s0,s0]at h0
 rw[s0,h0]at key
 unfold pO pI
 rw[h0]
 exact ⟨key.1,key.2.1,key.2.2.1.trans key.2.2.2.symm⟩
theorem cR.QW(h:cy y ws L r M)(hN:cR y ws R N){c d:Nat}(hc:c<(ws:))(hd:d<(ws:)):FZ y (sq (ws|||c)) (pO ws N c) (pI ws N c) (λk=>bq (ws|||d) (-k)) (λk=>pI ws N d (-k)) (λk=>pO ws N d (-k)):=by
 have hw:=h.sw c hc
 have hv:=h.sw d hd
 walk_at"P"
 have lv:=VJ.mpr hv.ne
 walk_at"t"
 have b0:∀(w:Z) (i:Int),bq w i 0=aB (rd w i):=λw i=>by unfold bq;rw[show i - 0=i by omega]
 refine ⟨hN.QO h hc hd,λs t h0 np=>?_⟩
 have key:=hN.at h.yd hc hd (aZ lw s) (aZ lv (-t)) hw hv (.inl (bM hw.ne s).symm) (.inr (m9 hv.ne (-t)).symm) h0 (λz=>by
  obtain ⟨z1,z2⟩:=Prod.mk.inj z
  subst z1
  have z0:sq (ws|||c) s 0=bq (ws|||c) (-t) 0:=h0
  rw[s0,b0, <-bQ hw.ne s, <-bQ hw.ne (-t),z2]at z0
  exact gE (h.yd.lt _ (hw.rd _)) z0.symm)
 have h0:sq (ws|||c) s 0=bq (ws|||d) (-t) 0:=h0
 rw[s0,b0]at h0
 rw[s0,h0,aK (h.yd.lt _ (hv.rd _))]at key
 unfold pO pI
 rw[h0,aK (h.yd.lt _ (hv.rd _))]
 exact ⟨key.1,key.2.1,key.2.2.1.trans key.2.2.2.symm⟩
theorem Jq(h:cy y ws L r M)(hN:cR y ws R N){c d:Nat}(hc:c<(ws:))(hd:d<(ws:)):
  br ((ws|||c):) ((ws|||d):) (fc y (ws|||c) (ws|||d))<=br ((ws|||c):) ((ws|||d):) (λi j=>one (dE (pO ws N c) (pI ws N c) (pO ws N d) (pI ws N d) i j=true)):=by
 have a:=xJ h.yd (h.sw c hc) (h.sw d hd) (iy ws N c) (js ws N c) (iy ws N d) (js ws N d) (hN.anyS h hc hd) (hN.QW h hc hd)
 have b:0<=br ((ws|||c):) ((ws|||d):) (λi j=>one (bI (ws|||c) (ws|||d) i j/\dE (pO ws N c) (pI ws N c) (pO ws N d) (pI ws N d) i j=true)):=tZ λi _=>tZ λj _=>(one_le _).1
 omega
theorem F_(h:cy y ws L r M)(hN:cR y ws R N){c:Nat}(hc:c<(ws:)):
  br ((ws|||c):) ((ws|||c):) (fc y (ws|||c) (ws|||c))+2*((((ws|||c):) / r c:Nat) - 1)<=2*gH ((ws|||c):) (λi j=>one (dE (pO ws N c) (pI ws N c) (pO ws N c) (pI ws N c) i j=true)):=by
 have hw:=h.sw c hc
 walk_at"P"
 have e:=jO (n:=((ws|||c):)) (h:=λi j=>one (dE (pO ws N c) (pI ws N c) (pO ws N c) (pI ws N c) i j=true)) (λi j hi hj=>by rw[ve h hN hc hc hi hj]) (λi hi=>aU (by unfold dE;rw[lU];decide))
 have a:=xJ h.yd hw hw (iy ws N c) (js ws N c) (iy ws N c) (js ws N c) (hN.anyS h hc hc) (hN.QW h hc hc)
 obtain ⟨G6,NG⟩:=h.root hc
 obtain ⟨k,hk⟩:∃k,((ws|||c):) / r c=k+1:=⟨((ws|||c):) / r c - 1,by omega⟩
 walk_at"t"
 have b:=Jp h.yd hw (iy ws N c) (hN.Mv h hc hc) (s:=r c) (k:=k) (h.rp c hc) (by rw[<-hk];exact G6) (h.rr c hc) (λi j p cP=>by
  have key:=hN.at h.yd hc hc (aZ lw i) (aZ lw j) hw hw (.inl (bM hw.ne i).symm) (.inl (bM hw.ne j).symm) (p 0) (λz=>cP (by
   rw[<-bY lw, <-bY lw,(Prod.mk.inj z).2]))
  have h0:=p 0
  rw[s0,s0]at h0
  rw[s0,h0]at key
  unfold pO pI
  rw[h0]
  exact ⟨key.1,key.2.1,key.2.2.1.trans key.2.2.2.symm⟩)
 rw[hk]
 omega
theorem C6(h:cy y ws L r M)(hN:cR y ws R N):(xa y ws:)+sm (ws:) (λc=>(((ws.getD c.toNat []:) / r c.toNat:Nat):Int) - 1)<=(cl (tK ws N) (places ws):Int):=by
 unfold places
 rw[zk,xn]
 have e1:sm (ws:) (λc=>br (ws.getD c.toNat []:) (ws.getD c.toNat []:) λi j=>((tE y ws (c.toNat,i.toNat) (c.toNat,j.toNat):):Int))+sm (ws:) (λc=>(((ws.getD c.toNat []:) / r c.toNat:Nat):Int) - 1)<=sm (ws:) (λc=>gH (ws.getD c.toNat []:) (λi j=>one (tK ws N (c.toNat,i.toNat) (c.toNat,j.toNat)=true))):=by
  rw[<-kA]
  refine fo λc hc=>?_
  rw[Xt]
  have a:=F_ h hN hc
  have b:=tJ (c:=c) h.yd (h.sw c hc)
  have e:gH ((ws|||c):) (λi j=>one (tK ws N (c,i.toNat) (c,j.toNat)=true))=gH ((ws|||c):) (λi j=>one (dE (pO ws N c) (pI ws N c) (pO ws N c) (pI ws N c) i j=true)):=jP λi j _ _=>by
   unfold tK
   rw[Xt,Xt]
  rw[e]
  omega
 have Ga:∀{h g:Int->Int->Int} {n:Nat},(∀i j:Nat,i<j->j<n->h i j<=g i j)->gH n h<=gH n g:=λ{h g n}=>by
  induction n with
  | zero=>exact λ_=>Qfb 0
  | succ n ih=>
   intro e
   have a:=ih λi j h1 h2=>e i j h1 (by omega)
   have b:=fo (n:=n) (h:=λj=>h j n) (g:=λj=>g j n) λj hj=>e j n hj (by omega)
   show gH n h+_<=gH n g+_
   omega
 have e2:gH (ws:) (λc d=>br (ws.getD c.toNat []:) (ws.getD d.toNat []:) λi j=>((tE y ws (c.toNat,i.toNat) (d.toNat,j.toNat):):Int))<=gH (ws:) (λc d=>br (ws.getD c.toNat []:) (ws.getD d.toNat []:) λi j=>one (tK ws N (c.toNat,i.toNat) (d.toNat,j.toNat)=true)):=Ga λc d oA hd=>by
  rw[Xt,Xt]
  have b:=Jq h hN (c:=c) (d:=d) (by omega) hd
  have e3:br ((ws|||c):) ((ws|||d):) (λi j=>one (tK ws N (c,i.toNat) (d,j.toNat)=true))=br ((ws|||c):) ((ws|||d):) (λi j=>one (dE (pO ws N c) (pI ws N c) (pO ws N d) (pI ws N d) i j=true)):=bS λi j _ _=>by
   unfold tK
   rw[Xt,Xt]
  have e4:br ((ws|||c):) ((ws|||d):) (λi j=>((tE y ws (c,i.toNat) (d,j.toNat):):Int))=br ((ws|||c):) ((ws|||d):) (fc y (ws|||c) (ws|||d)):=bS λi j _ _=>by rw[Xt,Xt];exact A7 oA
  rw[e3,e4]
  exact b
 omega
end
noncomputable def R8(l:Nat):Nat:=if ay l=true then l else aB l
theorem Gb{y:Z}{ws:List Z}{os:List Od}(hy:Yd y)(hs:∀c,c<(ws:)->SW y (ws|||c))(ho:iU y ws os):cR y ws (λc i d j=>decide (gu (dF y os) c i (R8 (rd (ws|||c) i))<gu (dF y os) d j (R8 (rd (ws|||c) i)))) (gu (dF y os)):=by
 refine ⟨Fi hy (λc hc=>(hs c hc).rd) ho,λc i d j x hc hd hi hj cP hx NL IV=>?_⟩
 obtain ⟨o,NM,m,n,m',n',A,B,p,q,p',q',hm,hn,vX,uq,b1,b2,ep,eq,Ho,QS,e1,e2,yH,Fj⟩:=pos_at hy (λc hc=>(hs c hc).rd) ho hc hd hi hj hx NL IV
 have nd:(o.ps.map Pr.pair).Nodup:=by
  obtain ⟨k,hk,rfl⟩:=Qcy NM
  have:=ho.1
  exact (ho.2 k _ _ (LK hk) (LK (by omega))).nodup_iff.mpr (nc _ _ _)
 have uniq:∀{a b:Nat} {u u':Pr},o.ps[a]? =some u->o.ps[b]? =some u'->u.pair=u'.pair->a=b:=λ{a b u u'} h1 h2 h3=>by
  obtain ⟨ha,ea⟩:=LL.mp h1
  obtain ⟨hb,eb⟩:=LL.mp h2
  exact V5 nd (i:=a) (j:=b) (by rw[NA];exact ha) (by rw[NA];exact hb) (by rw[Qda,Qda,ea,eb,h3])
 have k1:=uniq hm vX (by rw[ep,Ho])
 have k2:=uniq hn uq (by rw[eq,QS])
 have k3:m≠n:=λz=>cP (by
  rw[z,hn]at hm
  rw[<-ep, <-eq,Qaf hm])
 have lx:Lt x:=by
  have h9:97<=x/\x<=122:=by unfold ay at hx;simpa using hx
  have:∀k,k<26->k+97∈aL:=by decide
  have h8:=this (x - 97) (by omega)
  rw[show x - 97+97=x by omega]at h8
  exact .inl h8
 have el:R8 (rd (ws|||c) i)=x:=by
  unfold R8
  rcases NL with z | z
  ·rw[z,if_pos hx]
  ·rw[z,fh _ lx.mem,hx,if_neg ∅,aK lx]
 rw[el]
 unfold gu
 rw[e1,e2,yH,Fj]
 exact ⟨by omega,by omega,rfl,decide_eq_decide.mpr (by omega)⟩
theorem Jr{y:Z}{ws:List Z}{os:List Od}(hy:Yd y)(hw:∀w∈ws,SW y w)(ho:iU y ws os):(xa y ws:)+Bp ws<=(mq (cS y ws os):Int):=by
 obtain ⟨M,hM⟩:∃M,∀w∈ws,(w:)<=M:=by
  clear ho hw
  induction ws with
  | nil=>exact ⟨0,λ_ h=>absurd h kb⟩
  | cons v vs ih=>
   obtain ⟨M,h⟩:=ih
   exact ⟨M+(v:),λw hw=>(ZQ.mp hw).elim (λe=>by rw[e];omega) λe=>by have:=h w e;omega⟩
 have hs:∀c,c<(ws:)->SW y (ws|||c):=λc hc=>hw _ (getD_in hc)
 have hC:=xo (M:=2*M) hy hs (λc hc=>zD (hs c hc).ne) λc d hc hd=>by
  have:=hM _ (getD_in hc)
  have:=hM _ (getD_in hd)
  omega
 have hN:=Gb hy hs ho
 rw[FV hC hN]
 exact C6 hC hN
def Bs(_:Fr):Sp:=λvs H Q _=>∃(y:Z) (dr:Addr) (ws:List Z) (os:List Od),vs=[.str (S y),.ref dr]/\Yd y/\(y:)<=8/\zo y ws/\iU y ws os/\qC H dr ws os/\∀H',aj H H'->Q (.int (mq (cS y ws os):Nat)) H'
theorem Gd{K:Fr}{vs:List V}{H:Hp}{Q:VK}{E:XK}(h:Bs K vs H Q E):(vs:)=2:=by obtain ⟨_,_,_,_,rfl,_⟩:=h;rfl
structure Ch where
 t:Addr
 v:C4
noncomputable def rX(us:List Ch):List V:=us.map λu=>V.ref u.t
theorem mr(us:List Ch):(rX us:)=(us:):=by unfold rX;rw[NA]
theorem xK(a:List Ch)(u:Ch):rX a++[V.ref u.t]=rX (a++[u]):=by unfold rX;rw[Xs];rfl
theorem Ge{us:List Ch}{i:Nat}{x:V}(h:(rX us)[i]? =some x):∃u,us[i]? =some u/\x=V.ref u.t:=by
 unfold rX at h
 rw[ZN]at h
 obtain ⟨u,hu,rfl⟩:=Qci.mp h
 exact ⟨u,hu,rfl⟩
def xM(H:Hp)(u:Ch):Prop:=H u.t=some (.lst ((Jl u.v).map V.int))
theorem C7{α:Type}{p:α->Bool}{l:List α}{i:Nat}{x:α}(h:l[i]? =some x):(l.take (i+1)).filter p=(l.take i).filter p++if p x=true then [x] else []:=by
 rw[<-take_snoc h,Qb2]
 congr 1
 by_cases z:p x=true
 ·rw[if_pos z,Qax z];rfl
 ·rw[if_neg z,Qao z];rfl
theorem Yp(a b c d:Bool)(h1:a=true)(h2:c=true):(!decide (b=d))=xor (a&&b) (c&&d):=by subst h1;subst h2;cases b<;>cases d<;>rfl
theorem Yq(a b c d:Bool)(h1:a=true)(h2: ¬c=true):(!decide (b=false))=xor (a&&b) (c&&d):=by subst h1;rw[Qdb _ |>.mp h2];cases b<;>rfl
theorem Yr(a b c d:Bool)(h1: ¬a=true)(h2:c=true):(!decide (false=d))=xor (a&&b) (c&&d):=by subst h2;rw[Qdb _ |>.mp h1];cases d<;>rfl
theorem Ys(a b c d:Bool)(h1: ¬a=true)(h2: ¬c=true):(!decide (false=false))=xor (a&&b) (c&&d):=by rw[Qdb _ |>.mp h1,Qdb _ |>.mp h2];rfl
structure vA(H:Hp)(o:Od):Prop where
 ls:H o.o=some (.lst (iA o.ps))
 pr:∀p∈o.ps,iT H p
theorem vA.same{H H':Hp}{o:Od}(h:vA H o)(s:aj H H'):vA H' o:=⟨s _ _ h.ls,λp hp=>(h.pr p hp).same s⟩
theorem vA.lD{H:Hp}{o:Od}{p:Addr}{xs ys:List V}(h:vA H o)(hp:H p=some (.lst xs))(n:o.o≠p):vA (L2.upd H p (.lst ys)) o:=⟨by rw[ar n];exact h.ls,λr hr=>(h.pr r hr).ts (aY.lD hp)⟩
noncomputable def dv(o:Od):List (Nat×Nat):=o.ps.map Pr.pair
noncomputable def dD(y:Z)(ws:List Z):List (List (Nat×Nat)):=(cq y).map λb=>bV b ws (ws:)
def om(_:Fr):Sp:=λvs H Q _=>∃(y:Z) (wt:Addr) (ws:List Z),vs=[.str (S y),.ref wt]/\Yd y/\(y:)<=8/\H wt=some (.tup (j7 ws))/\zo y ws/\∀(q:Addr) (os:List Od) (H':Hp),H q=none->H' q=some (.lst (iJ os))->(∀o∈os,vA H' o)->os.map dv=dD y ws->aj H H'->Q (.ref q) H'
theorem vB{K:Fr}{vs:List V}{H:Hp}{Q:VK}{E:XK}(h:om K vs H Q E):(vs:)=2:=by obtain ⟨_,_,_,rfl,_⟩:=h;rfl
def xN(_:Fr):Sp:=λvs H Q _=>∃(y:Z) (wt:Addr) (ws:List Z),vs=[.str (S y),.ref wt]/\Yd y/\(y:)<=8/\NJ y ws/\H wt=some (.tup (j7 ws))/\∀H',aj H H'->(∃os,ml y ws os)->Q (.int (FU y ws)) H'
theorem C8{K:Fr}{vs:List V}{H:Hp}{Q:VK}{E:XK}(h:xN K vs H Q E):(vs:)=2:=by obtain ⟨_,_,_,rfl,_⟩:=h;rfl
noncomputable def iN:Nat->Nat
 | 0=>1
 | n+1=>iN n*(n+1)
theorem vC:∀n,1<=iN n
 | 0=>RP _
 | n+1=>by
  have:=Qd9 (vC n) (Nat.le_add_left 1 n)
  exact this
theorem vD(a:Nat):∀b,iN a*iN b<=iN (a+b)
 | 0=>by show iN a*1<=iN a;rw[Qec];exact RP _
 | b+1=>by
  show iN a*(iN b*(b+1))<=iN (a+b)*(a+b+1)
  rw[<-Qfi]
  exact Qd9 (vD a b) ()
theorem mw{a b:Nat}(h:a<=b):iN a<=iN b:=by
 obtain ⟨k,rfl⟩:=Nat.le.dest h
 exact Qak (by have:=Qd9 (RP (iN a)) (vC k);rwa [Qec]at this) (vD a k)
noncomputable def oq(L:List (List (Nat×Nat))):Nat:=L.foldl (λm x=>m*iN (x:)) 1
theorem jB(L:List (List (Nat×Nat)))(x:List (Nat×Nat)):oq (L++[x])=oq L*iN (x:):=by unfold oq;rw[Qfr];rfl
theorem MR(L:List (List (Nat×Nat))):oq L<=iN (L.map List.length).sum:=by
 unfold oq
 suffices h:∀(L:List (List (Nat×Nat))) (m s:Nat),m<=iN s->L.foldl (λm x=>m*iN (x:)) m<=iN (s+(L.map List.length).sum) by
  have:=h L 1 0 (RP _)
  rwa [Qc9]at this
 intro L
 induction L with
 | nil=>exact λm s h=>h
 | cons x L ih=>
  intro m s h
  rw[Qad,Qbk, <-Qdy]
  exact ih _ _ (Qak (Qc7 _ h) (vD s (x:)))
theorem xO{L:List (List (Nat×Nat))}:∀{k m:Nat},oq (L.take k)<=oq (L.take (k+m))
 | _,0=>RP _
 | k,m+1=>by
  refine Qak (xO (m:=m)) ?_
  rw[<-Qdy]
  by_cases h:k+m<L.length
  ·rw[<-take_snoc (LK h),jB]
   have:=Qd9 (RP (oq (L.take (k+m)))) (vC L[k+m].length)
   rwa [Qec]at this
  ·rw[Qar (),Qar ()]
   exact RP _
theorem vE{L:List (List (Nat×Nat))}{k:Nat}(h:k<=L.length):oq (L.take k)<=oq L:=by
 have:=xO (L:=L) (k:=k) (m:=L.length - k)
 rwa [Nat.add_sub_cancel' h,Qau]at this
theorem Bt(L:List (List (Nat×Nat))):1<=oq L:=by
 have:=vE (L:=L) (k:=0) (Qac _)
 exact this
theorem Js{L:List (List (Nat×Nat))}{k:Nat}{x:List (Nat×Nat)}(h:L[k]? =some x):iN (x:)<=oq L:=by
 have hk:=(LL.mp h).1
 have:=vE (L:=L) (k:=k+1) hk
 rw[<-take_snoc h,jB]at this
 have a:=Qd9 (Bt (L.take k)) (RP (iN (x:)))
 rw[Nat.one_mul]at a
 exact Qak a this
theorem Jt{n:Nat}(h:iN n<=720):n<=6:=by
 by_cases z:n<=6
 ·exact z
 ·have a:=mw (show 7<=n by lia)
  have b:iN 7=5040:=rfl
  lia
theorem xP{α:Type}(p:α->Bool):∀l:List α,(l.filter p:)+((l.filter λx=>!p x):)=(l:)
 | []=>rfl
 | x::l=>by
  have ih:=xP p l
  cases e:p x
  ·rw[Qao (by rw[e];decide),Qax (by rw[e];rfl),Qap,Qap];lia
  ·rw[Qax e,Qao (by rw[e];decide),Qap,Qap];lia
theorem QX{α:Type}(p:Nat->α->Bool):∀(bs:Z) (l:List α),(bs.Pairwise λa b=>∀x,p a x=true->p b x=false)->(bs.map λb=>(l.filter (p b):)).sum<=(l:)
 | [],_,_=>Qac _
 | b::bs,l,h=>by
  obtain ⟨h1,h2⟩:=Qcc.mp h
  have ih:=QX p bs (l.filter λx=>!p b x) h2
  have e:(bs.map λc=>((l.filter λx=>!p b x).filter (p c):))=bs.map λc=>(l.filter (p c):):=by
   refine Qb9 λc hc=>?_
   rw[List.filter_filter]
   congr 1
   refine Qc6 λx _=>?_
   cases e1:p b x
   ·simp
   ·rw[h1 c hc x e1];rfl
  rw[e]at ih
  rw[Qad,Qbk]
  have:=xP (p b) l
  lia
theorem xQ{α:Type}(f g:α->Nat):∀l:List α,(l.map λx=>f x+g x).sum=(l.map f).sum+(l.map g).sum
 | []=>rfl
 | x::l=>by rw[Qad,Qad,Qad,Qbk,Qbk,Qbk,xQ f g l];lia
theorem Ju{a b:Nat}(ha:a∈aL)(hb:b∈aL)(h:a≠b)(x:Nat)(hx:rT a x=true):rT b x=false:=by
 have key:∀a∈aL,∀b∈aL,a≠b->a≠aB b/\aB a≠b/\aB a≠aB b:=by decide+kernel
 obtain ⟨k1,k2,k3⟩:=key a ha b hb h
 unfold rT at hx ⊢
 rw[Bool.or_eq_true]at hx
 rcases hx with g | g
 ·rw[of_decide_eq_true g,decide_eq_false h,decide_eq_false k1];rfl
 ·rw[of_decide_eq_true g,decide_eq_false k2,decide_eq_false k3];rfl
theorem Bu{y:Z}(hy:Yd y)(ws:List Z):∀n,n<=(ws:)->((cq y).map λb=>(bV b ws n:)).sum<=((ws.take n).map List.length).sum
 | 0,_=>by
  have e:((cq y).map λb=>(bV b ws 0:))=(cq y).map λ_=>0:=rfl
  rw[e]
  generalize cq y=l
  induction l with
  | nil=>exact RP _
  | cons _ l ih=>rw[Qad,Qbk,Qc9];exact ih
 | n+1,h=>by
  have ih:=Bu hy ws n ()
  have hn:ws[n]? =some ws[n]:=LK ()
  have e:((cq y).map λb=>(bV b ws (n+1):))=(cq y).map λb=>(bV b ws n:)+(((List.range ws[n].length).filter λi=>rT b (ws[n].getD i 0)):):=by
   refine Qb9 λb _=>?_
   rw[ju hn,VG]
   unfold gz
   rw[NA]
  rw[e,xQ,Qdn,hn,Xs,Qf0]
  have nd:(cq y).Nodup:=(dq y).nodup_iff.mpr (hy.nd.filter _)
  have sm:∀b∈cq y,b∈aL:=λb hb=>by
   have z:=(dq y).mem_iff.mp hb
   rw[<-kB hy.lt]at z
   exact of_decide_eq_true (Qaz.mp z).2
  have c:=QX (λb i=>rT b (ws[n].getD i 0)) (cq y) (List.range ws[n].length) (Qcf (λ{a b} ha hb h x hx=>Ju (sm a ha) (sm b hb) h _ hx) nd)
  rw[Qcv]at c
  show _<=_+[ws[n].length].sum
  rw[List.sum_singleton]
  lia
theorem Gf{y w:Z}(hy:Yd y)(h:(w:)<=5):oq (dD y [w])<=720:=by
 refine Qak (MR _) (Qak (mw (b:=5) ?_) ∅)
 unfold dD
 rw[Qbo]
 have:=Bu hy [w] 1 (RP _)
 have e:(([w].take 1).map List.length).sum=(w:):=by show (w:)+0=_;rfl
 rw[e]at this
 exact Qak this h
theorem Jv(xs:List V)(k:Nat):gq xs none (some (k:Int))=xs.take k:=eW xs k
theorem t9(xs:List V)(k:Nat):gq xs (some (k:Int)) none=xs.drop k:=ji xs k
theorem Bv{p:Addr}{H H':Hp}{o:HO}(s:aj H H')(n:H p=none):aj H (L2.upd H' p o):=λc u e=>by rw[ar (ao e n)];exact s c u e
theorem pA{os:List Od}{i:Nat}{x:V}(h:(iJ os)[i]? =some x):∃o,os[i]? =some o/\x=V.ref o.o:=by
 unfold iJ at h
 rw[ZN]at h
 obtain ⟨o,ho,rfl⟩:=Qci.mp h
 exact ⟨o,ho,rfl⟩
theorem Jw(a b:List Od):iJ a++iJ b=iJ (a++b):=by unfold iJ;rw[Xs]
noncomputable def qO{α:Type}(l:List α)(m:Nat)(x:α):List α:=l.take m++[x]++l.drop m
theorem C9{α:Type}(l:List α)(m:Nat)(x:α):(qO l m x).Perm (l++[x]):=by
 unfold qO
 have a:(l.take m++[x]++l.drop m).Perm (l.take m++(l.drop m++[x])):=by
  rw[Qbs]
  exact List.Perm.append_left _ Qe4
 rw[<-Qbs,Qby]at a
 exact a
theorem Gg{α:Type}{l l':List α}{x:α}(h:l'.Perm (l++[x])):∃k m,k.Perm l/\m<=(k:)/\qO k m x=l':=by
 have hx:x∈l':=h.mem_iff.mpr (Qaq _ (VH.mpr rfl))
 obtain ⟨a,b,rfl⟩:=List.append_of_mem hx
 refine ⟨a++b,(a:),?_,by rw[VG];lia,?_⟩
 ·have h1:(a++x::b).Perm (x::(a++b)):=List.perm_middle
  have h2:(l++[x]).Perm (x::l):=Qe4
  exact (h1.symm.trans (h.trans h2)).cons_inv
 ·unfold qO
  rw[List.take_left,List.drop_left,Qbs]
  rfl
structure MS(H:Hp)(l:List Pr)(os:List Od):Prop where
 ok:∀o∈os,kC H o
 ln:(os:)=iN (l:)
 pm:∀o∈os,o.ps.Perm l
 all:∀k:List Pr,k.Perm l->∃o∈os,o.ps=k
def ka(_:Fr):Sp:=λvs H Q _=>∃(a:Addr) (ps:List Pr),vs=[.ref a]/\H a=some (.lst (iA ps))/\(∀p∈ps,iT H p)/\iN (ps:)<=720/\∀(q:Addr) (os:List Od) (H':Hp),H q=none->H' q=some (.lst (iJ os))->MS H' ps os->aj H H'->Q (.ref q) H'
theorem qP{K:Fr}{vs:List V}{H:Hp}{Q:VK}{E:XK}(h:ka K vs H Q E):(vs:)=1:=by obtain ⟨_,_,rfl,_⟩:=h;rfl
def xR(_:Fr):Sp:=λvs H Q _=>∃(y:Z) (wt:Addr) (ws:List Z),vs=[.str (S y),.ref wt]/\Yd y/\(y:)<=8/\H wt=some (.tup (j7 ws))/\zo y ws/\∀H',aj H H'->Q (.int (oq (dD y ws):Nat)) H'
theorem C_{K:Fr}{vs:List V}{H:Hp}{Q:VK}{E:XK}(h:xR K vs H Q E):(vs:)=2:=by obtain ⟨_,_,_,rfl,_⟩:=h;rfl
def Bw(_:Fr):Sp:=λvs H Q _=>∃(b:Addr) (y:Z),vs=[.ref b,.str (S y)]/\c_ H b/\Yd y/\2<=(y:)/\(y:)<=8/\∀(t:Addr) (ws:List Z) (H':Hp),t≠b->H' t=some (.tup (j7 ws))->NJ y ws->oq (dD y ws)<=720->c_ H' b->aO b H H'->Q (.ref t) H'
theorem Gh{K:Fr}{vs:List V}{H:Hp}{Q:VK}{E:XK}(h:Bw K vs H Q E):(vs:)=2:=by obtain ⟨_,_,rfl,_⟩:=h;rfl
noncomputable def nA(ds:List (Addr×List Od)):List V:=ds.map λd=>V.ref d.1
theorem iB(ds:List (Addr×List Od)):(nA ds:)=(ds:):=by unfold nA;rw[NA]
theorem Jx(a b:List (Addr×List Od)):nA a++nA b=nA (a++b):=by unfold nA;rw[Xs]
theorem xS(a:List (Addr×List Od))(d:Addr×List Od):nA a++[V.ref d.1]=nA (a++[d]):=by unfold nA;rw[Xs];rfl
theorem zK{ds:List (Addr×List Od)}{i:Nat}{x:V}(h:(nA ds)[i]? =some x):∃d,ds[i]? =some d/\x=V.ref d.1:=by
 unfold nA at h
 rw[ZN]at h
 obtain ⟨d,hd,rfl⟩:=Qci.mp h
 exact ⟨d,hd,rfl⟩
def oQ(L M:List (List (Nat×Nat))):Prop:=L.length=M.length/\∀(i:Nat) (a b:List (Nat×Nat)),L[i]? =some a->M[i]? =some b->a.Perm b
theorem oQ.snoc{L M:List (List (Nat×Nat))}{a b:List (Nat×Nat)}(h:oQ L M)(p:a.Perm b):oQ (L++[a]) (M++[b]):=by
 refine ⟨by rw[VG,VG,h.1];rfl,λi x z hx hz=>?_⟩
 by_cases g:i<L.length
 ·rw[Qa0 g]at hx
  rw[Qa0 (by rw[<-h.1];exact g)]at hz
  exact h.2 i x z hx hz
 ·rw[Qa5 ()]at hx
  rw[Qa5 (by rw[<-h.1];lia), <-h.1]at hz
  cases k:i - L.length with
  | zero=>rw[k]at hx hz;cases hx;cases hz;exact p
  | succ n=>rw[k]at hx;simp at hx
theorem oQ.cut{L M:List (List (Nat×Nat))}{b:List (Nat×Nat)}(h:oQ L (M++[b])):∃L' a,L=L'++[a]/\oQ L' M/\a.Perm b:=by
 have hl:=h.1
 rw[VG]at hl
 have hl:L.length=M.length+1:=hl
 have hn:L≠[]:=λz=>by rw[z]at hl;cases hl
 refine ⟨L.dropLast,L.getLast hn,(List.dropLast_concat_getLast hn).symm,⟨by rw[Qe8,hl];rfl,λi x z hx hz=>?_⟩,?_⟩
 ·have hi:=(LL.mp hz).1
  refine h.2 i x z ?_ (by rw[Qa0 hi];exact hz)
  rw[List.getElem?_dropLast]at hx
  rw[if_pos ()]at hx
  exact hx
 ·refine h.2 M.length _ b ?_ (by rw[Qa5 (RP _),Qew];rfl)
  rw[List.getLast_eq_getElem,LK ()]
  congr 1
  congr 1
  lia
theorem Dc{α β:Type}(f:α->β){a b:List β}(h:a.Perm b):∀l:List α,b=l.map f->∃k:List α,k.Perm l/\k.map f=a:=by
 induction h with
 | nil=>
  intro l e
  cases l with
  | nil=>exact ⟨[],List.Perm.refl _,rfl⟩
  | cons _ _=>cases e
 | cons x _ ih=>
  intro l e
  cases l with
  | nil=>cases e
  | cons z l=>
   injection e with e1 e2
   obtain ⟨k,p,q⟩:=ih l e2
   exact ⟨z::k,List.Perm.cons z p,by rw[Qad,q,e1]⟩
 | swap x z m=>
  intro l e
  cases l with
  | nil=>cases e
  | cons u l=>
   cases l with
   | nil=>cases e
   | cons v l=>
    injection e with e1 e2
    injection e2 with e2 e3
    exact ⟨v::u::l,List.Perm.swap _ _ _,by rw[Qad,Qad,e1,e2,e3]⟩
 | trans _ _ Yt UD=>
  intro l e
  obtain ⟨k,p,q⟩:=UD l e
  obtain ⟨j,p2,q2⟩:=Yt k q.symm
  exact ⟨j,p2.trans p,q2⟩
structure Gi(H:Hp)(M:List (List (Nat×Nat)))(es:List (Addr×List Od)):Prop where
 tp:∀e∈es,H e.1=some (.tup (iJ e.2))/\∀o∈e.2,kC H o
 ln:(es:)=oq M
 pm:∀e∈es,oQ (e.2.map dv) M
 all:∀L,oQ L M->∃e∈es,e.2.map dv=L
theorem Gi.same{H H':Hp}{M:List (List (Nat×Nat))}{es:List (Addr×List Od)}(h:Gi H M es)(s:aj H H'):Gi H' M es:=⟨λe he=>⟨s _ _ (h.tp e he).1,λo ho=>((h.tp e he).2 o ho).same s⟩,h.ln,h.pm,h.all⟩
def iO(_:Fr):Sp:=λvs H Q _=>∃(y:Z) (wt:Addr) (ws:List Z),vs=[.str (S y),.ref wt]/\Yd y/\(y:)<=8/\H wt=some (.tup (j7 ws))/\zo y ws/\oq (dD y ws)<=720/\∀(q:Addr) (ds:List (Addr×List Od)) (H':Hp),H q=none->H' q=some (.lst (nA ds))->(∀d∈ds,qC H' d.1 ws d.2/\iU y ws d.2)->(ds:)<=720->ds≠[]->(∀os,iU y ws os->∃d∈ds,d.2.map dv=os.map dv)->aj H H'->Q (.ref q) H'
theorem nB{K:Fr}{vs:List V}{H:Hp}{Q:VK}{E:XK}(h:iO K vs H Q E):(vs:)=2:=by obtain ⟨_,_,_,rfl,_⟩:=h;rfl
theorem t_{y:Z}{ws:List Z}{os:List Od}:iU y ws os↔oQ (os.map dv) (dD y ws):=by
 have e:(dD y ws:)=(cq y:):=by unfold dD;rw[NA]
 have ea:∀i,(dD y ws)[i]? =(cq y)[i]?.map λb=>bV b ws (ws:):=λi=>by unfold dD;rw[ZN]
 constructor
 ·intro h
  refine ⟨by rw[NA,e];exact h.1,λi a b ha hb=>?_⟩
  rw[ZN]at ha
  obtain ⟨o,ho,rfl⟩:=Qci.mp ha
  rw[ea]at hb
  obtain ⟨c,hc,rfl⟩:=Qci.mp hb
  exact h.2 i o c ho hc
 ·intro h
  refine ⟨by rw[<-e, <-h.1,NA],λi o b ho hb=>?_⟩
  exact h.2 i _ _ (by rw[ZN,ho];rfl) (by rw[ea,hb];rfl)
theorem Jy{y:Z}{os BV:List Od}(h:os.map dv=BV.map dv)(e:Nat):(rR y os e).map Pr.pair=(rR y BV e).map Pr.pair:=by
 unfold rR
 have g:∀(os:List Od) (k:Nat),(((os[k]?).map Od.ps).getD []).map Pr.pair=((os.map dv)[k]?).getD []:=λos k=>by
  rw[ZN]
  cases os[k]?<;> rfl
 rw[g,g,h]
theorem Gj{y:Z}{os BV:List Od}(h:os.map dv=BV.map dv)(e:Nat):cG y os e=cG y BV e:=by
 have k:=Jy (y:=y) h e
 have g:∀l:List Pr,l.map (λp=>(p.c,p.i,e))=(l.map Pr.pair).map λq=>(q.1,q.2,e):=λl=>by rw[Qbo];rfl
 unfold cG lZ
 rw[g,g]
 by_cases z:isUp e=true
 ·rw[if_pos z,if_pos z,Qb4,Qb4,k,Qb4,Qb4]
 ·rw[if_neg z,if_neg z,k]
theorem Gk{y:Z}{ws:List Z}{os BV:List Od}(h:os.map dv=BV.map dv):cS y ws os=cS y ws BV:=by
 unfold cS dF
 rw[show cG y os=cG y BV from funext λe=>Gj h e]
theorem Jz{y:Z}{c:Nat}(hy:Yd y)(hc:c∈y):SW y (dj 5 [c]):=by
 have h:SW y [c]:=⟨by simp,λd hd=>by rw[VH.mp hd];exact hc,λk=>by
  rw[VH.mp (gG (by simp) k),VH.mp (gG (by simp) (k - 1))]
  exact (gE (hy.lt c hc)).symm⟩
 exact h.dj (n:=5) ∅
structure nC(b:Addr)(y:Z)(H H':Hp)(t:Addr)(ws:List Z):Prop where
 tb:t≠b
 tp:H' t=some (.tup (j7 ws))
 l1:1<=(ws:)
 l2:(ws:)<=2
 sw:∀w∈ws,SW y w/\(w:)<=6
 bx:c_ H' b
 sb:aO b H H'
theorem nC.same{b t:Addr}{y:Z}{H H1 H2:Hp}{ws:List Z}(h:nC b y H H1 t ws)(s:aj H1 H2):nC b y H H2 t ws:=⟨h.tb,s _ _ h.tp,h.l1,h.l2,h.sw,h.bx.same s,h.sb.trans (aO.of s)⟩
theorem nC.ok{b t:Addr}{y:Z}{H H1:Hp}{ws:List Z}(h:nC b y H H1 t ws):zo y ws:=⟨Qak h.l2 ∅,λw hw=>⟨(h.sw w hw).1.bU,Qak (h.sw w hw).2 ∅⟩⟩
theorem nC.Yu{b t:Addr}{y:Z}{H H1:Hp}{ws:List Z}(h:nC b y H H1 t ws):NJ y ws:=⟨λw hw=>⟨(h.sw w hw).1,Qak (h.sw w hw).2 ∅⟩,Qak h.l2 ∅,by
 have a:=AM (λw hw=>(h.sw w hw).2) (ws:) (RP _)
 have b:(ws:)*6<=2*6:=Qc7 _ h.l2
 unfold places
 lia⟩
local macro_rules | `(tactic| walk_at "rd") => `(tactic| repeat (first
 | refine ⟨_,rfl,?_⟩
 | refine ⟨_,_,rfl,rfl,?_⟩
 | refine ⟨rfl,?_⟩
 | refine And.intro (by first | decide | omega | assumption | exact Nat.le_of_ble_eq_true rfl | exact .inl ⟨∅,∅⟩ | exact .inr ⟨∅,∅⟩ | exact ⟨∅,∅⟩ | exact ⟨by omega,by omega⟩) ?_))
local macro_rules | `(tactic| walk_at "wk") => `(tactic| repeat (first
 | refine ⟨_,rfl,?_⟩
 | refine ⟨_,_,rfl,rfl,?_⟩
 | refine ⟨_,_,_,rfl,rfl,by first | assumption | omega,by assumption,?_⟩
 | refine ⟨rfl,?_⟩
 | refine And.intro (by first | decide | omega | assumption | exact Nat.le_of_ble_eq_true rfl | exact .inl ⟨∅,∅⟩ | exact .inr ⟨∅,∅⟩ | exact ⟨∅,∅⟩ | exact ⟨by omega,by omega⟩) ?_))
local macro_rules | `(tactic| walk_at "bd") => `(tactic| first | assumption | exact Yv _ | exact ZT (by walk_at "bd") (by walk_at "bd"))
noncomputable def top(i:Nat):Stmt:=PySem.Challenge.pw_mustmeet_k34_whole_no_drawing_has_fewer.main.body.getD i (.Pass ⟨0,0,0,0⟩)
noncomputable abbrev kF:Stmt:=top 1
noncomputable abbrev qQ:Stmt:=top 2
noncomputable abbrev vF:Stmt:=top 4
noncomputable abbrev gJ:Stmt:=top 5
noncomputable abbrev iC:Stmt:=top 7
noncomputable abbrev gK:Stmt:=top 9
noncomputable abbrev jC:Stmt:=top 11
noncomputable abbrev kG:Stmt:=top 12
noncomputable abbrev zL:Stmt:=top 13
noncomputable abbrev zM:Stmt:=top 14
noncomputable abbrev gj:Stmt:=top 16
noncomputable abbrev gL:Stmt:=top 19
noncomputable abbrev iD:Stmt:=top 20
noncomputable abbrev nE:Stmt:=top 21
noncomputable abbrev nF:Stmt:=top 22
noncomputable abbrev gM:Stmt:=top 23
noncomputable abbrev gk:Stmt:=top 24
noncomputable abbrev gN:Stmt:=top 25
noncomputable abbrev iE:Stmt:=top 26
noncomputable abbrev zN:Stmt:=top 27
noncomputable abbrev iF:Stmt:=top 29
noncomputable abbrev qR:Stmt:=top 30
noncomputable abbrev fL:Stmt:=top 31
noncomputable abbrev nG:Stmt:=top 32
noncomputable abbrev gm:Stmt:=top 33
noncomputable abbrev jD:Stmt:=top 34
noncomputable abbrev eZ:Stmt:=top 35
noncomputable abbrev vG:Stmt:=top 37
noncomputable abbrev zO:Stmt:=top 39
noncomputable abbrev vH:Stmt:=top 40
noncomputable abbrev qS:Stmt:=top 41
noncomputable abbrev vI:Stmt:=top 42
noncomputable abbrev qT:Stmt:=top 43
noncomputable abbrev vJ:Stmt:=top 44
noncomputable abbrev qU:Stmt:=top 45
noncomputable abbrev nH:Stmt:=top 46
noncomputable abbrev zP:Stmt:=top 47
noncomputable abbrev kH:Stmt:=top 48
noncomputable abbrev iG:Stmt:=top 49
noncomputable abbrev gn:Stmt:=top 50
noncomputable abbrev vK:Stmt:=top 51
noncomputable abbrev zQ:Stmt:=top 52
noncomputable abbrev Gm:Stmt:=top 53
structure bj(K:Fr)(mg:Str->Option Value)(x:Str)(st:Stmt)(ps:List Str)(f:Addr)(fd:FuncData):Prop where
 fn:HF K x x st f fd
 mg:mg x=some (.ref f)
 bd:Binds K fd ps []
noncomputable abbrev jT:Stmt:=VS (top 17) 0
noncomputable abbrev g_:Stmt:=VS (top 18) 0
structure Txt(K:Fr)(mg:Str->Option Value)(f0 f1 f2 f3 f4 f5 f6 f7 f8 f9 NN Gn Gp NO NP NQ NR NS NT NU NV NW NX NY NZ N3 N4 N5 N6 N7 N8 N9 N_ Oa Ob Oc Oe Of Og Oh Oi Oj Ol aJ aV kc gO:Addr)(d0 d1 d2 d3 d4 d5 d6 d7 d8 d9 Om Oo Oq KJ Ot Ou Ov Ow Ox Oy Oz OA OB JA OC OD OE OF OG OH OI OJ OK OL OM ON OO OP OQ OR OS OT OU xT qV:FuncData):Prop where
 F0:bj K mg "contrary" kF ["letter"] f0 d0
 F1:bj K mg "turned" qQ ["word"] f1 d1
 F2:bj K mg "bands" vF ["yard"] f2 d2
 F3:bj K mg "steps_round" gJ ["yard","start","end"] f3 d3
 F4:bj K mg "strands_in" iC ["words","band"] f4 d4
 F5:bj K mg "corner_ends" gK ["word","place"] f5 d5
 F6:bj K mg "shortened" jC ["word"] f6 d6
 F7:bj K mg "shortest" kG ["word"] f7 d7
 F8:bj K mg "ring" zL ["word"] f8 d8
 F9:bj K mg "root" zM ["word"] f9 d9
 R9:bj K mg "corner_steps" gj ["yard","word","place"] NN Om
 x6:bj K mg "steps_ahead" gL ["seen","start","end"] Gn Oo
 x8:bj K mg "steps_back" iD ["seen","start","end"] Gp Oq
 MT:bj K mg "parting" nE ["steps","one","other","enough"] NO KJ
 MU:bj K mg "side_of" nF ["seen"] NP Ot
 R_:bj K mg "comes_ahead" gM ["one","other"] NQ Ou
 Sa:bj K mg "number_among" gk ["order","seen"] NR Ov
 Sb:bj K mg "seen_strand" gN ["words","ways","strand"] NS Ow
 Sd:bj K mg "taut_order" iE ["words","ways","band"] NT Ox
 MV:bj K mg "taut" zN ["yard","words"] NU Oy
 Se:bj K mg "strands_at" iF ["yard","drawing","end"] NV Oz
 Sf:bj K mg "points" qR ["yard","drawing"] NW OA
 Sg:bj K mg "corner_points" fL ["word","cord","place"] NX OB
 Sh:bj K mg "corners" nG ["yard","drawing"] NY JA
 Si:bj K mg "chord_starts" gm ["some"] NZ OC
 Sj:bj K mg "number_in" jD ["rising","point"] N3 OD
 Sk:bj K mg "count_meetings" eZ ["some"] N4 OE
 Sl:bj K mg "least" vG ["yard","words"] N5 OF
 Sm:bj K mg "_law_box" zO ["_law_script","_law_k"] N6 OG
 kI:bj K mg "_law_take" vH ["_law_box_here","_law_many_here"] N7 OH
 mG:bj K mg "_law_other" qS ["_law_letter"] N8 OI
 So:bj K mg "_law_yard" vI ["_law_box_here","_law_few_here","_law_top"] N9 OJ
 Hf:bj K mg "_law_short" qT ["_law_box_here","_law_yard_here","_law_top"] N_ OK
 Sq:bj K mg "_law_near" vJ ["_law_box_here","_law_yard_here","_law_word","_law_top"] Oa OL
 MW:bj K mg "_law_bands" qU ["_law_yard_here"] Ob OM
 Sr:bj K mg "_law_points" nH ["_law_yard_here","_law_drawing"] Oc ON
 MX:bj K mg "_law_met" zP ["_law_yard_here","_law_drawing"] Oe OO
 MY:bj K mg "_law_strands" kH ["_law_yard_here","_law_words"] Of OP
 Ss:bj K mg "_law_all_orders" iG ["_law_things"] Og OQ
 Su:bj K mg "_law_all_drawings" gn ["_law_yard_here","_law_words"] Oh OR
 MZ:bj K mg "_law_many" vK ["_law_yard_here","_law_words"] Oi OS
 Sv:bj K mg "_law_few" zQ ["_law_box_here","_law_yard_here"] Oj OT
 Yw:bj K mg "law" Gm ["_law_script"] Ol OU
 Gq:mg "Seen"=some (.ref aJ)
 dS:J_ K aJ
 n_Seen_strand:eB K aJ "strand"
 n_Seen_way:eB K aJ "way"
 n_Seen_place:eB K aJ "place"
 KL:mg "Way"=some (.ref aV)
 gC:J_ K aV
 n_Way_size:eB K aV "size"
 n_Way_root_size:eB K aV "root_size"
 n_Way_leads:eB K aV "leads"
 n_Way_onward:eB K aV "onward"
 n_Way_backward:eB K aV "backward"
 KN:Mk K aV kc
 QY:HF K "__init__" "Way.__init__" jT kc xT
 KO:Binds K xT ["self","yard","word","longest"] []
 Gr:Mk K aJ gO
 M0:HF K "__init__" "Seen.__init__" g_ gO qV
 Gs:Binds K qV ["self","strand","way","place"] []
 z_dict:mg "dict"=none
 z_enumerate:mg "enumerate"=none
 z_int:mg "int"=none
 z_len:mg "len"=none
 z_list:mg "list"=none
 z_max:mg "max"=none
 z_min:mg "min"=none
 z_range:mg "range"=none
 z_reversed:mg "reversed"=none
 z_sorted:mg "sorted"=none
 z_str:mg "str"=none
 z_tuple:mg "tuple"=none
theorem xU:aE ["letter"] ["letter"] (au kF):=⟨rfl,rfl,rfl,⋯,rfl,⋯,⋯⟩
theorem Dd:aE ["word"] ["word"] (au qQ):=⟨rfl,rfl,rfl,⋯,rfl,⋯,⋯⟩
theorem Gu:aE ["yard"] ["yard"] (au vF):=⟨rfl,rfl,rfl,⋯,rfl,⋯,⋯⟩
theorem qW:aE ["yard","start","end"] ["yard","start","end"] (au gJ):=⟨rfl,rfl,rfl,⋯,rfl,⋯,⋯⟩
theorem cV:aE ["words","band","found","cord","word","place","letter"] ["words","band"] (au iC):=⟨rfl,rfl,rfl,⋯,rfl,⋯,⋯⟩
theorem qX:aE ["word","place"] ["word","place"] (au gK):=⟨rfl,rfl,rfl,⋯,rfl,⋯,⋯⟩
theorem iH:aE ["word","kept","letter"] ["word"] (au jC):=⟨rfl,rfl,rfl,⋯,rfl,⋯,⋯⟩
theorem dZ:aE ["word","left","start","end"] ["word"] (au kG):=⟨rfl,rfl,rfl,⋯,rfl,⋯,⋯⟩
theorem jU:aE ["word","whole","least","start","begun"] ["word"] (au zL):=⟨rfl,rfl,rfl,⋯,rfl,⋯,⋯⟩
theorem pB:aE ["word","whole","size","times"] ["word"] (au zM):=⟨rfl,rfl,rfl,⋯,rfl,⋯,⋯⟩
theorem iP:aE ["yard","word","place","ends"] ["yard","word","place"] (au gj):=⟨rfl,rfl,rfl,⋯,rfl,⋯,⋯⟩
theorem jE:aE ["seen","start","end","first"] ["seen","start","end"] (au gL):=⟨rfl,rfl,rfl,⋯,rfl,⋯,⋯⟩
theorem ke:aE ["seen","start","end","first"] ["seen","start","end"] (au iD):=⟨rfl,rfl,rfl,⋯,rfl,⋯,⋯⟩
theorem dU:aE ["steps","one","other","enough","many","size"] ["steps","one","other","enough"] (au nE):=⟨rfl,rfl,rfl,⋯,rfl,⋯,⋯⟩
theorem kJ:aE ["seen","way","cord"] ["seen"] (au nF):=⟨rfl,rfl,rfl,⋯,rfl,⋯,⋯⟩
theorem eM:aE ["one","other","enough","ahead","back"] ["one","other"] (au gM):=⟨rfl,rfl,rfl,⋯,rfl,⋯,⋯⟩
theorem b9:aE ["order","seen","low","high","middle"] ["order","seen"] (au gk):=⟨rfl,rfl,rfl,⋯,rfl,⋯,⋯⟩
theorem gp:aE ["words","ways","strand","word","place"] ["words","ways","strand"] (au gN):=⟨rfl,rfl,rfl,⋯,rfl,⋯,⋯⟩
theorem fq:aE ["words","ways","band","order","strand","seen"] ["words","ways","band"] (au iE):=⟨rfl,rfl,rfl,⋯,rfl,⋯,⋯⟩
theorem vL:aE ["yard","words","longest","ways"] ["yard","words"] (au zN):=⟨rfl,rfl,rfl,⋯,rfl,⋯,⋯⟩
theorem kf:aE ["yard","drawing","end","order"] ["yard","drawing","end"] (au iF):=⟨rfl,rfl,rfl,⋯,rfl,⋯,⋯⟩
theorem jV:aE ["yard","drawing","told","end","strand"] ["yard","drawing"] (au qR):=⟨rfl,rfl,rfl,⋯,rfl,⋯,⋯⟩
theorem hU:aE ["word","cord","place","ahead"] ["word","cord","place"] (au fL):=⟨rfl,rfl,rfl,⋯,rfl,⋯,⋯⟩
theorem cK:aE ["yard","drawing","numbers","number","point","told","cord","word","place","pair"] ["yard","drawing"] (au nG):=⟨rfl,rfl,rfl,⋯,rfl,⋯,⋯⟩
theorem dN:aE ["some","starts","corner","first"] ["some"] (au gm):=⟨rfl,rfl,rfl,⋯,rfl,⋯,⋯⟩
theorem dy:aE ["rising","point","low","high","middle"] ["rising","point"] (au jD):=⟨rfl,rfl,rfl,⋯,rfl,⋯,⋯⟩
theorem bD:aE ["some","starts","begun","many","point","number"] ["some"] (au eZ):=⟨rfl,rfl,rfl,⋯,rfl,⋯,⋯⟩
theorem Gv:aE ["yard","words"] ["yard","words"] (au vG):=⟨rfl,rfl,rfl,⋯,rfl,⋯,⋯⟩
theorem mz:aE ["_law_script","_law_k","_law_cell","_law_seed"] ["_law_script","_law_k"] (au zO):=⟨rfl,rfl,rfl,⋯,rfl,⋯,⋯⟩
theorem qY:aE ["_law_box_here","_law_many_here","_law_digit","_law_one"] ["_law_box_here","_law_many_here"] (au vH):=⟨rfl,rfl,rfl,⋯,rfl,⋯,⋯⟩
theorem nI:aE ["_law_letter","_law_small","_law_capital"] ["_law_letter"] (au qS):=⟨rfl,rfl,rfl,⋯,rfl,⋯,⋯⟩
theorem fG:aE ["_law_box_here","_law_few_here","_law_top","_law_left","_law_ends","_law_k","_law_letter","_law_found"] ["_law_box_here","_law_few_here","_law_top"] (au vI):=⟨rfl,rfl,rfl,⋯,rfl,⋯,⋯⟩
theorem cW:aE ["_law_box_here","_law_yard_here","_law_top","_law_many_here","_law_form","_law_word","_law_letter"] ["_law_box_here","_law_yard_here","_law_top"] (au qT):=⟨rfl,rfl,rfl,⋯,rfl,⋯,⋯⟩
theorem jF:aE ["_law_box_here","_law_yard_here","_law_word","_law_top","_law_form","_law_at","_law_letter","_law_some"] ["_law_box_here","_law_yard_here","_law_word","_law_top"] (au vJ):=⟨rfl,rfl,rfl,⋯,rfl,⋯,⋯⟩
theorem De:aE ["_law_yard_here"] ["_law_yard_here"] (au qU):=⟨rfl,rfl,rfl,⋯,rfl,⋯,⋯⟩
theorem dW:aE ["_law_yard_here","_law_drawing","_law_words","_law_orders","_law_names","_law_found","_law_end","_law_some"] ["_law_yard_here","_law_drawing"] (au nH):=⟨rfl,rfl,rfl,⋯,rfl,⋯,⋯⟩
theorem dP:aE ["_law_yard_here","_law_drawing","_law_at","_law_chords","_law_c","_law_word","_law_i","_law_letter","_law_back","_law_many_here","_law_k","_law_one"] ["_law_yard_here","_law_drawing"] (au zP):=⟨rfl,rfl,rfl,⋯,rfl,⋯,⋯⟩
theorem d_:aE ["_law_yard_here","_law_words","_law_found","_law_band","_law_some","_law_c","_law_word"] ["_law_yard_here","_law_words"] (au kH):=⟨rfl,rfl,rfl,⋯,rfl,⋯,⋯⟩
theorem cX:aE ["_law_things","_law_found","_law_thing","_law_further","_law_order"] ["_law_things"] (au iG):=⟨rfl,rfl,rfl,⋯,rfl,⋯,⋯⟩
theorem b_:aE ["_law_yard_here","_law_words","_law_found","_law_some","_law_further","_law_orders"] ["_law_yard_here","_law_words"] (au gn):=⟨rfl,rfl,rfl,⋯,rfl,⋯,⋯⟩
theorem jG:aE ["_law_yard_here","_law_words","_law_many_here","_law_some","_law_k"] ["_law_yard_here","_law_words"] (au vK):=⟨rfl,rfl,rfl,⋯,rfl,⋯,⋯⟩
theorem jW:aE ["_law_box_here","_law_yard_here","_law_words"] ["_law_box_here","_law_yard_here"] (au zQ):=⟨rfl,rfl,rfl,⋯,rfl,⋯,⋯⟩
theorem nJ:aE ["_law_script","_law_k","_law_box_here","_law_yard_here","_law_words","_law_fewest"] ["_law_script"] (au Gm):=⟨rfl,rfl,rfl,⋯,rfl,⋯,⋯⟩
theorem qZ:aE ["self","yard","word","longest","steps","rounds"] ["self","yard","word","longest"] (au jT):=⟨rfl,rfl,rfl,⋯,rfl,⋯,⋯⟩
theorem Df:aE ["self","strand","way","place"] ["self","strand","way","place"] (au g_):=⟨rfl,rfl,rfl,⋯,rfl,⋯,⋯⟩
section
variable{P:Program}{w:World}{K:Fr}{mg:Str->Option Value}{base:Heap}{f0 f1 f2 f3 f4 f5 f6 f7 f8 f9 NN Gn Gp NO NP NQ NR NS NT NU NV NW NX NY NZ N3 N4 N5 N6 N7 N8 N9 N_ Oa Ob Oc Oe Of Og Oh Oi Oj Ol aJ aV kc gO:Addr}{d0 d1 d2 d3 d4 d5 d6 d7 d8 d9 Om Oo Oq KJ Ot Ou Ov Ow Ox Oy Oz OA OB JA OC OD OE OF OG OH OI OJ OK OL OM ON OO OP OQ OR OS OT OU xT qV:FuncData}
variable(T:Txt K mg f0 f1 f2 f3 f4 f5 f6 f7 f8 f9 NN Gn Gp NO NP NQ NR NS NT NU NV NW NX NY NZ N3 N4 N5 N6 N7 N8 N9 N_ Oa Ob Oc Oe Of Og Oh Oi Oj Ol aJ aV kc gO d0 d1 d2 d3 d4 d5 d6 d7 d8 d9 Om Oo Oq KJ Ot Ou Ov Ow Ox Oy Oz OA OB JA OC OD OE OF OG OH OI OJ OK OL OM ON OO OP OQ OR OS OT OU xT qV)
include T
theorem fH:bE P w K mg base fI 1 f0 d0 ["letter"] (nX K):=by
 refine T.F0.fn.ok xU (λvs H Q E h=>uV h) (λ_ _ _ _ H vs Q E hr h=>?_)
 refine ⟨_,(ag (cx (mI (fg K rfl Qas Qef Qee ki (pv 0))) (ah (aG (fg K rfl Qas PySem.F.slot_str_upper PySem.F.type_str_upper DU (pv 0)))) bN)
   (ah (aG (fg K rfl Qas Qes Qep pV (pv 0))))),?_⟩
 obtain ⟨c,rfl,hc,q⟩:=h
 refine ⟨_,rfl,rfl,c,rfl,rfl,hc,_,rfl,bR (λe=>?_) (λe=>?_)⟩
 ·refine ⟨_,rfl,rfl,c,rfl,rfl,hc,?_⟩
  have z:aB c=PyProof.Rows.up1 c:=if_pos e
  rw[<-z]
  exact q
 ·refine ⟨_,rfl,rfl,c,rfl,rfl,hc,?_⟩
  have z:aB c=PyProof.Rows.lo1 c:=if_neg e
  rw[<-z]
  exact q
theorem vM:bE P w K mg base fI 2 f6 d6 ["word"] (lM K):=by
 walk_at"Q"
 refine T.F6.fn.ok iH (λvs H Q E h=>rP h) (λ_ _ _ _ H vs Q E hr h=>?_)
 refine ⟨_,(ag (ak (i:=1) iH.nd rfl (Or.inl rfl) (cE ab))
   (ag (bJ PassesOwn.never rfl (mT (pv 0)) (aA (i:=2) iH.nd rfl (Or.inl rfl)) (ah (cx (PW.pt (i4 (HP K rfl (pv 1)) (hW (aF jb (aM (bB K rfl) (pv 1) (kR hZ ai) (λ_ _=>rfl)) (aq cL (hr.mono ∅) rfl T.F0.mg T.F0.fn.kp T.F0.bd .nil aD (aa (pv 2) ab)) (aP _))))) (ah (cA (fg K rfl Qan Qds Qdr LF (pv 1)))) (ah (cA (bF K rfl Qan Qb0 Qbz eR (pv 1) (aa (pv 2) ab)))))))
   (ah (aG (bF K rfl Qas Qc3 Qc2 (jc K rfl) (mQ [] ⋯) (aa (pv 1) ab)))))),?_⟩
 obtain ⟨l,rfl,hl,hz,q⟩:=h
 have hs:=Zs1
 walk_at "rd"
 intro p1 n1
 refine ⟨_,rfl,l,rfl,?_⟩
 refine uE (xs:=cT l) (λi σ H'=>∃lv,σ=[some (.str (S l)),some (.ref p1),lv]/\H' p1=some (.lst (cT (red (l.take i))))/\aO p1 H H') ⟨none,rfl,ae,aO.of (aj.upd n1)⟩ ?_ ?_
 ·rintro i x σ H1 hx ⟨lv,rfl,hp,s1⟩
  obtain ⟨c,hc,rfl⟩:=fT hx
  have hi:i<(l:):=(LL.mp hc).1
  have h8:c<128:=(hl c (Xu hc)).lt
  have Uu:(red (l.take i):)<=1000:=Qak (lK _) (by rw[Qai];lia)
  have fin:∀st,st=fM (red (l.take i)) c->∃lv,[some (V.str (S l)),some (V.ref p1),some (V.str (S [c]))]=[some (V.str (S l)),some (.ref p1),lv]/\(upd H1 p1 (.lst (cT st))) p1=some (.lst (cT (red (l.take (i+1)))))/\aO p1 H (upd H1 p1 (.lst (cT st))):=λst e=>
   ⟨_,rfl,by rw[ae,Ew hc,e],λb o e z=>by rw[ar z];exact s1 b o e z⟩
  refine ⟨_,rfl,p1,_,rfl,a_.of hp,?_⟩
  rcases snoc_cases (red (l.take i)) with e | ⟨m,a,e⟩
  ·rw[e]at hp ⊢
   refine Im rfl ?_
   refine B4 ?_
   refine ⟨_,rfl,.inl ⟨rfl,_,a_.of hp⟩,_,rfl,p1,_,_,rfl,rfl,hp,by rw[aW];exact (by decide:(0:Nat)<sizeLine),?_⟩
   rw[eI]
   refine fin _ ?_
   rw[e]
   unfold fM
   rw[if_neg (by simp)]
  ·rw[e]at hp Uu ⊢
   have ZU:(m:)<=1000:=by simp at Uu;lia
   rw[<-eI]at hp ⊢
   refine QI (by simp) ?_
   refine ⟨_,rfl,_,rfl,p1,_,_,_,rfl,rfl,a_.of hp,DK _ _,_,rfl,c,rfl,h8,[a],[aB c],rfl,rfl,_,rfl,bR (λz=>?_) (λz=>?_)⟩
   ·have ea:a=aB c:=by simpa using of_decide_eq_true z
    refine ⟨_,rfl,.inl ⟨rfl,_,a_.of hp⟩,p1,_,V.str (S [a]),rfl,rfl,hp,by simp,?_⟩
    rw[Qfa]
    refine fin _ ?_
    rw[e]
    unfold fM
    rw[if_pos (by simp[ea]),Qfa]
   ·have ea:a≠aB c:=λw=>z (decide_eq_true (by rw[w]))
    refine ⟨_,rfl,.inl ⟨rfl,_,a_.of hp⟩,_,rfl,p1,_,_,rfl,rfl,hp,by rw[VG,aW];show (m:)+1<sizeLine;lia,?_⟩
    rw[eI,eI]
    refine fin _ ?_
    rw[e]
    unfold fM
    rw[if_neg (by simpa using ea)]
 ·rintro σ H1 ⟨lv,rfl,hp,s1⟩
  rw[qm]at hp
  refine ⟨rfl,_,rfl,p1,(red l).map λc=>[c],rfl,rfl,a_.of (by rw[<-eV];exact hp),?_,?_⟩
  ·rw[Cu]
   have:=lK l
   lia
  ·rw[s_]
   exact q _ (λb o e=>s1 b o e (ao e n1))
theorem xV:bE P w K mg base fI 3 f7 d7 ["word"] (nY K):=by
 have xW:=vM (P:=P) (w:=w) (base:=base) T
 walk_at"Q"
 refine T.F7.fn.ok dZ (λvs H Q E h=>uW h) (λ_ _ _ _ H vs Q E hr h=>?_)
 refine ⟨_,(ag (ak (i:=1) dZ.nd rfl (Or.inl rfl) (aq xW (hr.mono ∅) rfl T.F6.mg T.F6.fn.kp T.F6.bd .nil aD (aa (pv 0) ab)))
   (ag (ak (i:=2) dZ.nd rfl (Or.inl rfl) ai)
   (ag (ak (i:=3) dZ.nd rfl (Or.inl rfl) (aC aR rfl T.z_len Qaj (aa (pv 1) ab)))
   (ag (cU PassesOwn.never (PW.pt (i4 (aF DD (az dQ (pv 3) (pv 2)) ai (aP _)) (hW (aF jb (aM ie (pv 1) (pv 2) (λ_ _=>rfl)) (aq cL (hr.mono ∅) rfl T.F0.mg T.F0.fn.kp T.F0.bd .nil aD (aa (aM ie (pv 1) (az dQ (pv 3) ai) (λ_ _=>rfl)) ab)) (aP _))))) (ag (kh (i:=2) dZ.nd rfl (Or.inl rfl) ai uj)
   (ah (kh (i:=3) dZ.nd rfl (Or.inl rfl) ai Lg))))
   (ah (aG (bG mR (pv 1) (bA (pv 2)) (bA (pv 3))))))))),?_⟩
 obtain ⟨l,rfl,hl,hz,q⟩:=h
 have hs:=Zs1
 refine ⟨_,rfl,l,rfl,hl,hz,λH1 s1=>?_⟩
 have G6:=lK l
 have di:=Mg hl
 generalize red l=r at G6 di q ⊢
 have V_:(r:)<=sizeLine:=by lia
 walk_at "rd"
 refine ⟨λm σ H'=>∃(a e:Nat),σ=[some (.str (S l)),some (.str (S r)),some (.int a),some (.int e)]/\m=e - a/\a<=e/\e<=(r:)/\core (Dq r a e)=core r/\H'=H1,⟨_,0,(r:),rfl,rfl,Qac _,RP _,by rw[Iq],rfl⟩,?_⟩
 rintro m σ H2 ⟨a,e,rfl,rfl,h1,h2,hc,rfl⟩
 have fin:core (Dq r a e)=Dq r a e->Q (.str (S (cut r (some (a:Int)) (some (e:Int))))) H2:=λz=>by
  have e1:cut r (some (a:Int)) (some (e:Int))=Dq r a e:=by
   unfold cut Dq
   rw[HT.fR,HT.fR]
   have e1:min a (r:)=a:=by lia
   have e2:min e (r:)=e:=by lia
   rw[e1,e2]
  rw[e1, <-z,hc]
  exact q H2 s1
 walk_at "rd"
 walk_at"g"
 ·have z1:(2:Int)<=(e:Int) - (a:Int):=of_decide_eq_true z
  have ha:a<(r:):=by lia
  have he:e - 1<(r:):=by lia
  have g0:rz r (a:Int)=some r[a]:=b4 (LK ha)
  have g1:rz r ((e:Int) - 1)=some r[e - 1]:=by
   have:(e:Int) - 1=((e - 1:Nat):Int):=by lia
   rw[this];exact b4 (LK he)
  have h8:r[e - 1]<128:=(di _ (Qa7 he)).lt
  have hw:=Mh (l:=r) (s:=a) (e:=e) () h2
  refine ⟨_,rfl,_,rfl,r,_,_,rfl,rfl,V_,g0,?_⟩
  walk_at "rd"
  refine ⟨r,_,_,rfl,rfl,V_,g1,?_⟩
  walk_at "rd"
  refine bR (λy=>?_) (λy=>?_)
  ·have ey:r[a]=aB r[e - 1]:=by simpa using of_decide_eq_true y
   walk_at "rd"
   refine ⟨(e - 1) - (a+1),(),a+1,e - 1,?_,rfl,(),(),?_,rfl⟩
   ·have e1:(a:Int)+1=((a+1:Nat):Int):=by lia
    have e2:(e:Int) - 1=((e - 1:Nat):Int):=by lia
    rw[<-e1, <-e2]
    rfl
   ·rw[<-hc,hw,AD ey]
  ·have ey:r[a]≠aB r[e - 1]:=λw=>y (decide_eq_true (by rw[w]))
   walk_at "rd"
   exact fin (by rw[hw,mX ey])
 ·have z1: ¬(2:Int)<=(e:Int) - (a:Int):=λw=>z (decide_eq_true w)
  walk_at "rd"
  exact fin (il (by rw[Ip h2];lia))
theorem Bx:bE P w K mg base fI 4 f8 d8 ["word"] (AE K):=by
 have zR:=xV (P:=P) (w:=w) (base:=base) T
 refine T.F8.fn.ok jU (λvs H Q E h=>Ez h) (λ_ _ _ _ H vs Q E hr h=>?_)
 refine ⟨_,(ag (ak (i:=1) jU.nd rfl (Or.inl rfl) (aq zR (hr.mono ∅) rfl T.F7.mg T.F7.fn.kp T.F7.bd .nil aD (aa (pv 0) ab)))
   (ag (ak (i:=2) jU.nd rfl (Or.inl rfl) (pv 1))
   (ag (bJ PassesOwn.never rfl (sr rfl T.z_range (aa ai (aa (aC aR rfl T.z_len Qaj (aa (pv 1) ab)) ab))) (aA (i:=3) jU.nd rfl (Or.inl rfl)) (ag (ak (i:=4) jU.nd rfl (Or.inl rfl) (az h_ (bG mR (pv 1) (bA (pv 3)) cZ) (bG mR (pv 1) cZ (bA (pv 3)))))
   (ah (cx (aF uG (pv 4) (pv 2) (aP _)) (ah (ak (i:=2) jU.nd rfl (Or.inl rfl) (pv 4))) bN))))
   (ah (aG (pv 2)))))),?_⟩
 obtain ⟨l,rfl,hl,hz,q⟩:=h
 have hs:=Zs1
 refine ⟨_,rfl,l,rfl,hl,hz,λH1 s1=>?_⟩
 have Yx:(core (red l):)<=1000:=Qak (w4 _) (Qak (lK l) hz)
 unfold dY fN at q
 generalize core (red l)=c at Yx q ⊢
 have Yy:(c:)<=sizeLine:=by lia
 walk_at "rd"
 refine ⟨_,_,rfl,⟨∅,∅,(),()⟩,?_⟩
 refine fZ (λi σ H'=>H'=H1/\∃sv bv,σ=[some (.str (S l)),some (.str (S c)),some (.str (S (cg c (lN c i)))),sv,bv]) ⟨rfl,none,none,rfl⟩ ?_ ?_
 ·rintro i σ H2 hi ⟨rfl,sv,bv,rfl⟩
  have e1:(1:Int)+(i:Int)=((i+1:Nat):Int):=by lia
  rw[e1]
  have hlen:(cut c (some ((i+1:Nat):Int)) none:)+(cut c none (some ((i+1:Nat):Int)):)<=sizeLine:=by rw[eW,ji,Qaw,Qai];lia
  have M1:cut c (some ((i+1:Nat):Int)) none++cut c none (some ((i+1:Nat):Int))=hV c (i+1):=by rw[eW,ji];rfl
  walk_at "rd"
  rw[M1]
  walk_at"g"
  ·have z':hV c (i+1)<cg c (lN c i):=of_decide_eq_true z
   have hle:cg c (lN c (i+1))=hV c (i+1):=by rw[tm,iq];unfold cY;rw[if_pos z']
   refine ⟨_,rfl,?_⟩
   rw[hle]
   exact ⟨rfl,_,_,rfl⟩
  ·have z': ¬hV c (i+1)<cg c (lN c i):=λy=>z (decide_eq_true y)
   have hle:cg c (lN c (i+1))=cg c (lN c i):=by rw[tm,iq];unfold cY;rw[if_neg z']
   rw[hle]
   exact ⟨rfl,_,_,rfl⟩
 ·rintro σ H2 ⟨rfl,sv,bv,rfl⟩
  have e:(((c:):Int) - 1).toNat=(c:) - 1:=by lia
  rw[e]
  exact ⟨_,rfl,q _ s1⟩
theorem JB:bE P w K mg base fI 5 f9 d9 ["word"] (AF K):=by
 have vN:=Bx (P:=P) (w:=w) (base:=base) T
 refine T.F9.fn.ok pB (λvs H Q E h=>EB h) (λ_ _ _ _ H vs Q E hr h=>?_)
 refine ⟨_,(ag (ak (i:=1) pB.nd rfl (Or.inl rfl) (aq vN (hr.mono ∅) rfl T.F8.mg T.F8.fn.kp T.F8.bd .nil aD (aa (pv 0) ab)))
   (ag (bJ PassesOwn.never rfl (sr rfl T.z_range (aa ai (aa (az ba (aC aR rfl T.z_len Qaj (aa (pv 1) ab)) ai) ab))) (aA (i:=2) pB.nd rfl (Or.inl rfl)) (ag (ak (i:=3) pB.nd rfl (Or.inl rfl) (az fu (aC aR rfl T.z_len Qaj (aa (pv 1) ab)) (pv 2)))
   (ah (cx (aF jb (az oZ (bG mR (pv 1) cZ (bA (pv 2))) (pv 3)) (pv 1) (aP _)) (ah (aG (bp (aa (bG mR (pv 1) cZ (bA (pv 2))) (aa (pv 3) ab))))) bN))))
   (ah (aG (bp (aa (mQ [] ⋯) (aa ai ab))))))),?_⟩
 obtain ⟨l,rfl,hl,hz,q⟩:=h
 have hs:=Zs1
 walk_at "wk"
 intro H1 s1
 have hw:(dY l:)<=1000:=Qak (CA l) hz
 generalize dY l=c at hw q ⊢
 have Yy:(c:)<=sizeLine:=by lia
 walk_at "wk"
 refine ⟨_,_,rfl,⟨∅,∅,(),()⟩,?_⟩
 refine fZ (λi σ H'=>H'=H1/\(∀j,1<=j->j<=i-> ¬gX c j)/\∃sv tv,σ=[some (.str (S l)),some (.str (S c)),sv,tv]) ⟨rfl,λj h1 h2=>by lia,none,none,rfl⟩ ?_ ?_
 ·rintro i σ H2 hi ⟨rfl,Ny,sv,tv,rfl⟩
  have e1:(1:Int)+(i:Int)=((i+1:Nat):Int):=by lia
  rw[e1]
  have e2:((c:):Int) / ((i+1:Nat):Int)=(((c:) / (i+1):Nat):Int):=(Qen _ _).symm
  have hd:=Nat.div_le_self (c:) (i+1)
  have hmul:(c.take (i+1):)*((c:) / (i+1))<=sizeLine:=by
   have h1:(c.take (i+1):)<=i+1:=by rw[Qai];lia
   have h2:=Nat.mul_div_le (c:) (i+1)
   have h3:=Qc7 ((c:) / (i+1)) h1
   lia
  walk_at "wk"
  refine ⟨⟨by rw[e2];exact Qfm _,by rw[e2];exact Int.ofNat_le.mpr (Qak hd (by lia:(c:)<=1000000))⟩,by rw[e2,eW,Xt];exact hmul,?_⟩
  walk_at "wk"
  walk_at"g"
  ·have z1:gX c (i+1):=by
    have:=of_decide_eq_true z
    rw[e2,eW,Xt]at this
    exact this
   walk_at "wk"
   intro p np
   refine q p (i+1) _ (aj.free s1 np) ?_ (.inr ⟨(),(),z1,λj j1 j2=>Ny j j1 ()⟩) (s1.trans (aj.upd np))
   rw[ae]
   unfold Ks
   rw[<-eW, <-e2]
  ·have z1: ¬gX c (i+1):=λy=>z (decide_eq_true (by
    rw[e2,eW,Xt]
    exact y))
   refine ⟨rfl,λj j1 j2=>?_,_,_,rfl⟩
   by_cases y:j=i+1
   ·rw[y];exact z1
   ·exact Ny j j1 ()
 ·rintro σ H2 ⟨rfl,Ny,sv,tv,rfl⟩
  have hc:c=[]:=by
   by_cases z:c=[]
   ·exact z
   ·have hl:0<(c:):=VJ.mpr z
    exact absurd (CB c z) (Ny _ hl ())
  subst hc
  walk_at "wk"
  intro p np
  exact q p 0 _ (aj.free s1 np) (by rw[ae];rfl) (.inl ⟨rfl,rfl⟩) (s1.trans (aj.upd np))
theorem mB:bE P w K mg base fI 1 N7 OH ["_law_box_here","_law_many_here"] (wU K):=by
 refine T.kI.fn.ok qY (λvs H Q E h=>Cs h) (λ_ _ _ _ H vs Q E hr h=>?_)
 refine ⟨_,(ag (cx (aF kS (aM (bB K rfl) (pv 0) ai (λ_ _=>rfl)) ai (aP _)) (ag (ak (i:=2) qY.nd rfl (Or.inl rfl) (az eO (aM (bB K rfl) (pv 0) ai (λ_ _=>rfl)) (pv 1)))
   (ag (yf (az fu (aM (bB K rfl) (pv 0) ai (λ_ _=>rfl)) (pv 1)) (Dy (pv 0) ai set_list))
   (ah (aG (pv 2))))) bN)
   (ag (ak (i:=3) qY.nd rfl (Or.inl rfl) (az eO (az i6 (aM (bB K rfl) (pv 0) ai (λ_ _=>rfl)) ai) ai))
   (ag (yf (az ba (az eO (az ba (az i6 (pv 3) ai) ai) ai) ai) (Dy (pv 0) ai set_list))
   (ah (aG (az eO (az fu (az ba (az i6 (pv 3) ai) (aM (bB K rfl) (pv 0) ai (λ_ _=>rfl))) ai) (pv 1))))))),?_⟩
 obtain ⟨b,m,rfl,⟨x,y,hb⟩,h1,h2,q⟩:=h
 have fin:∀(r x' y':Int),0<=r->r<m->Q (.int r) (upd H b (.lst [.int x',.int y'])):=λr x' y' h3 h4=>by
  have e:r=((r.toNat:Nat):Int):=by lia
  rw[e]
  exact q r.toNat _ () ⟨x',y',ae⟩ (aO.upd b H _)
 refine ⟨_,rfl,b,_,0,_,rfl,rfl,a_.of hb,rfl,_,_,rfl,rfl,_,rfl,bR (λe=>?_) (λe=>?_)⟩
 ·refine ⟨_,rfl,b,_,0,_,rfl,rfl,a_.of hb,rfl,_,rfl,_,_,rfl,rfl,(by lia:0<m),?_⟩
  refine ⟨_,rfl,b,_,0,_,rfl,rfl,a_.of hb,rfl,_,rfl,_,_,rfl,rfl,⟨(),()⟩,_,rfl,b,_,0,0,rfl,rfl,hb,rfl,_,rfl,?_⟩
  exact fin (x%m) (x / m) y (Qb1 _ ()) (Qbw _ ())
 ·refine ⟨_,rfl,b,_,1,_,rfl,rfl,a_.of hb,rfl,_,_,rfl,rfl,.inr ⟨∅,∅⟩,_,_,rfl,rfl,(by decide:(0:Int)<2147483647),?_⟩
  refine ⟨_,rfl,_,_,rfl,rfl,.inr ⟨∅,∅⟩,_,_,rfl,rfl,_,_,rfl,rfl,(by decide:(0:Int)<2147483629),_,_,rfl,rfl,_,rfl,b,_,1,1,rfl,rfl,hb,rfl,?_⟩
  refine ⟨_,rfl,_,_,rfl,rfl,.inr ⟨∅,∅⟩,_,rfl,b,_,1,_,rfl,rfl,a_.of ae,rfl,_,_,rfl,rfl,_,_,rfl,rfl,⟨∅,∅⟩,_,rfl,_,_,rfl,rfl,(by lia:0<m),?_⟩
  exact fin _ _ _ (Qb1 _ ()) (Qbw _ ())
theorem gc:bE P w K mg base fI 1 N8 OI ["_law_letter"] (sY K):=by
 refine T.mG.fn.ok nI (λvs H Q E h=>yW h) (λ_ _ _ _ H vs Q E hr h=>?_)
 refine ⟨_,(ag (ak (i:=1) nI.nd rfl (Or.inl rfl) (mQ [97,98,99,100,101,102,103,104,105,106,107,108,109,110,111,112,113,114,115,116,117,118,119,120,121,122] ⋯))
   (ag (ak (i:=2) nI.nd rfl (Or.inl rfl) (mQ [65,66,67,68,69,70,71,72,73,74,75,76,77,78,79,80,81,82,83,84,85,86,87,88,89,90] ⋯))
   (ag (cx (aF DT (pv 0) (pv 1) (by with_unfolding_all rfl)) (ah (aG (aM ie (pv 2) (bF K rfl Qas Qet Qeq mS (pv 1) (aa (pv 0) ab)) (λ_ _=>rfl)))) bN)
   (ah (aG (aM ie (pv 1) (bF K rfl Qas Qet Qeq mS (pv 2) (aa (pv 0) ab)) (λ_ _=>rfl))))))),?_⟩
 obtain ⟨c,rfl,hc,q⟩:=h
 refine ⟨_,rfl,_,rfl,c,aL,rfl,rfl,_,rfl,bR (λe=>?_) (λe=>?_)⟩
 ·have hm:c∈aL:=of_decide_eq_true e
  exact ⟨_,rfl,_,rfl,rfl,_,rfl,aL,c,rfl,rfl,hm,ik,_,aB c,rfl,rfl,∅,wR c hm,q⟩
 ·have hm:c∈ik:=hc.resolve_left λz=>e (decide_eq_true z)
  exact ⟨_,rfl,_,rfl,rfl,_,rfl,ik,c,rfl,rfl,hm,aL,_,aB c,rfl,rfl,∅,Cr c hm,q⟩
theorem ua:bE P w K mg base fI 2 N_ OK ["_law_box_here","_law_yard_here","_law_top"] (tG K):=by
 have dz:=mB (P:=P) (w:=w) (base:=base) T
 walk_at"A"
 refine T.Hf.fn.ok cW (λvs H Q E h=>y8 h) (λ_ _ _ _ H vs Q E hr h=>?_)
 refine ⟨_,(ag (ak (i:=3) cW.nd rfl (Or.inl rfl) (az ba ai (aq dz (hr.mono ∅) rfl T.kI.mg T.kI.fn.kp T.kI.bd .nil aD (aa (pv 0) (aa (pv 2) ab)))))
   (ag (ak (i:=4) cW.nd rfl (Or.inl rfl) (aq dz (hr.mono ∅) rfl T.kI.mg T.kI.fn.kp T.kI.bd .nil aD (aa (pv 0) (aa ai ab))))
   (ag (ak (i:=5) cW.nd rfl (Or.inl rfl) (mQ [] ⋯))
   (fU (cU PassesOwn.never (aF i7 (aC aR rfl T.z_len Qaj (aa (pv 5) ab)) (pv 3) (aP _)) (ag (ak (i:=6) cW.nd rfl (Or.inl rfl) (aM ie (pv 1) (aq dz (hr.mono ∅) rfl T.kI.mg T.kI.fn.kp T.kI.bd .nil aD (aa (pv 0) (aa (aC aR rfl T.z_len Qaj (aa (pv 1) ab)) ab))) (λ_ _=>rfl)))
   (fU (cx (PW.pt (i4 (aF kj (pv 4) ai (aP _)) (i4 (aF kS (aC aR rfl T.z_len Qaj (aa (pv 5) ab)) ai (aP _)) (hW (aF i7 (aC aR rfl T.z_len Qaj (aa (pv 5) ab)) ai (aP _)))))) (ah (ak (i:=6) cW.nd rfl (Or.inl rfl) (aM ie (pv 5) (az eO (aC aR rfl T.z_len Qaj (aa (pv 5) ab)) ai) (λ_ _=>rfl)))) bN)
   (ah (cx (PW.pt (J2 (aF jb (pv 5) (mQ [] ⋯) (aP _)) (Dw (aF LU (pv 6) (aq cn (hr.mono ∅) rfl T.mG.mg T.mG.fn.kp T.mG.bd .nil aD (aa (aM ie (pv 5) (kR hZ ai) (λ_ _=>rfl)) ab)) (aP _))))) (ah (ak (i:=5) cW.nd rfl (Or.inl rfl) (az h_ (pv 5) (pv 6)))) (ah (ak (i:=5) cW.nd rfl (Or.inl rfl) (az h_ (pv 5) (aM ie (pv 5) (kR hZ ai) (λ_ _=>rfl))))))))))
   (fU (cU PassesOwn.never (PW.pt (i4 (aF kS (aC aR rfl T.z_len Qaj (aa (pv 5) ab)) ai (aP _)) (hW (aF jb (aM ie (pv 5) ai (λ_ _=>rfl)) (aq cn (hr.mono ∅) rfl T.mG.mg T.mG.fn.kp T.mG.bd .nil aD (aa (aM ie (pv 5) (kR hZ ai) (λ_ _=>rfl)) ab)) (aP _))))) (ah (ak (i:=5) cW.nd rfl (Or.inl rfl) (bG mR (pv 5) cZ (bA (kR hZ ai))))))
   (fU (cx (PW.pt (i4 (aF kj (pv 4) ai (aP _)) (hW (aF J9 (az i6 (aC aR rfl T.z_len Qaj (aa (pv 5) ab)) ai) (pv 2) (aP _))))) (ah (ak (i:=5) cW.nd rfl (Or.inl rfl) (az h_ (pv 5) (pv 5)))) bN)
   (ah (aG (pv 5))))))))),?_⟩
 obtain ⟨b,y,top,rfl,hb,hy,Sw,KP,KQ,KR,q⟩:=h
 have hs:=Zs1
 have QZ:(y:)<=sizeLine:=by lia
 refine ⟨_,rfl,_,rfl,b,_,rfl,hb,(),(),λn H1 hn Cp s1=>?_⟩
 refine ⟨_,_,rfl,rfl,_,rfl,b,5,rfl,Cp,∅,∅,λfm H2 UI p_ s2=>?_⟩
 have ZV:n+1<=top:=by lia
 have vZ:=s1.trans s2
 walk_at "wk"
 refine ⟨λσ' H'=>∃(w:Z) (lv:Option V),σ'=[some (.ref b),some (.str (S y)),some (.int top),some (.int (1+(n:Int))),some (.int fm),some (.str (S w)),lv]/\Wd y w/\1<=(w:)/\(w:)<=n+1/\c_ H' b/\aO b H H',?_,?_⟩
 ·refine ⟨λk σ H'=>∃(w:Z) (lv:Option V),σ=[some (.ref b),some (.str (S y)),some (.int top),some (.int (1+(n:Int))),some (.int fm),some (.str (S w)),lv]/\k=n+1 - (w:)/\Wd y w/\(w:)<=n+1/\c_ H' b/\aO b H H',⟨_,[],none,rfl,rfl,⟨CG.nil,λ_ h=>absurd h kb⟩,Qac _,p_,vZ⟩,?_⟩
  rintro k σ H3 ⟨w,lv,rfl,rfl,hw,pC,vO,s3⟩
  have oR:(w:)<=sizeLine:=by lia
  refine ⟨_,rfl,w,rfl,oR,_,rfl,_,_,rfl,rfl,_,rfl,bR (λz=>?_) (λz=>?_)⟩
  ·have z1:((w:):Int)<1+(n:Int):=of_decide_eq_true z
   refine ⟨_,rfl,_,rfl,_,rfl,y,rfl,QZ,b,_,rfl,vO,(),(),λr H4 KS Hg s4=>?_⟩
   have hr:r<(y:):=by lia
   refine ⟨y,_,_,rfl,rfl,QZ,b4 (LK hr),?_⟩
   have As:y[r]∈y:=Qa7 hr
   generalize y[r]=c at As ⊢
   refine ⟨λσ' H'=>H'=H4/\∃e,e∈y/\σ'=[some (.ref b),some (.str (S y)),some (.int top),some (.int (1+(n:Int))),some (.int fm),some (.str (S w)),some (.str (S [e]))],?_,?_⟩
   ·refine ⟨_,rfl,_,_,rfl,rfl,_,rfl,bR (λf1=>?_) (λf1=>?_)⟩
    ·refine ⟨_,rfl,w,rfl,oR,_,_,rfl,rfl,_,rfl,bR (λf2=>?_) (λf2=>?_)⟩
     ·have g2:(1:Int)<(w:):=of_decide_eq_true f2
      have cP:w≠[]:=λg=>by rw[g]at g2;simp at g2
      refine ⟨_,rfl,w,rfl,oR,_,_,rfl,rfl,_,rfl,bR (λf3=>?_) (λf3=>?_)⟩
      ·refine ⟨_,rfl,_,rfl,w,rfl,oR,_,_,rfl,rfl,by show (0:Int)<2;decide,w,_,_,rfl,rfl,oR,lQ (by show -((w:):Int)<=((w:):Int)%2;lia) (by show ((w:):Int)%2<_;lia),?_⟩
       exact ⟨rfl,_,hw.bU _ (gG cP _),rfl⟩
      ·exact ⟨rfl,c,As,rfl⟩
     ·refine B4 ?_
      exact ⟨rfl,c,As,rfl⟩
    ·refine B4 ?_
     exact ⟨rfl,c,As,rfl⟩
   rintro σ5 H5 ⟨rfl,e,zt,rfl⟩
   have s5:=s3.trans s4
   refine ⟨_,rfl,w,[],rfl,rfl,_,rfl,bR (λf=>?_) (λf=>?_)⟩
   ·have UJ:w=[]:=of_decide_eq_true f
    refine P6 ?_
    refine ⟨_,rfl,_,rfl,w,[e],rfl,rfl,by show (w:)+1<=_;lia,?_⟩
    exact ⟨n+1 - (w++[e]:),by rw[VG];show n+1 - ((w:)+1)<_;lia,w++[e],_,rfl,rfl,hw.more zt λg=>absurd UJ g,by rw[VG];show (w:)+1<=_;lia,Hg,s5⟩
   ·have cP:w≠[]:=λg=>f (decide_eq_true g)
    have qe:0<(w:):=VJ.mpr cP
    have IT:rd w (-1)∈y:=hw.bU _ (gG cP _)
    have x3:rz w (-1)=some (rd w (-1)):=lQ () ()
    refine ⟨_,rfl,_,rfl,_,rfl,w,_,_,rfl,rfl,oR,x3,_,rfl,hy.lt _ IT,[e],_,rfl,rfl,_,rfl,bR (λf2=>?_) (λf2=>?_)⟩
    ·have UK:e≠aB (rd w (-1)):=λg=>by rw[g]at f2;simp at f2
     refine ⟨_,rfl,_,rfl,w,[e],rfl,rfl,by show (w:)+1<=_;lia,?_⟩
     exact ⟨n+1 - (w++[e]:),by rw[VG];show n+1 - ((w:)+1)<_;lia,w++[e],_,rfl,rfl,hw.more zt λ_=>UK,by rw[VG];show (w:)+1<=_;lia,Hg,s5⟩
    ·refine ⟨_,rfl,_,rfl,_,rfl,w,_,_,rfl,rfl,oR,x3,w,[rd w (-1)],rfl,rfl,by show (w:)+1<=_;lia,?_⟩
     exact ⟨n+1 - (w++[rd w (-1)]:),by rw[VG];show n+1 - ((w:)+1)<_;lia,w++[rd w (-1)],_,rfl,rfl,hw.more IT λ_ g=>gE (hy.lt _ IT) g.symm,by rw[VG];show (w:)+1<=_;lia,Hg,s5⟩
  ·have z1: ¬((w:):Int)<1+(n:Int):=λg=>z (decide_eq_true g)
   exact ⟨w,lv,rfl,hw,(),pC,vO,s3⟩
 rintro σ6 H3 ⟨w,lv,rfl,hw,OV,pC,vO,s3⟩
 refine ⟨λσ' H'=>H'=H3/\∃w:Z,σ'=[some (.ref b),some (.str (S y)),some (.int top),some (.int (1+(n:Int))),some (.int fm),some (.str (S w)),lv]/\SW y w/\(w:)<=n+1,?_,?_⟩
 ·refine ⟨λk σ H'=>H'=H3/\∃w:Z,σ=[some (.ref b),some (.str (S y)),some (.int top),some (.int (1+(n:Int))),some (.int fm),some (.str (S w)),lv]/\k=(w:)/\Wd y w/\1<=(w:)/\(w:)<=n+1,⟨_,rfl,w,rfl,rfl,hw,OV,pC⟩,?_⟩
  clear hw pC OV w
  rintro k σ H4 ⟨rfl,w,rfl,rfl,hw,OV,pC⟩
  have oR:(w:)<=sizeLine:=by lia
  have cP:w≠[]:=λg=>by rw[g]at OV;simp at OV
  have IT:∀k,rd w k∈y:=λk=>hw.bU _ (gG cP k)
  refine ⟨_,rfl,w,rfl,oR,_,_,rfl,rfl,_,rfl,bR (λf=>?_) (λf=>?_)⟩
  ·have g1:(1:Int)<(w:):=of_decide_eq_true f
   have x3:rz w (-1)=some (rd w (-1)):=lQ () ()
   refine ⟨_,rfl,w,_,_,rfl,rfl,oR,lQ (k:=0) () (),_,rfl,_,rfl,w,_,_,rfl,rfl,oR,x3,_,rfl,hy.lt _ (IT _),[rd w 0],_,rfl,rfl,_,rfl,bR (λf2=>?_) (λf2=>?_)⟩
   ·refine ⟨_,rfl,_,rfl,_,rfl,w,rfl,oR,?_⟩
    rw[EK]
    exact ⟨(w.take ((w:) - 1):),by rw[Qai];lia,rfl,w.take ((w:) - 1),rfl,rfl,⟨hw.G7.take _,λc hc=>hw.bU c (Qcg hc)⟩,by rw[Qai];lia,by rw[Qai];lia⟩
   ·have UK:rd w 0≠aB (rd w (-1)):=λg=>f2 (by simp[g])
    exact ⟨rfl,w,rfl,hw.sw cP UK,pC⟩
  ·have g1: ¬(1:Int)<(w:):=λg=>f (decide_eq_true g)
   refine B4 ?_
   exact ⟨rfl,w,rfl,hw.one hy (),pC⟩
 rintro σ7 H7 ⟨rfl,w7,rfl,sw,Yz⟩
 clear hw OV pC w
 refine ⟨λσ' H'=>H'=H7/\∃w:Z,σ'=[some (.ref b),some (.str (S y)),some (.int top),some (.int (1+(n:Int))),some (.int fm),some (.str (S w)),lv]/\SW y w/\(w:)<=top,?_,?_⟩
 ·refine ⟨_,rfl,_,_,rfl,rfl,_,rfl,bR (λf=>?_) (λf=>?_)⟩
  ·refine ⟨_,rfl,w7,rfl,(),_,_,rfl,rfl,.inl ⟨(),()⟩,_,rfl,_,_,rfl,rfl,_,rfl,bR (λf2=>?_) (λf2=>?_)⟩
   ·have g2:((w7:):Int)*2<=top:=of_decide_eq_true f2
    refine ⟨_,rfl,_,rfl,w7,w7,rfl,rfl,(),?_⟩
    exact ⟨rfl,_,rfl,sw.twice,by rw[VG];lia⟩
   ·exact ⟨rfl,_,rfl,sw,()⟩
  ·refine B4 ?_
   exact ⟨rfl,_,rfl,sw,()⟩
 rintro σ8 H8 ⟨rfl,w8,rfl,YA,UL⟩
 exact ⟨_,rfl,q w8 _ YA UL vO s3⟩
theorem Gw:bE P w K mg base fI 3 Oa OL ["_law_box_here","_law_yard_here","_law_word","_law_top"] (xb K):=by
 have dz:=mB (P:=P) (w:=w) (base:=base) T
 walk_at"A"
 have mC:=ua (P:=P) (w:=w) (base:=base) T
 refine T.Sq.fn.ok jF (λvs H Q E h=>CJ h) (λ_ _ _ _ H vs Q E hr h=>?_)
 refine ⟨_,(ag (ak (i:=4) jF.nd rfl (Or.inl rfl) (aq dz (hr.mono ∅) rfl T.kI.mg T.kI.fn.kp T.kI.bd .nil aD (aa (pv 0) (aa ai ab))))
   (ag (ak (i:=5) jF.nd rfl (Or.inl rfl) (aq dz (hr.mono ∅) rfl T.kI.mg T.kI.fn.kp T.kI.bd .nil aD (aa (pv 0) (aa (aC aR rfl T.z_len Qaj (aa (pv 2) ab)) ab))))
   (ag (cx (aF kj (pv 4) ai (aP _)) (ah (aG (az h_ (bG mR (pv 2) (bA (pv 5)) cZ) (bG mR (pv 2) cZ (bA (pv 5)))))) bN)
   (ag (cx (aF kj (pv 4) ai (aP _)) (ah (aG (bF K rfl Qas Qc3 Qc2 (jc K rfl) (mQ [] ⋯) (aa (bH ["_law_letter"] [none] (D0 rfl T.z_reversed (aa (pv 2) ab)) trivial (λ_ _ _ _=>(aA (i:=0) (by decide+kernel:List.Nodup (["_law_letter"]:List Str)) rfl (Or.inl rfl))) (λ_ _ _ _=>eE) (λ_ _ _ _=>(aq cn (hr.mono ∅) rfl T.mG.mg T.mG.fn.kp T.mG.bd .nil aD (aa (pv 0) ab)))) ab)))) bN)
   (ag (cx (aF kj (pv 4) ai (aP _)) (ag (ak (i:=6) jF.nd rfl (Or.inl rfl) (aM ie (pv 1) (aq dz (hr.mono ∅) rfl T.kI.mg T.kI.fn.kp T.kI.bd .nil aD (aa (pv 0) (aa (aC aR rfl T.z_len Qaj (aa (pv 1) ab)) ab))) (λ_ _=>rfl)))
   (ag (ak (i:=7) jF.nd rfl (Or.inl rfl) (az h_ (bG mR (pv 2) cZ (bA (pv 5))) (pv 6)))
   (ah (cx (aF (HQ K rfl) (pv 6) (cE (aa (aq cn (hr.mono ∅) rfl T.mG.mg T.mG.fn.kp T.mG.bd .nil aD (aa (aM ie (pv 7) ai (λ_ _=>rfl)) ab)) (aa (aq cn (hr.mono ∅) rfl T.mG.mg T.mG.fn.kp T.mG.bd .nil aD (aa (aM ie (bG mR (pv 7) (bA (kR hZ ai)) cZ) ai (λ_ _=>rfl)) ab)) ab))) (by with_unfolding_all rfl)) (ah (aG (pv 7))) bN)))) bN)
   (ah (aG (aq mC (hr.mono ∅) rfl T.Hf.mg T.Hf.fn.kp T.Hf.bd .nil aD (aa (pv 0) (aa (pv 1) (aa (pv 3) ab))))))))))),?_⟩
 obtain ⟨b,y,w,top,rfl,hb,hy,Sw,KP,KQ,KR,sw,ou,q⟩:=h
 have hs:=Zs1
 have QZ:(y:)<=sizeLine:=by lia
 have pC:(w:)<=sizeLine:=by lia
 have qe:0<(w:):=VJ.mpr sw.ne
 have lw:∀c∈w,Lt c:=λc hc=>hy.lt c (sw.bU c hc)
 refine ⟨_,rfl,b,5,rfl,hb,∅,∅,λfm H1 UI Cp s1=>?_⟩
 refine ⟨_,rfl,_,rfl,w,rfl,pC,b,_,rfl,Cp,(),(),λat' H2 Uc p_ s2=>?_⟩
 have vZ:=s1.trans s2
 have YB:at'<(w:):=by lia
 refine ⟨_,rfl,_,_,rfl,rfl,_,rfl,bR (λf0=>?_) (λf0=>?_)⟩
 ·have hlen:(cut w (some (at':Int)) none:)+(cut w none (some (at':Int)):)<=sizeLine:=by rw[eW,ji,Qaw,Qai];lia
  have M1:cut w (some (at':Int)) none++cut w none (some (at':Int))=w.drop at'++w.take at':=by rw[eW,ji]
  refine ⟨_,rfl,_,rfl,_,rfl,w,rfl,pC,_,rfl,_,rfl,_,rfl,w,rfl,pC,_,_,rfl,rfl,hlen,?_⟩
  rw[M1]
  exact q _ _ (sw.hV ()) (by rw[VG,Qaw,Qai];lia) p_ vZ
 ·refine ⟨_,rfl,_,_,rfl,rfl,_,rfl,bR (λf1=>?_) (λf1=>?_)⟩
  ·refine ⟨rfl,_,rfl,w,rfl,(),?_⟩
   rw[AA]
   refine ja (xs:=cT w.reverse) (λi acc H'=>aj H2 H'/\acc=cT ((w.reverse.take i).map aB)) (by rw[aW,Qa1];lia) ⟨aj.refl H2,rfl⟩ ?_ ?_
   ·rintro i x acc H3 Nx hi hx hl ⟨s3,rfl⟩ nx
    obtain ⟨c,rB,rfl⟩:=fT hx
    refine ⟨trivial,da ⟨_,rfl,c,rfl,lw c (Qdw.mp (Xu rB)),nx _ _ (by simpa using hl) ⟨s3,?_⟩⟩⟩
    rw[eI, <-take_snoc rB,Xs]
    rfl
   ·rintro acc H3 D hl ⟨s3,rfl⟩ hD
    refine ⟨D,(gQ w).map λc=>[c],rfl,rfl,a_.of ?_,?_,?_⟩
    ·rw[ae, <-eV,aW,Qar (RP _),Qb4]
     rfl
    ·rw[Cu]
     unfold gQ
     rw[Qa1,NA]
     lia
    ·rw[s_]
     exact q _ _ (sw.gQ hy) (by rw[cC];lia) ((p_.same s3).same (aj.upd hD)) (vZ.after (s3.trans (aj.upd hD)))
  ·refine ⟨_,rfl,_,_,rfl,rfl,_,rfl,bR (λf2=>?_) (λf2=>?_)⟩
   ·refine ⟨_,rfl,_,rfl,_,rfl,y,rfl,QZ,b,_,rfl,p_,(),(),λr H3 Wa vO s3=>?_⟩
    have KU:=vZ.trans s3
    have hr:r<(y:):=by lia
    refine ⟨y,_,_,rfl,rfl,QZ,b4 (LK hr),?_⟩
    have As:y[r]∈y:=Qa7 hr
    generalize y[r]=c at As ⊢
    have ZW:=hy.lt c As
    have hlen:(cut w none (some (at':Int)):)+[c].length<=sizeLine:=by rw[eW,Qai];show _+1<=_;lia
    refine ⟨_,rfl,_,rfl,_,rfl,w,rfl,pC,_,rfl,_,_,rfl,rfl,hlen,?_⟩
    rw[eW]
    have pE:(w.take at':)=at':=by rw[Qai];lia
    have Q0:=sw.G7.take at'
    have M3:∀a∈w.take at',a∈y:=λa ha=>sw.bU a (Qcg ha)
    generalize w.take at'=u at pE Q0 M3 ⊢
    have Q3:(u++[c]:)=at'+1:=by rw[VG,pE];rfl
    have Q5:u++[c]≠[]:=by simp
    have Wb:∀a∈u++[c],a∈y:=λa ha=>(Qaa.mp ha).elim (M3 a) λg=>by rw[VH.mp g];exact As
    have g0:rz (u++[c]) (0:Int)=some (rd (u++[c]) 0):=lQ () ()
    have Lr:cut (u++[c]) (some (-2)) none=(u++[c]).drop (at'+1 - 2):=by rw[Mj,Q3]
    have Sx:((u++[c]).drop (at'+1 - 2):)=at'+1 - (at'+1 - 2):=by rw[Qaw,Q3]
    have Q6:(u++[c]).drop (at'+1 - 2)≠[]:=λz=>by rw[z]at Sx;simp at Sx;lia
    have g2:rz ((u++[c]).drop (at'+1 - 2)) (0:Int)=some (rd ((u++[c]).drop (at'+1 - 2)) 0):=lQ () ()
    have Wc:=Wb _ (gG Q5 0)
    have We:=Wb _ (Qdz (gG Q6 0))
    have e0:∀a,u.head? =some a->rd (u++[c]) 0=a:=λa ha=>by
     have h1:=o7 Q5
     cases u with
     | nil=>cases ha
     | cons x r=>exact (Qaf (h1.symm.trans (show (x::r++[c]).head? =some a from ha)))
    have e2:∀a,u.getLast? =some a->rd ((u++[c]).drop (at'+1 - 2)) 0=a:=λa ha=>by
     have h1:=o7 Q6
     have IA:u≠[]:=λz=>by rw[z]at ha;cases ha
     have iZ:=VJ.mpr IA
     rw[Qey, Qcd,Qa0 ()]at h1
     rw[Qdd, pE]at ha
     rw[show at'+1 - 2+0=at' - 1 by lia]at h1
     exact Qaf (h1.symm.trans ha)
    generalize rd (u++[c]) 0=x0 at g0 Wc e0
    generalize rd ((u++[c]).drop (at'+1 - 2)) 0=x2 at g2 We e2
    refine ⟨_,rfl,_,rfl,_,_,_,rfl,rfl,(),g0,_,rfl,hy.lt _ Wc,?_⟩
    refine ⟨_,rfl,_,rfl,_,rfl,u++[c],rfl,(),?_⟩
    rw[Lr]
    refine ⟨_,_,_,rfl,rfl,by rw[Sx];lia,g2,_,rfl,hy.lt _ We,by show 2<=sizeLine;decide,λp np=>?_⟩
    have UM:=vO.ne np
    have Hh:=KU.none np UM
    refine ⟨p,_,rfl,.inl (a_.of ae),rfl,rfl,?_⟩
    have iv:=An c (aB x0) (aB x2)
    rw[show (if true=true then !DL (.str (S [c])) [.str (S [aB x0]),.str (S [aB x2])] else DL (.str (S [c])) [.str (S [aB x0]),.str (S [aB x2])])=!(decide (c=aB x0)||decide (c=aB x2)) by rw[if_pos rfl,iv]]
    refine ⟨_,rfl,bR (λf3=>?_) (λf3=>?_)⟩
    ·have hn:c≠aB x0/\c≠aB x2:=by simpa using f3
     refine ⟨_,rfl,q (u++[c]) _ (SW.snoc hy Q0 M3 As (λa ha=>by rw[<-e2 a ha];exact hn.2) λa ha=>by rw[<-e0 a ha];exact hn.1) () (vO.ko UM) (KU.ko Hh)⟩
    ·exact ⟨_,rfl,_,rfl,_,rfl,b,y,top,rfl,vO.ko UM,hy,Sw,KP,KQ,KR,λl H4 hl x3 Hg s4=>q l H4 hl x3 Hg ((KU.ko Hh).trans s4)⟩
   ·exact ⟨_,rfl,_,rfl,_,rfl,b,y,top,rfl,p_,hy,Sw,KP,KQ,KR,λl H3 hl x3 vO s3=>q l H3 hl x3 vO (vZ.trans s3)⟩
theorem ub:bE P w K mg base fI 1 Ob OM ["_law_yard_here"] (tD K):=by
 refine T.MW.fn.ok De (λvs H Q E h=>y6 h) (λ_ _ _ _ H vs Q E hr h=>?_)
 refine ⟨_,(ah (aG (aC (lB K rfl) rfl T.z_sorted boot_sorted (aa (bH ["_law_letter"] [none] (mT (pv 0)) trivial (λ_ _ _ _=>(aA (i:=0) (by decide+kernel:List.Nodup (["_law_letter"]:List Str)) rfl (Or.inl rfl))) (λ_ _ _ _=>(uD (aF DT (pv 0) (mQ [97,98,99,100,101,102,103,104,105,106,107,108,109,110,111,112,113,114,115,116,117,118,119,120,121,122] ⋯) (by with_unfolding_all rfl)))) (λ_ _ _ _=>(pv 0))) ab)))),?_⟩
 obtain ⟨y,rfl,hz,q⟩:=h
 have hs:(1000:Nat)<sizeLine:=by decide
 refine ⟨_,rfl,y,rfl,?_⟩
 refine ja (xs:=cT y) (λi acc H'=>aj H H'/\acc=cT ((y.take i).filter λc=>decide (c∈aL))) (by rw[aW];lia) ⟨aj.refl H,rfl⟩ ?_ ?_
 ·rintro i x acc H1 Nx hi hx nK ⟨s1,rfl⟩ nx
  obtain ⟨c,hc,rfl⟩:=fT hx
  have e:=nZ (p:=λc=>decide (c∈aL)) hc
  refine ⟨trivial,?_⟩
  refine ⟨_,rfl,c,aL,rfl,rfl,_,rfl,?_⟩
  walk_at"g"
  ·rw[if_pos z]at e
   exact ⟨_,rfl,nx _ _ (by simpa using nK) ⟨s1,by rw[e, <-eI]⟩⟩
  ·rw[if_neg z,Qba]at e
   exact nx _ _ (Qc4 nK) ⟨s1,by rw[e]⟩
 ·rintro acc H1 D nK ⟨s1,rfl⟩ hD
  rw[qm,eV]
  have YC:((y.filter λc=>decide (c∈aL)):)<=(y:):=Qdt _ _
  refine ⟨D,(y.filter λc=>decide (c∈aL)).map λc=>[c],rfl,a_.of ae,by rw[NA];lia,λp ls hp nL M4=>?_⟩
  obtain ⟨l',rfl,pl⟩:=Al nL
  refine q p l' _ (aj.free (aj.trans s1 (aj.upd hD)) hp) (by rw[ae, <-eV]) pl (Am M4) ((s1.trans (aj.upd hD)).trans (aj.upd hp))
theorem ow:bE P w K mg base fI 2 Of OP ["_law_yard_here","_law_words"] (om K):=by
 have q0:=ub (P:=P) (w:=w) (base:=base) T
 walk_at"A"
 refine T.MY.fn.ok d_ (λvs H Q E h=>vB h) (λ_ _ _ _ H vs Q E hr h=>?_)
 refine ⟨_,(ag (ak (i:=2) d_.nd rfl (Or.inl rfl) (cE ab))
   (ag (bJ PassesOwn.never rfl (b3 K rfl (aq q0 (hr.mono ∅) rfl T.MW.mg T.MW.fn.kp T.MW.bd .nil aD (aa (pv 0) ab))) (aA (i:=3) d_.nd rfl (Or.inr rfl)) (ag (ak (i:=4) d_.nd rfl (Or.inl rfl) (cE ab))
   (ag (bJ PassesOwn.never rfl (lC K rfl rfl T.z_enumerate (aa (pv 1) ab)) (eG (n:=2) K rfl rfl (bf (aA (i:=5) d_.nd rfl (Or.inr rfl)) (bf (aA (i:=6) d_.nd rfl (Or.inl rfl)) eh))) (ah (cA (bF K rfl Qan Qcx Qcw gU (pv 4) (aa (bH ["_law_i","_law_letter","_law_c","_law_band"] [none,none,some 5,some 3] (p9 rfl T.z_enumerate (aa (pv 6) ab)) ⟨⟨rfl,rfl,by first | exact .inl rfl | exact .inr rfl⟩,⟨⟨rfl,rfl,by first | exact .inl rfl | exact .inr rfl⟩,trivial⟩⟩ (λ_ _ _ _=>(eG (n:=2) K rfl rfl (bf (aA (i:=0) (by decide+kernel:List.Nodup (["_law_i","_law_letter","_law_c","_law_band"]:List Str)) rfl (Or.inl rfl)) (bf (aA (i:=1) (by decide+kernel:List.Nodup (["_law_i","_law_letter","_law_c","_law_band"]:List Str)) rfl (Or.inl rfl)) eh)))) (λ_ _ _ _=>(uD (aF (D4 K rfl) (pv 1) (bp (aa (pv 3) (aa (aq cn (hr.mono ∅) rfl T.mG.mg T.mG.fn.kp T.mG.bd .nil aD (aa (pv 3) ab)) ab))) (by with_unfolding_all rfl)))) (λ_ _ _ _=>(bp (aa (pv 2) (aa (pv 0) ab))))) ab)))))
   (ah (cA (bF K rfl Qan Qb0 Qbz eR (pv 2) (aa (pv 4) ab)))))))
   (ah (aG (pv 2))))),?_⟩
 obtain ⟨y,wt,ws,rfl,hy,hz,ou,hw,q⟩:=h
 have hs:=Zs1
 have Wf:=hw.wW
 refine ⟨by show 0<=sizeLine;decide,λp1 n1=>?_⟩
 refine ⟨_,rfl,y,rfl,(),λp2 l2 H1 n2 mU nR UE s1=>?_⟩
 rw[kB hy.lt]at nR
 have el:=pb nR UE
 subst el
 have Sy:p1≠p2:=λz=>by rw[<-z,ae]at n2;cases n2
 have Gx:aj H H1:=(aj.upd n1).trans s1
 have iZ:H1 p1=some (.lst []):=s1 _ _ ae
 have UN:=fF hy
 refine ⟨p2,rfl,⟨_,a_.of mU⟩,?_⟩
 refine dG (K:=K) (a:=p2) (xs:=cT (cq y)) (λi σ H'=>∃(os:List Od) (bv sv cv wv:Option V),σ=[some (.str (S y)),some (.ref wt),some (.ref p1),bv,sv,cv,wv]/\H' p1=some (.lst (iJ os))/\(∀o∈os,vA H' o/\o.o≠p1)/\os.map dv=((cq y).take i).map (λb=>bV b ws (ws:))/\aO p1 H1 H')
  ⟨[],none,none,none,none,rfl,iZ,λ_ h=>absurd h kb,rfl,aO.refl _ _⟩ (λi σ H' _ ⟨_,_,_,_,_,_,_,_,_,h⟩=>a_.of (h _ _ mU (Ne.symm Sy))) ?_ ?_
 ·rintro i x σ H2 hx ⟨os,bv,sv,cv,wv,rfl,iZ,Eg,mL,s2⟩
  obtain ⟨band,Gy,rfl⟩:=fT hx
  have hi:i<(cq y:):=(LL.mp Gy).1
  have UO:Lt band:=hy.lt band (Qaz.mp ((dq y).mem_iff.mp (Xu Gy))).1
  have CN:(os:)=i:=by
   have:=congrArg List.length mL
   rw[NA,NA,Qai]at this
   lia
  refine ⟨by show 0<=sizeLine;decide,λp3 n3=>?_⟩
  have Q7:=s2 _ _ (Gx _ _ ou) (ao ou n1)
  refine ⟨_,rfl,wt,rfl,⟨_,bW.of ((aj.upd n3) _ _ Q7)⟩,?_⟩
  refine jJ (K:=K) (a:=wt) (xs:=j7 ws) (λj σ H'=>∃(ps:List Pr) (cv wv:Option V),σ=[some (.str (S y)),some (.ref wt),some (.ref p1),some (.str (S [band])),some (.ref p3),cv,wv]/\H' p3=some (.lst (iA ps))/\(∀p∈ps,iT H' p)/\ps.map Pr.pair=bV band ws j/\(ps:)<=12*j/\aj H2 H')
   ⟨[],cv,wv,rfl,ae,λ_ h=>absurd h kb,rfl,Qac _,aj.upd n3⟩ (λj σ H' _ ⟨_,_,_,_,_,_,_,_,h⟩=>bW.of (h _ _ Q7)) ?_ ?_
  ·rintro j x σ H3 T IV ⟨ps,YD,YE,rfl,q5,oS,iV,h7,s3⟩ nT
   have hj:j<(ws:):=by
    have:=(LL.mp IV).1
    rwa [cD]at this
   rw[kr hj]at IV
   cases IV
   have zS:ws[j]? =some ws[j]:=LK hj
   obtain ⟨Gz,pC⟩:=hw.all _ (Qa7 hj)
   generalize ws[j]=w at zS Gz pC ⊢
   walk_at"k"
   have Wg:=aj.upd (o:= .tup [.int j,.str (S w)]) nT
   have Q8:=Wg _ _ q5
   refine ⟨_,rfl,.inl ⟨rfl,_,a_.of Q8⟩,_,rfl,w,rfl,?_⟩
   refine Cb (l:=w) (λm acc H'=>aj (upd H3 T (.tup [.int j,.str (S w)])) H'/\∃vs:List Pr,acc=iA vs/\(∀p∈vs,iT H' p)/\vs.map Pr.pair=gz band j w m/\(vs:)<=m) () ⟨aj.refl _,[],rfl,λ_ h=>absurd h kb,rfl,RP _⟩ ?_ ?_
   ·rintro m l acc H4 T2 Nx hm nK ⟨s4,vs,rfl,Sz,SA,YF⟩ UP nx
    have YG:m<(w:):=(LL.mp hm).1
    have es:=qD (band:=band) (c:=j) hm
    rw[show rT band l=(decide (l=band)||decide (l=aB band)) from rfl]at es
    refine ⟨T2,_,rfl,bW.of ae,rfl,_,_,rfl,_,_,rfl,rfl,?_⟩
    refine ⟨⟨rfl,rfl,trivial⟩,?_⟩
    have YH:=aj.upd (o:= .tup [.int m,.str (S [l])]) UP
    refine ⟨_,rfl,_,rfl,_,rfl,band,rfl,UO,by show 2<=sizeLine;decide,λt nt=>?_⟩
    refine ⟨t,_,rfl,.inr (bW.of ae),rfl,rfl,_,rfl,?_⟩
    have Q9:=YH.trans (aj.upd (o:= .tup [.str (S [band]),.str (S [aB band])]) nt)
    generalize upd (upd H4 T2 (.tup [.int m,.str (S [l])])) t (.tup [.str (S [band]),.str (S [aB band])])=H5 at Q9 ⊢
    show if DL (.str (S [l])) [.str (S [band]),.str (S [aB band])]=true then _ else _
    rw[An]
    walk_at"g"
    ·rw[if_pos z]at es
     refine ⟨_,rfl,_,rfl,by show 2<=sizeLine;decide,λt2 KW=>?_⟩
     refine nx _ _ (by simpa using nK) ⟨(s4.trans Q9).trans (aj.upd KW),vs++[⟨t2,j,m⟩],xq vs ⟨t2,j,m⟩,λp hp=>?_,by rw[Xs,SA,es];rfl,by rw[VG];show (vs:)+1<=_;lia⟩
     rcases Qaa.mp hp with g | g
     ·exact (Sz p g).same (Q9.trans (aj.upd KW))
     ·have e2:=VH.mp g
      subst e2
      exact ⟨ae,by show j<1000;lia,by show m<1000;lia⟩
    ·rw[if_neg z,Qba]at es
     exact nx _ _ (Qc4 nK) ⟨s4.trans Q9,vs,rfl,λp hp=>(Sz p hp).same Q9,by rw[es];exact SA,()⟩
   ·rintro acc H4 D nK ⟨s4,vs,rfl,Sz,SA,YF⟩ hD
    have uc:=s4 _ _ Q8
    refine ⟨p3,D,_,_,rfl,rfl,(aj.upd hD) _ _ uc,ae,by rw[ck,ck];lia,?_⟩
    rw[IM]
    have SD:aj H3 (upd H4 D (.lst (iA vs))):=(Wg.trans s4).trans (aj.upd hD)
    have Q_:=(aj.upd (o:= .lst (iA vs)) hD) _ _ uc
    have YI:H2 p3=none:=n3
    refine ⟨ps++vs,_,_,rfl,ae,λp hp=>?_,by rw[Xs,iV,SA,ju zS],by rw[VG];lia,λa o ea=>by rw[ar (ao ea YI)];exact SD _ _ (s3 a o ea)⟩
    rcases Qaa.mp hp with g | g
    ·exact ((oS p g).same SD).ts (aY.lD Q_)
    ·exact ((Sz p g).same (aj.upd hD)).ts (aY.lD Q_)
  ·rintro σ H3 ⟨ps,YD,YE,rfl,q5,oS,iV,h7,s3⟩
   rw[cD]at iV h7
   have JC:=s3 _ _ iZ
   have Wh:p3≠p1:=λz=>by rw[z,iZ]at n3;cases n3
   refine ⟨_,rfl,.inl ⟨rfl,_,a_.of JC⟩,_,rfl,p1,_,_,rfl,rfl,JC,by rw[fW];lia,?_⟩
   refine ⟨os++[⟨p3,ps⟩],_,_,_,_,rfl,by rw[ae];exact congrArg (λx=>some (HO.lst x)) (lY os ⟨p3,ps⟩),λo ho=>?_,?_,λa o ea z=>by rw[ar z];exact s3 _ _ (s2 a o ea z)⟩
   ·rcases Qaa.mp ho with g | g
    ·exact ⟨((Eg o g).1.same s3).lD JC (Eg o g).2,(Eg o g).2⟩
    ·rw[VH.mp g]
     exact ⟨vA.lD (o:=⟨p3,ps⟩) ⟨q5,oS⟩ JC Wh,Wh⟩
   ·rw[Xs,mL, <-take_snoc Gy,Xs]
    exact congrArg (λz=>_++[z]) iV
 ·rintro σ H2 ⟨os,bv,sv,cv,wv,rfl,iZ,Eg,mL,s2⟩
  rw[aW,Qau]at mL
  exact ⟨_,rfl,q p1 os H2 n1 iZ (λo ho=>(Eg o ho).1) mL λa o ea=>s2 _ _ (Gx a o ea) (ao ea n1)⟩
theorem GA:bE P w K mg base fI 3 Oi OS ["_law_yard_here","_law_words"] (xR K):=by
 have kK:=ow (P:=P) (w:=w) (base:=base) T
 refine T.MZ.fn.ok jG (λvs H Q E h=>C_ h) (λ_ _ _ _ H vs Q E hr h=>?_)
 refine ⟨_,(ag (ak (i:=2) jG.nd rfl (Or.inl rfl) ai)
   (ag (bJ PassesOwn.never rfl (b3 K rfl (aq kK (hr.mono ∅) rfl T.MY.mg T.MY.fn.kp T.MY.bd .nil aD (aa (pv 0) (aa (pv 1) ab)))) (aA (i:=3) jG.nd rfl (Or.inl rfl)) (ah (bJ PassesOwn.never rfl (fX rfl T.z_range (aa (aC (aT K rfl) rfl T.z_len Qaj (aa (pv 3) ab)) ab)) (aA (i:=4) jG.nd rfl (Or.inl rfl)) (ah (ak (i:=2) jG.nd rfl (Or.inl rfl) (az i6 (pv 2) (az ba (pv 4) ai)))))))
   (ah (aG (pv 2))))),?_⟩
 obtain ⟨y,wt,ws,rfl,hy,hz,ou,hw,q⟩:=h
 have hs:=Zs1
 refine ⟨_,rfl,_,rfl,y,wt,ws,rfl,hy,hz,ou,hw,λp os H1 np hp CN mM s1=>?_⟩
 refine ⟨p,rfl,⟨_,a_.of hp⟩,?_⟩
 refine dG (K:=K) (a:=p) (xs:=iJ os) (λj σ H'=>∃v3 v4:Option V,σ=[some (.str (S y)),some (.ref wt),some (.int (oq ((dD y ws).take j):Nat)),v3,v4]/\aj H1 H') ⟨none,none,rfl,aj.refl _⟩ (λj σ H' _ ⟨_,_,_,g⟩=>a_.of (g _ _ hp)) ?_ ?_
 ·rintro j x σ H2 hx ⟨v3,v4,rfl,s2⟩
  obtain ⟨o,ho,rfl⟩:=pA hx
  have oo:=(CN o (Xu ho)).same s2
  have hl:(dD y ws)[j]? =some (dv o):=by rw[<-mM,ZN,ho];rfl
  have fw:(o.ps:)<=100:=by
   obtain ⟨b',_,e2⟩:=Qam.mp (Xu hl)
   have e3:=congrArg List.length e2
   unfold dv at e3
   rw[NA]at e3
   have:=gB b' (λw h=>(hw.all w h).2) (ws:) (RP _)
   have:=hw.wW
   lia
  refine ⟨_,rfl,o.o,_,rfl,.inl (a_.of oo.ls),_,rfl,by rw[ck];lia,by rw[ck];lia,?_⟩
  rw[Xt,ck]
  refine fZ (λk σ H'=>∃v4:Option V,σ=[some (.str (S y)),some (.ref wt),some (.int (oq ((dD y ws).take j)*iN k:Nat)),some (.ref o.o),v4]/\H'=H2) ⟨v4,by rw[show iN 0=1 from rfl,Qec];rfl,rfl⟩ ?_ ?_
  ·rintro k σ H3 hk ⟨v5,rfl,rfl⟩
   refine ⟨_,rfl,_,rfl,_,_,rfl,rfl,_,_,rfl,rfl,.inr ⟨(),()⟩,?_⟩
   refine ⟨some (V.int (0+(k:Int))),?_,rfl⟩
   show [_,_,some (V.int ((oq ((dD y ws).take j)*iN k:Nat)*((0+(k:Int))+1))),_,_]=_
   rw[show ((oq ((dD y ws).take j)*iN k:Nat):Int)*((0+(k:Int))+1)=((oq ((dD y ws).take j)*iN (k+1):Nat):Int) by rw[Qck,show (k:Int)+1=((k+1:Nat):Int) from rfl, <-Qdi,Qfi];rfl]
  ·rintro σ H3 ⟨v5,rfl,rfl⟩
   refine ⟨some (.ref o.o),v5,?_,s2⟩
   rw[<-take_snoc hl,jB]
   unfold dv
   rw[NA]
 ·rintro σ H2 ⟨v3,v4,rfl,s2⟩
  refine ⟨_,rfl,?_⟩
  have e:(dD y ws).take (iJ os:)=dD y ws:=by rw[fW];refine Qar ?_;rw[<-mM,NA];exact RP _
  rw[e]
  exact q H2 (s1.trans s2)
theorem JD:bE P w K mg base fI 4 Oj OT ["_law_box_here","_law_yard_here"] (Bw K):=by
 have mC:=ua (P:=P) (w:=w) (base:=base) T
 have dz:=mB (P:=P) (w:=w) (base:=base) T
 have JE:=Gw (P:=P) (w:=w) (base:=base) T
 have By:=GA (P:=P) (w:=w) (base:=base) T
 refine T.Sv.fn.ok jW (λvs H Q E h=>Gh h) (λ_ _ _ _ H vs Q E hr h=>?_)
 refine ⟨_,(ag (ak (i:=2) jW.nd rfl (Or.inl rfl) (bp (aa (aq mC (hr.mono ∅) rfl T.Hf.mg T.Hf.fn.kp T.Hf.bd .nil aD (aa (pv 0) (aa (pv 1) (aa ai ab)))) ab)))
   (fU (cx (aF kj (aq dz (hr.mono ∅) rfl T.kI.mg T.kI.fn.kp T.kI.bd .nil aD (aa (pv 0) (aa ai ab))) ai (aP _)) (ag (ak (i:=2) jW.nd rfl (Or.inl rfl) (bp (aa (aq mC (hr.mono ∅) rfl T.Hf.mg T.Hf.fn.kp T.Hf.bd .nil aD (aa (pv 0) (aa (pv 1) (aa ai ab)))) ab)))
   (ah (ak (i:=2) jW.nd rfl (Or.inl rfl) (az (D8 K rfl) (pv 2) (bp (aa (aq JE (hr.mono ∅) rfl T.Sq.mg T.Sq.fn.kp T.Sq.bd .nil aD (aa (pv 0) (aa (pv 1) (aa (aM (bc K rfl) (pv 2) ai (λ_ _=>rfl)) (aa ai ab))))) ab)))))) bN)
   (fU (cU PassesOwn.never (PW.pt (i4 (aF kS (aq By (hr.mono ∅) rfl T.MZ.mg T.MZ.fn.kp T.MZ.bd .nil aD (aa (pv 1) (aa (pv 2) ab))) ai (aP _)) (hW (aF kS (aC (aT K rfl) rfl T.z_len Qaj (aa (pv 2) ab)) ai (aP _))))) (ah (ak (i:=2) jW.nd rfl (Or.inl rfl) (bG (HV K rfl) (pv 2) (bA ai) cZ))))
   (fU (cU PassesOwn.never (aF kS (aq By (hr.mono ∅) rfl T.MZ.mg T.MZ.fn.kp T.MZ.bd .nil aD (aa (pv 1) (aa (pv 2) ab))) ai (aP _)) (ah (ak (i:=2) jW.nd rfl (Or.inl rfl) (bp (aa (az oZ (bG mR (aM (bc K rfl) (pv 2) ai (λ_ _=>rfl)) cZ (bA ai)) ai) ab)))))
   (ah (aG (pv 2))))))),?_⟩
 obtain ⟨b,y,rfl,hb,hy,KP,Hi,q⟩:=h
 have hs:=Zs1
 refine ⟨_,rfl,_,rfl,b,y,6,rfl,hb,hy,KP,Hi,∅,∅,λw1 H1 YJ YK Cp s1=>?_⟩
 refine ⟨by show 1<=sizeLine;decide,λt1 Ra=>?_⟩
 have F1:nC b y H (upd H1 t1 (.tup [V.str (S w1)])) t1 [w1]:=⟨Cp.ne Ra,ae,RP _,by show 1<=2;decide,λw hw=>by rw[VH.mp hw];exact ⟨YJ,YK⟩,Cp.same (aj.upd Ra),s1.trans (aO.of (aj.upd Ra))⟩
 generalize upd H1 t1 (.tup [V.str (S w1)])=H2 at F1 ⊢
 refine ⟨λσ H'=>∃(t:Addr) (ws:List Z),σ=[some (.ref b),some (.str (S y)),some (.ref t)]/\nC b y H H' t ws,?_,?_⟩
 ·refine ⟨_,rfl,b,2,rfl,F1.bx,∅,∅,λr H3 hr vO s3=>?_⟩
  refine ⟨_,_,rfl,rfl,_,rfl,bR (λf=>?_) (λf=>?_)⟩
  ·refine ⟨_,rfl,_,rfl,b,y,3,rfl,vO,hy,KP,Hi,∅,∅,λw2 H4 Wi ZX Hg s4=>?_⟩
   refine ⟨by show 1<=sizeLine;decide,λt2 KW=>?_⟩
   have b5:=Hg.same (aj.upd (o:= .tup [V.str (S w2)]) KW)
   have s5:=F1.sb.trans (s3.trans (s4.trans (aO.of (aj.upd (o:= .tup [V.str (S w2)]) KW))))
   have h5:upd H4 t2 (.tup [V.str (S w2)]) t2=some (.tup (j7 [w2])):=ae
   have YL:t2≠b:=Hg.ne KW
   generalize upd H4 t2 (.tup [V.str (S w2)])=H5 at b5 s5 h5 ⊢
   refine ⟨_,rfl,_,rfl,_,rfl,_,rfl,t2,_,_,_,rfl,rfl,bW.of h5,rfl,b,y,w2,4,rfl,b5,hy,KP,Hi,∅,∅,Wi,(),λw3 H6 YM ZY YN s6=>?_⟩
   refine ⟨by show 1<=sizeLine;decide,λt3 Rb=>?_⟩
   refine ⟨t2,t3,_,_,rfl,rfl,bW.of (aj.upd Rb _ _ (s6 _ _ h5 YL)),bW.of ae,by simp[j7],by show 1+1<=sizeLine;decide,λz=>(by cases z),λ_ t4 Rc=>?_⟩
   have b7:=(YN.same (aj.upd (o:= .tup [V.str (S w3)]) Rb))
   exact ⟨t4,[w2,w3],rfl,b7.ne Rc,ae,by show 1<=2;decide,RP _,λw hw=>by
    rcases ZQ.mp hw with g | g
    ·rw[g];exact ⟨Wi,()⟩
    ·rw[VH.mp g];exact ⟨YM,()⟩,b7.same (aj.upd Rc),s5.trans (s6.trans (aO.of ((aj.upd Rb).trans (aj.upd Rc))))⟩
  ·exact ⟨t1,[w1],rfl,F1.tb,s3 _ _ F1.tp F1.tb,F1.l1,F1.l2,F1.sw,vO,F1.sb.trans s3⟩
 clear F1
 rintro σ H3 ⟨t,ws,rfl,F⟩
 refine ⟨λσ H'=>∃(t:Addr) (ws:List Z),σ=[some (.ref b),some (.str (S y)),some (.ref t)]/\nC b y H H' t ws,⟨λm σ H'=>∃(t:Addr) (ws:List Z),σ=[some (.ref b),some (.str (S y)),some (.ref t)]/\m=(ws:)/\nC b y H H' t ws,⟨_,t,ws,rfl,rfl,F⟩,?_⟩,?_⟩
 ·clear F
  rintro m σ H4 ⟨t,ws,rfl,rfl,F⟩
  refine ⟨_,rfl,_,rfl,y,t,ws,rfl,hy,Hi,F.tp,F.ok,λH5 s5=>?_⟩
  have F5:=F.same s5
  refine ⟨_,_,rfl,rfl,_,rfl,bR (λf=>?_) (λf=>?_)⟩
  ·refine ⟨_,rfl,t,_,rfl,.inr (bW.of F5.tp),_,_,rfl,rfl,_,rfl,bR (λf=>?_) (λf=>?_)⟩
   ·have f:=of_decide_eq_true f
    rw[cD]at f
    have l2:=F.l2
    have c0:HT.cB (j7 ws:) 0 (some ((1:Nat):Int))=1:=by rw[HT.fR,cD];lia
    refine ⟨_,rfl,_,rfl,t,_,rfl,bW.of F5.tp,λz=>by rw[show (some (1:Int))=some ((1:Nat):Int) from rfl,c0]at z;exact absurd z.1 ∅,λp np=>?_⟩
    have sp:=aj.upd (o:= .tup (gq (j7 ws) (some 1) none)) np
    have ec:gq (j7 ws) (some 1) none=j7 (ws.drop 1):=by
     show gq (j7 ws) (some ((1:Nat):Int)) none=_
     rw[t9]
     unfold j7
     rw[List.map_drop]
    rw[ec]at sp ⊢
    refine ⟨(ws.drop 1:),by rw[Qaw];lia,p,ws.drop 1,rfl,rfl,F5.bx.ne np,ae,by rw[Qaw];lia,by rw[Qaw];lia,λw hw=>F.sw w (Qdz hw),F5.bx.same sp,F5.sb.trans (aO.of sp)⟩
   ·exact ⟨t,ws,rfl,F5⟩
  ·exact ⟨t,ws,rfl,F5⟩
 clear F
 rintro σ H4 ⟨t,ws,rfl,F⟩
 refine ⟨λσ H'=>∃(t:Addr) (ws:List Z),σ=[some (.ref b),some (.str (S y)),some (.ref t)]/\nC b y H H' t ws/\oq (dD y ws)<=720,⟨λm σ H'=>∃(t:Addr) (ws:List Z),σ=[some (.ref b),some (.str (S y)),some (.ref t)]/\nC b y H H' t ws/\(m=0->oq (dD y ws)<=720),⟨1,t,ws,rfl,F,λz=>absurd z ∅⟩,?_⟩,?_⟩
 ·clear F
  rintro m σ H5 ⟨t,ws,rfl,F,hm⟩
  refine ⟨_,rfl,_,rfl,y,t,ws,rfl,hy,Hi,F.tp,F.ok,λH6 s6=>?_⟩
  have F6:=F.same s6
  refine ⟨_,_,rfl,rfl,_,rfl,bR (λf=>?_) (λf=>?_)⟩
  ·have f:=of_decide_eq_true f
   have YO:0<m:=by
    by_cases z:m=0
    ·have:=hm z;lia
    ·lia
   obtain ⟨w,hw⟩:∃w,ws[0]? =some w:=⟨_,LK F.l1⟩
   have UQ:=F.sw w (Xu hw)
   have hx:(j7 ws)[0]? =some (V.str (S w)):=by unfold j7;rw[ZN,hw];rfl
   refine ⟨_,rfl,t,_,_,_,rfl,rfl,bW.of F6.tp,b4 (j:=0) hx,?_⟩
   obtain ⟨c,r,rfl⟩:∃c r,w=c::r:=by
    cases w with
    | nil=>exact absurd rfl UQ.1.ne
    | cons c r=>exact ⟨c,r,rfl⟩
   have ec:cut (c::r) none (some 1)=[c]:=eW (c::r) 1
   refine ⟨_,rfl,c::r,rfl,by have:=UQ.2;lia,?_⟩
   rw[ec]
   refine ⟨_,_,rfl,rfl,⟨∅,∅⟩,by show 1*5<=sizeLine;decide,?_⟩
   refine ⟨by show 1<=sizeLine;decide,λp np=>?_⟩
   have sp:=aj.upd (o:= .tup [V.str (S (dj 5 [c]))]) np
   refine ⟨0,YO,p,[dj 5 [c]],rfl,⟨F6.bx.ne np,ae,RP _,by show 1<=2;decide,λw hw=>?_,F6.bx.same sp,F6.sb.trans (aO.of sp)⟩,λ_=>Gf hy (by show 5<=5;decide)⟩
   rw[VH.mp hw]
   exact ⟨Jz hy (UQ.1.bU c ZP),by show 5<=6;decide⟩
  ·have f: ¬(720:Int)<((oq (dD y ws):Nat):Int):=λz=>f (decide_eq_true z)
   exact ⟨t,ws,rfl,F6,()⟩
 ·rintro σ H6 ⟨t,ws,rfl,F,hm⟩
  exact ⟨_,rfl,q t ws H6 F.tb F.tp F.Yu hm F.bx F.sb⟩
theorem ud:bE P w K mg base fI 2 f1 d1 ["word"] (sZ K):=by
 walk_at"Q"
 refine T.F1.fn.ok Dd (λvs H Q E h=>yX h) (λ_ _ _ _ H vs Q E hr h=>?_)
 refine ⟨_,(ah (aG (bF K rfl Qas Qc3 Qc2 (jc K rfl) (mQ [] ⋯) (aa (bH ["letter"] [none] (D0 rfl T.z_reversed (aa (pv 0) ab)) trivial (λ_ _ _ _=>(aA (i:=0) (by decide+kernel:List.Nodup (["letter"]:List Str)) rfl (Or.inl rfl))) (λ_ _ _ _=>eE) (λ_ _ _ _=>(aq cL (hr.mono ∅) rfl T.F0.mg T.F0.fn.kp T.F0.bd .nil aD (aa (pv 0) ab)))) ab)))),?_⟩
 obtain ⟨l,rfl,hc,hz,q⟩:=h
 have hs:(1000:Nat)<sizeLine:=by decide
 refine ⟨rfl,_,rfl,l,rfl,(),?_⟩
 rw[AA]
 refine ja (xs:=cT l.reverse) (λi acc H'=>aj H H'/\acc=cT ((l.reverse.take i).map aB)) (by rw[aW,Qa1];lia) ⟨aj.refl H,rfl⟩ ?_ ?_
 ·rintro i x acc H1 Nx hi hx hl ⟨s1,rfl⟩ nx
  obtain ⟨c,rB,rfl⟩:=fT hx
  refine ⟨trivial,da ⟨_,rfl,c,rfl,hc c (Qdw.mp (Xu rB)),nx _ _ (by simpa using hl) ⟨s1,?_⟩⟩⟩
  rw[eI, <-take_snoc rB,Xs]
  rfl
 ·rintro acc H1 D hl ⟨s1,rfl⟩ hD
  refine ⟨D,(gQ l).map λc=>[c],rfl,rfl,a_.of ?_,?_,?_⟩
  ·rw[ae, <-eV,aW,Qar (RP _),Qb4]
   rfl
  ·rw[Cu]
   unfold gQ
   rw[Qa1,NA]
   lia
  ·rw[s_]
   exact q _ (s1.trans (aj.upd hD))
theorem xX:bE P w K mg base fI 1 f2 d2 ["yard"] (w6 K):=by
 refine T.F2.fn.ok Gu (λvs H Q E h=>CF h) (λ_ _ _ _ H vs Q E hr h=>?_)
 refine ⟨_,(ah (aG (bF K rfl Qas Qc3 Qc2 (jc K rfl) (mQ [] ⋯) (aa (aC (lB K rfl) rfl T.z_sorted boot_sorted (aa (bH ["letter"] [none] (mT (pv 0)) trivial (λ_ _ _ _=>(aA (i:=0) (by decide+kernel:List.Nodup (["letter"]:List Str)) rfl (Or.inl rfl))) (λ_ _ _ _=>(uD (mI (fg K rfl Qas Qef Qee ki (pv 0))))) (λ_ _ _ _=>(pv 0))) ab)) ab)))),?_⟩
 obtain ⟨l,rfl,hl,hz,q⟩:=h
 have hs:(1000:Nat)<sizeLine:=by decide
 refine ⟨rfl,_,rfl,l,rfl,?_⟩
 refine ja (xs:=cT l) (λi acc H'=>aj H H'/\acc=cT ((l.take i).filter ay)) (by rw[aW];lia) ⟨aj.refl H,rfl⟩ ?_ ?_
 ·rintro i x acc H1 Nx hi hx nK ⟨s1,rfl⟩ nx
  obtain ⟨c,hc,rfl⟩:=fT hx
  have e:=nZ (p:=ay) hc
  refine ⟨trivial,?_⟩
  refine ⟨_,rfl,rfl,c,rfl,rfl,hl c (Xu hc),_,rfl,?_⟩
  walk_at"g"
  ·rw[if_pos z]at e
   exact ⟨_,rfl,nx _ _ (by simpa using nK) ⟨s1,by rw[e, <-eI]⟩⟩
  ·rw[if_neg z,Qba]at e
   exact nx _ _ (Qc4 nK) ⟨s1,by rw[e]⟩
 ·rintro acc H1 D nK ⟨s1,rfl⟩ hD
  rw[qm,eV]
  have YC:(l.filter ay:)<=(l:):=Qdt _ _
  refine ⟨D,(l.filter ay).map λc=>[c],rfl,a_.of ae,by rw[NA];lia,λp ls hp nL M4=>?_⟩
  obtain ⟨l',rfl,pl⟩:=Al nL
  have wa:=pl.length_eq
  refine ⟨p,l'.map λc=>[c],rfl,rfl,a_.of ae,by rw[Cu];lia,?_⟩
  rw[s_]
  exact q l' _ pl (Am M4) ((s1.trans (aj.upd hD)).trans (aj.upd hp))
theorem rY:bE P w K mg base fI 2 NV Oz ["yard","drawing","end"] (j8 K):=by
 have vP:=xX (P:=P) (w:=w) (base:=base) T
 refine T.Se.fn.ok kf (λvs H Q E h=>qE h) (λ_ _ _ _ H vs Q E hr h=>?_)
 refine ⟨_,(ag (ak (i:=3) kf.nd rfl (Or.inl rfl) (dX (rL K rfl) rfl T.z_list boot_list (aa (aM (bc K rfl) (aM (bc K rfl) (pv 1) ai (λ_ _=>rfl)) (bF K rfl Qas Qet Qeq mS (aq vP (hr.mono ∅) rfl T.F2.mg T.F2.fn.kp T.F2.bd .nil aD (aa (pv 0) ab)) (aa (fg K rfl Qas Qes Qep pV (pv 2)) ab)) (λ_ _=>rfl)) ab)))
   (ag (cx (mI (fg K rfl Qas PySem.F.slot_str_isupper PySem.F.type_str_isupper yF (pv 2))) (ah (cA (fg K rfl Qan PySem.F.slot_list_reverse PySem.F.type_list_reverse yy (pv 3)))) bN)
   (ah (aG (pv 3))))),?_⟩
 obtain ⟨y,dr,ws,os,e,rfl,hy,hz,he,ho,hd,q⟩:=h
 have hs:=Zs1
 have Hi:∀c∈y,c<128:=Kq hy.lt
 have Wj:=Hi e he
 obtain ⟨⟨wt,ot,d1,d2,d3⟩,dO⟩:=hd
 obtain ⟨o,o1,o2,o3⟩:=gZ hy he ho
 refine ⟨_,rfl,dr,_,1,_,rfl,rfl,bW.of d1,rfl,?_⟩
 refine ⟨_,rfl,y,rfl,Hi,by omega,λl' H1 wa UR s1=>?_⟩
 have el:=pb wa UR
 subst el
 refine ⟨rfl,_,rfl,rfl,e,rfl,rfl,Wj,?_⟩
 refine ⟨cq y,_,rfl,rfl,A8 hy he,?_⟩
 refine ⟨ot,_,_,_,rfl,rfl,bW.of (s1 _ _ d3),b4 (zl o2),?_⟩
 refine ⟨o.o,_,rfl,.inr (bW.of (s1 _ _ (dO o o1).tp)),λp1 n1=>?_⟩
 refine ⟨_,rfl,rfl,e,rfl,rfl,Wj,_,rfl,bR (λz=>?_) (λz=>?_)⟩
 ·refine ⟨_,rfl,.inl ⟨rfl,_,a_.of ae⟩,p1,_,rfl,rfl,ae,?_⟩
  refine ⟨_,rfl,q p1 _ (aj.free s1 n1) ?_ ?_⟩
  ·rw[ae,A9]
   unfold lZ
   rw[if_pos z,o3]
  ·exact λa u ea=>by rw[ar (ao ea (aj.free s1 n1)),ar (ao ea (aj.free s1 n1))];exact s1 a u ea
 ·refine ⟨_,rfl,q p1 _ (aj.free s1 n1) ?_ (s1.trans (aj.upd n1))⟩
  rw[ae]
  unfold lZ
  rw[if_neg z,o3]
theorem rZ:bE P w K mg base fI 1 f4 d4 ["words","band"] (j9 K):=by
 refine T.F4.fn.ok cV (λvs H Q E h=>qK h) (λ_ _ _ _ H vs Q E hr h=>?_)
 refine ⟨_,(ag (ak (i:=2) cV.nd rfl (Or.inl rfl) (cE ab))
   (ag (bJ PassesOwn.never rfl (lC K rfl rfl T.z_enumerate (aa (pv 0) ab)) (eG (n:=2) K rfl rfl (bf (aA (i:=3) cV.nd rfl (Or.inl rfl)) (bf (aA (i:=4) cV.nd rfl (Or.inl rfl)) eh))) (ah (bJ PassesOwn.never rfl (p9 rfl T.z_enumerate (aa (pv 4) ab)) (eG (n:=2) K rfl rfl (bf (aA (i:=5) cV.nd rfl (Or.inl rfl)) (bf (aA (i:=6) cV.nd rfl (Or.inl rfl)) eh))) (ah (cx (aF jb (fg K rfl Qas Qes Qep pV (pv 6)) (pv 1) (aP _)) (ah (cA (bF K rfl Qan Qb0 Qbz eR (pv 2) (aa (bp (aa (pv 3) (aa (pv 5) ab))) ab)))) bN)))))
   (ah (aG (pv 2))))),?_⟩
 obtain ⟨wt,ws,band,rfl,ou,hf,hw,hb,q⟩:=h
 have hs:=Zs1
 walk_at "wk"
 intro p1 n1
 refine ⟨_,rfl,wt,rfl,⟨_,bW.of ((aj.upd n1) _ _ ou)⟩,?_⟩
 refine jJ (K:=K) (a:=wt) (xs:=j7 ws) (λj σ H'=>∃(ps:List Pr) (cv wv pv lv:Option V),σ=[some (.ref wt),some (.str (S [band])),some (.ref p1),cv,wv,pv,lv]/\H' p1=some (.lst (iA ps))/\(∀p∈ps,iT H' p)/\ps.map Pr.pair=bV band ws j/\(ps:)<=12*j/\aj H H')
  ⟨[],none,none,none,none,rfl,ae,λ_ h=>absurd h kb,rfl,Qac _,aj.upd n1⟩ (λj σ H' _ ⟨_,_,_,_,_,_,_,_,_,_,h⟩=>bW.of (h _ _ ou)) ?_ ?_
 ·rintro j x σ H1 T hx ⟨ps,cv,wv,pv,lv,rfl,hp,oS,iV,h7,s1⟩ nT
  have hj:j<(ws:):=by
   have:=(LL.mp hx).1
   rwa [cD]at this
  rw[kr hj]at hx
  cases hx
  have zS:ws[j]? =some ws[j]:=LK hj
  obtain ⟨yz,pC⟩:=hw _ (Qa7 hj)
  generalize ws[j]=w at zS yz pC ⊢
  walk_at"k"
  have sT:=aj.upd (o:= .tup [.int j,.str (S w)]) nT
  refine ⟨_,rfl,w,rfl,?_⟩
  refine wG (l:=w) (λm σ H'=>∃(us:List Pr) (pv lv:Option V),σ=[some (.ref wt),some (.str (S [band])),some (.ref p1),some (.int j),some (.str (S w)),pv,lv]/\H' p1=some (.lst (iA us))/\(∀p∈us,iT H' p)/\us.map Pr.pair=bV band ws j++gz band j w m/\(us:)<=12*j+m/\aj H H')
   ⟨ps,pv,lv,rfl,sT _ _ hp,λp xf=>(oS p xf).same sT,by rw[iV];show _=_++[];rw[Qba],(),s1.trans sT⟩ ?_ ?_
  ·rintro m l σ H2 T2 hm ⟨us,YQ,YR,rfl,mU,j6,jH,pE,s2⟩ UP
   have YG:m<(w:):=(LL.mp hm).1
   have RS:=yz l (Xu hm)
   have es:=qD (band:=band) (c:=j) hm
   have SE:=aj.upd (o:= .tup [.int m,.str (S [l])]) UP
   refine ⟨T2,_,rfl,bW.of ae,rfl,_,_,rfl,_,_,rfl,rfl,?_⟩
   refine ⟨_,rfl,rfl,l,rfl,rfl,RS.lt,_,rfl,[PyProof.Rows.lo1 l],[band],rfl,rfl,_,rfl,?_⟩
   have ev:decide ([PyProof.Rows.lo1 l]=[band])=rT band l:=by rw[<-Fb hb RS];simp
   rw[ev]
   have M5:=SE _ _ mU
   walk_at"g"
   ·rw[if_pos z]at es
    refine ⟨_,rfl,.inl ⟨rfl,_,a_.of M5⟩,_,rfl,_,rfl,by show 2<=sizeLine;decide,λt nt=>?_⟩
    have q5:=(aj.upd (o:= .tup [.int j,.int m]) nt) _ _ M5
    have s3:=SE.trans (aj.upd (o:= .tup [.int j,.int m]) nt)
    refine ⟨p1,_,_,rfl,rfl,q5,by rw[ck];lia,?_⟩
    refine ⟨us++[⟨t,j,m⟩],_,_,rfl,by rw[ae];exact congrArg (λx=>some (HO.lst x)) (xq us ⟨t,j,m⟩),λp xf=>?_,by rw[Xs,jH,es,Qbs];rfl,by rw[VG];show (us:)+1<=_;lia,λa o ea=>by rw[ar (ao ea n1)];exact s3 _ _ (s2 a o ea)⟩
    rcases Qaa.mp xf with g | g
    ·exact ((j6 p g).same s3).ts (aY.lD q5)
    ·have e2:=VH.mp g
     subst e2
     exact iT.ts (H:=upd (upd H2 T2 (.tup [.int m,.str (S [l])])) t (.tup [.int j,.int m])) ⟨ae,by show j<1000;lia,by show m<1000;lia⟩ (aY.lD q5)
   ·rw[if_neg z,Qba]at es
    exact ⟨us,_,_,rfl,M5,λp xf=>(j6 p xf).same SE,by rw[jH,es],(),s2.trans SE⟩
  ·rintro σ H2 ⟨us,YQ,YR,rfl,mU,j6,jH,pE,s2⟩
   exact ⟨us,_,_,_,_,rfl,mU,j6,by rw[jH,ju zS],(),s2⟩
 ·rintro σ H1 ⟨ps,cv,wv,pv,lv,rfl,hp,oS,iV,h7,s1⟩
  rw[cD]at iV
  exact ⟨_,rfl,q p1 ps H1 n1 hp oS iV s1⟩
theorem Dg:bE P w K mg base fI 3 NW OA ["yard","drawing"] (tP K):=by
 have vQ:=rY (P:=P) (w:=w) (base:=base) T
 refine T.Sf.fn.ok jV (λvs H Q E h=>zp h) (λ_ _ _ _ H vs Q E hr h=>?_)
 refine ⟨_,(ag (ak (i:=2) jV.nd rfl (Or.inl rfl) (cE ab))
   (ag (bJ PassesOwn.never rfl (mT (pv 0)) (aA (i:=3) jV.nd rfl (Or.inl rfl)) (ah (bJ PassesOwn.never rfl (b3 K rfl (aq vQ (hr.mono ∅) rfl T.Se.mg T.Se.fn.kp T.Se.bd .nil aD (aa (pv 0) (aa (pv 1) (aa (pv 3) ab))))) (aA (i:=4) jV.nd rfl (Or.inl rfl)) (ah (cA (bF K rfl Qan Qb0 Qbz eR (pv 2) (aa (bp (aa (aM (bc K rfl) (pv 4) ai (λ_ _=>rfl)) (aa (aM (bc K rfl) (pv 4) ai (λ_ _=>rfl)) (aa (pv 3) ab)))) ab)))))))
   (ah (aG (pv 2))))),?_⟩
 obtain ⟨y,dr,ws,os,rfl,hy,hz,ho,hd,q⟩:=h
 have hs:=Zs1
 walk_at "wk"
 intro p1 n1
 refine ⟨_,rfl,y,rfl,?_⟩
 refine uE (xs:=cT y) (λi σ H'=>∃(ps:List Pt) (ev sv:Option V),σ=[some (.str (S y)),some (.ref dr),some (.ref p1),ev,sv]/\H' p1=some (.lst (G_ ps))/\(∀p∈ps,rS H' p/\p.t≠p1)/\ps.map Pt.is=(y.take i).flatMap (cG y os)/\(ps:)<=100*i/\aO p1 H H') ⟨[],none,none,rfl,ae,λ_ h=>absurd h kb,rfl,Qac _,aO.of (aj.upd n1)⟩ ?_ ?_
 ·rintro i x σ H1 hx ⟨ps,ev,sv,rfl,hp,oS,iV,h7,s1⟩
  obtain ⟨e,he,rfl⟩:=fT hx
  have zt:=Xu he
  have hi:i<(y:):=(LL.mp he).1
  have Gx:aj H H1:=λa u ea=>s1 a u ea (ao ea n1)
  refine ⟨_,rfl,_,rfl,_,rfl,y,dr,ws,os,e,rfl,hy,hz,zt,ho,hd.same Gx,λp2 H2 n2 mU s2=>?_⟩
  have Q3:=IS (H:=H) hy zt ho hd.od
  refine ⟨p2,rfl,⟨_,a_.of mU⟩,?_⟩
  have YS:p2≠p1:=λz=>by rw[z,hp]at n2;cases n2
  refine dG (K:=K) (a:=p2) (xs:=iA (lZ y os e)) (λj σ H'=>∃(us:List Pt) (sv:Option V),σ=[some (.str (S y)),some (.ref dr),some (.ref p1),some (.str (S [e])),sv]/\H' p1=some (.lst (G_ us))/\H' p2=some (.lst (iA (lZ y os e)))/\(∀p∈us,rS H' p/\p.t≠p1)/\us.map Pt.is=ps.map Pt.is++((lZ y os e).take j).map (λp=>(p.c,p.i,e))/\(us:)<=100*i+j/\aO p1 H1 H')
   ⟨ps,sv,rfl,s2 _ _ hp,mU,λp xf=>⟨(oS p xf).1.same s2,(oS p xf).2⟩,by simp,by omega,aO.of s2⟩ (λj σ H' _ ⟨_,_,_,_,h,_⟩=>a_.of h) ?_ ?_
  ·rintro j x σ H3 US ⟨us,YT,rfl,q5,Rf,JF,jH,pE,s3⟩
   obtain ⟨p,Rg,rfl⟩:=qB US
   obtain ⟨o,oo,po⟩:=IQ hy zt ho (Xu Rg)
   have hj:j<(lZ y os e:):=(LL.mp Rg).1
   have KU:aj H H3:=λa u ea=>s3 a u (Gx a u ea) (ao ea n1)
   have pk:=(hd.od o oo).pr p po
   have tp:=KU _ _ pk.tp
   refine ⟨_,rfl,.inl ⟨rfl,_,a_.of q5⟩,?_⟩
   refine ⟨_,rfl,p.t,_,0,_,rfl,rfl,bW.of tp,rfl,_,rfl,p.t,_,1,_,rfl,rfl,bW.of tp,rfl,?_⟩
   walk_at "wk"
   intro t nt
   have KQ:t≠p1:=λz=>by rw[z,q5]at nt;cases nt
   refine ⟨p1,_,_,rfl,rfl,(aj.upd nt) _ _ q5,by rw[A_];omega,?_⟩
   refine ⟨us++[⟨t,p.c,p.i,e⟩],_,rfl,by rw[ae];exact congrArg (λx=>some (HO.lst x)) (E_ us ⟨t,p.c,p.i,e⟩),by rw[ar YS];exact (aj.upd nt) _ _ Rf,λr hr=>?_,?_,by rw[VG];show (us:)+1<=_;omega,λa u ea z=>by rw[ar z];exact (aj.upd nt) _ _ (s3 a u ea z)⟩
   ·rcases Qaa.mp hr with z | z
    ·exact ⟨((JF r z).1.same (aj.upd nt)).upd (JF r z).2,(JF r z).2⟩
    ·have e2:=VH.mp z
     subst e2
     exact ⟨rS.upd ⟨ae,pk.cz,pk.iz,(hy.lt e zt).lt⟩ KQ,KQ⟩
   ·rw[Xs,jH, <-take_snoc Rg,Xs,Qbs]
    rfl
  ·rintro σ H3 ⟨us,YT,rfl,q5,Rf,JF,jH,pE,s3⟩
   rw[ck]at pE jH
   refine ⟨us,_,_,rfl,q5,JF,?_,by omega,λa u ea z=>s3 a u (s1 a u ea z) z⟩
   rw[jH,iV, <-take_snoc he,Qbd,Qau,Qa6,Qek,Qba]
   rfl
 ·rintro σ H1 ⟨ps,ev,sv,rfl,hp,oS,iV,h7,s1⟩
  rw[aW]at h7 iV
  rw[Qau]at iV
  exact ⟨_,rfl,q p1 ps H1 n1 hp oS iV (by omega) (λa u ea=>s1 a u ea (ao ea n1))⟩
theorem nM:bE P w K mg base fI 2 NX OB ["word","cord","place"] (g7 K):=by
 walk_at"Q"
 refine T.Sg.fn.ok hU (λvs H Q E h=>md h) (λ_ _ _ _ H vs Q E hr h=>?_)
 refine ⟨_,(ag (ak (i:=3) hU.nd rfl (Or.inl rfl) (az eO (az dQ (pv 2) ai) (aC aR rfl T.z_len Qaj (aa (pv 0) ab))))
   (ah (aG (bp (aa (bp (aa (pv 1) (aa (pv 3) (aa (aq cL (hr.mono ∅) rfl T.F0.mg T.F0.fn.kp T.F0.bd .nil aD (aa (aM ie (pv 0) (pv 3) (λ_ _=>rfl)) ab)) ab)))) (aa (bp (aa (pv 1) (aa (pv 2) (aa (aM ie (pv 0) (pv 2) (λ_ _=>rfl)) ab)))) ab)))))),?_⟩
 obtain ⟨w,c,i,rfl,UT,hi,hz,q⟩:=h
 have hs:=Zs1
 have hp:(0:Int)<((w:):Int):=by omega
 have YU:=vp hi
 have h7:=vn hi
 have e1:w.getD (ng (w:) i) 0=w[ng (w:) i]:=by rw[Xw,LK h7];rfl
 have e2:w.getD i 0=w[i]:=by rw[Xw,LK hi];rfl
 rw[e1,e2]at q
 refine ⟨_,rfl,_,_,rfl,rfl,_,rfl,w,rfl,by omega,_,_,rfl,rfl,hp,?_⟩
 show z8 3 (V.int (((i:Int) - 1)%((w:):Int))) _ _ _
 rw[YU]
 refine ⟨_,rfl,_,rfl,_,rfl,_,rfl,w,_,_,rfl,rfl,by omega,b4 (LK h7),_,rfl,UT _ (Qa7 h7),by show 3<=sizeLine;decide,λt1 n1=>?_⟩
 refine ⟨_,rfl,_,rfl,_,rfl,_,rfl,w,_,_,rfl,rfl,by omega,b4 (LK hi),by show 3<=sizeLine;decide,λt2 n2=>?_⟩
 refine ⟨by show 2<=sizeLine;decide,λt nt=>?_⟩
 have UU:=(aj.upd (o:= .tup [.ref t1,.ref t2]) nt)
 refine q t t1 t2 _ ae (UU _ _ ((aj.upd n2) _ _ ae)) (UU _ _ ae) ((aj.upd n1).trans ((aj.upd n2).trans UU))
theorem zT:bE P w K mg base fI 4 NY JA ["yard","drawing"] (qG K):=by
 have GB:=Dg (P:=P) (w:=w) (base:=base) T
 have oT:=nM (P:=P) (w:=w) (base:=base) T
 refine T.Sh.fn.ok cK (λvs H Q E h=>xu h) (λ_ _ _ _ H vs Q E hr h=>?_)
 refine ⟨_,(ag (ak (i:=2) cK.nd rfl (Or.inl rfl) Ef)
   (ag (bJ PassesOwn.never rfl (qa K rfl rfl T.z_enumerate (aa (aq GB (hr.mono ∅) rfl T.Sf.mg T.Sf.fn.kp T.Sf.bd .nil aD (aa (pv 0) (aa (pv 1) ab))) ab)) (eG (n:=2) K rfl rfl (bf (aA (i:=3) cK.nd rfl (Or.inl rfl)) (bf (aA (i:=4) cK.nd rfl (Or.inl rfl)) eh))) (ah (uL (pR hr) (pv 2) (pv 4) (pv 3) rfl)))
   (ag (ak (i:=5) cK.nd rfl (Or.inl rfl) (cE ab))
   (ag (bJ PassesOwn.never rfl (lC K rfl rfl T.z_enumerate (aa (aM (bc K rfl) (pv 1) ai (λ_ _=>rfl)) ab)) (eG (n:=2) K rfl rfl (bf (aA (i:=6) cK.nd rfl (Or.inl rfl)) (bf (aA (i:=7) cK.nd rfl (Or.inl rfl)) eh))) (ah (bJ PassesOwn.never rfl (fX rfl T.z_range (aa (aC aR rfl T.z_len Qaj (aa (pv 7) ab)) ab)) (aA (i:=8) cK.nd rfl (Or.inl rfl)) (ag (ak (i:=9) cK.nd rfl (Or.inl rfl) (aq oT (hr.mono ∅) rfl T.Sg.mg T.Sg.fn.kp T.Sg.bd .nil aD (aa (pv 7) (aa (pv 6) (aa (pv 8) ab)))))
   (ah (cA (bF K rfl Qan Qb0 Qbz eR (pv 5) (aa (bp (aa (pv 6) (aa (pv 8) (aa (o5 (pR hr) (pv 2) (aM (bc K rfl) (pv 9) ai (λ_ _=>rfl)) (λ_ _=>rfl)) (aa (o5 (pR hr) (pv 2) (aM (bc K rfl) (pv 9) ai (λ_ _=>rfl)) (λ_ _=>rfl)) ab))))) ab))))))))
   (ah (aG (pv 5))))))),?_⟩
 obtain ⟨y,dr,ws,os,rfl,hy,hz,vR,mL,hd,q⟩:=h
 have hs:=Zs1
 have HX:=zr hy mL
 have UN:=fF hy
 have CN:=mL.1
 have Wf:=vR.wW
 obtain ⟨⟨wt,ot,d1,d2,d3⟩,dO⟩:=id hd
 walk_at "wk"
 intro d nd
 refine ⟨_,rfl,_,rfl,y,dr,ws,os,rfl,hy,hz,by omega,hd.same (aj.upd nd),λp1 ps H1 n1 iZ oS iV UC s1=>?_⟩
 have Wl:=s1 _ _ (ae (H:=H) (a:=d) (o:=HO.dT []))
 have Gx:aj H H1:=(aj.upd nd).trans s1
 have h7:(ps:)=(dF y os:):=by rw[<-iV,NA]
 refine ⟨p1,rfl,⟨_,a_.of iZ⟩,?_⟩
 have YV:p1≠d:=λz=>by rw[z,ae]at n1;cases n1
 refine sU (K:=K) (a:=p1) (xs:=G_ ps) (λi σ H'=>∃(aH:List (List Key×V)) (nv pv:Option V),σ=[some (.str (S y)),some (.ref dr),some (.ref d),nv,pv,none,none,none,none,none]/\H' d=some (.dT aH)/\Nums (dF y os) aH i/\(aH:)<=i/\aO d H1 H')
  ⟨[],none,none,rfl,Wl,λp hp=>absurd hp (by simp),Qac _,aO.refl _ _⟩ (λi σ H' _ ⟨_,_,_,_,_,_,_,h⟩=>a_.of (h _ _ iZ YV)) ?_ ?_
 ·rintro i x σ H2 T hx ⟨aH,nv,pv,rfl,hd2,JG,YW,s2⟩ nT
  obtain ⟨p,hp,rfl⟩:∃p,ps[i]? =some p/\x=V.ref p.t:=by
   unfold G_ at hx
   rw[ZN]at hx
   cases e:ps[i]? with
   | none=>rw[e]at hx;cases hx
   | some p=>rw[e]at hx;cases hx;exact ⟨p,rfl,rfl⟩
  have hi:i<(ps:):=(LL.mp hp).1
  have pk:=(oS p (Xu hp)).1.tp
  have YX:p.t≠d:=λz=>by rw[z,Wl]at pk;cases pk
  have YY:d≠T:=ao hd2 nT
  walk_at"k"
  refine ⟨_,rfl,_,rfl,_,rfl,d,_,rfl,uK.t (k:=vm p.is) (by rw[ar YY];exact hd2) ((aj.upd nT) _ _ (s2 _ _ pk YX)) (by omega),?_⟩
  exact ⟨_,_,_,rfl,ae,JG.put HX (QR iV hp),Qak (gw _ _ _) (by omega),λa o ea z=>by rw[ar z];exact (aj.upd nT) _ _ (s2 a o ea z)⟩
 ·rintro σ H2 ⟨aH,nv,pv,rfl,hd2,JG,YW,s2⟩
  rw[A_,h7]at JG
  have KY:∀p∈dF y os,dI aH (vm p)=some (.int ((dF y os).idxOf p:Nat)):=λp hp=>JG p (by rw[Qau];exact hp)
  have vZ:aj H H2:=λa o ea=>s2 a o (Gx a o ea) (ao ea nd)
  walk_at "wk"
  intro p2 n2
  have UW:=aj.upd (o:= .lst []) n2
  have YZ:H p2=none:=aj.free vZ n2
  refine ⟨_,rfl,dr,_,0,_,rfl,rfl,bW.of (UW _ _ (vZ _ _ d1)),rfl,?_⟩
  refine ⟨wt,rfl,⟨_,bW.of (UW _ _ (vZ _ _ d2))⟩,?_⟩
  refine jJ (K:=K) (a:=wt) (xs:=j7 ws) (λj σ H'=>∃(qs:List Q4) (cv wv iv av:Option V),σ=[some (.str (S y)),some (.ref dr),some (.ref d),nv,pv,some (.ref p2),cv,wv,iv,av]/\H' p2=some (.lst (CO qs))/\(∀x∈qs,rV H' x)/\qs.map Q4.v=fk (dF y os) ws j/\(qs:)<=12*j/\aj H2 H')
   ⟨[],none,none,none,none,rfl,ae,λ_ h=>absurd h kb,rfl,Qac _,UW⟩ (λj σ H' _ ⟨_,_,_,_,_,_,_,_,_,_,h⟩=>bW.of (h _ _ (vZ _ _ d2))) ?_ ?_
  ·rintro j x σ H3 T hx ⟨qs,cv,wv,iv,av,rfl,q5,Rh,KZ,UX,s3⟩ nT
   have hj:j<(ws:):=by
    have:=(LL.mp hx).1
    rwa [cD]at this
   rw[kr hj]at hx
   cases hx
   have zS:ws[j]? =some ws[j]:=LK hj
   obtain ⟨Gz,pC⟩:=vR.all _ (Qa7 hj)
   generalize ws[j]=w at zS Gz pC ⊢
   have UT:∀l∈w,l<128:=λl hl=>(hy.lt l (Gz l hl)).lt
   have sT:=aj.upd (o:= .tup [.int j,.str (S w)]) nT
   walk_at"k"
   refine ⟨_,rfl,w,rfl,by omega,_,rfl,by omega,by omega,?_⟩
   rw[Xt]
   refine fZ (λi σ H'=>∃(us:List Q4) (iv av:Option V),σ=[some (.str (S y)),some (.ref dr),some (.ref d),nv,pv,some (.ref p2),some (.int j),some (.str (S w)),iv,av]/\H' p2=some (.lst (CO us))/\(∀x∈us,rV H' x)/\us.map Q4.v=fk (dF y os) ws j++kD (dF y os) j w i/\(us:)<=12*j+i/\aj H2 H')
    ⟨qs,iv,av,rfl,sT _ _ q5,λx hx=>(Rh x hx).ts (aY.of sT),by rw[KZ];show _=_++[];rw[Qba],by omega,s3.trans sT⟩ ?_ ?_
   ·rintro i σ H4 hi ⟨us,Y0,Y1,rfl,uc,j6,jH,pE,s4⟩
    show x_ _ _ _ _ _
    refine wX λDx JH=>?_
    have e1:w[ng (w:) i]? =some (w.getD (ng (w:) i) 0):=by rw[Xw,LK (vn hi)];rfl
    have e2:w[i]? =some (w.getD i 0):=by rw[Xw,LK hi];rfl
    have m1:=KY _ (xr hy mL zS e1 (Gz _ (Xu e1)) (.inr rfl))
    have m2:=KY _ (xr hy mL zS e2 (Gz _ (Xu e2)) (.inl rfl))
    refine ⟨_,rfl,_,rfl,_,rfl,w,j,i,by rw[Qck];rfl,UT,hi,by omega,λt t1 t2 H5 ht KQ KR s5=>?_⟩
    have zU:=s5 _ _ uc
    have Wm:=s5 _ _ (s4 _ _ hd2)
    refine ⟨_,rfl,.inl ⟨rfl,_,a_.of zU⟩,_,rfl,_,rfl,?_⟩
    refine ⟨_,rfl,_,rfl,t,_,0,_,rfl,rfl,bW.of ht,rfl,d,_,rfl,by rw[<-m1];exact qc.t Wm KQ,?_⟩
    refine ⟨_,rfl,_,rfl,t,_,1,_,rfl,rfl,bW.of ht,rfl,d,_,rfl,by rw[<-m2];exact qc.t Wm KR,?_⟩
    rw[Qck]
    refine ⟨by show 4<=sizeLine;decide,λtq Y2=>?_⟩
    have s6:=s5.trans (aj.upd (o:= .tup [.int j,.int i,.int ((dF y os).idxOf (j,ng (w:) i,aB (w.getD (ng (w:) i) 0)):Nat),.int ((dF y os).idxOf (j,i,w.getD i 0):Nat)]) Y2)
    have UY:=s6 _ _ uc
    refine ⟨p2,_,_,rfl,rfl,UY,by rw[Ba];omega,?_⟩
    refine JH _ _ ⟨us++[⟨tq,dJ (dF y os) j w i⟩],_,_,rfl,by rw[ae];exact congrArg (λx=>some (HO.lst x)) (Fe us ⟨tq,dJ (dF y os) j w i⟩),λx hx=>?_,by rw[Xs,jH,og,Qbs];rfl,by rw[VG];show (us:)+1<=_;omega,λa o ea=>by rw[ar (ao ea n2)];exact s6 _ _ (s4 a o ea)⟩
    rcases Qaa.mp hx with g | g
    ·exact (j6 x g).ts ((aY.of s6).trans (aY.lD UY))
    ·have e3:=VH.mp g
     subst e3
     exact (aY.lD UY) _ _ ae
   ·rintro σ H4 ⟨us,Y0,Y1,rfl,uc,j6,jH,pE,s4⟩
    exact ⟨us,_,_,_,_,rfl,uc,j6,by rw[jH,l_ zS],by omega,s4⟩
  ·rintro σ H3 ⟨qs,cv,wv,iv,av,rfl,q5,Rh,KZ,UX,s3⟩
   rw[cD]at KZ
   exact ⟨_,rfl,q p2 qs H3 YZ q5 Rh KZ (vZ.trans s3)⟩
theorem Dh:bE P w K mg base fI 1 gO qV ["self","strand","way","place"] (tV K aJ):=by
 refine T.M0.ok Df (λvs H Q E h=>zy h) (λ_ _ _ _ H vs Q E hr h=>?_)
 refine ⟨_,(ag (i8 (pv 0) (pv 1) rfl)
   (ag (i8 (pv 0) (pv 2) rfl)
   (ah (i8 (pv 0) (pv 3) rfl)))),?_⟩
 obtain ⟨x,dx,t,w',p,rfl,hx,q⟩:=h
 refine ⟨_,rfl,_,rfl,x,aJ,dx,_,rfl,hx,T.dS,T.n_Seen_strand,by show 0<1000;decide,?_⟩
 refine ⟨_,rfl,_,rfl,x,aJ,dx,_,rfl,ae,T.dS,T.n_Seen_way,Qa3 (dm _ _ _) (by show 0+1<1000;decide),?_⟩
 refine ⟨_,rfl,_,rfl,x,aJ,dx,_,rfl,ae,T.dS,T.n_Seen_place,Qa3 (dm _ _ _) (Qa3 (Qcm (dm _ _ _)) (by show 0+1+1<1000;decide)),?_⟩
 exact q _ ae λb o e z=>by rw[ar z,ar z,ar z];exact e
theorem q8:bE P w K mg base fI 3 NS Ow ["words","ways","strand"] (jA K aV aJ):=by
 have xY:=Dh (P:=P) (w:=w) (base:=base) T
 refine T.Sb.fn.ok gp (λvs H Q E h=>oP h) (λ_ _ _ _ H vs Q E hr h=>?_)
 refine ⟨_,(ag (ak (i:=3) gp.nd rfl (Or.inl rfl) (aM (bc K rfl) (pv 0) (aM (bc K rfl) (pv 2) ai (λ_ _=>rfl)) (λ_ _=>rfl)))
   (ag (ak (i:=4) gp.nd rfl (Or.inl rfl) (aM (bc K rfl) (pv 2) ai (λ_ _=>rfl)))
   (ag (cx (mI (fg K rfl Qas Qef Qee ki (aM ie (pv 3) (pv 4) (λ_ _=>rfl)))) (ah (aG (oY T.Gr xY (hr.mono ∅) rfl T.Gq T.Gs .nil aD (aa (pv 2) (aa (aM (bc K rfl) (aM (bB K rfl) (pv 1) (aM (bc K rfl) (pv 2) ai (λ_ _=>rfl)) (λ_ _=>rfl)) ai (λ_ _=>rfl)) (aa (pv 4) ab)))))) bN)
   (ah (aG (oY T.Gr xY (hr.mono ∅) rfl T.Gq T.Gs .nil aD (aa (pv 2) (aa (aM (bc K rfl) (aM (bB K rfl) (pv 1) (aM (bc K rfl) (pv 2) ai (λ_ _=>rfl)) (λ_ _=>rfl)) ai (λ_ _=>rfl)) (aa (az dQ (az dQ (aC aR rfl T.z_len Qaj (aa (pv 3) ab)) ai) (pv 4)) ab))))))))),?_⟩
 obtain ⟨y,lg,wt,vt,st,w',ws,mF,p,c,i,rfl,hy,ou,SF,kL,hw,hp,ok,hi,q⟩:=h
 have hs:=Zs1
 have pC:=ok.on.uz
 have Wn:=ok.on.lz
 have Ri:=ok.on.sw
 have h8:(rd w' i)<128:=(hy.lt _ (Ri.rd _)).lt
 have hc:(j7 ws)[c]? =some (V.str (S w')):=by
  have hl:=(LL.mp hw).1
  rw[kr hl,(LL.mp hw).2]
 refine ⟨_,rfl,_,rfl,st,_,0,_,rfl,rfl,bW.of kL,rfl,wt,_,_,_,rfl,rfl,bW.of ou,b4 hc,?_⟩
 refine ⟨_,rfl,st,_,1,_,rfl,rfl,bW.of kL,rfl,?_⟩
 refine ⟨_,rfl,_,rfl,w',_,_,rfl,rfl,(),by rw[lQ () ()],?_⟩
 have made:∀(x dx:Addr) (H':Hp) (t w2:Addr) (pl:Nat),H x=none->H dx=none->dx≠x->aO x (L2.upd (L2.upd H dx (.own x)) x (.ins aJ dx [])) H'->aj H H':=λx dx H' t w2 pl nx MN ne sm a o e=>by
  refine sm a o ?_ (ao e nx)
  rw[ar (ao e nx),ar (ao e MN)]
  exact e
 refine ⟨rfl,_,rfl,rfl,h8,?_⟩
 walk_at "rd"
 walk_at"g"
 ·refine ⟨_,rfl,_,rfl,_,rfl,st,_,0,_,rfl,rfl,bW.of kL,rfl,vt,_,_,_,rfl,rfl,a_.of SF,b4 (FG hp),p.t,_,0,_,rfl,rfl,bW.of ok.tp,rfl,_,rfl,λx dx nx MN ne=>⟨x,dx,st,p.a,i,rfl,ae,λH' hx sm=>⟨rfl,?_⟩⟩⟩
  have M6:=made x dx H' st p.a i nx MN ne sm
  exact q ⟨x,st,p.a,c,i,w',i,p.r⟩ H' ⟨rfl,rfl,by rw[if_pos z],by rw[if_pos z]⟩ rfl ⟨⟨dx,hx⟩,M6 _ _ kL,ok.on.same M6,hi⟩ nx M6
 ·have ei:((w':):Int) - 1 - i=(((w':) - 1 - i:Nat):Int):=by lia
  refine ⟨_,rfl,_,rfl,_,rfl,st,_,0,_,rfl,rfl,bW.of kL,rfl,vt,_,_,_,rfl,rfl,a_.of SF,b4 (FG hp),p.t,_,1,_,rfl,rfl,bW.of ok.tp,rfl,_,rfl,w',rfl,(),_,_,rfl,rfl,_,rfl,_,_,rfl,rfl,λx dx nx MN ne=>⟨x,dx,st,p.b,(w':) - 1 - i,by rw[<-ei];rfl,ae,λH' hx sm=>⟨rfl,?_⟩⟩⟩
  have M6:=made x dx H' st p.b 0 nx MN ne sm
  exact q ⟨x,st,p.b,c,i,gQ w',(w':) - 1 - i,p.q⟩ H' ⟨rfl,rfl,by rw[if_neg z],by rw[if_neg z]⟩ rfl ⟨⟨dx,hx⟩,M6 _ _ kL,ok.bk.same M6,by show (w':) - 1 - i<(gQ w':);rw[cC];lia⟩ nx M6
theorem jI:bE P w K mg base fI 1 Gn Oo ["seen","start","end"] (gi K aV aJ):=by
 refine T.x6.fn.ok jE (λvs H Q E h=>oN h) (λ_ _ _ _ H vs Q E hr h=>?_)
 refine ⟨_,(ag (ak (i:=3) jE.nd rfl (Or.inl rfl) (az ba (bO K rfl (pv 0) rfl) ai))
   (ah (aG (bG mR (bO K rfl (bO K rfl (pv 0) rfl) rfl) (bA (az ba (pv 3) (pv 1))) (bA (az ba (pv 3) (pv 2))))))),?_⟩
 obtain ⟨y,lg,s,x,z,rfl,hz,hs,UZ,q⟩:=h
 obtain ⟨d1,e1⟩:=hs.ob
 obtain ⟨d2,e2⟩:=hs.wy.ob
 have:=hs.wy.uz
 have:=hs.wy.lz
 have h1:1<=(s.u:):=Qa3 (Qac _) hs.pz
 have rl:=mi (lg:=lg) h1
 have Q3:(100000:Nat)<sizeLine:=by decide
 refine ⟨_,rfl,s.a,aJ,d1,_,_,rfl,e1,T.dS,T.n_Seen_place,mh,?_⟩
 walk_at "rd"
 refine ⟨s.a,aJ,d1,_,_,rfl,e1,T.dS,T.n_Seen_way,nk,s.wy,aV,d2,_,_,rfl,e2,T.gC,T.n_Way_onward,QV,?_⟩
 walk_at "rd"
 refine ⟨by rw[tW,du];lia,?_⟩
 rw[show (s.p:Int)+1=((s.p+1:Nat):Int) by lia,Bf UZ]
 exact q
theorem kg:bE P w K mg base fI 1 Gp Oq ["seen","start","end"] (gI K aV aJ):=by
 refine T.x8.fn.ok ke (λvs H Q E h=>qH h) (λ_ _ _ _ H vs Q E hr h=>?_)
 refine ⟨_,(ag (ak (i:=3) ke.nd rfl (Or.inl rfl) (az dQ (az dQ (bO K rfl (bO K rfl (pv 0) rfl) rfl) ai) (bO K rfl (pv 0) rfl)))
   (ah (aG (bG mR (bO K rfl (bO K rfl (pv 0) rfl) rfl) (bA (az ba (pv 3) (pv 1))) (bA (az ba (pv 3) (pv 2))))))),?_⟩
 obtain ⟨y,lg,s,x,z,rfl,hz,hs,UZ,q⟩:=h
 obtain ⟨d1,e1⟩:=hs.ob
 obtain ⟨d2,e2⟩:=hs.wy.ob
 have:=hs.wy.uz
 have:=hs.wy.lz
 have hp:=hs.pz
 have h1:1<=(s.u:):=Qa3 (Qac _) hs.pz
 have rl:=mi (lg:=lg) h1
 have Q3:(100000:Nat)<sizeLine:=by decide
 refine ⟨_,rfl,s.a,aJ,d1,_,_,rfl,e1,T.dS,T.n_Seen_way,nk,s.wy,aV,d2,_,_,rfl,e2,T.gC,T.n_Way_size,Be,?_⟩
 walk_at "rd"
 refine ⟨s.a,aJ,d1,_,_,rfl,e1,T.dS,T.n_Seen_place,mh,?_⟩
 walk_at "rd"
 refine ⟨s.a,aJ,d1,_,_,rfl,e1,T.dS,T.n_Seen_way,nk,s.wy,aV,d2,_,_,rfl,e2,T.gC,T.n_Way_backward,IZ,?_⟩
 walk_at "rd"
 refine ⟨by rw[tW,Qa1,du];lia,?_⟩
 rw[show ((s.u:):Int) - 1 - s.p=(((s.u:) - 1 - s.p:Nat):Int) by lia,Bf UZ]
 exact q
theorem zV:bE P w K mg base fI 2 NO KJ ["steps","one","other","enough"] (qI K aV aJ Gn Gp):=by
 have cu:=jI (P:=P) (w:=w) (base:=base) T
 have cM:=kg (P:=P) (w:=w) (base:=base) T
 refine T.MT.fn.ok dU (λvs H Q E h=>xB h) (λ_ _ _ _ H vs Q E hr h=>?_)
 refine ⟨_,(ag (ak (i:=4) dU.nd rfl (Or.inl rfl) ai)
   (ag (ak (i:=5) dU.nd rfl (Or.inl rfl) ai)
   (fU (cU PassesOwn.never (PW.pt (i4 (aF i7 (pv 4) (pv 3) (aP _)) (hW (aF jb (lI (pv 0) cu (hr.mono ∅) T.x6.fn.kp T.x6.bd cM (hr.mono ∅) T.x8.fn.kp T.x8.bd aD (aa (pv 1) (aa (pv 4) (aa (az ba (pv 4) (pv 5)) ab)))) (lI (pv 0) cu (hr.mono ∅) T.x6.fn.kp T.x6.bd cM (hr.mono ∅) T.x8.fn.kp T.x8.bd aD (aa (pv 2) (aa (pv 4) (aa (az ba (pv 4) (pv 5)) ab)))) (aP _))))) (ag (kh (i:=4) dU.nd rfl (Or.inl rfl) (pv 5) uj)
   (ah (kh (i:=5) dU.nd rfl (Or.inl rfl) ai Md))))
   (fU (cU PassesOwn.never (aF kS (pv 5) ai (aP _)) (ag (kh (i:=5) dU.nd rfl (Or.inl rfl) ai Ih)
   (ah (cx (aF jb (lI (pv 0) cu (hr.mono ∅) T.x6.fn.kp T.x6.bd cM (hr.mono ∅) T.x8.fn.kp T.x8.bd aD (aa (pv 1) (aa (pv 4) (aa (az ba (pv 4) (pv 5)) ab)))) (lI (pv 0) cu (hr.mono ∅) T.x6.fn.kp T.x6.bd cM (hr.mono ∅) T.x8.fn.kp T.x8.bd aD (aa (pv 2) (aa (pv 4) (aa (az ba (pv 4) (pv 5)) ab)))) (aP _)) (ah (kh (i:=4) dU.nd rfl (Or.inl rfl) (pv 5) uj)) bN))))
   (ah (aG (pv 4))))))),?_⟩
 obtain ⟨y,lg,s1,t1,b,en,rfl,hz,hs,ht,SG,q⟩:=h
 have call:∀(u:Sn) (x d:Nat) (t:TA) (σ:L2.St) (Q':VK),σ[0]? =some (some (V.ref (if b=true then Gn else Gp)))->jw H aV aJ y lg u->(∀R:List V->Hp->Prop,R [V.ref u.a,V.int x,V.int ((x:Int)+d)] H->t σ H R)->Q' (V.str (S (seg (MK b y lg u) x (x+d)))) H->Ep Gn Gp (gi K aV aJ) (gI K aV aJ) E0 (Lb 0) t σ H Q':=by
  intro u x d t σ Q' h0 hu Wo hq
  refine ⟨_,h0,?_⟩
  cases b
  ·exact .inr ⟨rfl,Wo _ ⟨y,lg,u,x,x+d,by rw[Qa2],hz,hu,(),hq⟩⟩
  ·exact .inl ⟨rfl,Wo _ ⟨y,lg,u,x,x+d,by rw[Qa2],hz,hu,(),hq⟩⟩
 generalize (if b=true then Gn else Gp)=fx at call ⊢
 generalize el:MK b y lg s1=l at q
 generalize em:MK b y lg t1=m at q
 walk_at "rd"
 refine ⟨λσ H'=>∃(mn sz e:Nat),σ=[some (.ref fx),some (.ref s1.a),some (.ref t1.a),some (.int en),some (.int mn),some (.int sz)]/\H'=H/\sz=2 ^ e/\sz<=1000000/\mn<=1000000/\jx l m mn/\(en<=mn\/∃k,mn<=k/\k<mn+sz/\l[k]?≠ m[k]?),?_,?_⟩
 ·refine ⟨λw σ H'=>∃(mn sz e:Nat),σ=[some (.ref fx),some (.ref s1.a),some (.ref t1.a),some (.int en),some (.int mn),some (.int sz)]/\H'=H/\w=en - mn/\sz=2 ^ e/\mn+1=sz/\mn<=2*en/\jx l m mn,⟨_,0,1,0,rfl,rfl,rfl,rfl,rfl,Qac _,λk hk=>absurd hk (Qdh _)⟩,?_⟩
  rintro w' σ H2 ⟨mn,sz,e,rfl,rfl,rfl,he,ZZ,R5,ha⟩
  walk_at "rd"
  walk_at"g"
  ·have z1:(mn:Int)<en:=of_decide_eq_true z
   refine call s1 mn sz _ _ _ rfl hs (λR hR=>⟨_,rfl,_,rfl,_,rfl,_,rfl,_,_,rfl,rfl,hR⟩) ?_
   refine call t1 mn sz _ _ _ rfl ht (λR hR=>⟨_,rfl,_,rfl,_,rfl,_,rfl,_,_,rfl,rfl,hR⟩) ?_
   rw[el,em]
   walk_at "rd"
   refine bR (λy1=>?_) (λy1=>?_)
   ·have y2:seg l mn (mn+sz)=seg m mn (mn+sz):=by simpa using of_decide_eq_true y1
    refine ⟨_,rfl,_,rfl,_,_,rfl,rfl,_,rfl,_,_,rfl,rfl,.inl ⟨(),()⟩,?_⟩
    refine ⟨en - (mn+sz),(),mn+sz,sz*2,e+1,by rw[Qa2,Qdi];rfl,rfl,rfl,by rw[he,Nat.pow_succ],(),(),ha.more y2⟩
   ·have y2:seg l mn (mn+sz)≠seg m mn (mn+sz):=λw=>y1 (decide_eq_true (by rw[w]))
    exact ⟨mn,sz,e,rfl,rfl,he,(),(),ha,.inr (FA y2)⟩
  ·have z1: ¬(mn:Int)<en:=λw=>z (decide_eq_true w)
   exact ⟨mn,sz,e,rfl,rfl,he,(),(),ha,.inl ()⟩
 ·rintro σ H2 ⟨mn,sz,e,rfl,rfl,he,hsz,R5,ha,hb⟩
  refine ⟨λσ H'=>∃mn:Nat,σ=[some (.ref fx),some (.ref s1.a),some (.ref t1.a),some (.int en),some (.int mn),some (.int 1)]/\H'=H2/\jx l m mn/\(en<=mn\/l[mn]?≠ m[mn]?),?_,?_⟩
  ·refine ⟨λw σ H'=>∃(mn sz e:Nat),σ=[some (.ref fx),some (.ref s1.a),some (.ref t1.a),some (.int en),some (.int mn),some (.int sz)]/\H'=H2/\sz=w/\sz=2 ^ e/\sz<=1000000/\mn<=3000000 - 2*sz/\jx l m mn/\(en<=mn\/∃k,mn<=k/\k<mn+sz/\l[k]?≠ m[k]?),⟨_,mn,sz,e,rfl,rfl,rfl,he,hsz,(),ha,hb⟩,?_⟩
   rintro w' σ H3 ⟨mn,sz,e,rfl,rfl,rfl,he,hsz,R5,ha,hb⟩
   walk_at "rd"
   walk_at"g"
   ·have z1:(1:Int)<sz:=of_decide_eq_true z
    obtain ⟨e',rfl⟩:∃e',e=e'+1:=⟨e - 1,by
     cases e with
     | zero=>rw[he]at z1;simp at z1
     | succ e=>rfl⟩
    have hh:sz=2*2 ^ e':=by rw[he,Nat.pow_succ,Qcs]
    have hp:0<2 ^ e':=Nat.pow_pos ∅
    generalize Rj:2 ^ e'=h2 at hh hp
    have U0:=Rj.symm
    have ed:(sz:Int) / 2=(h2:Nat):=by lia
    refine ⟨_,rfl,_,_,rfl,rfl,⟨∅,∅⟩,?_⟩
    refine call s1 mn h2 _ _ _ rfl hs (λR hR=>⟨_,rfl,_,rfl,_,rfl,_,rfl,_,_,rfl,rfl,by rw[ed];exact hR⟩) ?_
    refine call t1 mn h2 _ _ _ rfl ht (λR hR=>⟨_,rfl,_,rfl,_,rfl,_,rfl,_,_,rfl,rfl,by rw[ed];exact hR⟩) ?_
    rw[el,em]
    walk_at "rd"
    have M4:∃e2,h2=2 ^ e2:=⟨e',U0⟩
    obtain ⟨e2,Wq⟩:=M4
    refine bR (λy1=>?_) (λy1=>?_)
    ·have y2:seg l mn (mn+h2)=seg m mn (mn+h2):=by simpa using of_decide_eq_true y1
     refine ⟨_,rfl,_,rfl,_,_,rfl,rfl,?_⟩
     refine ⟨h2,(),mn+h2,h2,e2,by rw[Qa2, <-ed];rfl,rfl,rfl,Wq,(),(),ha.more y2,?_⟩
     rcases hb with hb | ⟨k,k1,k2,k3⟩
     ·exact .inl ()
     ·refine .inr ⟨k,Classical.byContradiction λw=>k3 (zA.mp y2 k k1 ()),(),k3⟩
    ·have y2:seg l mn (mn+h2)≠seg m mn (mn+h2):=λw=>y1 (decide_eq_true (by rw[w]))
     exact ⟨h2,(),mn,h2,e2,by rw[<-ed];rfl,rfl,rfl,Wq,(),(),ha,.inr (FA y2)⟩
   ·have z1: ¬(1:Int)<sz:=λw=>z (decide_eq_true w)
    have hp:0<2 ^ e:=Nat.pow_pos ∅
    have e1:sz=1:=by lia
    subst e1
    exact ⟨mn,rfl,rfl,ha,hb.imp id λ⟨k,k1,k2,k3⟩=>by rwa [show k=mn by lia]at k3⟩
  ·rintro σ H3 ⟨mn,rfl,rfl,ha,hb⟩
   exact ⟨_,rfl,q mn ha hb⟩
theorem zW:bE P w K mg base fI 1 NP Ot ["seen"] (qJ K aV aJ):=by
 refine T.MU.fn.ok kJ (λvs H Q E h=>xC h) (λ_ _ _ _ H vs Q E hr h=>?_)
 refine ⟨_,(ag (ak (i:=1) kJ.nd rfl (Or.inl rfl) (bO K rfl (pv 0) rfl))
   (ag (ak (i:=2) kJ.nd rfl (Or.inl rfl) (aM (bc K rfl) (bO K rfl (pv 0) rfl) ai (λ_ _=>rfl)))
   (ag (cx (mI (bO K rfl (pv 1) rfl)) (ah (aG (bp (aa (pv 2) (aa (az fu (bO K rfl (pv 0) rfl) (bO K rfl (pv 1) rfl)) ab))))) bN)
   (ah (aG (bp (aa (kR hZ (pv 2)) (aa (kR hZ (az fu (az dQ (az dQ (bO K rfl (pv 1) rfl) ai) (bO K rfl (pv 0) rfl)) (bO K rfl (pv 1) rfl))) ab)))))))),?_⟩
 obtain ⟨y,lg,s1,rfl,hs,q⟩:=h
 obtain ⟨d1,e1⟩:=hs.ob
 obtain ⟨d2,e2⟩:=hs.wy.ob
 have hp:=hs.pz
 have rp:=jz hs.wy.sw.ne hs.wy.rt
 have u1:=hs.wy.uz
 have u2:=hs.wy.lz
 refine ⟨_,rfl,s1.a,aJ,d1,_,_,rfl,e1,T.dS,T.n_Seen_way,nk,?_⟩
 refine ⟨_,rfl,s1.a,aJ,d1,_,_,rfl,e1,T.dS,T.n_Seen_strand,tT,s1.t,_,0,_,rfl,rfl,bW.of hs.st,rfl,?_⟩
 refine ⟨_,rfl,s1.wy,aV,d2,_,_,rfl,e2,T.gC,T.n_Way_leads,Fz,?_⟩
 walk_at "rd"
 have Y3:(s1.p:Int) / (s1.r:Int)=((s1.p / s1.r:Nat):Int):=(Qen _ _).symm
 have U1:(((s1.u:):Int) - 1 - s1.p) / (s1.r:Int)=((((s1.u:) - 1 - s1.p) / s1.r:Nat):Int):=by
  rw[Qen];congr 1;lia
 walk_at"g"
 ·refine ⟨_,rfl,_,rfl,s1.a,aJ,d1,_,_,rfl,e1,T.dS,T.n_Seen_place,mh,_,rfl,s1.wy,aV,d2,_,_,rfl,e2,T.gC,T.n_Way_root_size,pj,_,_,rfl,rfl,⟨(),()⟩,by show 2<=sizeLine;decide,λp np=>?_⟩
  refine q p _ np ?_ (aj.upd np)
  rw[ae]
  unfold zB
  rw[if_pos z, <-Y3]
 ·refine ⟨_,rfl,_,rfl,_,rfl,s1.wy,aV,d2,_,_,rfl,e2,T.gC,T.n_Way_size,Be,_,_,rfl,rfl,_,rfl,s1.a,aJ,d1,_,_,rfl,e1,T.dS,T.n_Seen_place,mh,_,_,rfl,rfl,_,rfl,s1.wy,aV,d2,_,_,rfl,e2,T.gC,T.n_Way_root_size,pj,_,_,rfl,rfl,⟨(),()⟩,_,rfl,by show 2<=sizeLine;decide,λp np=>?_⟩
  refine q p _ np ?_ (aj.upd np)
  rw[ae]
  unfold zB
  rw[if_neg z, <-U1]
theorem q9:bE P w K mg base fI 3 NQ Ou ["one","other"] (jy K aV aJ):=by
 have ue:=zV (P:=P) (w:=w) (base:=base) T
 have uf:=zW (P:=P) (w:=w) (base:=base) T
 have cu:=jI (P:=P) (w:=w) (base:=base) T
 have cM:=kg (P:=P) (w:=w) (base:=base) T
 refine T.R_.fn.ok eM (λvs H Q E h=>oO h) (λ_ _ _ _ H vs Q E hr h=>?_)
 refine ⟨_,(ag (ak (i:=2) eM.nd rfl (Or.inl rfl) (az ba (bO K rfl (bO K rfl (pv 0) rfl) rfl) (bO K rfl (bO K rfl (pv 1) rfl) rfl)))
   (ag (ak (i:=3) eM.nd rfl (Or.inl rfl) (aq ue (hr.mono ∅) rfl T.MT.mg T.MT.fn.kp T.MT.bd .nil aD (aa (z7 (v:= .ref Gn) rfl T.x6.mg rfl) (aa (pv 0) (aa (pv 1) (aa (pv 2) ab))))))
   (ag (ak (i:=4) eM.nd rfl (Or.inl rfl) (aq ue (hr.mono ∅) rfl T.MT.mg T.MT.fn.kp T.MT.bd .nil aD (aa (z7 (v:= .ref Gp) rfl T.x8.mg rfl) (aa (pv 0) (aa (pv 1) (aa (pv 2) ab))))))
   (ag (cx (aF DD (aC (sx rfl) rfl T.z_min boot_min (aa (pv 3) (aa (pv 4) ab))) (pv 2) (aP _)) (ah (aG (kT (L8 K rfl hr) (aq uf (hr.mono ∅) rfl T.MU.mg T.MU.fn.kp T.MU.bd .nil aD (aa (pv 0) ab)) (aq uf (hr.mono ∅) rfl T.MU.mg T.MU.fn.kp T.MU.bd .nil aD (aa (pv 1) ab)) (aP _)))) bN)
   (ag (cx (aF J9 (pv 3) (pv 4) (aP _)) (ah (aG (kT uG (aq cu (hr.mono ∅) rfl T.x6.mg T.x6.fn.kp T.x6.bd .nil aD (aa (pv 0) (aa (pv 3) (aa (az ba (pv 3) ai) ab)))) (aq cu (hr.mono ∅) rfl T.x6.mg T.x6.fn.kp T.x6.bd .nil aD (aa (pv 1) (aa (pv 3) (aa (az ba (pv 3) ai) ab)))) (aP _)))) bN)
   (ah (aG (kT uG (aq cM (hr.mono ∅) rfl T.x8.mg T.x8.fn.kp T.x8.bd .nil aD (aa (pv 0) (aa (pv 4) (aa (az ba (pv 4) ai) ab)))) (aq cM (hr.mono ∅) rfl T.x8.mg T.x8.fn.kp T.x8.bd .nil aD (aa (pv 1) (aa (pv 4) (aa (az ba (pv 4) ai) ab)))) (aP _))))))))),?_⟩
 obtain ⟨y,lg,s1,t1,rfl,hy,hz,hs,ht,h0,q⟩:=h
 obtain ⟨d1,e1⟩:=hs.ob
 obtain ⟨d2,e2⟩:=hs.wy.ob
 obtain ⟨d3,e3⟩:=ht.ob
 obtain ⟨d4,e4⟩:=ht.wy.ob
 have rp:=jz hs.wy.sw.ne hs.wy.rt
 have Z0:=jz ht.wy.sw.ne ht.wy.rt
 have u1:=hs.wy.uz
 have Z1:=ht.wy.uz
 have u2:=hs.wy.lz
 have ns:=hs.wy.sw.ne
 have nt:=ht.wy.sw.ne
 have lf:=bg hs.wy.sw (s1.p:Int)
 have SH:=bg ht.wy.sw (t1.p:Int)
 have as:=tX (lg:=lg) (s:=s1) (en:=s1.r+t1.r) hs.pz ()
 have at':=tX (lg:=lg) (s:=t1) (en:=s1.r+t1.r) ht.pz ()
 refine ⟨_,rfl,s1.a,aJ,d1,_,_,rfl,e1,T.dS,T.n_Seen_way,nk,s1.wy,aV,d2,_,_,rfl,e2,T.gC,T.n_Way_root_size,pj,_,rfl,t1.a,aJ,d3,_,_,rfl,e3,T.dS,T.n_Seen_way,nk,t1.wy,aV,d4,_,_,rfl,e4,T.gC,T.n_Way_root_size,pj,_,_,rfl,rfl,?_⟩
 refine ⟨_,rfl,_,rfl,_,rfl,y,lg,s1,t1,true,s1.r+t1.r,by rw[Qa2];rfl,hz,hs,ht,(),λm Kl vX=>?_⟩
 refine ⟨_,rfl,_,rfl,_,rfl,y,lg,s1,t1,false,s1.r+t1.r,by rw[Qa2];rfl,hz,hs,ht,(),λn Y4 uq=>?_⟩
 have U2:jx (Dr y lg s1) (Dr y lg t1) m:=Kl
 have Rk:s1.r+t1.r<=m\/(Dr y lg s1)[m]?≠ (Dr y lg t1)[m]?:= vX
 have U3:jx (Ds y lg s1) (Ds y lg t1) n:=Y4
 have Rl:s1.r+t1.r<=n\/(Ds y lg s1)[n]?≠ (Ds y lg t1)[n]?:= uq
 have ga:∀k,k<s1.r+t1.r->(Dr y lg s1)[k]? =some (x5 (fP y (sq s1.u s1.p) (k+1)))/\(Dr y lg t1)[k]? =some (x5 (fP y (sq t1.u t1.p) (k+1))):=λk hk=>⟨FC ns (),FC nt ()⟩
 have gb:∀k,k<s1.r+t1.r->(Ds y lg s1)[k]? =some (x5 (fP y (sq s1.u s1.p) (-(k:Int))))/\(Ds y lg t1)[k]? =some (x5 (fP y (sq t1.u t1.p) (-(k:Int)))):=λk hk=>⟨FD ns hs.pz (),FD nt ht.pz ()⟩
 refine ⟨_,rfl,_,rfl,_,_,rfl,?_⟩
 walk_at "rd"
 by_cases par:∀k,sq s1.u s1.p k=sq t1.u t1.p k
 ·have ef:sq s1.u s1.p=sq t1.u t1.p:=funext par
  have m1:s1.r+t1.r<=m:=Bl (λk hk=>by rw[(ga k hk).1,(ga k hk).2,ef]) Rk
  have n1:s1.r+t1.r<=n:=Bl (λk hk=>by rw[(gb k hk).1,(gb k hk).2,ef]) Rl
  refine bR (λz=>?_) (λz=>absurd (decide_eq_true (show ((s1.r:Int)+t1.r)<=(if (n:Int)<m then (n:Int) else m) by split<;>lia)) z)
  refine ⟨_,rfl,y,lg,s1,rfl,hs,λp1 H1 Wr iZ Rm=>⟨_,rfl,y,lg,t1,rfl,ht.same Rm,λp2 H2 U4 mU br=>?_⟩⟩
  refine ⟨p1,p2,_,_,_,_,rfl,rfl,bW.of (br _ _ iZ),bW.of mU,?_⟩
  have e:rM (zB s1).1 (zB s1).2 (zB t1).1 (zB t1).2=bP (j4 y (2*lg) s1) (j4 y (2*lg) t1):=by
   unfold j4
   rw[ef,fE,Ja]
  have kq:=q H2 (Rm.trans br)
  rw[<-e]at kq
  exact kq
 ·have cP:∃k,sq s1.u s1.p k≠sq t1.u t1.p k:=Classical.byContradiction λz=>par λk=>Classical.byContradiction λw=>z ⟨k,w⟩
  have z0:sq s1.u s1.p 0=sq t1.u t1.p 0:=by unfold sq;rw[Qd7,Qd7];exact h0
  obtain ⟨a,b,rn,ha,hb⟩:=cQ (p:=s1.r) (q:=t1.r) () () (Bh ns hs.wy.rt s1.p) (Bh nt ht.wy.rt t1.p) z0 cP
  have pf:=Bj hy lf
  have pg:=Bj hy SH
  have key:=m8 hy lf SH rn [(zB s1).1,(zB s1).2] [(zB t1).1,(zB t1).2] (2*lg) 0 (Qac _) (Qac _) () ()
  have sa:fP y (sq s1.u s1.p) (a+1)≠fP y (sq t1.u t1.p) (a+1):=λw=>rn.hi (by
   unfold fP at w
   rw[show (a:Int)+1 - 1=a by lia, <-rn.kM a () ()]at w
   exact lT (hy.cl _ (lf.bU _)) (lf.bU _) (SH.bU _) w)
  have sb:fP y (sq s1.u s1.p) (-(b:Int))≠fP y (sq t1.u t1.p) (-(b:Int)):=λw=>by
   have c:=zg hy lf SH (rn.kM (-(b:Int)) () ()) rn.lo
   unfold iY at c
   rw[w]at c
   simp at c
  have em:m=a:=Bk ha (λk hk=>by
   rw[(ga k ()).1,(ga k ()).2]
   unfold fP
   rw[show (k:Int)+1 - 1=k by lia,rn.kM k () (),rn.kM (k+1) () ()]) (λw=>sa (Bi (pf _) (pg _) (by rw[(ga a ha).1,(ga a ha).2]at w;exact Qaf w))) U2 Rk
  have en:n=b:=Bk hb (λk hk=>by
   rw[(gb k ()).1,(gb k ()).2]
   unfold fP
   rw[rn.kM (-(k:Int)) () (),rn.kM (-(k:Int) - 1) () ()]) (λw=>sb (Bi (pf _) (pg _) (by rw[(gb b hb).1,(gb b hb).2]at w;exact Qaf w))) U3 Rl
  subst em
  subst en
  refine bR (λz=>absurd (show ((s1.r:Int)+t1.r)<=(if (n:Int)<m then (n:Int) else m) from of_decide_eq_true z) (by split<;>lia)) (λz=>?_)
  walk_at "rd"
  have yH:(m:Int)+1=((m+1:Nat):Int):=by lia
  have Fj:(n:Int)+1=((n+1:Nat):Int):=by lia
  refine bR (λz2=>?_) (λz2=>?_)
  ·have z3:m<=n:=by have:=of_decide_eq_true z2;lia
   refine ⟨_,rfl,_,rfl,_,rfl,_,_,rfl,rfl,y,lg,s1,m,m+1,by rw[<-yH];rfl,hz,hs,(),?_⟩
   refine ⟨_,rfl,_,rfl,_,rfl,_,_,rfl,rfl,y,lg,t1,m,m+1,by rw[<-yH];rfl,hz,ht,(),?_⟩
   refine ⟨_,_,rfl,rfl,?_⟩
   rw[if_pos z3]at key
   have e:decide (seg (Dr y lg s1) m (m+1)<seg (Dr y lg t1) m (m+1))=bP (j4 y (2*lg) s1) (j4 y (2*lg) t1):=by
    rw[pq (ga m ha).1,pq (ga m ha).2,FF]
    exact (decide_eq_decide.mpr (FE (pf _) (pg _))).trans key.symm
   have kq:=q H (aj.refl H)
   rw[<-e]at kq
   exact kq
  ·have z3: ¬m<=n:=λw=>z2 (decide_eq_true ())
   refine ⟨_,rfl,_,rfl,_,rfl,_,_,rfl,rfl,y,lg,s1,n,n+1,by rw[<-Fj];rfl,hz,hs,(),?_⟩
   refine ⟨_,rfl,_,rfl,_,rfl,_,_,rfl,rfl,y,lg,t1,n,n+1,by rw[<-Fj];rfl,hz,ht,(),?_⟩
   refine ⟨_,_,rfl,rfl,?_⟩
   rw[if_neg z3]at key
   have e:decide (seg (Ds y lg s1) n (n+1)<seg (Ds y lg t1) n (n+1))=bP (j4 y (2*lg) s1) (j4 y (2*lg) t1):=by
    rw[pq (gb n hb).1,pq (gb n hb).2,FF]
    exact (decide_eq_decide.mpr (FE (pf _) (pg _))).trans key.symm
   have kq:=q H (aj.refl H)
   rw[<-e]at kq
   exact kq
theorem oU:bE P w K mg base fI 4 NR Ov ["order","seen"] (iM K aV aJ):=by
 have r6:=q9 (P:=P) (w:=w) (base:=base) T
 refine T.Sa.fn.ok b9 (λvs H Q E h=>ny h) (λ_ _ _ _ H vs Q E hr h=>?_)
 refine ⟨_,(ag (ak (i:=2) b9.nd rfl (Or.inl rfl) ai)
   (ag (ak (i:=3) b9.nd rfl (Or.inl rfl) (aC (aT K rfl) rfl T.z_len Qaj (aa (pv 0) ab)))
   (ag (cU PassesOwn.never (aF i7 (pv 2) (pv 3) (aP _)) (ag (ak (i:=4) b9.nd rfl (Or.inl rfl) (az fu (az ba (pv 2) (pv 3)) ai))
   (ah (cx (mI (aq r6 (hr.mono ∅) rfl T.R_.mg T.R_.fn.kp T.R_.bd .nil aD (aa (aM (bB K rfl) (pv 0) (pv 4) (λ_ _=>rfl)) (aa (pv 1) ab)))) (ah (ak (i:=2) b9.nd rfl (Or.inl rfl) (az ba (pv 4) ai))) (ah (ak (i:=3) b9.nd rfl (Or.inl rfl) (pv 4)))))))
   (ah (aG (pv 2)))))),?_⟩
 obtain ⟨y,lg,a,ss,t1,rfl,hy,hz,ha,GC,ht,up,hn,q⟩:=h
 have hs:=Zs1
 have key:=Qdc.mp up
 refine ⟨_,rfl,a,_,rfl,.inl (a_.of ha),?_⟩
 walk_at "rd"
 refine ⟨λm σ H'=>∃(lo hi:Nat) (mv:Option V),σ=[some (.ref a),some (.ref t1.a),some (.int lo),some (.int hi),mv]/\m=hi - lo/\lo<=hi/\hi<=(ss:)/\(∀k s,ss[k]? =some s->k<lo->bP (j4 y (2*lg) s) (j4 y (2*lg) t1)=true)/\(∀k s,ss[k]? =some s->hi<=k->bP (j4 y (2*lg) s) (j4 y (2*lg) t1)=false)/\aj H H',⟨_,0,(ss:),none,by rw[mj];rfl,rfl,Qac _,RP _,λk s _ hk=>absurd hk (Qdh _),(λk s e hk=>by rw[Qcp hk]at e;cases e),aj.refl H⟩,?_⟩
 rintro m σ H2 ⟨lo,hi,mv,rfl,rfl,h1,h2,h3,h4,s2⟩
 walk_at "rd"
 walk_at"g"
 ·have z1:(lo:Int)<hi:=of_decide_eq_true z
  have em:(((lo:Int)+hi) / 2)=(((lo+hi) / 2:Nat):Int):=by lia
  have hm:(lo+hi) / 2<(ss:):=by lia
  have hg:ss[(lo+hi) / 2]? =some ss[(lo+hi) / 2]:=LK hm
  obtain ⟨ok,e0⟩:=GC _ (Qa7 hm)
  walk_at "rd"
  refine ⟨a,_,((lo:Int)+hi) / 2,_,rfl,rfl,a_.of (s2 _ _ ha),by rw[em];exact b4 (ML hg),_,rfl,y,lg,ss[(lo+hi) / 2],t1,rfl,hy,hz,ok.same s2,ht.same s2,e0,λH3 s3=>?_⟩
  walk_at "rd"
  refine bR (λy1=>?_) (λy1=>?_)
  ·walk_at "rd"
   have e1:((lo:Int)+hi) / 2+1=(((lo+hi) / 2+1:Nat):Int):=by lia
   refine ⟨hi - ((lo+hi) / 2+1),(),(lo+hi) / 2+1,hi,_,by rw[<-e1];rfl,rfl,(),h2,λk s e hk=>?_,h4,s2.trans s3⟩
   by_cases q1:k=(lo+hi) / 2
   ·subst q1
    rw[hg]at e
    cases e
    exact y1
   ·obtain ⟨P7,ek⟩:=LL.mp e
    have Rn:=key k ((lo+hi) / 2) P7 hm ()
    rw[ek]at Rn
    cases r:bP (j4 y (2*lg) s) (j4 y (2*lg) t1)
    ·have:=L2.uS _ _ _ r Rn
     rw[this]at y1
     cases y1
    ·rfl
  ·walk_at "rd"
   have y2:bP (j4 y (2*lg) ss[(lo+hi) / 2]) (j4 y (2*lg) t1)=false:=by simpa using y1
   refine ⟨(lo+hi) / 2 - lo,(),lo,(lo+hi) / 2,_,by rw[<-em];rfl,rfl,(),(),h3,λk s e hk=>?_,s2.trans s3⟩
   by_cases q1:k=(lo+hi) / 2
   ·subst q1
    rw[hg]at e
    cases e
    exact y2
   ·obtain ⟨P7,ek⟩:=LL.mp e
    have Rn:=key ((lo+hi) / 2) k hm P7 ()
    rw[ek]at Rn
    exact L2.uS _ _ _ y2 Rn
 ·have z1: ¬(lo:Int)<hi:=λw=>z (decide_eq_true w)
  walk_at "rd"
  have e:hi=lo:=by lia
  subst e
  exact q hi H2 h2 h3 h4 s2
theorem r9:bE P w K mg base fI 5 NT Ox ["words","ways","band"] (j_ K aV aJ):=by
 have vS:=rZ (P:=P) (w:=w) (base:=base) T
 have r_:=q8 (P:=P) (w:=w) (base:=base) T
 have q_:=oU (P:=P) (w:=w) (base:=base) T
 refine T.Sd.fn.ok fq (λvs H Q E h=>qL h) (λ_ _ _ _ H vs Q E hr h=>?_)
 refine ⟨_,(ag (ak (i:=3) fq.nd rfl (Or.inl rfl) (cE ab))
   (ag (bJ PassesOwn.never rfl (b3 K rfl (aq vS (hr.mono ∅) rfl T.F4.mg T.F4.fn.kp T.F4.bd .nil aD (aa (pv 0) (aa (pv 2) ab)))) (aA (i:=4) fq.nd rfl (Or.inl rfl)) (ag (ak (i:=5) fq.nd rfl (Or.inl rfl) (aq r_ (hr.mono ∅) rfl T.Sb.mg T.Sb.fn.kp T.Sb.bd .nil aD (aa (pv 0) (aa (pv 1) (aa (pv 4) ab)))))
   (ah (cA (bF K rfl Qan PySem.F.slot_list_insert PySem.F.type_list_insert Cn (pv 3) (aa (aq q_ (hr.mono ∅) rfl T.Sa.mg T.Sa.fn.kp T.Sa.bd .nil aD (aa (pv 3) (aa (pv 5) ab))) (aa (pv 5) ab)))))))
   (ah (aG (dX (gf K rfl) rfl T.z_tuple boot_tuple (aa (bH ["seen"] [none] (b3 K rfl (pv 3)) trivial (λ_ _ _ _=>(aA (i:=0) (by decide+kernel:List.Nodup (["seen"]:List Str)) rfl (Or.inl rfl))) (λ_ _ _ _=>eE) (λ_ _ _ _=>(bO K rfl (pv 0) rfl))) ab)))))),?_⟩
 obtain ⟨y,lg,wt,vt,ws,mF,band,rfl,hy,hz,ou,U5,vR,hb,SF,yz,M7,q⟩:=h
 have hs:=Zs1
 walk_at "rd"
 intro a na
 have s0:=aj.upd (o:= .lst []) na
 refine ⟨_,rfl,_,rfl,wt,ws,band,rfl,s0 _ _ ou,U5,λw hw=>⟨λc hc=>hy.lt c ((vR w hw).1.bU c hc),(vR w hw).2⟩,hb,λb ps H1 nb Cp oS iV s1=>?_⟩
 have Gx:=s0.trans s1
 have Y5:b≠a:=λz=>by rw[z,ae]at nb;cases nb
 have Y6:(ps:)<=48:=by
  have h1:(ps.map Pr.pair:)<=48:=by
   rw[iV]
   have:=gB band (λw hw=>(vR w hw).2) (ws:) (RP _)
   lia
  rwa [NA]at h1
 have pin:∀p∈ps,∃w,ws[p.c]? =some w/\p.i<(w:)/\rT band (rd w p.i)=true:=λp hp=>by
  have hm:p.pair∈bV band ws (ws:):=by rw[<-iV];exact Qam.mpr ⟨p,hp,rfl⟩
  exact zE hm
 refine ⟨b,rfl,⟨_,a_.of Cp⟩,?_⟩
 refine dG (K:=K) (a:=b) (xs:=iA ps) (λk σ H'=>∃(ss:List Sn) (sv nv:Option V),σ=[some (.ref wt),some (.ref vt),some (.str (S [band])),some (.ref a),sv,nv]/\H' a=some (.lst (Bm ss))/\(∀s∈ss,jw H' aV aJ y lg s/\rd s.u s.p=band/\∃w,ws[s.c]? =some w/\zC w s.c s.i s/\s.i<(w:))/\(ss.map λs=>(s.c,s.i)).Perm ((ps.take k).map Pr.pair)/\C0 y (2*lg) ss/\aO a H1 H')
  ⟨[],none,none,rfl,s1 _ _ ae,λ_ h=>absurd h kb,.nil,List.Pairwise.nil,aO.refl _ _⟩ (λk σ H' _ ⟨_,_,_,_,_,_,_,_,h⟩=>a_.of (h _ _ Cp Y5)) ?_ ?_
 ·rintro k x σ H2 hx ⟨ss,sv,nv,rfl,ha,GC,nL,OW,s2⟩
  show x_ _ _ _ _ _
  refine wX λDx JH=>?_
  obtain ⟨p,hp,rfl⟩:=qB hx
  have hk:k<(ps:):=(LL.mp hp).1
  have Ro:=Xu hp
  obtain ⟨w,hw,hi,ho⟩:=pin p Ro
  have Y7:=Xu hw
  have Ws:p.c<(mF:):=by rw[yz];exact (LL.mp hw).1
  have bX:=M7 p.c w mF[p.c] hw (LK Ws)
  have go:∀c o,H c=some o->H2 c=some o:=λc o e=>s2 _ _ (Gx c o e) (ao e na)
  have U6:=(oS p Ro).tp
  have Y8:p.t≠a:=λz=>by rw[z,s1 _ _ ae]at U6;cases U6
  have U7:=s2 _ _ U6 Y8
  have Y9:(ss:)=k:=by
   have:=nL.length_eq
   rw[NA,NA,Qai]at this
   lia
  refine ⟨_,rfl,_,rfl,_,rfl,y,lg,wt,vt,p.t,w,ws,mF,mF[p.c],p.c,p.i,rfl,hy,go _ _ ou,go _ _ SF,U7,hw,LK Ws,bX.same go,hi,λs H3 G3 kL Wt Z2 s3=>?_⟩
  have Kn:=G3.band hy (vR w Y7).1 hi hb ho
  refine ⟨_,rfl,.inl ⟨rfl,_,a_.of (s3 _ _ ha)⟩,_,rfl,_,rfl,y,lg,a,ss,s,rfl,hy,hz,s3 _ _ ha,λt ht=>⟨(GC t ht).1.same s3,by rw[(GC t ht).2.1,Kn]⟩,Wt,OW,(),λn H4 hn h1 h2 s4=>?_⟩
  have Wu:=s4 _ _ (s3 _ _ ha)
  refine ⟨_,rfl,a,_,n,_,rfl,rfl,Wu,by rw[mj];exact hn,by rw[mj];lia,?_⟩
  have e1:(Bm ss).take n++V.ref s.a::(Bm ss).drop n=Bm (ss.take n++s::ss.drop n):=by
   unfold Bm
   rw[Xs,Qeh,Qad,List.map_drop]
  rw[e1]
  have su:∀t,jw H4 aV aJ y lg t->jw (L2.upd H4 a (.lst (Bm (ss.take n++s::ss.drop n)))) aV aJ y lg t:=λt ot=>by
   have ne:∀{c:Addr} {o:HO},H4 c=some o->(∀l,o≠ .lst l)->c≠a:=λ{c o} e no z=>by rw[z,Wu]at e;exact no _ (Qaf e).symm
   obtain ⟨dx,eo⟩:=ot.ob
   obtain ⟨dw,ew⟩:=ot.wy.ob
   exact ⟨⟨dx,by rw[ar (ne eo (λl z=>by cases z))];exact eo⟩,by rw[ar (ne ot.st (λl z=>by cases z))];exact ot.st,⟨⟨dw,by rw[ar (ne ew (λl z=>by cases z))];exact ew⟩,ot.wy.sw,ot.wy.uz,ot.wy.lz,ot.wy.rt⟩,ot.pz⟩
  refine JH _ _ ⟨ss.take n++s::ss.drop n,_,_,rfl,ae,λt ht=>?_,?_,MM OW h1 h2,λc o e z=>by rw[ar z];exact s4 _ _ (s3 _ _ (s2 c o e z))⟩
  ·have:t=s\/t∈ss:=by
    rcases Qaa.mp ht with r | r
    ·exact .inr (Qcg r)
    ·rcases ZQ.mp r with r | r
     ·exact .inl r
     ·exact .inr (Qdz r)
   rcases this with r | r
   ·subst r
    refine ⟨su _ (Wt.same s4),Kn,w,?_,?_,?_⟩
    ·rw[G3.ec];exact hw
    ·rw[G3.ec,G3.ei];exact G3
    ·rw[G3.ei];exact hi
   ·exact ⟨su _ (((GC t r).1.same s3).same s4),(GC t r).2⟩
  ·rw[Xs,Qad, <-take_snoc hp,Xs,G3.ec,G3.ei]
   have p1:(ss.take n).map (λs=>(s.c,s.i))++(p.c,p.i)::(ss.drop n).map (λs=>(s.c,s.i)) |>.Perm ((p.c,p.i)::ss.map λs=>(s.c,s.i)):=by
    refine List.perm_middle.trans (List.Perm.cons _ ?_)
    rw[<-Xs,Qby]
   exact p1.trans ((List.Perm.cons _ nL).trans (List.perm_append_singleton _ _).symm)
 ·rintro σ H2 ⟨ss,sv,nv,rfl,ha,GC,nL,OW,s2⟩
  rw[ck,Qau,iV]at nL
  have Y9:(ss:)<=48:=by
   have:=nL.length_eq
   rw[NA, <-iV,NA]at this
   lia
  have vZ:aj H H2:=λc o e=>s2 _ _ (Gx c o e) (ao e na)
  refine ⟨_,rfl,a,rfl,⟨_,a_.of ha⟩,?_⟩
  refine gW (K:=K) (a:=a) (xs:=Bm ss) (λi acc H'=>H'=H2/\acc=(ss.take i).map λs=>V.ref s.t) (by rw[mj];lia) (λi acc H' h=>by rw[h.1];exact a_.of ha) ⟨rfl,rfl⟩ ?_ ?_
  ·rintro i x acc H3 Nx hi hx hl ⟨rfl,rfl⟩ nx
   obtain ⟨t,ht,rfl⟩:=Jb hx
   obtain ⟨dx,e⟩:=(GC t (Xu ht)).1.ob
   refine ⟨trivial,da ⟨_,rfl,t.a,aJ,dx,_,_,rfl,e,T.dS,T.n_Seen_strand,tT,nx _ _ (by simpa using hl) ⟨rfl,?_⟩⟩⟩
   rw[<-take_snoc ht,Xs]
   rfl
  ·rintro acc H3 D hl ⟨rfl,rfl⟩ hD
   rw[mj,Qau]
   refine ⟨D,_,rfl,.inl ⟨a_.of ae,λt nt=>?_⟩⟩
   have sA:=(aj.upd (o:= .lst (ss.map λs=>V.ref s.t)) hD).trans (aj.upd (o:= .tup (ss.map λs=>V.ref s.t)) nt)
   have ep:(ss.map λs=>(⟨s.t,s.c,s.i⟩:Pr)).map Pr.pair=ss.map λs=>(s.c,s.i):=by rw[Qbo];rfl
   refine q t (ss.map λs=>(⟨s.t,s.c,s.i⟩:Pr)) _ (aj.free (vZ.trans (aj.upd hD)) nt) (by rw[ae];unfold iA;rw[Qbo];rfl) (λp hp=>?_) (by rw[ep];exact nL) ?_ (vZ.trans sA)
   ·obtain ⟨s,TV,rfl⟩:=Qam.mp hp
    obtain ⟨ok,_,w,hw,_,hi⟩:=GC s TV
    have h1:=(LL.mp hw).1
    have h2:=(vR w (Xu hw)).2
    exact ⟨sA _ _ ok.st,by show s.c<1000;lia,by show s.i<1000;lia⟩
   ·rw[ep]
    unfold C1
    rw[Qbl]
    refine Qcf (λ{s t} h1 h2 h=>?_) OW
    obtain ⟨o1,_,w1,e1,i1,l1⟩:=GC s h1
    obtain ⟨o2,_,w2,e2,i2,l2⟩:=GC t h2
    have g1:ws.getD s.c []=w1:=by rw[Xw,e1];rfl
    have g2:ws.getD t.c []=w2:=by rw[Xw,e2];rfl
    rw[<-Bn hy (vR w1 (Xu e1)).1 l1 g1 i1 o1.wy.rt, <-Bn hy (vR w2 (Xu e2)).1 l2 g2 i2 o2.wy.rt]
    exact h
theorem ra:bE P w K mg base fI 2 f5 d5 ["word","place"] (jm K):=by
 walk_at"Q"
 refine T.F5.fn.ok qX (λvs H Q E h=>oM h) (λ_ _ _ _ H vs Q E hr h=>?_)
 refine ⟨_,(ah (aG (bp (aa (aq cL (hr.mono ∅) rfl T.F0.mg T.F0.fn.kp T.F0.bd .nil aD (aa (aM ie (pv 0) (az dQ (pv 1) ai) (λ_ _=>rfl)) ab)) (aa (aM ie (pv 0) (pv 1) (λ_ _=>rfl)) ab))))),?_⟩
 obtain ⟨w,i,rfl,hl,hz,hi,q⟩:=h
 have hs:=Zs1
 have cP:w≠[]:=λz=>by rw[z]at hi;simp at hi
 refine ⟨_,rfl,_,rfl,_,_,rfl,rfl,w,_,_,rfl,rfl,(),lQ () (),_,rfl,(hl _ (gG cP _)).lt,?_⟩
 refine ⟨_,rfl,_,rfl,w,_,_,rfl,rfl,(),lQ () (),by show 2<=sizeLine;decide,λt nt=>?_⟩
 exact q t _ nt ae (aj.upd nt)
theorem rh:bE P w K mg base fI 1 f3 d3 ["yard","start","end"] (jk K):=by
 refine T.F3.fn.ok qW (λvs H Q E h=>oK h) (λ_ _ _ _ H vs Q E hr h=>?_)
 refine ⟨_,(ah (aG (az eO (az dQ (bF K rfl Qas PySem.F.slot_str_find PySem.F.type_str_find wx (pv 0) (aa (pv 2) ab)) (bF K rfl Qas PySem.F.slot_str_find PySem.F.type_str_find wx (pv 0) (aa (pv 1) ab))) (aC aR rfl T.z_len Qaj (aa (pv 0) ab))))),?_⟩
 obtain ⟨y,a,b,rfl,ha,hb,hz,q⟩:=h
 have hs:(1000:Nat)<sizeLine:=by decide
 have hp:(0:Int)<((y:):Int):=by have:=List.length_pos_of_mem ha;lia
 refine ⟨_,rfl,rfl,_,rfl,y,b,rfl,rfl,?_⟩
 rw[if_pos hb]
 refine ⟨_,rfl,rfl,_,rfl,y,a,rfl,rfl,?_⟩
 rw[if_pos ha]
 exact ⟨_,_,rfl,rfl,_,rfl,y,rfl,(),_,_,rfl,rfl,hp,q⟩
theorem oV:bE P w K mg base fI 3 NN Om ["yard","word","place"] (iL K):=by
 have se:=ra (P:=P) (w:=w) (base:=base) T
 have sg:=rh (P:=P) (w:=w) (base:=base) T
 refine T.R9.fn.ok iP (λvs H Q E h=>nu h) (λ_ _ _ _ H vs Q E hr h=>?_)
 refine ⟨_,(ag (ak (i:=3) iP.nd rfl (Or.inl rfl) (aq se (hr.mono ∅) rfl T.F5.mg T.F5.fn.kp T.F5.bd .nil aD (aa (pv 1) (aa (pv 2) ab))))
   (ah (aG (aq sg (hr.mono ∅) rfl T.F3.mg T.F3.fn.kp T.F3.bd .nil aD (aa (pv 0) (aa (aM (bc K rfl) (pv 3) ai (λ_ _=>rfl)) (aa (aM (bc K rfl) (pv 3) ai (λ_ _=>rfl)) ab))))))),?_⟩
 obtain ⟨y,w,i,rfl,hy,hz,hw,pC,hi,q⟩:=h
 refine ⟨_,rfl,_,rfl,w,i,rfl,λc hc=>hy.lt c (hw.bU c hc),pC,hi,λp H1 np hp s1=>?_⟩
 refine ⟨_,rfl,_,rfl,p,_,0,_,rfl,rfl,bW.of hp,rfl,_,rfl,p,_,1,_,rfl,rfl,bW.of hp,rfl,y,_,_,rfl,hy.cl _ (hw.rd _),hw.rd _,(),?_⟩
 have rg:=eY (hy.cl _ (hw.rd ((i:Int) - 1))) (hw.rd i) (Ne.symm (hw.red i))
 obtain ⟨n,hn⟩:∃n:Nat,cst y w i=n:=⟨(cst y w i).toNat,by have:=rg.1;unfold cst;lia⟩
 have:=rg.2.1
 have e:xc y (aB (rd w ((i:Int) - 1))) (rd w i)=n:=hn
 have key:=q n H1 hn () s1
 rw[<-e]at key
 exact key
theorem GD:bE P w K mg base fI 6 kc xT ["self","yard","word","longest"] (xA K aV):=by
 have M8:=JB (P:=P) (w:=w) (base:=base) T
 have vN:=Bx (P:=P) (w:=w) (base:=base) T
 have rj:=ud (P:=P) (w:=w) (base:=base) T
 have rk:=oV (P:=P) (w:=w) (base:=base) T
 refine T.QY.ok qZ (λvs H Q E h=>CZ h) (λ_ _ _ _ H vs Q E hr h=>?_)
 refine ⟨_,(ag (i8 (pv 0) (aC aR rfl T.z_len Qaj (aa (pv 2) ab)) rfl)
   (ag (i8 (pv 0) (aC aR rfl T.z_len Qaj (aa (aM (bc K rfl) (aq M8 (hr.mono ∅) rfl T.F9.mg T.F9.fn.kp T.F9.bd .nil aD (aa (pv 2) ab)) ai (λ_ _=>rfl)) ab)) rfl)
   (ag (i8 (pv 0) (kT uG (aq vN (hr.mono ∅) rfl T.F8.mg T.F8.fn.kp T.F8.bd .nil aD (aa (pv 2) ab)) (aq vN (hr.mono ∅) rfl T.F8.mg T.F8.fn.kp T.F8.bd .nil aD (aa (aq rj (hr.mono ∅) rfl T.F1.mg T.F1.fn.kp T.F1.bd .nil aD (aa (pv 2) ab)) ab)) (aP _)) rfl)
   (ag (ak (i:=4) qZ.nd rfl (Or.inl rfl) (bF K rfl Qas Qc3 Qc2 (jc K rfl) (mQ [] ⋯) (aa (bH ["place","yard","word"] [none,some 1,some 2] (fX rfl T.z_range (aa (aC aR rfl T.z_len Qaj (aa (pv 2) ab)) ab)) ⟨⟨rfl,rfl,by first | exact .inl rfl | exact .inr rfl⟩,⟨⟨rfl,rfl,by first | exact .inl rfl | exact .inr rfl⟩,trivial⟩⟩ (λ_ _ _ _=>(aA (i:=0) (by decide+kernel:List.Nodup (["place","yard","word"]:List Str)) rfl (Or.inl rfl))) (λ_ _ _ _=>eE) (λ_ _ _ _=>(dX Cg rfl T.z_str boot_str (aa (aq rk (hr.mono ∅) rfl T.R9.mg T.R9.fn.kp T.R9.bd .nil aD (aa (pv 1) (aa (pv 2) (aa (pv 0) ab)))) ab)))) ab)))
   (ag (ak (i:=5) qZ.nd rfl (Or.inl rfl) (az ba ai (az fu (pv 3) (aC (BO rfl) rfl T.z_max boot_max (aa (aC aR rfl T.z_len Qaj (aa (pv 2) ab)) (aa ai ab))))))
   (ag (i8 (pv 0) (az oZ (pv 4) (pv 5)) rfl)
   (ah (i8 (pv 0) (az oZ (Ic (pv 4) (bA (kR hZ ai))) (pv 5)) rfl)))))))),?_⟩
 obtain ⟨x,dx,y,w',lg,rfl,hx,hy,hz,hw,yz,SI,q⟩:=h
 have hs:=Zs1
 have di:∀c∈w',Lt c:=λc hc=>hy.lt c (hw.bU c hc)
 have h8:∀c∈w',c<128:=λc hc=>(di c hc).lt
 have ht:=hw.gQ hy
 have Y_:∀c∈gQ w',Lt c:=λc hc=>hy.lt c (ht.bU c hc)
 have h1:1<=(w':):=VJ.mpr hw.ne
 have rl:=mi (lg:=lg) h1
 obtain ⟨rt,SJ⟩:=AL hw.ne
 refine ⟨_,rfl,w',rfl,(),_,rfl,x,aV,dx,_,rfl,hx,T.gC,T.n_Way_size,by show 0<1000;decide,?_⟩
 refine ⟨_,rfl,w',rfl,di,(),λp1 s1 H1 n1 iZ G6 Rm=>?_⟩
 obtain ⟨er,el⟩:=CI hy hw G6 SJ
 subst er
 have et:((dY w').take s1:)=s1:=by
  rw[Qai,el]
  rcases SJ with ⟨z,_⟩ | ⟨_,h2,_⟩
  ·exact absurd z hw.ne
  ·lia
 have Za:s1<=(w':):=by
  rcases SJ with ⟨z,_⟩ | ⟨_,h2,_⟩
  ·exact absurd z hw.ne
  ·exact h2
 have Ut:=Rm _ _ (ae (H:=H) (a:=x))
 refine ⟨p1,_,0,_,rfl,rfl,bW.of iZ,rfl,_,rfl,by rw[et];lia,_,rfl,x,aV,dx,_,rfl,Ut,T.gC,T.n_Way_root_size,Qa3 (dm _ _ _) (by show 0+1<1000;decide),?_⟩
 rw[et]
 refine ⟨_,rfl,w',rfl,di,(),λH2 s2=>⟨_,rfl,w',rfl,h8,(),λH3 s3=>⟨gQ w',rfl,Y_,by rw[cC];lia,λH4 s4=>?_⟩⟩⟩
 have Wv:=s2.trans (s3.trans s4)
 have Rp:=Wv _ _ (ae (a:=x))
 refine ⟨_,_,rfl,rfl,_,rfl,x,aV,dx,_,rfl,Rp,T.gC,T.n_Way_leads,Qa3 (dm _ _ _) (Qa3 (Qcm (dm _ _ _)) (by show 0+1+1<1000;decide)),?_⟩
 have Zb:decide (dY w'<dY (gQ w'))=leads w':=by
  unfold leads
  rw[hw.dY hy,ht.dY hy]
 refine ⟨rfl,_,rfl,w',rfl,(),_,rfl,(),(),?_⟩
 rw[Xt]
 refine wz (λi acc H'=>aj _ H'/\acc=cT ((stx y w').take i)) () ⟨aj.refl _,rfl⟩ ?_ ?_
 ·rintro i acc H5 Nx hi hl ⟨s5,rfl⟩ nx
  refine ⟨⟨rfl,rfl,trivial⟩,da ⟨_,rfl,_,rfl,_,rfl,y,w',i,by rw[Qck];rfl,hy,hz,hw,(),hi,λn H6 hn Z3 s6=>⟨n,rfl,(),nx _ _ (by simpa using hl) ⟨s5.trans s6,?_⟩⟩⟩⟩
  have eg:(stx y w')[i]? =some (48+n):=by
   unfold stx
   rw[ZN,List.getElem?_range hi]
   show some (x5 (cst y w' i))=_
   rw[hn]
   unfold x5
   congr 1
  rw[MJ n (),eI,take_snoc eg]
 ·rintro acc H5 D hl ⟨s5,rfl⟩ hD
  have Rq:(stx y w').take (w':)=stx y w':=Qar (by rw[du];exact RP _)
  rw[Rq]at hl ⊢
  refine ⟨D,(stx y w').map λc=>[c],rfl,rfl,a_.of (by rw[ae, <-eV]),by rw[Cu,du];lia,?_⟩
  rw[s_]
  have Ww:=s5.trans (aj.upd (o:= .lst (cT (stx y w'))) hD)
  have M9:=Ww _ _ (ae (a:=x))
  have U8:(if (1:Int)>((w':):Int) then (1:Int) else ((w':):Int))=(max (w':) 1:Nat):=by split<;>lia
  have M_:(3:Int)+(lg:Int) / (if (1:Int)>((w':):Int) then (1:Int) else ((w':):Int))=(jv lg (w':):Nat):=by
   rw[U8]
   unfold jv
   rw[Qa2,Qen]
   rfl
  have rb:jv lg (w':)<=1003:=by unfold jv;have:=Nat.div_le_self lg (max (w':) 1);lia
  refine ⟨_,rfl,_,rfl,w',rfl,(),_,_,rfl,_,_,rfl,rfl,⟨by rw[U8];lia,by rw[U8];lia⟩,_,_,rfl,rfl,?_⟩
  have l3:∀(a b c:V),(eA "leads" a (eA "root_size" b (eA "size" c [])):)<=3:=λa b c=>Qak (dm _ _ _) (Qcm (Qak (dm _ _ _) (Qcm (dm _ _ _))))
  refine ⟨_,rfl,_,rfl,stx y w',_,rfl,rfl,⟨by rw[M_];lia,by rw[M_];lia⟩,by rw[M_,Xt,du];lia,_,rfl,x,aV,dx,_,rfl,M9,T.gC,T.n_Way_onward,Qa3 (l3 _ _ _) ∅,?_⟩
  refine ⟨_,rfl,1,rfl,_,rfl,rfl,stx y w',rfl,by rw[du];lia,_,rfl,(stx y w').reverse,_,rfl,rfl,⟨by rw[M_];lia,by rw[M_];lia⟩,by rw[M_,Xt,Qa1,du];lia,_,rfl,x,aV,dx,_,rfl,ae,T.gC,T.n_Way_backward,Qa3 (dm _ _ _) (Qa3 (Qcm (l3 _ _ _)) ∅),?_⟩
  refine q s1 _ SJ ?_ λb o eb zb=>?_
  ·rw[ae]
   unfold nj
   rw[<-Zb,M_,Xt]
  ·rw[ar zb,ar zb]
   refine Ww _ _ ?_
   rw[ar zb]
   refine Wv _ _ ?_
   rw[ar zb]
   refine Rm _ _ ?_
   rw[ar zb]
   exact eb
theorem Bz:bE P w K mg base fI 8 NU Oy ["yard","words"] (Bo K):=by
 have rj:=ud (P:=P) (w:=w) (base:=base) T
 have vP:=xX (P:=P) (w:=w) (base:=base) T
 have vT:=r9 (P:=P) (w:=w) (base:=base) T
 have BA:=GD (P:=P) (w:=w) (base:=base) T
 refine T.MV.fn.ok vL (λvs H Q E h=>FL h) (λ_ _ _ _ H vs Q E hr h=>?_)
 refine ⟨_,(ag (ak (i:=2) vL.nd rfl (Or.inr rfl) (Ig K rfl rfl rfl T.z_max (aa (bH ["word"] [none] (uH K rfl (pv 1)) trivial (λ_ _ _ _=>(aA (i:=0) (by decide+kernel:List.Nodup (["word"]:List Str)) rfl (Or.inl rfl))) (λ_ _ _ _=>eE) (λ_ _ _ _=>(aC aR rfl T.z_len Qaj (aa (pv 0) ab)))) ab)))
   (ag (ak (i:=3) vL.nd rfl (Or.inr rfl) (bH ["word","yard","longest"] [none,some 0,some 2] (uH K rfl (pv 1)) ⟨⟨rfl,rfl,by first | exact .inl rfl | exact .inr rfl⟩,⟨⟨rfl,rfl,by first | exact .inl rfl | exact .inr rfl⟩,trivial⟩⟩ (λ_ _ _ _=>(aA (i:=0) (by decide+kernel:List.Nodup (["word","yard","longest"]:List Str)) rfl (Or.inl rfl))) (λ_ _ _ _=>eE) (λ_ _ _ _=>(bp (aa (oY T.KN BA (hr.mono ∅) rfl T.KL T.KO .nil aD (aa (pv 1) (aa (pv 0) (aa (pv 2) ab)))) (aa (oY T.KN BA (hr.mono ∅) rfl T.KL T.KO .nil aD (aa (pv 1) (aa (aq rj (hr.mono ∅) rfl T.F1.mg T.F1.fn.kp T.F1.bd .nil aD (aa (pv 0) ab)) (aa (pv 2) ab)))) ab))))))
   (ah (aG (bp (aa (dX (gf K rfl) rfl T.z_tuple boot_tuple (aa (pv 1) ab)) (aa (dX (gf K rfl) rfl T.z_tuple boot_tuple (aa (bH ["band","words","ways"] [none,some 1,some 3] (mT (aq vP (hr.mono ∅) rfl T.F2.mg T.F2.fn.kp T.F2.bd .nil aD (aa (pv 0) ab))) ⟨⟨rfl,rfl,by first | exact .inl rfl | exact .inr rfl⟩,⟨⟨rfl,rfl,by first | exact .inl rfl | exact .inr rfl⟩,trivial⟩⟩ (λ_ _ _ _=>(aA (i:=0) (by decide+kernel:List.Nodup (["band","words","ways"]:List Str)) rfl (Or.inl rfl))) (λ_ _ _ _=>eE) (λ_ _ _ _=>(aq vT (hr.mono ∅) rfl T.Sd.mg T.Sd.fn.kp T.Sd.bd .nil aD (aa (pv 1) (aa (pv 2) (aa (pv 0) ab)))))) ab)) ab))))))),?_⟩
 obtain ⟨y,wt,ws,rfl,hy,hz,ou,U5,vR,q⟩:=h
 have hs:=Zs1
 have Hi:∀c∈y,c<128:=Kq hy.lt
 have UN:=fF hy
 obtain ⟨lg,Zc,Zd,SI⟩:=zF λw hw=>(vR w hw).2
 refine ⟨_,rfl,wt,rfl,⟨_,bW.of ou⟩,?_⟩
 refine qb (K:=K) (a:=wt) (xs:=j7 ws) (λi acc H'=>H'=H/\acc=(Jc (ws.take i)).map V.int) (by rw[cD];omega) (λi acc H' h=>by rw[h.1];exact bW.of ou) ⟨rfl,rfl⟩ ?_ ?_
 ·rintro i x acc H1 Nx hi hx hl ⟨rfl,rfl⟩ nx
  rw[cD]at hi
  rw[kr hi]at hx
  cases hx
  have Na:=vR ws[i] (Qa7 hi)
  refine ⟨trivial,da ⟨_,rfl,ws[i],rfl,by omega,nx _ _ (by simpa using hl) ⟨rfl,?_⟩⟩⟩
  rw[<-take_snoc (LK hi)]
  unfold Jc
  rw[Xs,Xs]
  rfl
 ·rintro acc H1 D hl ⟨rfl,rfl⟩ hD
  rw[cD,Qau]
  refine ⟨D,Jc ws,rfl,a_.of ae,?_⟩
  rw[Zc]
  have sD:=aj.upd (o:= .lst ((Jc ws).map V.int)) hD
  refine ⟨_,rfl,wt,rfl,⟨_,bW.of (sD _ _ ou)⟩,?_⟩
  refine qb (K:=K) (a:=wt) (xs:=j7 ws) (λi acc H'=>aj H1 H'/\∃mF:List Wp,acc=He mF/\(mF:)=i/\∀(c:Nat) (w:Z) (p:Wp),ws[c]? =some w->mF[c]? =some p->vw H' aV y lg w p) (by rw[cD];omega) (λi acc H' h=>bW.of (h.1 _ _ ou)) ⟨sD,[],rfl,rfl,λc w p _ h=>by simp at h⟩ ?_ ?_
  ·rintro i x acc H2 Nx hi hx nR ⟨s2,mF,rfl,yz,M7⟩ nx
   rw[cD]at hi
   rw[kr hi]at hx
   cases hx
   have Na:=vR ws[i] (Qa7 hi)
   have Wx:ws[i]? =some ws[i]:=LK hi
   have Rr:=SI ws[i] (Qa7 hi)
   generalize ws[i]=w' at Na Wx Rr ⊢
   have h8:∀c∈w',c<128:=λc hc=>(hy.lt c (Na.1.bU c hc)).lt
   refine ⟨⟨rfl,rfl,trivial⟩,da ?_⟩
   refine ⟨_,rfl,_,rfl,_,rfl,λx1 Wy Ze U9 ne1=>⟨x1,Wy,y,w',lg,rfl,ae,hy,hz,Na.1,Rr,by omega,λr H3 hr US Zf=>⟨rfl,?_⟩⟩⟩
   have Zg:=tY Ze U9 Zf
   refine ⟨_,rfl,_,rfl,w',rfl,h8,by omega,λH4 SD=>⟨_,rfl,λx2 Wz Zh U_ ne2=>⟨x2,Wz,y,gQ w',lg,rfl,ae,hy,hz,Na.1.gQ hy,by rw[cC];exact Rr,by omega,λr2 H5 NG M9 Zi=>⟨rfl,?_⟩⟩⟩⟩
   have Rt:=tY Zh U_ Zi
   refine ⟨by show 2<=sizeLine;decide,λt nt=>?_⟩
   have WA:=aj.upd (o:= .tup [.ref x1,.ref x2]) nt
   have OX:=SD.trans (Rt.trans WA)
   have all:=Zg.trans OX
   refine nx _ _ (by simpa using nR) ⟨s2.trans all,mF++[⟨t,x1,x2,r,r2⟩],FH mF ⟨t,x1,x2,r,r2⟩,by rw[VG,yz];rfl,Je yz (λc w p a b=>(M7 c w p a b).same all) Wx ⟨ae,⟨⟨Wy,OX _ _ US⟩,Na.1,Rr,by omega,hr⟩,⟨⟨Wz,WA _ _ M9⟩,Na.1.gQ hy,by rw[cC];exact Rr,by omega,NG⟩⟩⟩
  ·rintro acc H2 D2 nR ⟨s2,mF,rfl,yz,M7⟩ Zj
   rw[cD]at yz
   have WB:=aj.upd (o:= .lst (He mF)) Zj
   have vZ:=s2.trans WB
   refine ⟨_,rfl,wt,_,rfl,.inr ⟨bW.of (vZ _ _ ou),?_⟩⟩
   refine ⟨_,rfl,y,rfl,Hi,by omega,λl' H3 wa UR s3=>?_⟩
   have el:=pb wa UR
   subst el
   refine ⟨_,rfl,?_⟩
   have KU:=vZ.trans s3
   have Zk:=s3 _ _ (ae (H:=H2) (a:=D2) (o:=HO.lst (He mF)))
   refine ja (xs:=cT (cq y)) (λi acc H'=>aj H3 H'/\∃os:List Od,acc=iJ os/\(∀o∈os,kC H' o)/\(os:)=i/\(∀(j:Nat) (o:Od) (b:Nat),os[j]? =some o->(cq y)[j]? =some b->(o.ps.map Pr.pair).Perm (bV b ws (ws:)))/\∀o∈os,C1 y ws (2*lg) (o.ps.map Pr.pair)) (by rw[aW];omega) ⟨aj.refl _,[],rfl,λ_ h=>absurd h kb,rfl,λj o b h=>by simp at h,λ_ h=>absurd h kb⟩ ?_ ?_
   ·rintro i x acc H4 Nx hi hx nK ⟨s4,os,rfl,Eg,CN,Va,Vb⟩ nx
    obtain ⟨b,hb,rfl⟩:=fT hx
    have Zl:=xD hy (Xu hb)
    refine ⟨⟨rfl,rfl,trivial⟩,da ?_⟩
    refine ⟨_,rfl,_,rfl,_,rfl,y,lg,wt,D2,ws,mF,b,rfl,hy,hz,s4 _ _ (KU _ _ ou),U5,vR,Zl,s4 _ _ Zk,yz,λc w p a1 a2=>(M7 c w p a1 a2).same (WB.trans (s3.trans s4)),λt ps H5 nt ht oS nL OW s5=>?_⟩
    have Wn:(ps:)<=100:=by
     have h1:=nL.length_eq
     have h2:=gB b (λw hw=>(vR w hw).2) (ws:) (RP _)
     rw[NA]at h1
     omega
    refine nx _ _ (by simpa using nK) ⟨s4.trans s5,os++[⟨t,ps⟩],lY os ⟨t,ps⟩,λo ho=>?_,by rw[VG,CN];rfl,λj o b' ho Kv=>?_,λo ho=>?_⟩
    ·rcases Qaa.mp ho with g | g
     ·exact (Eg o g).same s5
     ·rw[VH.mp g]
      exact ⟨ht,oS,Wn⟩
    ·by_cases z:j<(os:)
     ·rw[Qa0 z]at ho
      exact Va j o b' ho Kv
     ·rw[Qa5 (by omega)]at ho
      have:j=i:=by
       have:=(LL.mp ho).1
       simp at this
       omega
      subst this
      rw[CN,Qew]at ho
      cases ho
      rw[hb]at Kv
      cases Kv
      exact nL
    ·rcases Qaa.mp ho with g | g
     ·exact Vb o g
     ·rw[VH.mp g]
      exact OW
   ·rintro acc H4 D3 nK ⟨s4,os,rfl,Eg,CN,Va,Vb⟩ Zm
    rw[aW]at CN
    refine ⟨D3,_,rfl,.inl ⟨a_.of ae,λt nt=>?_⟩⟩
    refine ⟨by show 2<=sizeLine;decide,λdr Vc=>?_⟩
    have sA:=(aj.upd (o:= .lst (iJ os)) Zm).trans ((aj.upd (o:= .tup (iJ os)) nt).trans (aj.upd (o:= .tup [.ref wt,.ref t]) Vc))
    have Zn:t≠dr:=λz=>by rw[<-z,ae]at Vc;cases Vc
    have WC:=KU.trans s4
    exact q dr os _ ⟨⟨wt,t,ae,sA _ _ (WC _ _ ou),by rw[ar Zn,ae]⟩,λo ho=>(Eg o ho).same sA⟩ ⟨2*lg,λw hw v hv=>by have:=SI w hw;have:=SI v hv;omega,⟨CN,Va⟩,Vb⟩ (WC.trans sA)
theorem oW:bE P w K mg base fI 1 NZ OC ["some"] (iK K):=by
 refine T.Si.fn.ok dN (λvs H Q E h=>ni h) (λ_ _ _ _ H vs Q E hr h=>?_)
 refine ⟨_,(ag (ak (i:=1) dN.nd rfl (Or.inl rfl) Ee)
   (ag (bJ PassesOwn.never rfl (b3 K rfl (pv 0)) (aA (i:=2) dN.nd rfl (Or.inl rfl)) (ag (ak (i:=3) dN.nd rfl (Or.inl rfl) (aC (sx rfl) rfl T.z_min boot_min (aa (aM (bc K rfl) (pv 2) ai (λ_ _=>rfl)) (aa (aM (bc K rfl) (pv 2) ai (λ_ _=>rfl)) ab))))
   (ag (uL (pR hr) (pv 1) (aM (bc K rfl) (pv 2) ai (λ_ _=>rfl)) (pv 3) rfl)
   (ah (uL (pR hr) (pv 1) (aM (bc K rfl) (pv 2) ai (λ_ _=>rfl)) (pv 3) rfl)))))
   (ah (aG (pv 1))))),?_⟩
 obtain ⟨a,qs,rfl,ha,hq,hn,nd,q⟩:=h
 have hs:=Zs1
 walk_at "wk"
 intro d SK
 have WD:a≠d:=ao ha SK
 refine ⟨_,rfl,a,rfl,⟨_,a_.of (by rw[ar WD];exact ha)⟩,?_⟩
 refine dG (K:=K) (a:=a) (xs:=CO qs) (λk σ H'=>∃(cv fv:Option V),σ=[some (.ref a),some (.ref d),cv,fv]/\H' d=some (.dK (gs ((qs.take k).map Q4.v)))/\aO d H H')
  ⟨none,none,rfl,ae,λb o e z=>by rw[ar z];exact e⟩ (λk σ H' _ ⟨_,_,_,_,h⟩=>a_.of (h _ _ ha WD)) ?_ ?_
 ·rintro k x σ H1 hx ⟨cv,fv,rfl,hd,s1⟩
  obtain ⟨c,hc,rfl⟩:=MB hx
  have hk:k<(qs:):=(LL.mp hc).1
  have tc:=hq c (Xu hc)
  have oA:c.t≠d:=λz=>by have h9:H c.t=_:=tc;rw[z,SK]at h9;cases h9
  have SM:rV H1 c:=s1 _ _ tc oA
  have lc:(gs ((qs.take k).map Q4.v):)<=2000:=by rw[xx,NA,Qai];omega
  have e:(qs.take (k+1)).map Q4.v=(qs.take k).map Q4.v++[c.v]:=by rw[<-take_snoc hc,Xs];rfl
  have WE:(eL ((qs.take k).map Q4.v++[c.v])).Nodup:=by
   rw[<-e]
   have:qs.map Q4.v=(qs.take (k+1)).map Q4.v++(qs.drop (k+1)).map Q4.v:=by rw[<-Xs,Qby]
   rw[this]at nd
   unfold eL at nd ⊢
   rw[Qbd,Qbx]at nd
   exact nd.1
  refine ⟨_,rfl,c.t,_,2,_,rfl,rfl,bW.of SM,rfl,_,rfl,c.t,_,3,_,rfl,rfl,bW.of SM,rfl,_,_,rfl,?_⟩
  refine ⟨_,rfl,_,rfl,_,rfl,c.t,_,2,_,rfl,rfl,bW.of SM,rfl,d,_,rfl,uK.k (k:=Sum.inl (c.v.2.2.1:Int)) hd (by omega),?_⟩
  have Zo:∀o,rV (L2.upd H1 d o) c:=λo=>by show L2.upd H1 d o c.t=_;rw[ar oA];exact SM
  refine ⟨_,rfl,_,rfl,_,rfl,c.t,_,3,_,rfl,rfl,bW.of (Zo _),rfl,d,_,rfl,uK.k (k:=Sum.inl (c.v.2.2.2:Int)) ae (Qa3 (gw _ _ _) (by omega)),?_⟩
  refine ⟨_,_,rfl,?_,λb o eb z=>by rw[ar z,ar z];exact s1 b o eb z⟩
  rw[ae,e, <-IW WE]
  rfl
 ·rintro σ H1 ⟨cv,fv,rfl,hd,s1⟩
  rw[Ba,Qau]at hd
  exact ⟨_,rfl,q d H1 SK hd λb o eb=>s1 b o eb (ao eb SK)⟩
theorem vU:bE P w K mg base fI 1 N3 OD ["rising","point"] (mf K):=by
 refine T.Sj.fn.ok dy (λvs H Q E h=>rW h) (λ_ _ _ _ H vs Q E hr h=>?_)
 refine ⟨_,(ag (ak (i:=2) dy.nd rfl (Or.inl rfl) ai)
   (ag (ak (i:=3) dy.nd rfl (Or.inl rfl) (az dQ (aC (aT K rfl) rfl T.z_len Qaj (aa (pv 0) ab)) ai))
   (ag (cU PassesOwn.never (aF i7 (pv 2) (pv 3) (aP _)) (ag (ak (i:=4) dy.nd rfl (Or.inl rfl) (az fu (az ba (pv 2) (pv 3)) ai))
   (ah (cx (aF i7 (aM (bB K rfl) (pv 0) (pv 4) (λ_ _=>rfl)) (pv 1) (aP _)) (ah (ak (i:=2) dy.nd rfl (Or.inl rfl) (az ba (pv 4) ai))) (ah (ak (i:=3) dy.nd rfl (Or.inl rfl) (pv 4)))))))
   (ah (aG (pv 2)))))),?_⟩
 obtain ⟨a,l,p,rfl,ha,up,hp,hn,q⟩:=h
 have hs:=Zs1
 have hi:=Qab hp
 have Vd:l[l.idxOf p]=p:=Qbv hi
 have key:=Qdc.mp up
 refine ⟨_,rfl,a,_,rfl,.inl (a_.of ha),?_⟩
 rw[me]
 walk_at "wk"
 refine ⟨λm σ H'=>∃(lo hi:Nat) (mv:Option V),σ=[some (.ref a),some (.int p),some (.int lo),some (.int hi),mv]/\m=hi - lo/\lo<=l.idxOf p/\l.idxOf p<=hi/\hi<(l:)/\H'=H,⟨_,0,(l:) - 1,none,?_,rfl,Qac _,by omega,by omega,rfl⟩,?_⟩
 ·have:(((l:):Int) - 1)=(((l:) - 1:Nat):Int):=by omega
  rw[<-this];rfl
 rintro m σ H2 ⟨lo,nU,mv,rfl,rfl,h1,h2,h3,rfl⟩
 walk_at "wk"
 walk_at"g"
 ·have z1:(lo:Int)<nU:=of_decide_eq_true z
  have em:(((lo:Int)+nU) / 2)=(((lo+nU) / 2:Nat):Int):=by omega
  have hm:(lo+nU) / 2<(l:):=by omega
  walk_at "rd"
  refine ⟨a,_,((lo:Int)+nU) / 2,_,rfl,rfl,a_.of ha,by rw[em];exact b4 (Ft (LK hm)),?_⟩
  walk_at "rd"
  refine bR (λy=>?_) (λy=>?_)
  ·have y1:((l[(lo+nU) / 2]:Nat):Int)<p:=of_decide_eq_true y
   have lt:(lo+nU) / 2<l.idxOf p:=by
    refine Classical.byContradiction λw=>?_
    by_cases e:(lo+nU) / 2=l.idxOf p
    ·have:l[(lo+nU) / 2]=p:=by simp only[e];exact Vd
     omega
    ·have:=key (l.idxOf p) ((lo+nU) / 2) hi hm (by omega)
     rw[Vd]at this
     omega
   walk_at "rd"
   have e1:((lo:Int)+nU) / 2+1=(((lo+nU) / 2+1:Nat):Int):=by omega
   refine ⟨nU - ((lo+nU) / 2+1),by omega,(lo+nU) / 2+1,nU,_,by rw[<-e1];rfl,rfl,by omega,h2,h3,rfl⟩
  ·have y1: ¬((l[(lo+nU) / 2]:Nat):Int)<p:=λw=>y (decide_eq_true w)
   have le:l.idxOf p<=(lo+nU) / 2:=by
    refine Classical.byContradiction λw=>?_
    have:=key ((lo+nU) / 2) (l.idxOf p) hm hi (by omega)
    rw[Vd]at this
    omega
   walk_at "rd"
   refine ⟨(lo+nU) / 2 - lo,by omega,lo,(lo+nU) / 2,_,by rw[<-em];rfl,rfl,h1,le,by omega,rfl⟩
 ·have z1: ¬(lo:Int)<nU:=λw=>z (decide_eq_true w)
  have e:lo=l.idxOf p:=by omega
  walk_at "rd"
  rw[e]
  exact q
theorem mD:bE P w K mg base fI 2 N4 OE ["some"] (gA K):=by
 have rm:=oW (P:=P) (w:=w) (base:=base) T
 have xZ:=vU (P:=P) (w:=w) (base:=base) T
 refine T.Sk.fn.ok bD (λvs H Q E h=>kE h) (λ_ _ _ _ H vs Q E hr h=>?_)
 refine ⟨_,(ag (ak (i:=1) bD.nd rfl (Or.inl rfl) (aq rm (hr.mono ∅) rfl T.Si.mg T.Si.fn.kp T.Si.bd .nil aD (aa (pv 0) ab)))
   (ag (ak (i:=2) bD.nd rfl (Or.inl rfl) (cE ab))
   (ag (ak (i:=3) bD.nd rfl (Or.inl rfl) ai)
   (ag (bJ PassesOwn.never rfl (b3 K rfl (aC (rN rfl) rfl T.z_sorted boot_sorted (aa (pv 1) ab))) (aA (i:=4) bD.nd rfl (Or.inl rfl)) (ah (cx (aF kj (o5 (pR hr) (pv 1) (pv 4) (λ_ _=>rfl)) (pv 4) (aP _)) (ah (cA (bF K rfl Qan Qb0 Qbz eR (pv 2) (aa (pv 4) ab)))) (ag (ak (i:=5) bD.nd rfl (Or.inl rfl) (aq xZ (hr.mono ∅) rfl T.Sj.mg T.Sj.fn.kp T.Sj.bd .nil aD (aa (pv 2) (aa (o5 (pR hr) (pv 1) (pv 4) (λ_ _=>rfl)) ab))))
   (ag (cA (bF K rfl Qan Qds Qdr pQ (pv 2) (aa (pv 5) ab)))
   (ah (kh (i:=3) bD.nd rfl (Or.inl rfl) (az dQ (aC (aT K rfl) rfl T.z_len Qaj (aa (pv 2) ab)) (pv 5)) uj)))))))
   (ah (aG (pv 3))))))),?_⟩
 obtain ⟨a,qs,rfl,ha,hq,hn,nd,q⟩:=h
 have hs:=Zs1
 refine ⟨_,rfl,a,qs,rfl,ha,hq,by omega,nd,λd H1 WE hd s1=>?_⟩
 have Nw:(qs.map Q4.v:)<=24:=by rw[NA];exact hn
 generalize qs.map Q4.v=cs at nd hd q Nw
 have kl:=xx cs
 have Z4:(eL cs:)=2*(cs:):=by
  have:=congrArg List.length (g8 cs)
  rw[NA,NA]at this
  omega
 walk_at "wk"
 intro b nb
 have WG:d≠b:=ao hd nb
 have hd2:L2.upd H1 b (.lst []) d=some (.dK (gs cs)):=by rw[ar WG];exact hd
 have sb:=aj.upd (o:= .lst []) nb
 refine ⟨_,rfl,d,_,(eL cs).map λn:Nat=>(n:Int),rfl,hd2,by rw[g8,Qbo];rfl,by rw[NA];omega,λp2 ms n2 nL M4=>?_⟩
 obtain ⟨P,eP,pP,uP⟩:=zx nd nL M4
 rw[eP]
 have ch:=MG nd pP uP
 have lP:P.length<=2000:=by rw[pP.length_eq];omega
 have WH:p2≠b:=λz=>by rw[z,ae]at n2;cases n2
 have s2:=sb.trans (aj.upd (o:= .lst (ins P)) n2)
 refine ⟨p2,rfl,⟨_,a_.of ae⟩,?_⟩
 refine dG (K:=K) (a:=p2) (xs:=ins P) (λk σ H'=>∃(m:Nat) (pv nv:Option V),σ=[some (.ref a),some (.ref d),some (.ref b),some (.int m),pv,nv]/\H' b=some (.lst (ins (ph (cJ cs) (P.take k) (P.drop k))))/\m+Hd (cJ cs) (P.take k) (P.drop k)=Hd (cJ cs) [] P/\aO b (L2.upd (L2.upd H1 b (.lst [])) p2 (.lst (ins P))) H')
  ⟨0,none,none,rfl,by rw[ar (Ne.symm WH),ae];rfl,by rw[Qc9];rfl,aO.refl _ _⟩ (λk σ H' _ ⟨_,_,_,_,_,_,h⟩=>a_.of (h _ _ ae WH)) ?_ ?_
 ·rintro k x σ H3 hx ⟨m,pv,nv,rfl,hb,hm,s3⟩
  obtain ⟨p,hp,rfl⟩:∃p,P[k]? =some p/\x=V.int (p:Nat):=by
   unfold ins at hx
   rw[ZN]at hx
   cases e:P[k]? with
   | none=>rw[e]at hx;cases hx
   | some p=>rw[e]at hx;cases hx;exact ⟨p,rfl,rfl⟩
  have hk:k<P.length:=(LL.mp hp).1
  have Zp:p∈eL cs:=pP.mem_iff.mp (Xu hp)
  have WI:=MI nd Zp
  have WJ:H3 d=some (.dK (gs cs)):=s3 _ _ (s2 _ _ hd) WG
  have WK:P=P.take k++p::P.drop (k+1):=by
   have:=Qby k P
   rw[Qbn hk,(LL.mp hp).2]at this
   exact this.symm
  have Ve:P.drop k=p::P.drop (k+1):=by rw[Qbn hk,(LL.mp hp).2]
  have Rq:P.take (k+1)=P.take k++[p]:=(take_snoc hp).symm
  have bl:(ph (cJ cs) (P.take k) (P.drop k):)<=2000:=Qak IX (by rw[Qai];omega)
  have xc:=Fx (st:=cJ cs) hp
  refine ⟨_,rfl,_,rfl,d,_,rfl,by rw[<-WI];exact qc.k (k:=Sum.inl (p:Int)) WJ,?_⟩
  walk_at "rd"
  walk_at"g"
  ·have z1:cJ cs p=p:=by have:=of_decide_eq_true z;omega
   refine ⟨_,rfl,.inl ⟨rfl,_,a_.of hb⟩,_,rfl,b,_,_,rfl,rfl,hb,by rw[me];omega,?_⟩
   refine ⟨m,_,_,rfl,?_,?_,s3.trans (aO.upd _ _ _)⟩
   ·rw[ae,Fs,Rq,Fn ch WK z1, <-Ve]
   ·have e0:CQ (cJ cs) (P.take k) (P.drop (k+1)) p=0:=by unfold CQ;rw[if_pos z1]
    omega
  ·have z1:cJ cs p≠p:=λw=>z (decide_eq_true (by rw[w]))
   obtain ⟨en,em⟩:=MD ch WK z1
   rw[<-Ve]at en em
   have up:=MH (st:=cJ cs) uP (Qby k P).symm (P.drop k)
   have DR:=Qab em
   refine ⟨_,rfl,_,rfl,_,rfl,d,_,rfl,by rw[<-WI];exact qc.k (k:=Sum.inl (p:Int)) WJ,b,_,cJ cs p,rfl,hb,up,em,by omega,?_⟩
   refine ⟨_,rfl,.inl ⟨rfl,_,a_.of hb⟩,_,rfl,b,_,_,_,_,rfl,rfl,hb,by omega,by omega,?_,Ft (LK DR),?_⟩
   ·rw[me]
    exact QU DR
   have ee:(ins (ph (cJ cs) (P.take k) (P.drop k))).eraseIdx ((ph (cJ cs) (P.take k) (P.drop k)).idxOf (cJ cs p))=ins (ph (cJ cs) (P.take (k+1)) (P.drop (k+1))):=by
    rw[Rq,en, <-Fv em]
    exact tR _ _
   rw[ee]
   refine ⟨_,rfl,_,rfl,b,_,rfl,.inl (a_.of ae),?_⟩
   walk_at "rd"
   have bh:=behind up em
   have lb:(ph (cJ cs) (P.take (k+1)) (P.drop (k+1)):)=((ph (cJ cs) (P.take k) (P.drop k)).erase (cJ cs p):):=by rw[Rq,en]
   have le:((ph (cJ cs) (P.take k) (P.drop k)).erase (cJ cs p):)+1=(ph (cJ cs) (P.take k) (P.drop k):):=by rw[List.length_erase_of_mem em];omega
   have ec:CQ (cJ cs) (P.take k) (P.drop (k+1)) p=(((ph (cJ cs) (P.take k) (P.drop k)).filter λx=>decide (cJ cs p<x)):):=by unfold CQ;rw[if_neg z1,Ve]
   have ei:(m:Int)+(((ins (ph (cJ cs) (P.take (k+1)) (P.drop (k+1))):):Nat) - ((ph (cJ cs) (P.take k) (P.drop k)).idxOf (cJ cs p):Nat))=((m+CQ (cJ cs) (P.take k) (P.drop (k+1)) p:Nat):Int):=by rw[me];omega
   exact ⟨m+CQ (cJ cs) (P.take k) (P.drop (k+1)) p,some (.int p),some (.int ((ph (cJ cs) (P.take k) (P.drop k)).idxOf (cJ cs p):Nat)),by rw[<-ei];rfl,ae,by omega,s3.trans (aO.upd _ _ _)⟩
 ·rintro σ H3 ⟨m,pv,nv,rfl,hb,hm,s3⟩
  rw[me,List.drop_length,Qau]at hm
  have vX:m=Hd (cJ cs) [] P:=hm
  refine ⟨_,rfl,?_⟩
  rw[vX,QT ch]
  exact q H3 λc o e=>s3 c o (s2 c o (s1 c o e)) (ao e (aj.free s1 nb))
theorem GF:bE P w K mg base fI 9 N5 OF ["yard","words"] (xN K):=by
 have nN:=mD (P:=P) (w:=w) (base:=base) T
 have Di:=zT (P:=P) (w:=w) (base:=base) T
 have zX:=Bz (P:=P) (w:=w) (base:=base) T
 refine T.Sl.fn.ok Gv (λvs H Q E h=>C8 h) (λ_ _ _ _ H vs Q E hr h=>?_)
 refine ⟨_,(ah (aG (aq nN (hr.mono ∅) rfl T.Sk.mg T.Sk.fn.kp T.Sk.bd .nil aD (aa (aq Di (hr.mono ∅) rfl T.Sh.mg T.Sh.fn.kp T.Sh.bd .nil aD (aa (pv 0) (aa (aq zX (hr.mono ∅) rfl T.MV.mg T.MV.fn.kp T.MV.bd .nil aD (aa (pv 0) (aa (pv 1) ab))) ab))) ab)))),?_⟩
 obtain ⟨y,wt,ws,rfl,hy,hz,hk,ou,q⟩:=h
 refine ⟨_,rfl,_,rfl,_,rfl,y,wt,ws,rfl,hy,hz,ou,hk.wW,hk.sw,λdr os H1 NI ht s1=>?_⟩
 obtain ⟨nd,e⟩:=FT hy (λw hw=>(hk.sw w hw).1) ht
 obtain ⟨M,_,ok,_⟩:=id ht
 refine ⟨y,dr,ws,os,rfl,hy,hz,hk.ok,ok,NI,λp qs H2 np hp Rh KZ s2=>?_⟩
 have hl:=C2 (os:=os) hk
 have UX:(qs:)<=24:=by rw[<-KZ,NA]at hl;omega
 refine ⟨p,qs,rfl,hp,Rh,UX,by rw[KZ];exact nd,λH3 s3=>?_⟩
 rw[KZ]
 have e':((cl (λx z=>kN x z||kN z x) (oh (cS y ws os)):Nat):Int)=FU y ws:=e
 rw[e']
 exact q H3 (s1.trans (s2.trans s3)) ⟨os,ht⟩
theorem JI:bE P w K mg base fI 1 N6 OG ["_law_script","_law_k"] (Az K):=by
 refine T.Sm.fn.ok mz (λvs H Q E h=>Es h) (λ_ _ _ _ H vs Q E hr h=>?_)
 refine ⟨_,(ag (ak (i:=2) mz.nd rfl (Or.inl rfl) (az ba (az i6 ai (pv 1)) ai))
   (ag (cx (aF i7 (pv 1) (aC (aT K rfl) rfl T.z_len Qaj (aa (pv 0) ab)) (aP _)) (ah (ak (i:=2) mz.nd rfl (Or.inl rfl) (aM (bB K rfl) (pv 0) (pv 1) (λ_ _=>rfl)))) (ah (cx (aF kS (aC (aT K rfl) rfl T.z_len Qaj (aa (pv 0) ab)) ai (aP _)) (ah (ak (i:=2) mz.nd rfl (Or.inl rfl) (az ba (pv 2) (az i6 (az eO (aM (bB K rfl) (pv 0) (az eO (pv 1) (aC (aT K rfl) rfl T.z_len Qaj (aa (pv 0) ab))) (λ_ _=>rfl)) ai) ai)))) bN)))
   (ag (ak (i:=3) mz.nd rfl (Or.inl rfl) (az eO (az DA (az ba (az ba (az eO (pv 2) ai) (az i6 ai (pv 1))) ai) ai) ai))
   (ah (aG (cE (aa (aM (bB K rfl) (cE (aa ai (aa (pv 2) ab))) (dX BP rfl T.z_int boot_int (aa (kT DD (pv 2) (az DA ai ai) (aP _)) ab)) (λ_ _=>rfl)) (aa (az ba (az eO (pv 3) ai) ai) ab)))))))),?_⟩
 obtain ⟨a,ns,k,rfl,hS,hk,q⟩:=h
 have hp:(0:Int)<2147483629:=by decide
 walk_at "rd"
 refine ⟨a,_,rfl,.inl hS,?_⟩
 walk_at "rd"
 refine bR (λe=>?_) (λe=>?_)
 ·have e':(k:Int)<((ns.map V.int:):Nat):=of_decide_eq_true e
  rw[NA]at e'
  obtain ⟨z,hz⟩:=AB (ns:=ns) (i:=k) ()
  walk_at "rd"
  refine ⟨a,_,k,_,rfl,rfl,hS,b4 hz,?_⟩
  walk_at "rd"
  refine λp1 n1=>?_
  walk_at "rd"
  refine .inr ⟨_,rfl,?_⟩
  obtain ⟨y,hy⟩:=yY _ z
  refine ⟨p1,_,_,_,rfl,rfl,a_.of ae,hy,?_⟩
  walk_at "rd"
  walk_at"u"
 ·walk_at "rd"
  refine ⟨a,_,rfl,.inl hS,?_⟩
  walk_at "rd"
  refine bR (λe2=>?_) (λe2=>?_)
  ·have e':(0:Int)<((ns.map V.int:):Nat):=of_decide_eq_true e2
   have hl:(0:Int)<((ns:):Int):=by rw[NA]at e';exact e'
   have m1:0<=(k:Int)%((ns:):Int):=Qb1 _ ()
   have m2:(k:Int)%((ns:):Int)<((ns:):Int):=Qbw _ hl
   obtain ⟨z,hz⟩:=AB (ns:=ns) (i:=((k:Int)%((ns:):Int)).toNat) ()
   have G5:rz (ns.map V.int) ((k:Int)%((ns.map V.int:):Nat))=some (V.int z):=by
    have:=b4 hz
    rw[Int.toNat_of_nonneg m1]at this
    rw[NA]
    exact this
   walk_at "rd"
   refine ⟨a,_,rfl,.inl hS,?_⟩
   walk_at "rd"
   refine ⟨a,_,_,_,rfl,rfl,hS,G5,?_⟩
   walk_at "rd"
   refine λp1 n1=>?_
   walk_at "rd"
   refine .inr ⟨_,rfl,?_⟩
   obtain ⟨y,hy⟩:=yY _ _
   refine ⟨p1,_,_,_,rfl,rfl,a_.of ae,hy,?_⟩
   walk_at "rd"
   walk_at"u"
  ·walk_at "rd"
   refine λp1 n1=>?_
   walk_at "rd"
   refine .inr ⟨_,rfl,?_⟩
   obtain ⟨y,hy⟩:=yY _ _
   refine ⟨p1,_,_,_,rfl,rfl,a_.of ae,hy,?_⟩
   walk_at "rd"
   walk_at"u"
theorem GG:bE P w K mg base fI 2 N9 OJ ["_law_box_here","_law_few_here","_law_top"] (wV K):=by
 have dz:=mB (P:=P) (w:=w) (base:=base) T
 walk_at"A"
 refine T.So.fn.ok fG (λvs H Q E h=>Ct h) (λ_ _ _ _ H vs Q E hr h=>?_)
 refine ⟨_,(ag (ak (i:=3) fG.nd rfl (Or.inl rfl) (dX (yE rfl) rfl T.z_list boot_list (aa (mQ [97,98,99,100,101,102,103,104,105,106,107,108,109,110,111,112,113,114,115,116,117,118,119,120,121,122] ⋯) ab)))
   (ag (ak (i:=4) fG.nd rfl (Or.inl rfl) (cE ab))
   (ag (bJ PassesOwn.never rfl (fX rfl T.z_range (aa (az ba (pv 1) (aq dz (hr.mono ∅) rfl T.kI.mg T.kI.fn.kp T.kI.bd .nil aD (aa (pv 0) (aa (az ba (az dQ (pv 2) (pv 1)) ai) ab)))) ab)) (aA (i:=5) fG.nd rfl (Or.inl rfl)) (ag (ak (i:=6) fG.nd rfl (Or.inl rfl) (bF K rfl Qan Qds Qdr pQ (pv 3) (aa (aq dz (hr.mono ∅) rfl T.kI.mg T.kI.fn.kp T.kI.bd .nil aD (aa (pv 0) (aa (aC (aT K rfl) rfl T.z_len Qaj (aa (pv 3) ab)) ab))) ab)))
   (ah (ak (i:=4) fG.nd rfl (Or.inl rfl) (az LH (pv 4) (cE (aa (pv 6) (aa (aq cn (hr.mono ∅) rfl T.mG.mg T.mG.fn.kp T.mG.bd .nil aD (aa (pv 6) ab)) ab))))))))
   (ag (ak (i:=7) fG.nd rfl (Or.inl rfl) (mQ [] ⋯))
   (ag (cU PassesOwn.never (aF kS (aC (aT K rfl) rfl T.z_len Qaj (aa (pv 4) ab)) ai (aP _)) (ah (ak (i:=7) fG.nd rfl (Or.inl rfl) (az h_ (pv 7) (bF K rfl Qan Qds Qdr pQ (pv 4) (aa (aq dz (hr.mono ∅) rfl T.kI.mg T.kI.fn.kp T.kI.bd .nil aD (aa (pv 0) (aa (aC (aT K rfl) rfl T.z_len Qaj (aa (pv 4) ab)) ab))) ab))))))
   (ah (aG (pv 7)))))))),?_⟩
 obtain ⟨b,wW,top,rfl,hb,h1,h2,h3,q⟩:=h
 have hs:=Zs1
 walk_at "rd"
 intro p1 n1
 walk_at "rd"
 intro p2 n2
 have s1:aj H (upd (upd H p1 (.lst (cT aL))) p2 (.lst [])):=(aj.upd n1).trans (aj.upd n2)
 have SN:p1≠b:=hb.ne n1
 have U4:H p2=none:=aj.free (aj.upd n1) n2
 have Zq:p2≠b:=hb.ne U4
 have Sy:p1≠p2:=λz=>by rw[<-z,ae]at n2;cases n2
 walk_at "rd"
 refine ⟨b,_,rfl,hb.same s1,(),(),λn H1 hn Cp s2=>?_⟩
 walk_at "rd"
 refine fZ (λi σ H'=>∃(pe:Addr) (L E:Z) (kv lv:Option V),σ=[some (.ref b),some (.int wW),some (.int top),some (.ref p1),some (.ref pe),kv,lv,none]/\Mf i L E/\H' p1=some (.lst (cT L))/\H' pe=some (.lst (cT E))/\p1≠pe/\H pe=none/\c_ H' b/\aO b H H')
  ⟨p2,aL,[],none,none,rfl,Mf.start,s2 _ _ (by rw[ar Sy,ae];rfl) SN,s2 _ _ ae Zq,Sy,U4,Cp,(aO.of s1).trans s2⟩ ?_ ?_
 ·rintro i σ H2 hi ⟨pe,L,E,kv,lv,rfl,yw,iZ,iV,WL,SO,p_,s3⟩
  show x_ _ _ _ _ _
  refine wX λDx JH=>?_
  have QQ:i<26:=by simp at hi;lia
  have RS:=yw.ll
  have BB:=yw.el
  refine ⟨_,rfl,.inl ⟨rfl,_,a_.of iZ⟩,?_⟩
  walk_at "rd"
  refine ⟨p1,_,rfl,.inl (a_.of iZ),b,_,rfl,p_,by rw[aW];lia,by rw[aW];lia,λr H3 Wa vO s4=>?_⟩
  rw[aW]at Wa
  have KS:r<L.length:=by lia
  have Vf:=s4 _ _ iZ SN
  have Vg:=s4 _ _ iV (hb.ne SO)
  refine ⟨p1,_,_,r,_,rfl,rfl,Vf,(),(),by rw[aW,seqIndex_of () (),Xt],Et KS,?_⟩
  rw[tf]
  have di:Lt L[r]:= .inl (yw.sm _ (Qa7 KS))
  have Ru:(upd H3 p1 (.lst (cT (L.eraseIdx r)))) pe=some (.lst (cT E)):=by rw[ar (Ne.symm WL)];exact Vg
  walk_at "rd"
  intro p3 n3
  have e3:pe≠p3:=ao Ru n3
  refine ⟨pe,p3,_,_,rfl,rfl,by rw[ar e3];exact Ru,ae,by rw[aW];show E.length+2<=_;lia,λp4 n4=>?_⟩
  have WM:H p3=none:=((s3.trans s4).ko n1).none n3 (vO.ko SN |>.ne n3)
  have WN:=(vO.ko (o:= .lst (cT (L.eraseIdx r))) SN).ko (o:= .lst [V.str (S [L[r]]),V.str (S [aB L[r]])]) (hb.ne WM)
  have WO:=((s3.trans s4).ko (o:= .lst (cT (L.eraseIdx r))) n1).ko (o:= .lst [V.str (S [L[r]]),V.str (S [aB L[r]])]) WM
  have Vh:H p4=none:=WO.none n4 (WN.ne n4)
  have WQ:p1≠p4:=λz=>by rw[<-z]at n4;by_cases z3:p1=p3<;>simp[upd,z3]at n4
  have Zr:p1≠p3:=λz=>by rw[<-z,ae]at n3;cases n3
  refine JH _ _ ⟨p4,L.eraseIdx r,E++[L[r],aB L[r]],_,_,rfl,yw.turn QQ KS,by rw[ar WQ,ar Zr,ae],?_,WQ,Vh,WN.ko (hb.ne Vh),WO.ko Vh⟩
  rw[ae, <-Il]
  rfl
 ·rintro σ H2 ⟨pe,L,E,kv,lv,rfl,yw,iZ,iV,WL,SO,p_,s3⟩
  have BB:=yw.el
  have GU:=hb.ne SO
  walk_at "rd"
  refine ⟨λm σ H'=>∃F E':Z,σ=[some (.ref b),some (.int wW),some (.int top),some (.ref p1),some (.ref pe),kv,lv,some (.str (S F))]/\m=E'.length/\(F++E').Perm E/\H' pe=some (.lst (cT E'))/\c_ H' b/\aO b H H',⟨_,[],E,rfl,rfl,List.Perm.refl _,iV,p_,s3⟩,?_⟩
  rintro m σ H3 ⟨F,E',rfl,rfl,nL,JJ,vO,s4⟩
  have hlen:=nL.length_eq
  rw[VG]at hlen
  have uq:(wW:Int)+n<=9:=by lia
  have Zs:E.length<=100:=by rw[BB];lia
  walk_at "rd"
  refine ⟨pe,_,rfl,.inl (a_.of JJ),_,_,rfl,rfl,_,rfl,bR (λe=>?_) (λe=>?_)⟩
  ·have e':(0:Int)<((cT E':):Nat):=of_decide_eq_true e
   rw[aW]at e'
   refine ⟨_,rfl,_,rfl,.inl ⟨rfl,_,a_.of JJ⟩,?_⟩
   walk_at "rd"
   refine ⟨pe,_,rfl,.inl (a_.of JJ),b,_,rfl,vO,by rw[aW];lia,by rw[aW];lia,λr H4 KS Hg s5=>?_⟩
   rw[aW]at KS
   have WR:r<E'.length:=by lia
   refine ⟨pe,_,_,r,_,rfl,rfl,s5 _ _ JJ GU,(),(),by rw[aW,seqIndex_of () (),Xt],Et WR,?_⟩
   rw[tf]
   have hp:=km (LK WR)
   have h7:=hp.length_eq
   rw[Qap]at h7
   refine ⟨F,_,rfl,rfl,by show F.length+1<=_;lia,(E'.eraseIdx r:),(),F++[E'[r]],E'.eraseIdx r,rfl,rfl,?_,ae,Hg.ko GU,(s4.trans s5).ko SO⟩
   rw[Qbs]
   exact (List.Perm.append_left F hp).trans nL
  ·have e':E'=[]:=by
    cases E' with
    | nil=>rfl
    | cons c r=>exact absurd (decide_eq_true (by rw[aW];show (0:Int)<(((r:)+1:Nat):Int);lia)) e
   subst e'
   rw[Qba]at nL
   have nR:=nL.length_eq
   refine ⟨_,rfl,q F H3 (yw.yd.perm nL.symm) ?_ ?_ vO s4⟩
   ·rw[nR,BB];lia
   ·rw[nR,BB];lia
theorem sj:bE P w K mg base fI 1 Og OQ ["_law_things"] (ka K):=by
 refine T.Ss.fn.ok cX (λvs H Q E h=>qP h) (λ_ _ _ _ H vs Q E hr h=>?_)
 refine ⟨_,(ag (ak (i:=1) cX.nd rfl (Or.inl rfl) (cE (aa (bp ab) ab)))
   (ag (bJ PassesOwn.never rfl (b3 K rfl (pv 0)) (aA (i:=2) cX.nd rfl (Or.inr rfl)) (ag (ak (i:=3) cX.nd rfl (Or.inl rfl) (cE ab))
   (ag (bJ PassesOwn.never rfl (b3 K rfl (pv 1)) (aA (i:=4) cX.nd rfl (Or.inr rfl)) (ah (cA (bF K rfl Qan Qcx Qcw gU (pv 3) (aa (bH ["_law_at","_law_order","_law_thing"] [none,some 4,some 2] (fX rfl T.z_range (aa (az ba (aC (aT K rfl) rfl T.z_len Qaj (aa (pv 4) ab)) ai) ab)) ⟨⟨rfl,rfl,by first | exact .inl rfl | exact .inr rfl⟩,⟨⟨rfl,rfl,by first | exact .inl rfl | exact .inr rfl⟩,trivial⟩⟩ (λ_ _ _ _=>(aA (i:=0) (by decide+kernel:List.Nodup (["_law_at","_law_order","_law_thing"]:List Str)) rfl (Or.inl rfl))) (λ_ _ _ _=>eE) (λ_ _ _ _=>(az uR (az uR (bG Ax (pv 1) cZ (bA (pv 0))) (bp (aa (pv 2) ab))) (bG Ax (pv 1) (bA (pv 0)) cZ)))) ab)))))
   (ah (ak (i:=1) cX.nd rfl (Or.inl rfl) (pv 3))))))
   (ah (aG (pv 1))))),?_⟩
 obtain ⟨a,ps,rfl,ha,hp,hf,q⟩:=h
 have hs:=Zs1
 have hn:=Jt hf
 refine ⟨by show 0<=sizeLine;decide,λt0 n0=>?_⟩
 refine ⟨by show 1<=sizeLine;decide,λp0 Hh=>?_⟩
 have s0:=(aj.upd (o:= .tup []) n0).trans (aj.upd (o:= .lst [V.ref t0]) Hh)
 have A0:MS (upd (upd H t0 (.tup [])) p0 (.lst [V.ref t0])) [] [⟨t0,[]⟩]:=⟨λo ho=>by rw[VH.mp ho];exact ⟨aj.upd Hh _ _ ae,λ_ h=>absurd h kb,Qac _⟩,rfl,λo ho=>by rw[VH.mp ho],λk hk=>⟨_,VH.mpr rfl,hk.eq_nil.symm⟩⟩
 have K0:upd (upd H t0 (.tup [])) p0 (.lst [V.ref t0]) p0=some (.lst (iJ [⟨t0,[]⟩])):=ae
 have Wr:H p0=none:=by
  cases e:H p0 with
  | none=>rfl
  | some u=>rw[aj.upd n0 _ _ e]at Hh;cases Hh
 generalize upd (upd H t0 (.tup [])) p0 (.lst [V.ref t0])=H1 at s0 A0 K0 ⊢
 refine ⟨_,rfl,a,rfl,⟨_,a_.of (s0 _ _ ha)⟩,?_⟩
 refine dG (K:=K) (a:=a) (xs:=iA ps) (λj σ H'=>∃(p:Addr) (os:List Od) (v2 v3 v4:Option V),σ=[some (.ref a),some (.ref p),v2,v3,v4]/\H p=none/\H' p=some (.lst (iJ os))/\MS H' (ps.take j) os/\aj H H') ⟨p0,_,none,none,none,rfl,Wr,K0,A0,s0⟩ (λj σ H' _ ⟨_,_,_,_,_,_,_,_,_,g⟩=>a_.of (g _ _ ha)) ?_ ?_
 ·rintro j x σ H2 hx ⟨p,os,v2,v3,v4,rfl,np,mU,A2,s2⟩
  obtain ⟨r,hr,rfl⟩:=qB hx
  have hj:j<(ps:):=(LL.mp hr).1
  have lj:(ps.take j:)=j:=by rw[Qai];lia
  have Z5:iN j<=720:=Qak (mw (Qa4 hj)) hf
  have Vi:iN j*(j+1)<=720:=Qak (mw hj) hf
  have WS:(os:)=iN j:=by rw[A2.ln,lj]
  refine ⟨by show 0<=sizeLine;decide,λp3 n3=>?_⟩
  have s3:=Bv (o:= .lst []) (aj.refl H2) n3
  have q5:upd H2 p3 (.lst []) p3=some (.lst (iJ [])):=ae
  have Z6:p3≠p:=λz=>by rw[z,mU]at n3;cases n3
  generalize upd H2 p3 (.lst [])=H3 at s3 q5 ⊢
  refine ⟨_,rfl,p,rfl,⟨_,a_.of (s3 _ _ mU)⟩,?_⟩
  refine dG (K:=K) (a:=p) (xs:=iJ os) (λi σ H'=>∃(Dj:List Od) (v4:Option V),σ=[some (.ref a),some (.ref p),some (.ref r.t),some (.ref p3),v4]/\H' p3=some (.lst (iJ Dj))/\(∀o∈Dj,kC H' o/\o.ps.Perm (ps.take j++[r]))/\Dj.length=i*(j+1)/\(∀o∈os.take i,∀m,m<=(o.ps:)->∃o2∈Dj,o2.ps=qO o.ps m r)/\aj H2 H')
   ⟨[],v4,rfl,q5,λ_ h=>absurd h kb,(Qev _).symm,λ_ h=>absurd h kb,s3⟩ (λi σ H' _ ⟨_,_,_,_,_,_,_,g⟩=>a_.of (g _ _ mU)) ?_ ?_
  ·rintro i x σ H4 Rp ⟨Dj,v5,rfl,uc,Hj,GH,GI,s4⟩
   obtain ⟨o,ho,rfl⟩:=pA Rp
   have hi:i<(os:):=(LL.mp ho).1
   have oo:=(A2.ok o (Xu ho)).same s4
   have op:=A2.pm o (Xu ho)
   have Zt:(o.ps:)=j:=by rw[op.length_eq,lj]
   have KS:iT H4 r:=(hp r (Xu hr)).same (s2.trans s4)
   have l4:Dj.length<=720:=by rw[GH];exact Qak (Qc7 _ (by rw[WS]at hi;exact Qa4 hi)) Vi
   refine ⟨_,rfl,.inl ⟨rfl,_,a_.of uc⟩,?_⟩
   refine ⟨_,rfl,o.o,_,rfl,.inr (bW.of oo.tp),_,_,rfl,rfl,_,rfl,by rw[ck];lia,by rw[ck];lia,?_⟩
   rw[ck,Zt,show ((j:Int)+1).toNat=j+1 by lia]
   have ll:∀{x:List Od},(x:)<=720->(x:)<=sizeLine:=λh=>by lia
   refine wz (λm acc H'=>∃Dt:List Od,acc=iJ Dt/\Dt.length=m/\(∀o'∈Dt,kC H' o'/\o'.ps.Perm (ps.take j++[r]))/\(∀m',m'<m->∃o2∈Dt,o2.ps=qO o.ps m' r)/\aj H4 H') () ⟨[],rfl,rfl,λ_ h=>absurd h kb,λ_ h=>absurd h (Qdh _),aj.refl _⟩ ?_ ?_
   ·rintro m acc H5 Nx hm nK ⟨Dt,rfl,Hk,Dk,JK,s5⟩ nx
    have sz:∀{x:List V},(x:)<=100->(x:)+1<=sizeLine:=λh=>by lia
    refine ⟨⟨rfl,rfl,trivial⟩,da ?_⟩
    refine ⟨_,rfl,_,rfl,_,rfl,o.o,_,rfl,s5 _ _ oo.tp,λu1 H6 s6 IA=>?_⟩
    refine ⟨_,rfl,by show 1<=sizeLine;decide,λu2 n2=>?_⟩
    have c1:=ft (iA o.ps) none (some (0+(m:Int)))
    have c2:=ft (iA o.ps) (some (0+(m:Int))) none
    rw[ck]at c1 c2
    refine ⟨u1,u2,_,_,rfl,rfl,aj.upd n2 _ _ IA,ae,by show _+1<=_;lia,λu3 H7 s7 JF=>?_⟩
    have WT:aj H5 H7:=aj.trans s6 (aj.trans (aj.upd n2) s7)
    refine ⟨_,rfl,_,rfl,_,rfl,o.o,_,rfl,WT _ _ (s5 _ _ oo.tp),λu4 H8 s8 Zu=>?_⟩
    refine ⟨u3,u4,_,_,rfl,rfl,s8 _ _ JF,Zu,by rw[VG];show _+1+_<=_;lia,λu5 H9 s9 WU=>?_⟩
    have e5:gq (iA o.ps) none (some (0+(m:Int)))++[V.ref r.t]++gq (iA o.ps) (some (0+(m:Int))) none=iA (qO o.ps m r):=by
     rw[Qck,Jv,t9]
     unfold qO iA
     rw[Xs,Xs,Qeh,List.map_drop]
     rfl
    rw[e5]at WU
    have SQ:aj H5 H9:=aj.trans WT (aj.trans s8 s9)
    have pm:=(C9 o.ps m r).trans (List.Perm.append_right [r] op)
    refine nx _ _ (by rw[VG];show _+1<=m+1;lia) ⟨Dt++[⟨u5,qO o.ps m r⟩],lY Dt ⟨u5,qO o.ps m r⟩,by rw[VG,Hk];rfl,λo' kO=>?_,λm' Ff=>?_,s5.trans SQ⟩
    ·rcases Qaa.mp kO with g | g
     ·exact ⟨(Dk o' g).1.same SQ,(Dk o' g).2⟩
     ·rw[VH.mp g]
      refine ⟨⟨WU,λz hz=>?_,?_⟩,pm⟩
      ·rcases Qaa.mp (pm.mem_iff.mp hz) with g2 | g2
       ·exact (hp z (Qcg g2)).same (s2.trans (s4.trans (s5.trans SQ)))
       ·rw[VH.mp g2];exact KS.same (s5.trans SQ)
      ·show (qO o.ps m r:)<=100
       rw[pm.length_eq,VG,lj]
       show j+1<=100
       lia
    ·by_cases z:m'=m
     ·exact ⟨_,Qaq _ (VH.mpr rfl),by rw[z]⟩
     ·obtain ⟨o2,h2,e2⟩:=JK m' ()
      exact ⟨o2,Qb3 _ h2,e2⟩
   ·rintro acc H5 D5 nK ⟨Dt,rfl,Hk,Dk,JK,s5⟩ GJ
    have zU:=aj.upd (o:= .lst (iJ Dt)) GJ _ _ (s5 _ _ uc)
    refine ⟨p3,D5,_,_,rfl,rfl,zU,ae,by rw[fW,fW,Hk];lia,?_⟩
    rw[Jw]
    have ts:aY H5 (upd (upd H5 D5 (.lst (iJ Dt))) p3 (.lst (iJ (Dj++Dt)))):=(aY.of (aj.upd GJ)).trans (aY.lD zU)
    refine ⟨Dj++Dt,_,rfl,ae,λo' kO=>?_,by rw[VG,GH,Hk,Qcr],λo' kO m hm=>?_,Bv (s4.trans (s5.trans (aj.upd GJ))) n3⟩
    ·rcases Qaa.mp kO with g | g
     ·exact ⟨((Hj o' g).1.same s5).ts ts,(Hj o' g).2⟩
     ·exact ⟨(Dk o' g).1.ts ts,(Dk o' g).2⟩
    ·rw[<-take_snoc ho]at kO
     rcases Qaa.mp kO with g | g
     ·obtain ⟨o2,h2,e2⟩:=GI o' g m hm
      exact ⟨o2,Qb3 _ h2,e2⟩
     ·rw[VH.mp g]at hm ⊢
      obtain ⟨o2,h2,e2⟩:=JK m ()
      exact ⟨o2,Qaq _ h2,e2⟩
  ·rintro σ H4 ⟨Dj,v5,rfl,uc,Hj,GH,GI,s4⟩
   rw[fW]at GH GI
   rw[Qau]at GI
   have Zv:H p3=none:=by
    cases e:H p3 with
    | none=>rfl
    | some u=>rw[s2 _ _ e]at n3;cases n3
   refine ⟨_,rfl,p3,Dj,_,_,_,rfl,Zv,uc,⟨λo ho=>(Hj o ho).1,?_,λo ho=>?_,λk hk=>?_⟩,s2.trans s4⟩
   ·rw[GH,WS,Qai,Qbp ()];rfl
   ·rw[<-take_snoc hr];exact (Hj o ho).2
   ·rw[<-take_snoc hr]at hk
    obtain ⟨k',m,pk,hm,e⟩:=Gg hk
    obtain ⟨o,ho,eo⟩:=A2.all k' pk
    obtain ⟨o2,h2,e2⟩:=GI o ho m (by rw[eo];exact hm)
    exact ⟨o2,h2,by rw[e2,eo,e]⟩
 ·rintro σ H2 ⟨p,os,v2,v3,v4,rfl,np,mU,A2,s2⟩
  rw[ck,Qau]at A2
  exact ⟨_,rfl,q p os H2 np mU A2 s2⟩
theorem oX:bE P w K mg base fI 3 Oh OR ["_law_yard_here","_law_words"] (iO K):=by
 have kK:=ow (P:=P) (w:=w) (base:=base) T
 have vV:=sj (P:=P) (w:=w) (base:=base) T
 refine T.Su.fn.ok b_ (λvs H Q E h=>nB h) (λ_ _ _ _ H vs Q E hr h=>?_)
 refine ⟨_,(ag (ak (i:=2) b_.nd rfl (Or.inl rfl) (cE (aa (bp ab) ab)))
   (ag (bJ PassesOwn.never rfl (b3 K rfl (aq kK (hr.mono ∅) rfl T.MY.mg T.MY.fn.kp T.MY.bd .nil aD (aa (pv 0) (aa (pv 1) ab)))) (aA (i:=3) b_.nd rfl (Or.inl rfl)) (ag (ak (i:=4) b_.nd rfl (Or.inl rfl) (cE ab))
   (ag (bJ PassesOwn.never rfl (b3 K rfl (pv 2)) (aA (i:=5) b_.nd rfl (Or.inr rfl)) (ah (cA (bF K rfl Qan Qcx Qcw gU (pv 4) (aa (bH ["_law_order","_law_orders"] [none,some 5] (b3 K rfl (aq vV (hr.mono ∅) rfl T.Ss.mg T.Ss.fn.kp T.Ss.bd .nil aD (aa (pv 3) ab))) ⟨⟨rfl,rfl,by first | exact .inl rfl | exact .inr rfl⟩,trivial⟩ (λ_ _ _ _=>(aA (i:=0) (by decide+kernel:List.Nodup (["_law_order","_law_orders"]:List Str)) rfl (Or.inl rfl))) (λ_ _ _ _=>eE) (λ_ _ _ _=>(az uR (pv 1) (bp (aa (pv 0) ab))))) ab)))))
   (ah (ak (i:=2) b_.nd rfl (Or.inl rfl) (pv 4))))))
   (ah (aG (bH ["_law_orders","_law_words"] [none,some 1] (b3 K rfl (pv 2)) ⟨⟨rfl,rfl,by first | exact .inl rfl | exact .inr rfl⟩,trivial⟩ (λ_ _ _ _=>(aA (i:=0) (by decide+kernel:List.Nodup (["_law_orders","_law_words"]:List Str)) rfl (Or.inl rfl))) (λ_ _ _ _=>eE) (λ_ _ _ _=>(bp (aa (pv 1) (aa (pv 0) ab))))))))),?_⟩
 obtain ⟨y,wt,ws,rfl,hy,hz,ou,hw,hm,q⟩:=h
 have hs:=Zs1
 refine ⟨by show 0<=sizeLine;decide,λt0 n0=>?_⟩
 refine ⟨by show 1<=sizeLine;decide,λp0 Hh=>?_⟩
 have s0:=(aj.upd (o:= .tup []) n0).trans (aj.upd (o:= .lst [V.ref t0]) Hh)
 have A0:Gi (upd (upd H t0 (.tup [])) p0 (.lst [V.ref t0])) [] [(t0,[])]:=⟨λe he=>by rw[VH.mp he];exact ⟨aj.upd Hh _ _ ae,λ_ h=>absurd h kb⟩,rfl,λe he=>by rw[VH.mp he];exact ⟨rfl,λi a b ha _=>by cases ha⟩,λL hL=>⟨_,VH.mpr rfl,(Qbt.mp hL.1).symm⟩⟩
 have K0:upd (upd H t0 (.tup [])) p0 (.lst [V.ref t0]) p0=some (.lst (nA [(t0,[])])):=ae
 generalize upd (upd H t0 (.tup [])) p0 (.lst [V.ref t0])=H1 at s0 A0 K0 ⊢
 refine ⟨_,rfl,_,rfl,y,wt,ws,rfl,hy,hz,s0 _ _ ou,hw,λsp SR Ha Z7 DH CN mM sa=>?_⟩
 have ll:∀{x:Nat},x<=720->x<=sizeLine:=λh=>by lia
 have Z8:SR.length<=4:=by
  have a:=congrArg List.length mM
  unfold dD at a
  rw[NA,NA]at a
  have:=fF hy
  lia
 refine ⟨sp,rfl,⟨_,a_.of DH⟩,?_⟩
 refine dG (K:=K) (a:=sp) (xs:=iJ SR) (λj σ H'=>∃(p:Addr) (es:List (Addr×List Od)) (v3 v4 v5:Option V),σ=[some (.str (S y)),some (.ref wt),some (.ref p),v3,v4,v5]/\H' p=some (.lst (nA es))/\Gi H' ((dD y ws).take j) es/\aj Ha H') ⟨p0,_,none,none,none,rfl,sa _ _ K0,A0.same sa,aj.refl _⟩ (λj σ H' _ ⟨_,_,_,_,_,_,_,_,g⟩=>a_.of (g _ _ DH)) ?_ ?_
 ·rintro j x σ H2 hx ⟨p,es,v3,v4,v5,rfl,mU,A2,s2⟩
  obtain ⟨o,ho,rfl⟩:=pA hx
  have hj:j<SR.length:=(LL.mp ho).1
  have oo:=(CN o (Xu ho)).same s2
  have hl:(dD y ws)[j]? =some (dv o):=by rw[<-mM,ZN,ho];rfl
  have lj:j<(dD y ws:):=(LL.mp hl).1
  have hf:iN (o.ps:)<=720:=by
   have:=Js hl
   unfold dv at this
   rw[NA]at this
   exact Qak this hm
  have Zw:oq ((dD y ws).take j)*iN (o.ps:)<=720:=by
   have:=vE (L:=dD y ws) (k:=j+1) lj
   rw[<-take_snoc hl,jB]at this
   unfold dv at this
   rw[NA]at this
   exact Qak this hm
  refine ⟨by show 0<=sizeLine;decide,λp3 n3=>?_⟩
  have s3:=Bv (o:= .lst []) (aj.refl H2) n3
  have q5:upd H2 p3 (.lst []) p3=some (.lst (nA [])):=ae
  generalize upd H2 p3 (.lst [])=H3 at s3 q5 ⊢
  refine ⟨_,rfl,p,rfl,⟨_,a_.of (s3 _ _ mU)⟩,?_⟩
  refine dG (K:=K) (a:=p) (xs:=nA es) (λi σ H'=>∃(GK:List (Addr×List Od)) (v5:Option V),σ=[some (.str (S y)),some (.ref wt),some (.ref p),some (.ref o.o),some (.ref p3),v5]/\H' p3=some (.lst (nA GK))/\(∀e∈GK,(H' e.1=some (.tup (iJ e.2))/\∀o∈e.2,kC H' o)/\oQ (e.2.map dv) ((dD y ws).take j++[dv o]))/\GK.length=i*iN (o.ps:)/\(∀e∈es.take i,∀b,b.Perm (dv o)->∃e2∈GK,e2.2.map dv=e.2.map dv++[b])/\aj H2 H')
   ⟨[],v5,rfl,q5,λ_ h=>absurd h kb,(Qev _).symm,λ_ h=>absurd h kb,s3⟩ (λi σ H' _ ⟨_,_,_,_,_,_,_,g⟩=>a_.of (g _ _ mU)) ?_ ?_
  ·rintro i x σ H4 Rp ⟨GK,v5,rfl,uc,Hj,GH,GI,s4⟩
   obtain ⟨e,he,rfl⟩:=zK Rp
   have hi:i<(es:):=(LL.mp he).1
   have te:=A2.tp e (Xu he)
   have pe:=A2.pm e (Xu he)
   have le:(e.2:)=j:=by have:=pe.1;rw[NA,Qai]at this;lia
   have l4:GK.length+iN (o.ps:)<=720:=by
    rw[GH, <-Qcr]
    exact Qak (Qc7 _ (by rw[A2.ln]at hi;exact hi)) Zw
   refine ⟨_,rfl,.inl ⟨rfl,_,a_.of uc⟩,?_⟩
   have o4:=oo.same s4
   refine ⟨_,rfl,o.o,o.ps,rfl,o4.ls,o4.pr,hf,λap as Hb Z9 WV A sb=>?_⟩
   refine ⟨ap,rfl,⟨_,a_.of WV⟩,?_⟩
   have Vj:(as:)=iN (o.ps:):=A.ln
   refine gW (K:=K) (a:=ap) (xs:=iJ as) (λm acc H'=>∃BC:List (Addr×List Od),acc=nA BC/\BC.length=m/\(∀e'∈BC,(H' e'.1=some (.tup (iJ e'.2))/\∀o∈e'.2,kC H' o)/\oQ (e'.2.map dv) ((dD y ws).take j++[dv o]))/\(∀o'∈as.take m,∃e2∈BC,e2.2.map dv=e.2.map dv++[dv o'])/\aj Hb H') (by rw[fW,Vj];lia) (λm acc H' h=>by obtain ⟨_,_,_,_,_,g⟩:=h;exact a_.of (g _ _ WV)) ⟨[],rfl,rfl,λ_ h=>absurd h kb,λ_ h=>absurd h kb,aj.refl _⟩ ?_ ?_
   ·rintro m x acc H5 Nx Vk M9 nK ⟨BC,rfl,Hk,Dk,JK,s5⟩ nx
    obtain ⟨o',kO,rfl⟩:=pA M9
    have WW:=s4.trans (sb.trans s5)
    refine ⟨⟨rfl,trivial⟩,da ?_⟩
    refine ⟨_,rfl,_,rfl,by show 1<=sizeLine;decide,λu2 n2=>?_⟩
    refine ⟨e.1,u2,_,_,rfl,rfl,aj.upd n2 _ _ (WW _ _ te.1),ae,by rw[fW,le];show _+1<=_;lia,λu3 H7 s7 JF=>?_⟩
    have Rv:aj H5 H7:=aj.trans (aj.upd n2) s7
    refine nx _ _ (by rw[VG];show _+1<=m+1;lia) ⟨BC++[(u3,e.2++[o'])],xS BC (u3,e.2++[o']),by rw[VG,Hk];rfl,λe' qf=>?_,λz hz=>?_,s5.trans Rv⟩
    ·rcases Qaa.mp qf with g | g
     ·have k:=Dk e' g
      exact ⟨⟨Rv _ _ k.1.1,λo ho=>(k.1.2 o ho).same Rv⟩,k.2⟩
     ·rw[VH.mp g]
      refine ⟨⟨?_,λz hz=>?_⟩,?_⟩
      ·show H7 u3=some (.tup (iJ (e.2++[o'])))
       rw[<-lY];exact JF
      ·rcases Qaa.mp hz with g2 | g2
       ·exact (te.2 z g2).same (WW.trans Rv)
       ·rw[VH.mp g2];exact (A.ok o' (Xu kO)).same (s5.trans Rv)
      ·show oQ ((e.2++[o']).map dv) _
       rw[Xs]
       exact pe.snoc ((A.pm o' (Xu kO)).map _)
    ·rw[<-take_snoc kO]at hz
     rcases Qaa.mp hz with g | g
     ·obtain ⟨e2,h2,e3⟩:=JK z g
      exact ⟨e2,Qb3 _ h2,e3⟩
     ·rw[VH.mp g]
      exact ⟨_,Qaq _ (VH.mpr rfl),by show (e.2++[o']).map dv=_;rw[Xs];rfl⟩
   ·rintro acc H5 D5 nK ⟨BC,rfl,Hk,Dk,JK,s5⟩ GJ
    rw[fW]at Hk JK
    rw[Qau]at JK
    have Rt:=sb.trans s5
    have zU:=aj.upd (o:= .lst (nA BC)) GJ _ _ (Rt _ _ uc)
    refine ⟨p3,D5,_,_,rfl,rfl,zU,ae,by rw[iB,iB,Hk,Vj];exact ll l4,?_⟩
    rw[Jx]
    have ts:aY H5 (upd (upd H5 D5 (.lst (nA BC))) p3 (.lst (nA (GK++BC)))):=(aY.of (aj.upd GJ)).trans (aY.lD zU)
    have WX:aY H4 (upd (upd H5 D5 (.lst (nA BC))) p3 (.lst (nA (GK++BC)))):=(aY.of Rt).trans ts
    refine ⟨GK++BC,_,rfl,ae,λe' qf=>?_,by rw[VG,GH,Hk,Vj,Qcr],λe' qf b hb=>?_,Bv (s4.trans (Rt.trans (aj.upd GJ))) n3⟩
    ·rcases Qaa.mp qf with g | g
     ·have k:=Hj e' g
      exact ⟨⟨WX _ _ k.1.1,λo ho=>(k.1.2 o ho).ts WX⟩,k.2⟩
     ·have k:=Dk e' g
      exact ⟨⟨ts _ _ k.1.1,λo ho=>(k.1.2 o ho).ts ts⟩,k.2⟩
    ·rw[<-take_snoc he]at qf
     rcases Qaa.mp qf with g | g
     ·obtain ⟨e2,h2,e3⟩:=GI e' g b hb
      exact ⟨e2,Qb3 _ h2,e3⟩
     ·rw[VH.mp g]
      obtain ⟨k,pk,ek⟩:=Dc Pr.pair hb o.ps rfl
      obtain ⟨o',kO,eo⟩:=A.all k pk
      obtain ⟨e2,h2,e3⟩:=JK o' kO
      refine ⟨e2,Qaq _ h2,?_⟩
      rw[e3]
      unfold dv
      rw[eo,ek]
  ·rintro σ H4 ⟨GK,v5,rfl,uc,Hj,GH,GI,s4⟩
   rw[iB]at GH GI
   rw[Qau]at GI
   refine ⟨_,rfl,p3,GK,_,_,_,rfl,uc,?_,s2.trans s4⟩
   rw[<-take_snoc hl]
   refine ⟨λe he=>(Hj e he).1,?_,λe he=>(Hj e he).2,λL hL=>?_⟩
   ·rw[GH,A2.ln,jB]
    unfold dv
    rw[NA]
   ·obtain ⟨L',a,rfl,pL,pa⟩:=hL.cut
    obtain ⟨e,he,ee⟩:=A2.all L' pL
    obtain ⟨e2,h2,e3⟩:=GI e he a pa
    exact ⟨e2,h2,by rw[e3,ee]⟩
 ·rintro σ H2 ⟨p,es,v3,v4,v5,rfl,mU,A2,s2⟩
  have eT:(dD y ws).take (iJ SR:)=dD y ws:=by rw[fW];refine Qar ?_;rw[<-mM,NA];exact RP _
  rw[eT]at A2
  have hle:(es:)<=720:=by rw[A2.ln];exact hm
  have Vl:aj H H2:=s0.trans (sa.trans s2)
  refine ⟨_,rfl,p,rfl,⟨_,a_.of mU⟩,?_⟩
  refine gW (K:=K) (a:=p) (xs:=nA es) (λm acc H'=>∃ds:List (Addr×List Od),acc=nA ds/\ds.map Prod.snd=(es.take m).map Prod.snd/\(∀d∈ds,qC H' d.1 ws d.2)/\aj H2 H') (by rw[iB];lia) (λm acc H' h=>by obtain ⟨_,_,_,_,g⟩:=h;exact a_.of (g _ _ mU)) ⟨[],rfl,rfl,λ_ h=>absurd h kb,aj.refl _⟩ ?_ ?_
  ·rintro m x acc H5 Nx Vk M9 nK ⟨ds,rfl,ed,Dk,s5⟩ nx
   obtain ⟨e,he,rfl⟩:=zK M9
   have te:=A2.tp e (Xu he)
   refine ⟨⟨rfl,trivial⟩,da ?_⟩
   refine ⟨_,rfl,_,rfl,by show 2<=sizeLine;decide,λd nd=>?_⟩
   have sd:=aj.upd (o:= .tup [.ref wt,.ref e.1]) nd
   refine nx _ _ (by rw[VG];show _+1<=m+1;lia) ⟨ds++[(d,e.2)],xS ds (d,e.2),by rw[Xs,ed, <-take_snoc he,Xs];rfl,λd' v_=>?_,s5.trans sd⟩
   rcases Qaa.mp v_ with g | g
   ·exact (Dk d' g).same sd
   ·rw[VH.mp g]
    exact ⟨⟨wt,e.1,ae,sd _ _ (s5 _ _ (Vl _ _ ou)),sd _ _ (s5 _ _ te.1)⟩,λo ho=>(te.2 o ho).same (s5.trans sd)⟩
  ·rintro acc H5 D5 nK ⟨ds,rfl,ed,Dk,s5⟩ GJ
   rw[iB,Qau]at ed
   have nD:H D5=none:=by
    cases e:H D5 with
    | none=>rfl
    | some u=>rw[s5 _ _ (Vl _ _ e)]at GJ;cases GJ
   have sd:=aj.upd (o:= .lst (nA ds)) GJ
   have ld:(ds:)=(es:):=by have:=congrArg List.length ed;rwa [NA,NA]at this
   refine q D5 ds _ nD ae (λd hd=>⟨(Dk d hd).same sd,?_⟩) (by rw[ld];exact hle) (λz=>by rw[z]at ld;have:=Bt (dD y ws);rw[<-A2.ln, <-ld]at this;exact absurd this ∅) (λos mL=>?_) (Vl.trans (s5.trans sd))
   ·have k:d.2∈es.map Prod.snd:=by rw[<-ed];exact Qfe hd
    obtain ⟨e,he,ee⟩:=Qam.mp k
    rw[<-ee]
    exact t_.mpr (A2.pm e he)
   ·obtain ⟨e,he,ee⟩:=A2.all _ (t_.mp mL)
    have k:e.2∈ds.map Prod.snd:=by rw[ed];exact Qfe he
    obtain ⟨d,hd,U1⟩:=Qam.mp k
    exact ⟨d,hd,by rw[U1,ee]⟩
theorem zY:bE P w K mg base fI 2 Oc ON ["_law_yard_here","_law_drawing"] (qN K):=by
 have q0:=ub (P:=P) (w:=w) (base:=base) T
 walk_at"A"
 refine T.Sr.fn.ok dW (λvs H Q E h=>xF h) (λ_ _ _ _ H vs Q E hr h=>?_)
 refine ⟨_,(ag (yf (pv 1) (eG (n:=2) K rfl rfl (bf (aA (i:=2) dW.nd rfl (Or.inl rfl)) (bf (aA (i:=3) dW.nd rfl (Or.inl rfl)) eh))))
   (ag (ak (i:=4) dW.nd rfl (Or.inl rfl) (aq q0 (hr.mono ∅) rfl T.MW.mg T.MW.fn.kp T.MW.bd .nil aD (aa (pv 0) ab)))
   (ag (ak (i:=5) dW.nd rfl (Or.inl rfl) (cE ab))
   (ag (bJ PassesOwn.never rfl (mT (pv 0)) (aA (i:=6) dW.nd rfl (Or.inr rfl)) (ah (cx (aF (D4 K rfl) (pv 6) (pv 4) (by with_unfolding_all rfl)) (ah (cA (bF K rfl Qan Qcx Qcw gU (pv 5) (aa (bH ["_law_strand","_law_end"] [none,some 6] (uH K rfl (aM (bc K rfl) (pv 3) (bF K rfl Qan PySem.F.slot_list_index PySem.F.type_list_index (sV K rfl) (pv 4) (aa (pv 6) ab)) (λ_ _=>rfl))) ⟨⟨rfl,rfl,by first | exact .inl rfl | exact .inr rfl⟩,trivial⟩ (λ_ _ _ _=>(aA (i:=0) (by decide+kernel:List.Nodup (["_law_strand","_law_end"]:List Str)) rfl (Or.inl rfl))) (λ_ _ _ _=>eE) (λ_ _ _ _=>(bp (aa (pv 1) (aa (pv 0) ab))))) ab)))) (ag (ak (i:=7) dW.nd rfl (Or.inl rfl) (aM (bc K rfl) (pv 3) (bF K rfl Qan PySem.F.slot_list_index PySem.F.type_list_index (sV K rfl) (pv 4) (aa (aq cn (hr.mono ∅) rfl T.mG.mg T.mG.fn.kp T.mG.bd .nil aD (aa (pv 6) ab)) ab)) (λ_ _=>rfl)))
   (ah (cA (bF K rfl Qan Qcx Qcw gU (pv 5) (aa (bH ["_law_strand","_law_end"] [none,some 6] (Ia K rfl rfl T.z_reversed (aa (pv 7) ab)) ⟨⟨rfl,rfl,by first | exact .inl rfl | exact .inr rfl⟩,trivial⟩ (λ_ _ _ _=>(aA (i:=0) (by decide+kernel:List.Nodup (["_law_strand","_law_end"]:List Str)) rfl (Or.inl rfl))) (λ_ _ _ _=>eE) (λ_ _ _ _=>(bp (aa (pv 1) (aa (pv 0) ab))))) ab))))))))
   (ah (aG (pv 5))))))),?_⟩
 obtain ⟨y,dr,ws,os,rfl,hy,hz,mL,hd,q⟩:=h
 have hs:=Zs1
 have UN:=fF hy
 have CN:=mL.1
 obtain ⟨⟨wt,ot,d1,d2,d3⟩,dO⟩:=id hd
 refine ⟨_,rfl,dr,_,rfl,bW.of d1,rfl,_,_,rfl,_,_,rfl,rfl,?_⟩
 refine ⟨_,rfl,y,rfl,(),λp0 l0 H0 n0 K0 WY UJ s0=>?_⟩
 rw[kB hy.lt]at WY
 have el:=pb WY UJ
 subst el
 refine ⟨by show 0<=sizeLine;decide,λp1 n1=>?_⟩
 have Zx:H p1=none:=aj.free s0 n1
 have Z_:p0≠p1:=ao K0 n1
 have Gx:=s0.trans (aj.upd (o:=HO.lst []) n1)
 refine ⟨_,rfl,y,rfl,?_⟩
 refine uE (xs:=cT y) (λi σ H'=>∃(ev sv:Option V) (ps:List Pu),σ=[some (.str (S y)),some (.ref dr),some (.ref wt),some (.ref ot),some (.ref p0),some (.ref p1),ev,sv]/\H' p1=some (.lst (oj ps))/\(∀p∈ps,vz H' p)/\ps.map Pu.is=(y.take i).flatMap (cG y os)/\(ps:)<=100*i/\aj H0 H')
  ⟨none,none,[],rfl,ae,λ_ h=>absurd h kb,rfl,Qac _,aj.upd n1⟩ ?_ ?_
 ·rintro i x σ H1 hx ⟨ev,sv,ps,rfl,iZ,oS,iV,h7,s1⟩
  obtain ⟨e,he,rfl⟩:=fT hx
  have zt:=Xu he
  have hi:i<(y:):=(LL.mp he).1
  have BB:=hy.lt e zt
  obtain ⟨o,o1,o2,o3⟩:=gZ (os:=os) hy zt ()
  have ofw:=(dO o o1).fw
  have sH:=s0.trans s1
  have GL:=s1 _ _ K0
  have ok:=(dO o o1).same sH
  have P4:=A8 hy zt
  have WZ:(y.take (i+1)).flatMap (cG y os)=(y.take i).flatMap (cG y os)++cG y os e:=by
   rw[<-take_snoc he,Qbd,Qa6,Qek,Qba]
  refine ⟨_,rfl,_,rfl,p0,_,rfl,.inl (a_.of GL),rfl,D9 _,_,rfl,bR (λz=>?_) (λz=>?_)⟩
  ·have W0:e∈aL:=by
    have z':DL (.str (S [e])) (cT (cq y))=true:=z
    rw[Ao]at z'
    have:=(Qaz.mp ((dq y).mem_iff.mp (of_decide_eq_true z'))).2
    rw[f_ BB]at this
    exact of_decide_eq_true this
   have hc:e∉ik:=λz=>mY e z W0
   rw[(aX e W0).2.1]at o2 P4
   have Vm:lZ y os e=o.ps:=by
    unfold lZ
    rw[KC e BB.mem,decide_eq_false hc,if_neg ∅,o3]
   refine ⟨_,rfl,.inl ⟨rfl,_,a_.of iZ⟩,?_⟩
   refine ⟨_,rfl,_,rfl,.inl ⟨rfl,_,a_.of GL⟩,_,rfl,p0,cq y,e,rfl,rfl,GL,P4,ot,_,_,_,rfl,rfl,bW.of (sH _ _ d3),b4 (zl o2),o.o,rfl,⟨_,bW.of ok.tp⟩,?_⟩
   refine qb (K:=K) (a:=o.o) (xs:=iA o.ps) (λj acc H'=>aj H1 H'/\∃us:List Pu,acc=oj us/\(∀p∈us,vz H' p)/\us.map Pu.is=((o.ps.take j).map λp=>(p.c,p.i,e))/\(us:)=j) (by rw[ck];lia) (λi acc H' h=>bW.of (h.1 _ _ ok.tp)) ⟨aj.refl _,[],rfl,λ_ h=>absurd h kb,rfl,rfl⟩ ?_ ?_
   ·rintro j x acc H2 Nx hj hx nR ⟨s2,us,rfl,j6,jH,pE⟩ nx
    obtain ⟨p,nL,rfl⟩:=qB hx
    have Rw:=(ok.pr p (Xu nL)).same s2
    refine ⟨⟨rfl,trivial⟩,da ⟨_,rfl,_,rfl,by show 2<=sizeLine;decide,λt nt=>?_⟩⟩
    have st:=aj.upd (o:=HO.tup [V.str (S [e]),V.ref p.t]) nt
    walk_at"3"
    ·rcases Qaa.mp hu with g | g
     ·exact (j6 u g).ts (aY.of st)
     ·rw[VH.mp g];exact ⟨ae,Rw.same st⟩
    ·rw[Xs,jH, <-take_snoc nL,Xs];rfl
   ·rintro acc H2 D nR ⟨s2,us,rfl,j6,jH,pE⟩ hD
    rw[ck]at jH pE
    rw[Qau]at jH
    have sD:=aj.upd (o:=HO.lst (oj us)) hD
    have GN:=sD _ _ (s2 _ _ iZ)
    refine ⟨p1,D,_,_,rfl,rfl,GN,ae,by rw[jS,jS];lia,?_⟩
    have tU:aY (upd H2 D (.lst (oj us))) (upd (upd H2 D (.lst (oj us))) p1 (.lst (oj ps++oj us))):=aY.lD GN
    have tA:=((aY.of s2).trans (aY.of sD)).trans tU
    refine ⟨_,_,ps++us,rfl,by rw[ae,Bq],λu hu=>?_,?_,by rw[VG];lia,λa u ea=>?_⟩
    ·rcases Qaa.mp hu with g | g
     ·exact (oS u g).ts tA
     ·exact (j6 u g).ts ((aY.of sD).trans tU)
    ·rw[Xs,iV,jH,WZ]
     unfold cG
     rw[Vm]
    ·rw[ar (ao ea n1)];exact sD _ _ (s2 _ _ (s1 a u ea))
  ·have hc:e∈ik:=by
    have z': ¬DL (.str (S [e])) (cT (cq y))=true:=z
    rw[Ao]at z'
    rcases BB with g | g
    ·exact absurd (decide_eq_true ((dq y).mem_iff.mpr (Qaz.mpr ⟨zt,(aX e g).1⟩))) z'
    ·exact g
   rw[(bL e hc).2.1]at o2 P4
   have Vm:lZ y os e=o.ps.reverse:=by
    unfold lZ
    rw[KC e BB.mem,decide_eq_true hc,if_pos rfl,o3]
   refine ⟨_,rfl,_,rfl,.inl ⟨rfl,_,a_.of GL⟩,_,rfl,e,rfl,BB,p0,cq y,aB e,rfl,rfl,GL,P4,ot,_,_,_,rfl,rfl,bW.of (sH _ _ d3),b4 (zl o2),?_⟩
   refine ⟨_,rfl,.inl ⟨rfl,_,a_.of iZ⟩,?_⟩
   refine ⟨_,rfl,o.o,_,rfl,bW.of ok.tp,?_⟩
   refine Cm (K:=K) (a:=o.o) (xs:=iA o.ps) (λj acc H'=>aj H1 H'/\∃us:List Pu,acc=oj us/\(∀p∈us,vz H' p)/\us.map Pu.is=((o.ps.reverse.take j).map λp=>(p.c,p.i,e))/\(us:)=j) (by rw[ck];lia) (λi acc H' h=>bW.of (h.1 _ _ ok.tp)) ⟨aj.refl _,[],rfl,λ_ h=>absurd h kb,rfl,rfl⟩ ?_ ?_
   ·rintro j x acc H2 Nx hj hx nR ⟨s2,us,rfl,j6,jH,pE⟩ nx
    rw[A9]at hx
    obtain ⟨p,nL,rfl⟩:=qB hx
    have Rw:=(ok.pr p (Qdw.mp (Xu nL))).same s2
    refine ⟨⟨rfl,trivial⟩,da ⟨_,rfl,_,rfl,by show 2<=sizeLine;decide,λt nt=>?_⟩⟩
    have st:=aj.upd (o:=HO.tup [V.str (S [e]),V.ref p.t]) nt
    walk_at"3"
    ·rcases Qaa.mp hu with g | g
     ·exact (j6 u g).ts (aY.of st)
     ·rw[VH.mp g];exact ⟨ae,Rw.same st⟩
    ·rw[Xs,jH, <-take_snoc nL,Xs];rfl
   ·rintro acc H2 D nR ⟨s2,us,rfl,j6,jH,pE⟩ hD
    rw[ck]at jH pE
    rw[<-Qa1 (as:=o.ps),Qau]at jH
    have sD:=aj.upd (o:=HO.lst (oj us)) hD
    have GN:=sD _ _ (s2 _ _ iZ)
    refine ⟨p1,D,_,_,rfl,rfl,GN,ae,by rw[jS,jS];lia,?_⟩
    have tU:aY (upd H2 D (.lst (oj us))) (upd (upd H2 D (.lst (oj us))) p1 (.lst (oj ps++oj us))):=aY.lD GN
    have tA:=((aY.of s2).trans (aY.of sD)).trans tU
    refine ⟨_,_,ps++us,rfl,by rw[ae,Bq],λu hu=>?_,?_,by rw[VG];lia,λa u ea=>?_⟩
    ·rcases Qaa.mp hu with g | g
     ·exact (oS u g).ts tA
     ·exact (j6 u g).ts ((aY.of sD).trans tU)
    ·rw[Xs,iV,jH,WZ]
     unfold cG
     rw[Vm]
    ·rw[ar (ao ea n1)];exact sD _ _ (s2 _ _ (s1 a u ea))
 ·rintro σ H1 ⟨ev,sv,ps,rfl,iZ,oS,iV,h7,s1⟩
  rw[aW]at h7 iV
  rw[Qau]at iV
  exact ⟨_,rfl,q p1 ps H1 Zx iZ oS iV () (s0.trans s1)⟩
theorem JL:bE P w K mg base fI 3 Oe OO ["_law_yard_here","_law_drawing"] (Bs K):=by
 have Dm:=zY (P:=P) (w:=w) (base:=base) T
 walk_at"A"
 refine T.MX.fn.ok dP (λvs H Q E h=>Gd h) (λ_ _ _ _ H vs Q E hr h=>?_)
 refine ⟨_,(ag (ak (i:=2) dP.nd rfl (Or.inl rfl) (dX (yT (P:=P) (w:=w) rfl rfl hr rfl) rfl T.z_dict boot_dict (aa (bH ["_law_k","_law_point"] [none,none] (qa K rfl rfl T.z_enumerate (aa (aq Dm (hr.mono ∅) rfl T.Sr.mg T.Sr.fn.kp T.Sr.bd .nil aD (aa (pv 0) (aa (pv 1) ab))) ab)) trivial (λ_ _ _ _=>(eG (n:=2) K rfl rfl (bf (aA (i:=0) (by decide+kernel:List.Nodup (["_law_k","_law_point"]:List Str)) rfl (Or.inl rfl)) (bf (aA (i:=1) (by decide+kernel:List.Nodup (["_law_k","_law_point"]:List Str)) rfl (Or.inl rfl)) eh)))) (λ_ _ _ _=>eE) (λ_ _ _ _=>(bp (aa (pv 1) (aa (pv 0) ab))))) ab)))
   (ag (ak (i:=3) dP.nd rfl (Or.inl rfl) (cE ab))
   (ag (bJ PassesOwn.never rfl (lC K rfl rfl T.z_enumerate (aa (aM (bc K rfl) (pv 1) ai (λ_ _=>rfl)) ab)) (eG (n:=2) K rfl rfl (bf (aA (i:=4) dP.nd rfl (Or.inl rfl)) (bf (aA (i:=5) dP.nd rfl (Or.inl rfl)) eh))) (ah (bJ PassesOwn.never rfl (p9 rfl T.z_enumerate (aa (pv 5) ab)) (eG (n:=2) K rfl rfl (bf (aA (i:=6) dP.nd rfl (Or.inl rfl)) (bf (aA (i:=7) dP.nd rfl (Or.inl rfl)) eh))) (ag (ak (i:=8) dP.nd rfl (Or.inl rfl) (az eO (az dQ (pv 6) ai) (aC aR rfl T.z_len Qaj (aa (pv 5) ab))))
   (ah (cA (bF K rfl Qan Qb0 Qbz eR (pv 3) (aa (aC (rO K rfl) rfl T.z_sorted boot_sorted (aa (cE (aa (wQ (P:=P) (w:=w) rfl rfl (Em hr) (pv 2) (bp (aa (aq cn (hr.mono ∅) rfl T.mG.mg T.mG.fn.kp T.mG.bd .nil aD (aa (aM ie (pv 5) (pv 8) (λ_ _=>rfl)) ab)) (aa (bp (aa (pv 4) (aa (pv 8) ab))) ab))) (λ_ _=>rfl)) (aa (wQ (P:=P) (w:=w) rfl rfl (Em hr) (pv 2) (bp (aa (pv 7) (aa (bp (aa (pv 4) (aa (pv 6) ab))) ab))) (λ_ _=>rfl)) ab))) ab)) ab))))))))
   (ag (ak (i:=9) dP.nd rfl (Or.inl rfl) ai)
   (ag (bJ PassesOwn.never rfl (qa K rfl rfl T.z_enumerate (aa (pv 3) ab)) (eG (n:=2) K rfl rfl (bf (aA (i:=10) dP.nd rfl (Or.inl rfl)) (bf (aA (i:=11) dP.nd rfl (Or.inr rfl)) eh))) (ah (ak (i:=9) dP.nd rfl (Or.inl rfl) (az ba (pv 9) (aC (aT K rfl) rfl T.z_len Qaj (aa (bH ["_law_two","_law_one"] [none,some 11] (b3 K rfl (bG (wA K rfl) (pv 3) cZ (bA (pv 10)))) ⟨⟨rfl,rfl,by first | exact .inl rfl | exact .inr rfl⟩,trivial⟩ (λ_ _ _ _=>(aA (i:=0) (by decide+kernel:List.Nodup (["_law_two","_law_one"]:List Str)) rfl (Or.inl rfl))) (λ_ _ _ _=>(uD (aF LV (we i7 i7 (aM (bB K rfl) (pv 1) ai (λ_ _=>rfl)) (aM (bB K rfl) (pv 0) ai (λ_ _=>rfl)) (aM (bB K rfl) (pv 1) ai (λ_ _=>rfl))) (we i7 i7 (aM (bB K rfl) (pv 1) ai (λ_ _=>rfl)) (aM (bB K rfl) (pv 0) ai (λ_ _=>rfl)) (aM (bB K rfl) (pv 1) ai (λ_ _=>rfl))) (aP _)))) (λ_ _ _ _=>(pv 0))) ab))))))
   (ah (aG (pv 9)))))))),?_⟩
 obtain ⟨y,dr,ws,os,rfl,hy,hz,vR,mL,hd,q⟩:=h
 have hs:=Zs1
 have HX:=zr hy mL
 obtain ⟨⟨wt,ot,d1,d2,d3⟩,dO⟩:=id hd
 refine Ux λN0 h0=>?_
 refine ⟨_,rfl,_,rfl,y,dr,ws,os,rfl,hy,hz,mL,hd,λp1 ps H1 n1 h1 oS iV h7 s1=>?_⟩
 refine ⟨p1,rfl,⟨_,a_.of h1⟩,?_⟩
 refine yV (K:=K) (a:=p1) (xs:=oj ps) (λj acc H'=>aj H1 H'/\∃es:List Kp,acc=es.map (λe=>V.ref e.t)/\(∀e∈es,Av H' e)/\es.map (·.k)=((dF y os).take j).map mm/\(∀(m:Nat) (e:Kp),es[m]? =some e->e.n=((0+m:Nat):Int))/\(es:)=j) (by rw[jS];lia) (λi acc H' h=>a_.of (h.1 _ _ h1)) ⟨aj.refl _,[],rfl,λ_ h=>absurd h kb,rfl,λm e h=>by simp at h,rfl⟩ ?_ ?_
 ·rintro j x acc H2 T2 Nx hx nR ⟨s2,es,rfl,Rx,OY,SG,BB⟩ nT nx
  obtain ⟨p,hp,rfl⟩:=MO hx
  have Rw:=(oS p (Xu hp)).ts (aY.of s2)
  have Rg:(dF y os)[j]? =some p.is:=by rw[<-iV,ZN,hp];rfl
  have sT:=aj.upd (o:=HO.tup [V.int j,V.ref p.t]) nT
  refine ⟨T2,_,rfl,bW.of ae,rfl,_,_,rfl,_,_,rfl,rfl,trivial,da ?_⟩
  refine ⟨_,rfl,_,rfl,by show 2<=sizeLine;decide,λt nt=>?_⟩
  have st:=sT.trans (aj.upd (o:=HO.tup [V.ref p.t,V.int j]) nt)
  refine nx _ _ (by simpa using nR) ⟨s2.trans st,es++[⟨t,p.t,mm p.is,j⟩],by rw[Xs];rfl,λe he=>?_,?_,λm e hm=>?_,by simp[BB]⟩
  ·rcases Qaa.mp he with g | g
   ·exact ⟨st _ _ (Rx e g).tp,(Rx e g).ky.ts (aY.of st)⟩
   ·rw[VH.mp g];exact ⟨ae,(Rw.ts (aY.of st)).key⟩
  ·rw[Xs,OY, <-take_snoc Rg,Xs];rfl
  ·by_cases z:m<(es:)
   ·rw[Qa0 z]at hm;exact SG m e hm
   ·have Ff:m=(es:):=by
     have:=(LL.mp hm).1
     rw[VG,List.length_singleton]at this
     lia
    subst Ff
    rw[Qa5 (RP _),Qew]at hm
    cases hm
    show (j:Int)=_
    lia
 ·rintro acc H2 D nR ⟨s2,es,rfl,Rx,OY,SG,BB⟩ hD
  have Vn:(ps:)=(dF y os:):=by rw[<-iV,NA]
  rw[jS]at OY BB
  rw[Vn,Qau]at OY
  have sD:=aj.upd (o:=HO.lst (es.map λe=>V.ref e.t)) hD
  have Ry:∀e∈es,Av (upd H2 D (HO.lst (es.map λe=>V.ref e.t))) e:=λe he=>⟨sD _ _ (Rx e he).tp,(Rx e he).ky.ts (aY.of sD)⟩
  have Zy:(es.map (·.k)).Nodup:=by
   rw[OY]
   show (List.map _ _).Pairwise (· ≠ ·)
   rw[Qbl]
   exact HX.imp λ{a b} g z=>g (xG z)
  refine ⟨D,es,rfl,ae,Ry,Zy,(),λdc Zz=>?_⟩
  have sC:=aj.upd (o:=G4 P w dc (Cj es)) Zz
  have QP:upd (upd H2 D (HO.lst (es.map λe=>V.ref e.t))) dc (G4 P w dc (Cj es)) dc=some (G4 P w dc (Cj es)):=ae
  have GO:∀e∈Cj es,jg (upd (upd H2 D (HO.lst (es.map λe=>V.ref e.t))) dc (G4 P w dc (Cj es))) e.1 e.2.1:=λe he=>by
   unfold Cj at he
   obtain ⟨e',qf,rfl⟩:=Qam.mp he
   exact (Ry e' qf).ky.ts (aY.of sC)
  have s3:aj H (upd (upd H2 D (HO.lst (es.map λe=>V.ref e.t))) dc (G4 P w dc (Cj es))):=((s1.trans s2).trans sD).trans sC
  generalize upd (upd H2 D (HO.lst (es.map λe=>V.ref e.t))) dc (G4 P w dc (Cj es))=H3 at QP GO s3 ⊢
  have K1:∀x∈dF y os,((Cj es).find? λz=>decide (z.1=mm x)).map (·.2.2)=some (((dF y os).idxOf x:Nat):Int):=λx hx=>by
   have:=KI (dF y os) es 0 OY SG hx
   rw[Qc9]at this
   exact this
  refine h0 _ _ ⟨by show 0<=sizeLine;decide,λp5 n5=>?_⟩
  refine QJ λN1 h1=>?_
  have OX:=aj.upd (o:=HO.lst []) n5
  have Wf:=vR.wW
  have KJ:=s3 _ _ d1
  have JA:=s3 _ _ d2
  refine ⟨_,rfl,dr,_,0,_,rfl,rfl,bW.of (OX _ _ KJ),rfl,?_⟩
  refine ⟨wt,rfl,⟨_,bW.of (OX _ _ JA)⟩,?_⟩
  refine jJ (K:=K) (a:=wt) (xs:=j7 ws) (λj σ H'=>∃(us:List Ch) (cv wv iv lv bv:Option V),σ=[some (.str (S y)),some (.ref dr),some (.ref dc),some (.ref p5),cv,wv,iv,lv,bv,none,none,none]/\H' p5=some (.lst (rX us))/\(∀u∈us,xM H' u/\u.t≠p5)/\us.map Ch.v=fk (dF y os) ws j/\(us:)<=12*j/\aj H3 H')
   ⟨[],none,none,none,none,none,rfl,ae,λ_ h=>absurd h kb,rfl,Qac _,OX⟩ (λj σ H' _ ⟨_,_,_,_,_,_,_,_,_,_,_,h⟩=>bW.of (h _ _ JA)) ?_ ?_
  ·rintro j x σ H4 T hx ⟨us,cv,wv,iv,lv,bv,rfl,uc,j6,jH,pE,s4⟩ nT
   have hj:j<(ws:):=by
    have:=(LL.mp hx).1
    rwa [cD]at this
   rw[kr hj]at hx
   cases hx
   have zS:ws[j]? =some ws[j]:=LK hj
   obtain ⟨Gz,pC⟩:=vR.all _ (Qa7 hj)
   generalize ws[j]=w0 at zS Gz pC ⊢
   have sT:=aj.upd (o:= .tup [.int j,.str (S w0)]) nT
   walk_at"k"
   refine ⟨_,rfl,w0,rfl,?_⟩
   refine wG (l:=w0) (λi σ H'=>∃(us:List Ch) (iv lv bv:Option V),σ=[some (.str (S y)),some (.ref dr),some (.ref dc),some (.ref p5),some (.int j),some (.str (S w0)),iv,lv,bv,none,none,none]/\H' p5=some (.lst (rX us))/\(∀u∈us,xM H' u/\u.t≠p5)/\us.map Ch.v=fk (dF y os) ws j++kD (dF y os) j w0 i/\(us:)<=12*j+i/\aj H3 H')
    ⟨us,iv,lv,bv,rfl,sT _ _ uc,λu hu=>⟨sT _ _ (j6 u hu).1,(j6 u hu).2⟩,by rw[jH];show _=_++[];rw[Qba],(),s4.trans sT⟩ ?_ ?_
   ·clear j6 jH pE uc s4 sT nT
    rintro i l σ H5 T5 hl ⟨us,iv,lv,bv,rfl,zU,j6,jH,pE,s5⟩ nT
    have hi:=(LL.mp hl).1
    have sT:=aj.upd (o:=HO.tup [V.int i,V.str (S [l])]) nT
    refine ⟨T5,_,rfl,bW.of ae,rfl,_,_,rfl,_,_,rfl,rfl,?_⟩
    show x_ _ _ _ _ _
    refine wX λDx JH=>?_
    have JM:=sT _ _ zU
    have Vo:=s5.trans sT
    have Rz:∀u∈us,xM (upd H5 T5 (HO.tup [V.int i,V.str (S [l])])) u/\u.t≠p5:=λu hu=>⟨sT _ _ (j6 u hu).1,(j6 u hu).2⟩
    generalize upd H5 T5 (HO.tup [V.int i,V.str (S [l])])=H6 at JM Vo Rz ⊢
    have h7:=vn hi
    have e1:w0[ng (w0:) i]? =some (w0.getD (ng (w0:) i) 0):=by rw[Xw,LK h7];rfl
    have e2:w0.getD i 0=l:=by rw[Xw,hl];rfl
    have m1:=K1 _ (xr hy mL zS e1 (Gz _ (Xu e1)) (.inr rfl))
    have m2:=K1 _ (xr hy mL zS hl (Gz _ (Xu hl)) (.inl rfl))
    have M7:(0:Int)<((w0:):Int):=by lia
    have ZA:=vp hi
    refine ⟨_,rfl,_,_,rfl,rfl,_,rfl,w0,rfl,(),_,_,rfl,rfl,M7,?_⟩
    have Vp:(λi j:Int=>V.int (i%j)) ((i:Int) - 1) ((w0:):Int)=V.int ((ng (w0:) i:Nat):Int):=congrArg V.int ZA
    rw[Vp]
    have x3:=hy.lt _ (Gz _ (Xu e1))
    have SS:dJ (dF y os) j w0 i=(j,i,(dF y os).idxOf (j,ng (w0:) i,aB (w0.getD (ng (w0:) i) 0)),(dF y os).idxOf (j,i,l)):=by unfold dJ;rw[e2]
    generalize w0.getD (ng (w0:) i) 0=l1 at e1 m1 x3 SS
    generalize (dF y os).idxOf (j,ng (w0:) i,aB l1)=k1 at m1 SS
    generalize (dF y os).idxOf (j,i,l)=k2 at m2 SS
    refine ⟨_,rfl,.inl ⟨rfl,_,a_.of JM⟩,?_⟩
    refine ⟨_,rfl,_,rfl,_,rfl,w0,_,l1,rfl,rfl,(),b4 e1,l1,rfl,x3,_,rfl,_,rfl,by show 2<=sizeLine;decide,λt1 Ra=>⟨by show 2<=sizeLine;decide,λt2 KW=>?_⟩⟩
    have vW:=aj.upd (o:=HO.tup [V.int j,V.int (ng (w0:) i:Nat)]) Ra
    have uk:=aj.upd (o:=HO.tup [V.str (S [aB l1]),V.ref t1]) KW
    have W2:jg (upd (upd H6 t1 (HO.tup [V.int j,V.int (ng (w0:) i:Nat)])) t2 (HO.tup [V.str (S [aB l1]),V.ref t1])) (mm (j,ng (w0:) i,aB l1)) t2:=⟨t1,ae,uk _ _ ae⟩
    have SU:=vW.trans uk
    generalize upd (upd H6 t1 (HO.tup [V.int j,V.int (ng (w0:) i:Nat)])) t2 (HO.tup [V.str (S [aB l1]),V.ref t1])=H7 at SU W2 ⊢
    have Vq:=Vo.trans SU
    refine ⟨dc,_,_,t2,_,rfl,Vq _ _ QP,λe he=>(GO e he).ts (aY.of Vq),rfl,W2,m1,?_⟩
    refine ⟨_,rfl,_,rfl,_,rfl,_,rfl,by show 2<=sizeLine;decide,λt3 Rb=>⟨by show 2<=sizeLine;decide,λt4 Rc=>?_⟩⟩
    have Lk:=aj.upd (o:=HO.tup [V.int j,V.int i]) Rb
    have W3:=aj.upd (o:=HO.tup [V.str (S [l]),V.ref t3]) Rc
    have W4:jg (upd (upd H7 t3 (HO.tup [V.int j,V.int i])) t4 (HO.tup [V.str (S [l]),V.ref t3])) (mm (j,i,l)) t4:=⟨t3,ae,W3 _ _ ae⟩
    have SV:=Lk.trans W3
    generalize upd (upd H7 t3 (HO.tup [V.int j,V.int i])) t4 (HO.tup [V.str (S [l]),V.ref t3])=H9 at SV W4 ⊢
    have W5:=Vq.trans SV
    refine ⟨dc,_,_,t4,_,rfl,W5 _ _ QP,λe he=>(GO e he).ts (aY.of W5),rfl,W4,m2,by show 2<=sizeLine;decide,λt5 ZC=>?_⟩
    have GX:=aj.upd (o:=HO.lst [V.int (k1:Nat),V.int (k2:Nat)]) ZC
    refine ⟨t5,[((k1:Nat):Int),((k2:Nat):Int)],rfl,a_.of ae,by show 2<64;decide,λt6 ms Vr pm pw=>?_⟩
    have em:ms=Jl (dJ (dF y os) j w0 i):=MP (by rw[SS];exact pm) pw
    subst em
    have ZD:=aj.upd (o:=HO.lst ((Jl (dJ (dF y os) j w0 i)).map V.int)) Vr
    have W6:upd (upd H9 t5 (HO.lst [V.int (k1:Nat),V.int (k2:Nat)])) t6 (HO.lst ((Jl (dJ (dF y os) j w0 i)).map V.int)) t6=some (.lst ((Jl (dJ (dF y os) j w0 i)).map V.int)):=ae
    have SX:=((SU.trans SV).trans GX).trans ZD
    have RA:=SX _ _ JM
    have W7:t6≠p5:=λz=>by rw[z,((SU.trans SV).trans GX) _ _ JM]at Vr;cases Vr
    generalize upd (upd H9 t5 (HO.lst [V.int (k1:Nat),V.int (k2:Nat)])) t6 (HO.lst ((Jl (dJ (dF y os) j w0 i)).map V.int))=HA at SX RA W6 ⊢
    refine ⟨p5,_,_,rfl,rfl,RA,by rw[mr];lia,?_⟩
    refine JH _ _ ⟨us++[⟨t6,dJ (dF y os) j w0 i⟩],_,_,_,rfl,by rw[ae];exact congrArg (λx=>some (HO.lst x)) (xK us ⟨t6,dJ (dF y os) j w0 i⟩),λu hu=>?_,by rw[Xs,jH,og,Qbs];rfl,by rw[VG];show (us:)+1<=_;lia,λa o ea=>by rw[ar (ao ea n5)];exact SX _ _ (Vo a o ea)⟩
    rcases Qaa.mp hu with g | g
    ·obtain ⟨g1,g2⟩:=Rz u g
     exact ⟨by unfold xM;rw[ar g2];exact SX _ _ g1,g2⟩
    ·rw[VH.mp g]
     exact ⟨by unfold xM;rw[ar W7];exact W6,W7⟩
   ·rintro σ H5 ⟨us,iv,lv,bv,rfl,zU,j6,jH,pE,s5⟩
    exact ⟨us,_,_,_,_,_,rfl,zU,j6,by rw[jH,l_ zS],(),s5⟩
  ·rintro σ H4 ⟨us,cv,wv,iv,lv,bv,rfl,zU,j6,jH,pE,s4⟩
   rw[cD]at jH pE
   have Vs:us.map Ch.v=cS y ws os:=jH
   refine h1 _ _ ?_
   refine QJ λN2 h2=>?_
   refine ⟨_,rfl,p5,rfl,⟨_,a_.of zU⟩,?_⟩
   refine sU (K:=K) (a:=p5) (xs:=rX us) (λk σ H'=>∃v10 v11:Option V,σ=[some (.str (S y)),some (.ref dr),some (.ref dc),some (.ref p5),cv,wv,iv,lv,bv,some (.int (mq ((cS y ws os).take k):Nat)),v10,v11]/\aj H4 H') ⟨none,none,rfl,aj.refl _⟩ (λk σ H' _ ⟨_,_,_,h⟩=>a_.of (h _ _ zU)) ?_ ?_
   ·rintro k x σ H5 T hx ⟨v10,v11,rfl,s5⟩ nT
    obtain ⟨u,hu,rfl⟩:=Ge hx
    have sT:=s5.trans (aj.upd (o:= .tup [.int k,.ref u.t]) nT)
    walk_at"k"
    generalize upd H5 T (.tup [.int k,.ref u.t])=H6 at sT ⊢
    refine wX λDx JH=>?_
    have hk:k<(us:):=(LL.mp hu).1
    have ZE:(cS y ws os)[k]? =some u.v:=by rw[<-Vs,ZN,hu];rfl
    refine ⟨_,rfl,_,rfl,_,rfl,_,rfl,p5,_,rfl,a_.of (sT _ _ zU),λp1 n1=>?_⟩
    have ec:gq (rX us) none (some (k:Int))=rX (us.take k):=by
     show cut (rX us) none (some (k:Int))=_
     rw[eW]
     unfold rX
     rw[Qeh]
    rw[ec]
    have s7:=sT.trans (aj.upd (o:= .lst (rX (us.take k))) n1)
    have iZ:upd H6 p1 (.lst (rX (us.take k))) p1=some (.lst (rX (us.take k))):=ae
    generalize upd H6 p1 (.lst (rX (us.take k)))=H7 at s7 iZ ⊢
    have hsz:(rX (us.take k):)<sizeLine:=by rw[mr,Qai];lia
    have JN:xM H7 u:=s7 _ _ (j6 u (Xu hu)).1
    refine ⟨p1,rfl,⟨_,a_.of iZ⟩,?_⟩
    refine gW (K:=K) (a:=p1) (xs:=rX (us.take k)) (λj acc H'=>H'=H7/\acc=rX (((us.take k).take j).filter λz=>meets u.v z.v)) hsz (λj acc H' h=>by rw[h.1];exact a_.of iZ) ⟨rfl,rfl⟩ ?_ ?_
    ·rintro j x acc H8 Nx hj hx nK ⟨rfl,rfl⟩ nx
     obtain ⟨z,G5,rfl⟩:=Ge hx
     have OZ:xM H8 z:=s7 _ _ (j6 z (Qcg (Xu G5))).1
     have e:=C7 (p:=λz:Ch=>meets u.v z.v) G5
     have cm:=FW u.v z.v
     unfold xM Jl at JN OZ
     generalize ((min u.v.2.2.1 u.v.2.2.2:Nat):Int)=lo at JN cm
     generalize ((max u.v.2.2.1 u.v.2.2.2:Nat):Int)=hi at JN cm
     generalize ((min z.v.2.2.1 z.v.2.2.2:Nat):Int)=z0 at OZ cm
     generalize ((max z.v.2.2.1 z.v.2.2.2:Nat):Int)=z1 at OZ cm
     refine ⟨⟨rfl,trivial⟩,?_⟩
     refine QK λQ' hQ=>?_
     have fin:∀b,b=meets u.v z.v->Q' b H8:=λb eb=>hQ _ _ (by
      subst eb
      by_cases zm:meets u.v z.v=true
      ·exact QI zm ⟨_,rfl,nx _ _ (by simpa using nK) ⟨rfl,by rw[e,if_pos zm, <-xK]⟩⟩
      ·exact Im (Qdb _ |>.mp zm) (nx _ _ (Qc4 nK) ⟨rfl,by rw[e,if_neg zm,Qba]⟩))
     clear hQ nx nK e
     refine ⟨_,rfl,u.t,_,_,_,rfl,rfl,a_.of JN,rfl,_,rfl,z.t,_,_,_,rfl,rfl,a_.of OZ,rfl,_,_,rfl,rfl,_,rfl,bR (λa1=>?_) (λa1=>?_)⟩
     ·refine ⟨_,rfl,u.t,_,_,_,rfl,rfl,a_.of JN,rfl,_,_,rfl,rfl,_,rfl,u.t,_,_,_,rfl,rfl,a_.of JN,rfl,_,rfl,z.t,_,_,_,rfl,rfl,a_.of OZ,rfl,_,_,rfl,rfl,_,rfl,bR (λa2=>?_) (λa2=>?_)⟩
      ·exact ⟨_,rfl,u.t,_,_,_,rfl,rfl,a_.of JN,rfl,_,_,rfl,rfl,_,_,rfl,rfl,_,rfl,fin _ ((Yp _ (decide (z0<hi)) _ (decide (z1<hi)) a1 a2).trans cm)⟩
      ·exact ⟨_,_,rfl,rfl,_,rfl,fin _ ((Yq _ (decide (z0<hi)) _ (decide (z1<hi)) a1 a2).trans cm)⟩
     ·refine ⟨_,rfl,u.t,_,_,_,rfl,rfl,a_.of JN,rfl,_,rfl,z.t,_,_,_,rfl,rfl,a_.of OZ,rfl,_,_,rfl,rfl,_,rfl,bR (λa2=>?_) (λa2=>?_)⟩
      ·exact ⟨_,rfl,u.t,_,_,_,rfl,rfl,a_.of JN,rfl,_,_,rfl,rfl,_,_,rfl,rfl,_,rfl,fin _ ((Yr _ (decide (z0<hi)) _ (decide (z1<hi)) a1 a2).trans cm)⟩
      ·exact ⟨_,_,rfl,rfl,_,rfl,fin _ ((Ys _ (decide (z0<hi)) _ (decide (z1<hi)) a1 a2).trans cm)⟩
    ·rintro acc H8 D nK ⟨rfl,rfl⟩ hD
     rw[mr,Qau]
     refine ⟨D,_,rfl,.inl (a_.of ae),_,_,rfl,rfl,?_⟩
     refine JH _ _ ⟨some (.int k),some (.ref u.t),?_,s7.trans (aj.upd hD)⟩
     have e3:=C3 ZE
     have e4:((cS y ws os).take k).filter (meets u.v)=((us.take k).filter λz=>meets u.v z.v).map Ch.v:=by
      rw[<-Vs, <-Qeh,Qe2]
      rfl
     rw[e3,e4,NA,mr]
     rfl
   ·rintro σ H5 ⟨v10,v11,rfl,s5⟩
    rw[mr,show (us:)=(cS y ws os:) by rw[<-Vs,NA],Qau]
    exact h2 _ _ ⟨_,rfl,q H5 ((s3.trans s4).trans s5)⟩
theorem Nb:bE P w K mg base fI 10 Ol OU ["_law_script"] (mN K):=by
 have Nd:=JI (P:=P) (w:=w) (base:=base) T
 have JO:=GG (P:=P) (w:=w) (base:=base) T
 have Nf:=JD (P:=P) (w:=w) (base:=base) T
 have rq:=oX (P:=P) (w:=w) (base:=base) T
 have GP:=JL (P:=P) (w:=w) (base:=base) T
 have JP:=GF (P:=P) (w:=w) (base:=base) T
 have zX:=Bz (P:=P) (w:=w) (base:=base) T
 refine T.Yw.fn.ok nJ (λvs H Q E h=>Ik h) (λ_ _ _ _ H vs Q E hr h=>?_)
 refine ⟨_,(ag (bJ PassesOwn.never rfl (fX rfl T.z_range (aa (az ba ai (aC (aT K rfl) rfl T.z_len Qaj (aa (bG (wA K rfl) (pv 0) (bA ai) (bA ai)) ab))) ab)) (aA (i:=1) nJ.nd rfl (Or.inl rfl)) (ag (ak (i:=2) nJ.nd rfl (Or.inl rfl) (aq Nd (hr.mono ∅) rfl T.Sm.mg T.Sm.fn.kp T.Sm.bd .nil aD (aa (pv 0) (aa (pv 1) ab))))
   (ag (ak (i:=3) nJ.nd rfl (Or.inr rfl) (aq JO (hr.mono ∅) rfl T.So.mg T.So.fn.kp T.So.bd .nil aD (aa (pv 2) (aa ai (aa ai ab)))))
   (ag (ak (i:=4) nJ.nd rfl (Or.inl rfl) (aq Nf (hr.mono ∅) rfl T.Sv.mg T.Sv.fn.kp T.Sv.bd .nil aD (aa (pv 2) (aa (pv 3) ab))))
   (ag (ak (i:=5) nJ.nd rfl (Or.inl rfl) (aC (Cq K rfl rfl) rfl T.z_min boot_min (aa (bH ["_law_drawing","_law_yard_here"] [none,some 3] (b3 K rfl (aq rq (hr.mono ∅) rfl T.Su.mg T.Su.fn.kp T.Su.bd .nil aD (aa (pv 3) (aa (pv 4) ab)))) ⟨⟨rfl,rfl,by first | exact .inl rfl | exact .inr rfl⟩,trivial⟩ (λ_ _ _ _=>(aA (i:=0) (by decide+kernel:List.Nodup (["_law_drawing","_law_yard_here"]:List Str)) rfl (Or.inl rfl))) (λ_ _ _ _=>eE) (λ_ _ _ _=>(aq GP (hr.mono ∅) rfl T.MX.mg T.MX.fn.kp T.MX.bd .nil aD (aa (pv 1) (aa (pv 0) ab))))) ab)))
   (ah (cx (PW.pt (J2 (aF D1 (aq JP (hr.mono ∅) rfl T.Sl.mg T.Sl.fn.kp T.Sl.bd .nil aD (aa (pv 3) (aa (pv 4) ab))) (pv 5) (aP _)) (Dw (aF D1 (aq GP (hr.mono ∅) rfl T.MX.mg T.MX.fn.kp T.MX.bd .nil aD (aa (pv 3) (aa (aq zX (hr.mono ∅) rfl T.MV.mg T.MV.fn.kp T.MV.bd .nil aD (aa (pv 3) (aa (pv 4) ab))) ab))) (pv 5) (aP _))))) (ah (aG J1)) bN)))))))
   (ah (aG J1))),?_⟩
 obtain ⟨a,ns,rfl,hS,hl,q⟩:=h
 have hs:=Zs1
 refine ⟨_,rfl,_,rfl,_,rfl,a,_,rfl,hS,λp1 n1=>?_⟩
 have UH:(gq (ns.map V.int) (some 1) (some 3):)<=2:=by unfold gq;rw[Qai];exact Qak (Nat.min_le_left _ _) (by have e1:∀n d:Nat,HT.cB n d (some ((1:Nat):Int))=min 1 n:=λn d=>HT.fR _ _ _;have e2:∀n d:Nat,HT.cB n d (some ((3:Nat):Int))=min 3 n:=λn d=>HT.fR _ _ _;show HT.cB _ _ (some ((3:Nat):Int)) - HT.cB _ _ (some ((1:Nat):Int))<=2;rw[e1,e2];lia)
 refine ⟨p1,_,rfl,.inl (a_.of ae),_,_,rfl,rfl,?_⟩
 have s1:=aj.upd (o:= .lst (gq (ns.map V.int) (some 1) (some 3))) n1
 generalize (gq (ns.map V.int) (some 1) (some 3):)=m at UH ⊢
 generalize upd H p1 (.lst (gq (ns.map V.int) (some 1) (some 3)))=H1 at s1 ⊢
 refine ⟨_,rfl,(),(),?_⟩
 rw[show ((1:Int)+(m:Int)).toNat=1+m by lia]
 refine fZ (λi σ H'=>∃v1 v2 v3 v4 v5:Option V,σ=[some (.ref a),v1,v2,v3,v4,v5]/\aj H H') ⟨none,none,none,none,none,rfl,s1⟩ ?_ ?_
 ·rintro i σ H2 hi ⟨v1,v2,v3,v4,v5,rfl,s2⟩
  refine ⟨_,rfl,_,rfl,a,ns,i,by rw[Qck];rfl,s2.seq hS,(),λb H3 nb bx s3=>?_⟩
  refine ⟨_,rfl,b,1,4,rfl,bx,∅,∅,∅,λy H4 hy Sw KP ZF s4=>?_⟩
  refine ⟨_,rfl,_,rfl,b,y,rfl,ZF,hy,(),(),λt ws H5 tb ht Ng Vk bx5 s5=>?_⟩
  refine ⟨_,rfl,_,rfl,y,t,ws,rfl,hy,(),ht,Ng.ok,Vk,λqd ds H6 nq hq Ka Sx cP mM s6=>?_⟩
  have Ri:=λw hw=>(Ng.sw w hw).1
  refine ⟨qd,rfl,⟨_,a_.of hq⟩,?_⟩
  refine gW (K:=K) (a:=qd) (xs:=nA ds) (λi acc H'=>aj H6 H'/\acc=((ds.take i).map λd=>((mq (cS y ws d.2):Nat):Int)).map V.int) (by rw[iB];lia) (λi acc H' h=>a_.of (h.1 _ _ hq)) ⟨aj.refl _,rfl⟩ ?_ ?_
  ·rintro i x acc H7 Nx hi hx nK ⟨s7,rfl⟩ nx
   obtain ⟨d,hd,rfl⟩:=zK hx
   have W8:=Ka d (Xu hd)
   refine ⟨⟨rfl,trivial⟩,da ?_⟩
   refine ⟨_,rfl,_,rfl,y,d.1,ws,d.2,rfl,hy,(),Ng.ok,W8.2,W8.1.same s7,λH8 s8=>?_⟩
   refine nx _ _ (by rw[VG];show _+1<=i+1;lia) ⟨s7.trans s8,?_⟩
   rw[<-take_snoc hd,Xs,Xs]
   rfl
  ·rintro acc H7 D nK ⟨s7,rfl⟩ hD
   rw[iB,Qau]
   have sD:=aj.upd (o:= .lst ((ds.map λd=>((mq (cS y ws d.2):Nat):Int)).map V.int)) hD
   refine ⟨D,_,rfl,a_.of ae,λz=>cP (List.map_eq_nil_iff.mp z),λfm UI hle=>?_⟩
   have SY:aj H5 (upd H7 D (.lst ((ds.map λd=>((mq (cS y ws d.2):Nat):Int)).map V.int))):=s6.trans (s7.trans sD)
   generalize upd H7 D (.lst ((ds.map λd=>((mq (cS y ws d.2):Nat):Int)).map V.int))=H8 at SY ⊢
   refine ⟨_,rfl,_,rfl,y,t,ws,rfl,hy,(),Ng,SY _ _ ht,λH9 s9 ⟨os,W9⟩=>?_⟩
   have e1:fm=FU y ws:=by
    obtain ⟨d,hd,rfl⟩:=Qam.mp UI
    have low:=Jr hy Ri (Ka d hd).2
    obtain ⟨_,_,tok,_⟩:=id W9
    obtain ⟨d',v_,e⟩:=mM os tok
    have up:=hle _ (Qfe v_)
    rw[Gk e]at up
    have:=xH hy Ri W9
    unfold FU
    lia
   subst e1
   refine ⟨_,rfl,_,_,rfl,rfl,_,rfl,Im (by simp) ?_⟩
   have h9:=s9 _ _ (SY _ _ ht)
   refine ⟨_,rfl,_,rfl,_,rfl,y,t,ws,rfl,hy,(),h9,Ng.wW,Ng.sw,λdr Dj H10 NI KR ZG=>?_⟩
   have em:((mq (cS y ws Dj):Nat):Int)=FU y ws:=xH hy Ri KR
   obtain ⟨_,_,Vt,_⟩:=id KR
   refine ⟨y,dr,ws,Dj,rfl,hy,(),Ng.ok,Vt,NI,λH11 ZH=>?_⟩
   rw[em]
   refine ⟨_,rfl,_,_,rfl,rfl,_,rfl,Im (by simp) ?_⟩
   exact ⟨_,_,_,_,_,rfl,s2.trans (aO.same nb s3 (s4.trans (s5.trans (aO.of (SY.trans (s9.trans (ZG.trans ZH)))))))⟩
 ·rintro σ H2 ⟨v1,v2,v3,v4,v5,rfl,s2⟩
  exact q H2
end
theorem b8{M:List Value->Prop}(h:M []):∀us:List Value,(us:)=0->M us
 | [],_=>h
theorem aN{M:List Value->Prop}{n:Nat}(h:∀(a:Value) (us:List Value),(us:)=n->M (a::us)):∀us:List Value,(us:)=n+1->M us
 | a::us,e=>h a us (Nat.succ.inj e)
def Dn(K:Fr)(x:Str)(st:Stmt)(f:Addr)(fd:FuncData):Prop:=PySem.W.nsIn K mainGlobals x=some (some (.ref f))/\HF K x x st f fd
theorem dn{K:Fr}{x:Str}{st:Stmt}{f:Addr}{oc:Value}{od an:Option Addr}{GZ:Array (Option Value)}{kV doc pm cN ct:Value}(a:PySem.W.nsIn K mainGlobals x=some (some (.ref f)))(l:K.lookup f=some ⟨oc,od,.func (PySem.W.fnOf x x (fS st) (e_ st) (au st) .none kV doc pm an cN ct),GZ⟩)(c:PySem.W.codeIn K cN x=true)(k:PySem.W.keepIn K (.ref f)=true):Dn K x st f (PySem.W.fnOf x x (fS st) (e_ st) (au st) .none kV doc pm an cN ct):=⟨a,yA l c k⟩
theorem gP{K:Fr}{h:Heap}{mg:Str->Option Value}{x:Str}{st:Stmt}{f:Addr}{fd:FuncData}{ps:List Str}(X:K.In h)(G:h.Ns mainGlobals mg)(a:Dn K x st f fd)(b:∀(kV doc pm:Value) (an:Option Addr) (cN ct:Value) (us:List Value),(us:)=(ps:)->bindArgs (PySem.W.fnOf x x (fS st) (e_ st) (au st) .none kV doc pm an cN ct) ⟨us,[]⟩=pure (ps.zip us)):bj K mg x st ps f fd:=⟨a.2,Qfh X G a.1,a.2.binds b⟩
theorem all_mk{l:PySem.W.OpenLaw}{w:World}{K:Fr}{h:Heap}{mg:Str->Option Value}{fa f0 f1 f2 f3 f4 f5 f6 f7 f8 f9 NN Gn Gp NO NP NQ NR NS NT NU NV NW NX NY NZ N3 N4 N5 N6 N7 N8 N9 N_ Oa Ob Oc Oe Of Og Oh Oi Oj Ol aJ aV kc gO:Addr}(X:K.In h)(G:h.Ns mainGlobals mg)(R3:mg "law"=some (.ref fa))
  {d0 d1 d2 d3 d4 d5 d6 d7 d8 d9 Om Oo Oq KJ Ot Ou Ov Ow Ox Oy Oz OA OB JA OC OD OE OF OG OH OI OJ OK OL OM ON OO OP OQ OR OS OT OU:FuncData}
  {Nh Ni JQ JR:Option Addr} {Nj JS:Array (Option Value)} {Nk Nl Nm Nn GQ Np JT JU JV JW BD JX:Value}
  (a0:Dn K "contrary" kF f0 d0)
  (a1:Dn K "turned" qQ f1 d1)
  (a2:Dn K "bands" vF f2 d2)
  (a3:Dn K "steps_round" gJ f3 d3)
  (a4:Dn K "strands_in" iC f4 d4)
  (a5:Dn K "corner_ends" gK f5 d5)
  (a6:Dn K "shortened" jC f6 d6)
  (a7:Dn K "shortest" kG f7 d7)
  (a8:Dn K "ring" zL f8 d8)
  (a9:Dn K "root" zM f9 d9)
  (a10:Dn K "corner_steps" gj NN Om)
  (a11:Dn K "steps_ahead" gL Gn Oo)
  (a12:Dn K "steps_back" iD Gp Oq)
  (a13:Dn K "parting" nE NO KJ)
  (a14:Dn K "side_of" nF NP Ot)
  (a15:Dn K "comes_ahead" gM NQ Ou)
  (a16:Dn K "number_among" gk NR Ov)
  (a17:Dn K "seen_strand" gN NS Ow)
  (a18:Dn K "taut_order" iE NT Ox)
  (a19:Dn K "taut" zN NU Oy)
  (a20:Dn K "strands_at" iF NV Oz)
  (a21:Dn K "points" qR NW OA)
  (a22:Dn K "corner_points" fL NX OB)
  (a23:Dn K "corners" nG NY JA)
  (a24:Dn K "chord_starts" gm NZ OC)
  (a25:Dn K "number_in" jD N3 OD)
  (a26:Dn K "count_meetings" eZ N4 OE)
  (a27:Dn K "least" vG N5 OF)
  (a28:Dn K "_law_box" zO N6 OG)
  (a29:Dn K "_law_take" vH N7 OH)
  (a30:Dn K "_law_other" qS N8 OI)
  (a31:Dn K "_law_yard" vI N9 OJ)
  (a32:Dn K "_law_short" qT N_ OK)
  (a33:Dn K "_law_near" vJ Oa OL)
  (a34:Dn K "_law_bands" qU Ob OM)
  (a35:Dn K "_law_points" nH Oc ON)
  (a36:Dn K "_law_met" zP Oe OO)
  (a37:Dn K "_law_strands" kH Of OP)
  (a38:Dn K "_law_all_orders" iG Og OQ)
  (a39:Dn K "_law_all_drawings" gn Oh OR)
  (a40:Dn K "_law_many" vK Oi OS)
  (a41:Dn K "_law_few" zQ Oj OT)
  (a42:Dn K "law" Gm Ol OU)
  (q_Seen:PySem.W.nsIn K mainGlobals "Seen"=some (some (.ref aJ)))
  (pg_Seen:PySem.W.plainGet K aJ Str.empty=true)
  (hd_Seen:PySem.W.hasDictIn K aJ=true)
  (po_Seen:PySem.W.plainOver K aJ=true)
  (sa_Seen:PySem.W.findIn K (.ref aJ) "__setattr__"=some (some (.builtin "object.__setattr__")))
  (n_Seen_strand:PySem.W.findIn K (.ref aJ) "strand"=some none)
  (n_Seen_way:PySem.W.findIn K (.ref aJ) "way"=some none)
  (n_Seen_place:PySem.W.findIn K (.ref aJ) "place"=some none)
  (q_Way:PySem.W.nsIn K mainGlobals "Way"=some (some (.ref aV)))
  (pg_Way:PySem.W.plainGet K aV Str.empty=true)
  (hd_Way:PySem.W.hasDictIn K aV=true)
  (po_Way:PySem.W.plainOver K aV=true)
  (sa_Way:PySem.W.findIn K (.ref aV) "__setattr__"=some (some (.builtin "object.__setattr__")))
  (n_Way_size:PySem.W.findIn K (.ref aV) "size"=some none)
  (n_Way_root_size:PySem.W.findIn K (.ref aV) "root_size"=some none)
  (n_Way_leads:PySem.W.findIn K (.ref aV) "leads"=some none)
  (n_Way_onward:PySem.W.findIn K (.ref aV) "onward"=some none)
  (n_Way_backward:PySem.W.findIn K (.ref aV) "backward"=some none)
  (mk_Way:PySem.W.makesIn K aV=true)
  (qi_Way:PySem.W.findIn K (.ref aV) "__init__"=some (some (.ref kc)))
  (fi_Way:PySem.W.isFn K (.ref kc)=true)
  (kc_Way:PySem.W.keepIn K (.ref aV)=true)
  (li_Way:K.lookup kc=some ⟨Nk,Nh,.func (PySem.W.fnOf "__init__" "Way.__init__" (fS jT) (e_ jT) (au jT) .none Nl Nm Nn Ni GQ Np),Nj⟩)
  (ci_Way:PySem.W.codeIn K GQ "Way.__init__"=true)
  (ki_Way:PySem.W.keepIn K (.ref kc)=true)
  (mk_Seen:PySem.W.makesIn K aJ=true)
  (qi_Seen:PySem.W.findIn K (.ref aJ) "__init__"=some (some (.ref gO)))
  (fi_Seen:PySem.W.isFn K (.ref gO)=true)
  (kc_Seen:PySem.W.keepIn K (.ref aJ)=true)
  (li_Seen:K.lookup gO=some ⟨JT,JQ,.func (PySem.W.fnOf "__init__" "Seen.__init__" (fS g_) (e_ g_) (au g_) .none JU JV JW JR BD JX),JS⟩)
  (ci_Seen:PySem.W.codeIn K BD "Seen.__init__"=true)
  (ki_Seen:PySem.W.keepIn K (.ref gO)=true)
  (z_dict:PySem.W.nsIn K mainGlobals "dict"=some none)
  (z_enumerate:PySem.W.nsIn K mainGlobals "enumerate"=some none)
  (z_int:PySem.W.nsIn K mainGlobals "int"=some none)
  (z_len:PySem.W.nsIn K mainGlobals "len"=some none)
  (z_list:PySem.W.nsIn K mainGlobals "list"=some none)
  (z_max:PySem.W.nsIn K mainGlobals "max"=some none)
  (z_min:PySem.W.nsIn K mainGlobals "min"=some none)
  (z_range:PySem.W.nsIn K mainGlobals "range"=some none)
  (z_reversed:PySem.W.nsIn K mainGlobals "reversed"=some none)
  (z_sorted:PySem.W.nsIn K mainGlobals "sorted"=some none)
  (z_str:PySem.W.nsIn K mainGlobals "str"=some none)
  (z_tuple:PySem.W.nsIn K mainGlobals "tuple"=some none):
  ∃fd:FuncData,(∀(s:Shared) (v:Value),BindsTo s fd ⟨[v],[]⟩ [("_law_script",v)])/\∀base:Heap,K.In base->base.Ns mainGlobals mg->bE l.prog w K mg base fI 10 fa fd ["_law_script"] (mN K):=by
 have e:=R3.symm.trans (Qfh X G a42.1)
 cases e
 obtain ⟨_,_,_,_,_,_,_,_,_,rfl,_⟩:=a42.2.ex
 have GR:=yA (st:=jT) li_Way ci_Way ki_Way
 have Nq:=GR.binds (ps:=["self","yard","word","longest"]) λ_ _ _ _ _ _=>aN λ_=>aN λ_=>aN λ_=>aN λ_=>b8 rfl
 have BE:=yA (st:=g_) li_Seen ci_Seen ki_Seen
 have JY:=BE.binds (ps:=["self","strand","way","place"]) λ_ _ _ _ _ _=>aN λ_=>aN λ_=>aN λ_=>aN λ_=>b8 rfl
 have T:Txt K mg _ _ _ _ _ _ _ _ _ _ _ _ _ _ _ _ _ _ _ _ _ _ _ _ _ _ _ _ _ _ _ _ _ _ _ _ _ _ _ _ _ _ _ _ _ _ _ _ _ _ _ _ _ _ _ _ _ _ _ _ _ _ _ _ _ _ _ _ _ _ _ _ _ _ _ _ _ _ _ _ _ _ _ _ _ _ _ _ _ _ _ _:=⟨gP X G a0 λ_ _ _ _ _ _=>aN λ_=>b8 rfl,gP X G a1 λ_ _ _ _ _ _=>aN λ_=>b8 rfl,gP X G a2 λ_ _ _ _ _ _=>aN λ_=>b8 rfl,gP X G a3 λ_ _ _ _ _ _=>aN λ_=>aN λ_=>aN λ_=>b8 rfl,gP X G a4 λ_ _ _ _ _ _=>aN λ_=>aN λ_=>b8 rfl,gP X G a5 λ_ _ _ _ _ _=>aN λ_=>aN λ_=>b8 rfl,gP X G a6 λ_ _ _ _ _ _=>aN λ_=>b8 rfl,gP X G a7 λ_ _ _ _ _ _=>aN λ_=>b8 rfl,gP X G a8 λ_ _ _ _ _ _=>aN λ_=>b8 rfl,gP X G a9 λ_ _ _ _ _ _=>aN λ_=>b8 rfl,gP X G a10 λ_ _ _ _ _ _=>aN λ_=>aN λ_=>aN λ_=>b8 rfl,gP X G a11 λ_ _ _ _ _ _=>aN λ_=>aN λ_=>aN λ_=>b8 rfl,gP X G a12 λ_ _ _ _ _ _=>aN λ_=>aN λ_=>aN λ_=>b8 rfl,gP X G a13 λ_ _ _ _ _ _=>aN λ_=>aN λ_=>aN λ_=>aN λ_=>b8 rfl,gP X G a14 λ_ _ _ _ _ _=>aN λ_=>b8 rfl,gP X G a15 λ_ _ _ _ _ _=>aN λ_=>aN λ_=>b8 rfl,gP X G a16 λ_ _ _ _ _ _=>aN λ_=>aN λ_=>b8 rfl,gP X G a17 λ_ _ _ _ _ _=>aN λ_=>aN λ_=>aN λ_=>b8 rfl,gP X G a18 λ_ _ _ _ _ _=>aN λ_=>aN λ_=>aN λ_=>b8 rfl,gP X G a19 λ_ _ _ _ _ _=>aN λ_=>aN λ_=>b8 rfl,gP X G a20 λ_ _ _ _ _ _=>aN λ_=>aN λ_=>aN λ_=>b8 rfl,gP X G a21 λ_ _ _ _ _ _=>aN λ_=>aN λ_=>b8 rfl,gP X G a22 λ_ _ _ _ _ _=>aN λ_=>aN λ_=>aN λ_=>b8 rfl,gP X G a23 λ_ _ _ _ _ _=>aN λ_=>aN λ_=>b8 rfl,gP X G a24 λ_ _ _ _ _ _=>aN λ_=>b8 rfl,gP X G a25 λ_ _ _ _ _ _=>aN λ_=>aN λ_=>b8 rfl,gP X G a26 λ_ _ _ _ _ _=>aN λ_=>b8 rfl,gP X G a27 λ_ _ _ _ _ _=>aN λ_=>aN λ_=>b8 rfl,gP X G a28 λ_ _ _ _ _ _=>aN λ_=>aN λ_=>b8 rfl,gP X G a29 λ_ _ _ _ _ _=>aN λ_=>aN λ_=>b8 rfl,gP X G a30 λ_ _ _ _ _ _=>aN λ_=>b8 rfl,gP X G a31 λ_ _ _ _ _ _=>aN λ_=>aN λ_=>aN λ_=>b8 rfl,gP X G a32 λ_ _ _ _ _ _=>aN λ_=>aN λ_=>aN λ_=>b8 rfl,gP X G a33 λ_ _ _ _ _ _=>aN λ_=>aN λ_=>aN λ_=>aN λ_=>b8 rfl,gP X G a34 λ_ _ _ _ _ _=>aN λ_=>b8 rfl,gP X G a35 λ_ _ _ _ _ _=>aN λ_=>aN λ_=>b8 rfl,gP X G a36 λ_ _ _ _ _ _=>aN λ_=>aN λ_=>b8 rfl,gP X G a37 λ_ _ _ _ _ _=>aN λ_=>aN λ_=>b8 rfl,gP X G a38 λ_ _ _ _ _ _=>aN λ_=>b8 rfl,gP X G a39 λ_ _ _ _ _ _=>aN λ_=>aN λ_=>b8 rfl,gP X G a40 λ_ _ _ _ _ _=>aN λ_=>aN λ_=>b8 rfl,gP X G a41 λ_ _ _ _ _ _=>aN λ_=>aN λ_=>b8 rfl,gP X G a42 λ_ _ _ _ _ _=>aN λ_=>b8 rfl,Qfh X G q_Seen,⟨pg_Seen,hd_Seen,po_Seen,sa_Seen⟩,n_Seen_strand,n_Seen_way,n_Seen_place,Qfh X G q_Way,⟨pg_Way,hd_Way,po_Way,sa_Way⟩,n_Way_size,n_Way_root_size,n_Way_leads,n_Way_onward,n_Way_backward,⟨mk_Way,qi_Way,fi_Way,kc_Way⟩,GR,Nq,⟨mk_Seen,qi_Seen,fi_Seen,kc_Seen⟩,BE,JY,Qbi X G z_dict,Qbi X G z_enumerate,Qbi X G z_int,Qbi X G z_len,Qbi X G z_list,Qbi X G z_max,Qbi X G z_min,Qbi X G z_range,Qbi X G z_reversed,Qbi X G z_sorted,Qbi X G z_str,Qbi X G z_tuple⟩
 exact ⟨_,λs v=> .of_eq rfl,λbase _ _=>Nb T⟩
theorem walk{l:PySem.W.OpenLaw}{q:Program}{loose:List Str}{XP:(Str->Option Value)->Heap->Prop}{YP:World->Heap->Prop}{d:DefRec}{K:Params->Fr}(hn:l.most=some 63)(P0:d.params.defaults=[])
  (hY:∀(w:World) (h:Heap),YP w h->(K w.params).In h)
  (F:∀(w:World) (mg:Str->Option Value) (fa:Addr) (h:Heap),(K w.params).In h->h.Ns mainGlobals mg->mg d.name=some (.ref fa)->
   ∃fd:FuncData,(∀(s:Shared) (u:Value),BindsTo s fd ⟨[u],[]⟩ [("_law_script",u)])/\∀base:Heap,(K w.params).In base->base.Ns mainGlobals mg->bE l.prog w (K w.params) mg base fI 10 fa fd ["_law_script"] (mN (K w.params))):
  PySem.W.WalkO q loose XP YP l.row.toRowW d [] (λf vs=>PySem.call f vs):=
 L2.Ai (n:=63) (k:=10) (x:="_law_script") (CX:=λ_=>fI) (sp:=λw=>mN (K w.params)) hn ∅ P0 ⟨rfl,∅,∅,rfl⟩ hY F (λ_ _ a ns hl _ hS=>⟨a,ns,rfl,hS,hl,λ_=>rfl⟩) λ_ _ _ _ _ z=>z
end My
structure PySem.W.Fast:Prop where (tw10263526272486369991 tw10376123622054554413 tw10377500978622689081 tw10487990649246553218 tw10562855360451021595 tw10821758380434848096 tw10882932012300067139 tw10944932980257800822 tw11053390010773677719 tw11078419964909178850 tw11157559751134625880 tw11178070841191832806 tw11223835244266048152 tw11282701536289967119 tw11331376354254892442 tw11349968091361412877 tw11385698939936230749 tw11438401784458398435 tw1146937616397614934 tw11482068812441631894 tw11643905603468701340 tw11770265393349913660 tw11808034063255914792 tw11878700764184594102 tw11886461923487879723 tw11982735356934735733 tw12131980254441968709 tw12344290735643799593 tw12507945513766959274 tw12661036400262279223 tw12678419868789129555 tw12874200399370123982 tw1290000195025571921 tw12907543788127117755 tw12957633761101154226 tw1299460757006250553 tw13207092549592806380 tw13221344778620542791 tw13304451396612636413 tw13323795878419751548 tw13372022404839644385 tw13400026447577729852 tw13579504953153095618 tw13646406261140029546 tw13870749196798378378 tw14087677422772992713 tw14143134181833097653 tw14170164589350361283 tw14222317739005864193 tw14223900041398156234 tw14250795386707241339 tw14495207258469412296 tw14642069160997437311 tw14686595714022589859 tw14702619514870469393 tw14937868289552484509 tw14982743920508395035 tw14985955367102220630 tw15135781154766886639 tw1517552828043266017 tw15280626922187752491 tw15374922799832336108 tw15390604451293822225 tw15427431945742440051 tw15541749481338787364 tw15662631430114967414 tw15728626386470029961 tw15919462602132058518 tw15994526996422470498 tw16047689639162554752 tw16573238836096172171 tw166818214531296450 tw1668434132290990205 tw16859088229760680311 tw16886062358459463813 tw16923253448055448241 tw17047568325659174493 tw17127217514852098685 tw17234837924043447211 tw17298232261055120309 tw1736106307299528051 tw17424688484463421296 tw17471966088083355455 tw17518654883740818716 tw17588072034701070451 tw17590300903635216397 tw17603835939251420424 tw17763754744684250689 tw17914096319114573088 tw18137062685810435771 tw18159064704993565587 tw18417764367716330863 tw1862758162631033789 tw199939407236817482 tw2043051052620491507 tw2069116189573068818 tw2144680195386426144 tw2201967003497482785 tw2236155506720381884 tw2277506998512592224 tw2370499079629793794 tw2385869714464630079 tw2457698749956879680 tw2481529765488820726 tw2487163161251611286 tw2684094676760895988 tw2788896420931071730 tw2821239912308222469 tw286626065046044726 tw2922999529673761354 tw3059078497796393719 tw305952074259569715 tw3099529781306698995 tw3148022382965008896 tw3269696285831144612 tw327447224444405749 tw3315928093564078010 tw3321682282895513114 tw3329632384646998292 tw3353702887482304959 tw3359081414123374573 tw3556364875069258603 tw3630088409651142202 tw3680695978580206866 tw3920561179789459827 tw3928629628044405339 tw3934013986897218302 tw4005406646651067523 tw4116851180034054440 tw4127563114524333748 tw4161313179467728880 tw4292334884362173127 tw4334469690440019619 tw4410106989156330138 tw4536469280108112462 tw4626233796901644591 tw4662062938596133805 tw4802287371181029509 tw4841059768517927678 tw4964712856729994217 tw4965953216953592793 tw4987411580206787440 tw5007497454576701043 tw5037126012096247607 tw5117146033015567844 tw5151795244533032653 tw5244294352003964216 tw5491580125491306707 tw5509571911643033721 tw5599824359399386402 tw6064653098263850836 tw6081953499330180219 tw6234281865591448731 tw6351219829139488415 tw6378734099531576842 tw6405743697911634327 tw6663526200807511926 tw6786348042983170708 tw6851808058411418678 tw6854848190782289844 tw6904106860198886782 tw6906660379106670209 tw7019140821128658178 tw7224123646889224626 tw7247194988446108813 tw7249702575922959144 tw7265573034518885691 tw7310564413499852771 tw7517587381173972869 tw7765525219400580172 tw7781326196568828131 tw7823881436890480490 tw7827434431102957797 tw7835894865287768187 tw7924187404534130160 tw7973383260934517803 tw7985458038570584950 tw7997420788061278696 tw8013903130023869484 tw8116344556840904322 tw8138515387393265012 tw848263539478892149 tw8520425453473999548 tw8585290899970256071 tw867234415293309379 tw8695949348592959289 tw8704032011375811958 tw8706853700119668314 tw8889965262066853591 tw9000629787746217532 tw9007560295331133204 tw9277230234717456898 tw9402339166705464316 tw9452705369214186132 tw9484136722431022027 tw9626728402386337555 tw9642314356895005867 tw9648693338607891881 tw9749883096321384592 tw9915010661937122411:True)
open PySem PySem.W PyProof.Rows
set_option maxRecDepth 100000 in
set_option maxHeartbeats 0 in
theorem PySem.Challenge.cw_mustmeet_k34_whole_no_drawing_has_fewer_holds : PySem.Challenge.rw_mustmeet_k34_whole_no_drawing_has_fewer.Holds := by
 w_on;o_law;k_head;(case hw=>w_witness2)
 k_fill
 refine My.walk (l:=PySem.Challenge.rw_mustmeet_k34_whole_no_drawing_has_fewer) rfl rfl (fun w h Y=>PySem.W.kIn_of Y) ?F
 case F=>
  intro w mg fa h KX G hmg
  refine' My.all_mk KX G hmg (My.dn ?a0 ?l0 ?c0 ?k0) (My.dn ?a1 ?l1 ?c1 ?k1) (My.dn ?a2 ?l2 ?c2 ?k2) (My.dn ?a3 ?l3 ?c3 ?k3) (My.dn ?a4 ?l4 ?c4 ?k4) (My.dn ?a5 ?l5 ?c5 ?k5) (My.dn ?a6 ?l6 ?c6 ?k6) (My.dn ?a7 ?l7 ?c7 ?k7) (My.dn ?a8 ?l8 ?c8 ?k8) (My.dn ?a9 ?l9 ?c9 ?k9) (My.dn ?a10 ?l10 ?c10 ?k10) (My.dn ?a11 ?l11 ?c11 ?k11) (My.dn ?a12 ?l12 ?c12 ?k12) (My.dn ?a13 ?l13 ?c13 ?k13) (My.dn ?a14 ?l14 ?c14 ?k14) (My.dn ?a15 ?l15 ?c15 ?k15) (My.dn ?a16 ?l16 ?c16 ?k16) (My.dn ?a17 ?l17 ?c17 ?k17) (My.dn ?a18 ?l18 ?c18 ?k18) (My.dn ?a19 ?l19 ?c19 ?k19) (My.dn ?a20 ?l20 ?c20 ?k20) (My.dn ?a21 ?l21 ?c21 ?k21) (My.dn ?a22 ?l22 ?c22 ?k22) (My.dn ?a23 ?l23 ?c23 ?k23) (My.dn ?a24 ?l24 ?c24 ?k24) (My.dn ?a25 ?l25 ?c25 ?k25) (My.dn ?a26 ?l26 ?c26 ?k26) (My.dn ?a27 ?l27 ?c27 ?k27) (My.dn ?a28 ?l28 ?c28 ?k28) (My.dn ?a29 ?l29 ?c29 ?k29) (My.dn ?a30 ?l30 ?c30 ?k30) (My.dn ?a31 ?l31 ?c31 ?k31) (My.dn ?a32 ?l32 ?c32 ?k32) (My.dn ?a33 ?l33 ?c33 ?k33) (My.dn ?a34 ?l34 ?c34 ?k34) (My.dn ?a35 ?l35 ?c35 ?k35) (My.dn ?a36 ?l36 ?c36 ?k36) (My.dn ?a37 ?l37 ?c37 ?k37) (My.dn ?a38 ?l38 ?c38 ?k38) (My.dn ?a39 ?l39 ?c39 ?k39) (My.dn ?a40 ?l40 ?c40 ?k40) (My.dn ?a41 ?l41 ?c41 ?k41) (My.dn ?a42 ?l42 ?c42 ?k42) ?q_Seen ?pg_Seen ?hd_Seen ?po_Seen ?sa_Seen ?n_Seen_strand ?n_Seen_way ?n_Seen_place ?q_Way ?pg_Way ?hd_Way ?po_Way ?sa_Way ?n_Way_size ?n_Way_root_size ?n_Way_leads ?n_Way_onward ?n_Way_backward ?mk_Way ?qi_Way ?fi_Way ?kc_Way ?li_Way ?ci_Way ?ki_Way ?mk_Seen ?qi_Seen ?fi_Seen ?kc_Seen ?li_Seen ?ci_Seen ?ki_Seen ?z_dict ?z_enumerate ?z_int ?z_len ?z_list ?z_max ?z_min ?z_range ?z_reversed ?z_sorted ?z_str ?z_tuple
  case a0|l0|c0|k0|a1|l1|c1|k1|a2|l2|c2|k2|a3|l3|c3|k3|a4|l4|c4|k4|a5|l5|c5|k5|a6|l6|c6|k6|a7|l7|c7|k7|a8|l8|c8|k8|a9|l9|c9|k9|a10|l10|c10|k10|a11|l11|c11|k11|a12|l12|c12|k12|a13|l13|c13|k13|a14|l14|c14|k14|a15|l15|c15|k15|a16|l16|c16|k16|a17|l17|c17|k17|a18|l18|c18|k18|a19|l19|c19|k19|a20|l20|c20|k20|a21|l21|c21|k21|a22|l22|c22|k22|a23|l23|c23|k23|a24|l24|c24|k24|a25|l25|c25|k25|a26|l26|c26|k26|a27|l27|c27|k27|a28|l28|c28|k28|a29|l29|c29|k29|a30|l30|c30|k30|a31|l31|c31|k31|a32|l32|c32|k32|a33|l33|c33|k33|a34|l34|c34|k34|a35|l35|c35|k35|a36|l36|c36|k36|a37|l37|c37|k37|a38|l38|c38|k38|a39|l39|c39|k39|a40|l40|c40|k40|a41|l41|c41|k41|a42|l42|c42|k42|q_Seen|pg_Seen|hd_Seen|po_Seen|sa_Seen|n_Seen_strand|n_Seen_way|n_Seen_place|q_Way|pg_Way|hd_Way|po_Way|sa_Way|n_Way_size|n_Way_root_size|n_Way_leads|n_Way_onward|n_Way_backward|mk_Way|qi_Way|fi_Way|kc_Way|li_Way|ci_Way|ki_Way|mk_Seen|qi_Seen|fi_Seen|kc_Seen|li_Seen|ci_Seen|ki_Seen|z_dict|z_enumerate|z_int|z_len|z_list|z_max|z_min|z_range|z_reversed|z_sorted|z_str|z_tuple=>k_is
