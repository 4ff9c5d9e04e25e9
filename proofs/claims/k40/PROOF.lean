import PyProof.Rows.All
import Wide.All
import OpenK.AllK
import Wide.FinOn
import Lean
import PyProof.EqAt
import PyProof.EqKinds
import PyProof.TupleCall
import PySem.Challenge.RW_mustmeet_k40_lone_loops_told
set_option maxHeartbeats 4000000
set_option Elab.async false
set_option linter.all false
set_option maxRecDepth 100000
set_option hygiene false
open PySem.W renaming Frag→c7
abbrev c0:=List Nat
local macro_rules|`(term|($x :))=>`(($x).length)
local macro_rules|`(term|())=>`(by lia)
local macro_rules|`(term|$a|||$b)=>`(List.getD $a $b [])
local macro_rules|`(term|∅)=>`(by decide)
local macro_rules|`(term|⋯)=>`(by decide +kernel)
local macro_rules|`(tactic|walk_at"a")=>`(tactic|intro pins s σ H x y v u Q I rx ry h)
local macro_rules|`(tactic|walk_at"b")=>`(tactic|intro X hP hw hK hc i pins s σ H E I hf st hg)
local macro_rules|`(tactic|walk_at"c")=>`(tactic|have s0:∀(w:c0) (i:Int),sq w i 0=rd w i:=λw i=>by unfold sq;rw[show i+0=i by lia])
local macro_rules|`(tactic|walk_at"d")=>`(tactic|intro pins s σ H xs us Q I r h)
local macro_rules|`(tactic|walk_at"e")=>`(tactic|obtain ⟨f0,f1,f2,f3,f4,f5⟩:=hf it (by simp))
local macro_rules|`(tactic|walk_at"f")=>`(tactic|obtain ⟨t,rfl⟩:=rx)
local macro_rules|`(tactic|walk_at"g")=>`(tactic|intro pins s σ H Q I h)
local macro_rules|`(tactic|walk_at"h")=>`(tactic|refine ⟨λi m σ H=>m=(xs:) - i/\i<=(xs:)/\Pv i σ H,⟨(xs:),by simp,Qar _,h0⟩,?_⟩)
local macro_rules|`(tactic|walk_at"i")=>`(tactic|have b0:∀(w:c0) (i:Int),bq w i 0=aA (rd w i):=λw i=>by unfold bq;rw[show i - 0=i by lia])
local macro_rules|`(tactic|walk_at"j")=>`(tactic|refine cM (λz=>?_) (λz=>?_))
local macro_rules|`(tactic|walk_at"k")=>`(tactic|refine wpAny_bind (wpAny_callSpecial?_slot (name:=Str.ofString "__next__") hi.typeIs F.slot_tuple_iterator_next (wpAny_call_entry F.slot_tuple_iterator_next hi.typeIs F.entry_tuple_iterator_next ?_ (F.args_tuple_iterator_next_1 _))))
local macro_rules|`(tactic|walk_at"l")=>`(tactic|refine Call_ (g8 I hg hm boot_enumerate (Qcg (cA (ha pos pins s σ H _ I h) λus s1 ⟨vs,H1,I1,r1,q1⟩=>?_) hs rfl)))
local macro_rules|`(tactic|walk_at"m")=>`(tactic|have QE:∀y∈scope.names,y.2= .free->∃c,X.env.cells.lookup y.1=some c:=λy hy e=>I.ok.has y.1 (Kw y hy e))
local macro_rules|`(tactic|walk_at"n")=>`(tactic|have W:=WalksT.enumerateD D e Cm (by simp;exact ⟨Cm,Ne.symm TN⟩) (by simp))
local macro_rules|`(tactic|walk_at"o")=>`(tactic|obtain ⟨z,aH,n,r,hl,e⟩:=I.qN hH)
local macro_rules|`(tactic|walk_at"p")=>`(tactic|intro pins s σ H D I h)
local macro_rules|`(tactic|walk_at"q")=>`(tactic|have cL:=fq (P:=P) (w:=w) (base:=base) T)
local macro_rules|`(tactic|walk_at"r")=>`(tactic|exact aF (λ_=>wpS_pure ⟨rfl,pj,Er,b5,l5⟩) (λ_=>wpS_bind (A3 L C pj b5 () λst6 Uu Uv b6 l6 _=>aF (λz=>by cases z) (λz=>wpS_pure ⟨rfl,Uv,Uu,b6,l6.trans l5⟩))))
local macro_rules|`(tactic|walk_at"s")=>`(tactic|intro pins s σ H x xs v us Q I rx rv h)
local macro_rules|`(tactic|walk_at"t")=>`(tactic|intro pins s σ H x vs v us Q I rx rv h)
local macro_rules|`(tactic|walk_at"u")=>`(tactic|obtain ⟨l,rfl,hl,hz,q⟩:=h)
local macro_rules|`(tactic|walk_at"v")=>`(tactic|refine wpS_bind (wpS_lift (wpAny_rule ⟨rfl,?_⟩)))
local macro_rules|`(tactic|walk_at"x")=>`(tactic|exact λp2 n2=>q p2 _ (aq.free (aq.upd n1) n2) ⟨_,_,ah⟩ ((aq.upd n1).trans (aq.upd n2)))
local macro_rules|`(tactic|walk_at"y")=>`(tactic|refine wpAny_bind (wpAny_pure ?_))
local macro_rules|`(tactic|walk_at"z")=>`(tactic|refine ⟨_,rfl,_,_,rfl,rfl,_,rfl,cM (λz=>?_) (λz=>?_)⟩)
local macro_rules|`(tactic|walk_at"A")=>`(tactic|have bU:=eA (P:=P) (w:=w) (base:=base) T)
local macro_rules|`(tactic|walk_at"B")=>`(tactic|have mN:∀{x:Str} {c:Addr},(jx X.env scope.names []).lookup x=some c->X.env.cells.lookup x=some c:=λ{x c} e=>nW scope.names [] (λy d q=>by simp at q) e)
local macro_rules|`(tactic|walk_at"C")=>`(tactic|have e1:=h.M5 (a:=(aA (f (-1)),a)) (b:=(aA (g (-1)),a')) (c:=(f 0,b)) (by simp) (by simp) (by simp) (by show aA _=aA _;rw[z1]) (cj ya (hf.cu 0) (Ne.symm r1)))
local macro_rules|`(tactic|walk_at"D")=>`(tactic|refine wpS_bind (wpS_get ?_))
local macro_rules|`(tactic|walk_at"E")=>`(tactic|rw[show eF f v ((k,x)::r)=(if k=f then (k,v)::r else (k,x)::eF f v r) from rfl])
local macro_rules|`(tactic|walk_at"F")=>`(tactic|refine W.go elts k pos i T { s with heap:=h',toks:=tk } _ _ yJ λh2 yK nZ=>?_)
local macro_rules|`(tactic|walk_at"G")=>`(tactic|refine ⟨_,rfl,l,rfl,hl,hz,λH1 s1=>?_⟩)
local macro_rules|`(tactic|walk_at"H")=>`(tactic|rw[show (0:Int)=cC (w:) (v:) (λ_ _=>0) by unfold cC;rw[show (λ_:Int=>sm (v:) λ_=>0)=λ_=>0 from funext λ_=>gT _,gT]])
local macro_rules|`(tactic|walk_at"I")=>`(tactic|have hle:lt (arr.toList[base+j]) (arr.toList[base+i])=false:=A1 L hs Ai (by rw[Qay (),Qbj];exact Of Ft) (by rw[Qay hj,Qbj];exact Of MT))
local macro_rules|`(tactic|walk_at"J")=>`(tactic|obtain ⟨t',rfl⟩:=ry)
local macro_rules|`(tactic|walk_at"K")=>`(tactic|intro value slice pins s σ H x y v u Q I rx ry h hs)
local macro_rules|`(tactic|walk_at"L")=>`(tactic|have e2:=h.same (a:=(aA (f (-1)),a)) (b:=(g 0,b')) (c:=(f 0,b)) (by simp) (by simp) (by simp) z0.symm (cj ya (hf.cu 0) (Ne.symm r1)))
local macro_rules|`(tactic|walk_at"M")=>`(tactic|exact ⟨λ⟨c,hc,e⟩=>⟨c,(Qa4.mp hc).1,(Qa4.mp hc).2,e.symm⟩,λ⟨c,h1,h2,e⟩=>⟨c,Qa4.mpr ⟨h1,h2⟩,e.symm⟩⟩)
local macro_rules|`(tactic|walk_at"N")=>`(tactic|exact I1.qI (ZH _) (I1.b8.fresh (ZH _)))
local macro_rules|`(tactic|walk_at"O")=>`(tactic|refine aF (λg=>?_) (λg=>?_))
local macro_rules|`(tactic|walk_at"P")=>`(tactic|show jx env r (if (k==NameKind.free)=true then (match env.cells.lookup n with | some a=>(n,a)::acc | none=>acc) else acc)=_)
local macro_rules|`(tactic|walk_at"Q")=>`(tactic|refine W.done s _ _ ?_ λh' tk hk=>⟨rfl,I.wR (t':=tk) hk hf⟩)
local macro_rules|`(tactic|walk_at"R")=>`(tactic|have I1:Inv X pins σ H { s with heap:=h',toks:=tk }:=I.turned (λb o hb e=>kk b o (by simpa using hb) e) f0 f1 f3 f4 f5)
local macro_rules|`(tactic|walk_at"S")=>`(tactic|refine cA (hl pins s σ H _ I h) λv s1 ⟨x,H1,I1,r1,q1⟩=>?_)
local macro_rules|`(tactic|walk_at"T")=>`(tactic|obtain ⟨t,rfl⟩:=r1)
local macro_rules|`(tactic|walk_at"U")=>`(tactic|have I1:Inv X pins σ H { s with heap:=h' }:=I.turned (t':=s.toks) (λb o hb e=>(sb.2 b hb).trans e) f0 f1 f3 f4 f5)
local macro_rules|`(tactic|walk_at"V")=>`(tactic|exact ⟨o,e,λv z=>by rw[d]at z;cases z⟩)
local macro_rules|`(tactic|walk_at"W")=>`(tactic|intro pins s σ H R I h)
open List renaming getElem?_eq_getElem→Of,getElem?_eq_some_iff→Og,length_append→QD,append_assoc→VI,mem_singleton→ZI,length_pos_iff→ZJ,length_map→kb,length_take→Qaa,mem_of_getElem?→Qac,take_of_length_le→Qae,mem_cons_of_mem→Qaf,size_toArray→Qag,idxOf_lt_length_of_mem→Qah,mem_cons_self→Qai,getD_eq_getElem?_getD→Qaj,map_append→Qak,take_append_drop→Qal,mem_cons→Qam,mem_append→Qao,getElem?_map→Qas,length_reverse→Qat,getElem?_append_right→Qav,getElem?_take_of_lt→Qay,length_drop→Qaz,map_cons→Qa0,append_nil→Qa1,mem_append_right→Qa2,mem_map→Qa3,mem_filter→Qa4,length_cons→Qa5,pairwise_append→Qa6,filter_append→Qa9,not_mem_nil→Qbb,take_length→Qbe,getElem?_append_left→Qbg,filter_cons_of_neg→Qbi,getElem?_drop→Qbj,take_append_of_le_length→Qbk,drop_of_length_le→Qbn,nodup_cons→Qbp,drop_eq_getElem_cons→Qbq,flatMap_cons→Qbu,filter_cons_of_pos→Qbv,map_map→Qbx,mem_flatMap→Qby,lookup_cons→Qbz,getElem_mem→Qb0,mem_reverse→Qb4,flatten_cons→Qb6,flatMap_append→Qb9,range_succ→Qca,pairwise_singleton→Qcb,mem_range→Qcd,perm_append_comm→Qce,length_filter_le→Qcf,pairwise_map→Qch,length_eq_zero_iff→Qcj,mem_append_left→Qck,drop_zero→Qcl,pairwise_iff_getElem→Qcq,nodup_append→Qcs,getElem_idxOf→Qcu,mem_of_mem_take→Qcx,mem_of_mem_drop→Qcy,getElem?_of_mem→Qc7,eq_nil_of_length_eq_zero→Qc8,replicate_succ→Qc9,pairwise_cons→Qdf,lt_irrefl→Qdg,getElem?_eq_none→Qdh,foldl_cons→Qdi,find?_cons→Qdj,sum_cons→Qdm,reverse_append→Qdn,map_congr_left→Qdo,getElem_of_mem→Qdp,any_cons→Qdt,getElem?_reverse→Qdw,ext_getElem?→Qdx,dropLast_concat→Qd0,map_reverse→Qd5,nil_append→Qec,eraseIdx_cons_succ→Qef,take_succ_eq_append_getElem→Qeh,take_add_one→Qei,flatMap_singleton→Qej,drop_eq_nil_of_le→Qek,drop_append_of_le_length→Qeq,forIn_cons→Qer,perm_append_singleton→Qex,nodup_nil→Qey,rel_of_pairwise_cons→Qe0,getLastD_eq_getLast?→Qe1,getLast?_eq_getElem?→Qe2,reverse_perm→Qe3,length_range→Qe4,idxOf_append→Qe5,le_trans→Qe8,getElem_map→Qfc,flatten_nil→Qfd,cons_append→Qfe,all_eq_true→Qff,head?_eq_getElem?→Qfl,length_nil→Qfr,cons_lt_cons_iff→Qft,reverse_reverse→Qfv,not_lt→Qfw,map_id→Qfx,length_dropLast→Qfy,drop_left→Qfz,flatten_append→Qf1,filterMap_cons→Qf2,set_comm→Qf4,getElem?_take→Qf8,take_sublist→Qgc,filter_congr→Qgd,any_eq_false→Qge,nodup_range→Qgj,flatMap_nil→Qgk,filter_cons→Qgl,drop_append→Qgm,of_mem_zip→Qgs
open PySem.Heap renaming get?_push_of_some→ZG,lt_size→Qap,get?_push_size→Qaq,get?_update_other→Qb1,get?_update_self→Qcv,size_push→Qda
open Nat renaming le_refl→ZH,zero_le→Qar,ne_of_lt→Qaw,lt_of_lt_of_le→Qbc,le_trans→Qbh,add_sub_cancel_left→Qbl,lt_of_le_of_lt→Qbm,min_eq_left→Qbo,le_of_lt→Qbt,lt_irrefl→Qbw,mul_comm→Qb5,min_eq_right→Qco,lt_succ_self→Qcp,lt_succ_of_lt→Qcr,mod_eq_of_lt→Qcw,zero_add→Qc1,le_succ→Qc6,add_zero→Qdd,succ_le_succ→Qde,sub_zero→Qdk,sub_self→Qdl,lt_or_gt_of_ne→Qdq,max_eq_left→Qdr,le_antisymm→Qds,mod_lt→Qdz,succ_mul→Qd2,max_eq_right→Qd3,lt_trans→Qd4,div_add_mod→Qeb,eq_zero_of_not_pos→Qeg,add_assoc→Qeo,mul_le_mul_right→Qep,lt_asymm→Qeu,succ_ne_self→Qfb,ne_of_gt→Qfk,not_lt_zero→Qfo,mul_add_mod→Qfp,mod_add_div→Qfq,div_lt_iff_lt_mul→Qfs,pos_of_ne_zero→Qf7,zero_mul→Qga,pow_succ→Qgb,div_eq_of_lt→Qgi,mul_add→Qgp,div_pos→Qgq,mul_add_div→Qgr
open Int renaming toNat_natCast→Qab,emod_eq_of_lt→Qbd,natCast_add→Qbs,emod_lt_of_pos→Qcc,add_zero→Qci,emod_nonneg→Qcn,zero_add→Qc5,emod_add_emod→Qdy,add_mul_emod_self_left→Qd1,sub_zero→Qd6,natCast_nonneg→Qed,add_emod_right→Qee,natCast_ediv→Qen,toNat_of_nonneg→Qet,sub_emod→Qev,emod_add_mul_ediv→Qfu,emod_emod_of_dvd→Qf0,sub_eq_add_neg→Qf9,ofNat_lt→Qgh,natCast_emod→Qgn
open Option.some renaming inj→Qad
open Bool renaming false_ne_true→Qan,and_eq_true→Qbr,false_eq_true→Qcm,eq_iff_iff→Qes,or_false→Qfa,not_true→Qf5,false_or→Qf6,decide_and→Qgt
open Array renaming toList_append→Qau,length_toList→Qa7,getElem?_toList→Qba,perm_iff_toList_perm→Qb3,toList_push→Qb7,toList_reverse→Qcz,toList_inj→Qfg
open PySem.F renaming plainAttrs_str→Qax,plainAttrs_list→Qa8,plain_max_loop→Qc0,called_set→Qc2,type_list_append→Qc3,slot_list_append→Qc4,type_str_index→Qdb,slot_str_index→Qdc,type_str_join→Qdu,slot_str_join→Qdv,type_list_extend→Qd9,slot_list_extend→Qea,type_list_pop→Qel,slot_list_pop→Qem,type_str_islower→Qe6,slot_str_islower→Qe7,type_str_lower→Qfh,slot_str_lower→Qfi,entry_max_loop→Qfj
open PySem renaming boot_len→Qbf,mem_of_lookup→Qd7
open PySem.W renaming mg_none_of→Qb2,kia_one→Qct,callWith_K→Qew,mg_of→Qf3
open List.Perm renaming append_left→Qb8,refl→Qez,append_right→Qfm
open PyProof.Rows renaming callWith_type1→Qcg
open PyProof.Rows.F renaming plain_set_update_loop→Qd8
open List.Pairwise renaming imp_of_mem→Qe9,map→Qgf,imp→Qgg
open Option renaming map_some→Qfn
open PySem.Heap.SameBut renaming update→Qgo
namespace L2
open PySem PySem.Spec PyProof.Rows
abbrev Key:=Sum Int Str
noncomputable def uJ:Key->Value->Bool
 | .inl k,v=>Value.isInt k v
 | .inr x,v=>Value.isStrOf x v
noncomputable def Wx(w:World):Key->Int
 | .inl k=>hashInt k
 | .inr x=>hashStr w x
theorem cq:∀{k:Key} {v:Value},uJ k v=true->(∃i t,k=Sum.inl i/\v=Value.int i t)\/(∃x t,k=Sum.inr x/\v=Value.str x t)
 | .inl i,v,h=>by
  obtain ⟨t,e⟩:=Value.isInt_shape (k:=i) (v:=v) h
  exact .inl ⟨i,t,rfl,e⟩
 | .inr x,v,h=>by
  obtain ⟨t,e⟩:=Value.isStrOf_shape (x:=x) (v:=v) h
  exact .inr ⟨x,t,rfl,e⟩
theorem DG(i:Int)(t:Tok):uJ (.inl i) (.int i t)=true:=by simp[uJ,Value.isInt]
theorem DH(x:Str)(t:Tok):uJ (.inr x) (.str x t)=true:=by simp[uJ,Value.isStrOf]
theorem Nu(a b:Int):decide ((Sum.inl a:Key)=Sum.inl b)=(a==b):=by
 by_cases e:a=b
 ·subst e;simp
 ·have h: ¬(Sum.inl a:Key)=Sum.inl b:=λq=>e (Sum.inl.inj q)
  rw[decide_eq_false h]
  exact (beq_eq_false_iff_ne.mpr e).symm
theorem Nv(a b:Str):decide ((Sum.inr a:Key)=Sum.inr b)=decide (a=b):=by
 by_cases e:a=b
 ·subst e;simp
 ·have h: ¬(Sum.inr a:Key)=Sum.inr b:=λq=>e (Sum.inr.inj q)
  rw[decide_eq_false h,decide_eq_false e]
theorem Nw(a:Int)(b:Str):decide ((Sum.inl a:Key)=Sum.inr b)=false:=decide_eq_false (λq=>nomatch q)
theorem Ny(a:Str)(b:Int):decide ((Sum.inr a:Key)=Sum.inl b)=false:=decide_eq_false (λq=>nomatch q)
noncomputable def cO(prog:Program)(w:World):PySem.KeyKind prog w Key where
 is:=uJ
 hash:=Wx w
 inj:=λv a b ha hb=>by
  rcases cq ha with ⟨i,t,rfl,rfl⟩ | ⟨x,t,rfl,rfl⟩
  ·rcases cq hb with ⟨j,u,rfl,e⟩ | ⟨y,u,rfl,e⟩
   ·injection e with e1 _;rw[e1]
   ·exact nomatch e
  ·rcases cq hb with ⟨j,u,rfl,e⟩ | ⟨y,u,rfl,e⟩
   ·exact nomatch e
   ·injection e with e1 _;rw[e1]
 byValue:=λk v h=>by
  rcases cq h with ⟨i,t,rfl,rfl⟩ | ⟨x,t,rfl,rfl⟩<;>rfl
 pyHash:=λhv h=>by
  rcases cq hv with ⟨i,t,rfl,rfl⟩ | ⟨x,t,rfl,rfl⟩
  ·exact wpAny_pyHash_int h
  ·exact wpAny_pyHash_str h
 eqBool:=λhu hv h=>by
  rcases cq hu with ⟨i,t,rfl,rfl⟩ | ⟨x,t,rfl,rfl⟩
  ·rcases cq hv with ⟨j,u,rfl,rfl⟩ | ⟨y,u,rfl,rfl⟩
   ·rw[Nu]at h;exact wpAny_eqBool_int h
   ·rw[Nw]at h;exact SeqAt.EqAt.int_str i t y u _ _ _ _ h
  ·rcases cq hv with ⟨j,u,rfl,rfl⟩ | ⟨y,u,rfl,rfl⟩
   ·rw[Ny]at h;exact SeqAt.EqAt.str_int x t j u _ _ _ _ h
   ·rw[Nv]at h;exact wpAny_eqBool_str h
 «strs» :=λk x t v h=>by
  rcases cq h with ⟨i,u,rfl,e⟩ | ⟨y,u,rfl,e⟩
  ·exact nomatch e
  ·injection e with e1 _
   subst e1
   cases v<;>rfl
theorem yo(prog:Program)(w:World)(i:Int)(t:Tok):(cO prog w).is (.inl i) (.int i t)=true:=DG i t
theorem yp(prog:Program)(w:World)(x:Str)(t:Tok):(cO prog w).is (.inr x) (.str x t)=true:=DH x t
inductive V where
 | eX | bl (b:Bool) | int (i:Int) | str (x:Str) | B3 (b:Array UInt8) | Nz (b:UInt64) | ref (a:Addr) | ty (n:String)
 deriving DecidableEq
def RelV:V->Value->Prop
 | .eX,u=>u=Value.none
 | .bl b,u=>u=Value.bool b
 | .int i,u=>∃t,u=Value.int i t
 | .str x,u=>∃t,u=Value.str x t
 | .B3 b,u=>∃t,u=Value.bytes b t
 | .Nz b,u=>∃t,u=Value.float b t
 | .ref a,u=>u=Value.ref a
 | .ty n,u=>u=Value.type n
abbrev Vals:List V->List Value->Prop:=Paired RelV
theorem Vals.length{xs:List V}{us:List Value}(r:Vals xs us):(xs:)=(us:):=Paired.length r
theorem Vals.get:∀{xs:List V} {us:List Value} {i:Nat} {x:V},Vals xs us->xs[i]? =some x->∃u,us[i]? =some u/\RelV x u
 | _,_,_,_,.nil,e=>by simp at e
 | _,_,0,_,.cons r _,e=>by simp at e;subst e;exact ⟨_,rfl,r⟩
 | _,_,i+1,x,.cons _ t,e=>by
  obtain ⟨u,h1,h2⟩:=Vals.get (i:=i) (x:=x) t (by simpa using e)
  exact ⟨u,by simpa using h1,h2⟩
theorem Vals.set{x:V}{u:Value}(r:RelV x u):∀{xs:List V} {us:List Value} (i:Nat),Vals xs us->Vals (xs.set i x) (us.set i u)
 | _,_,_,.nil=> .nil
 | _,_,0,.cons _ t=> .cons r t
 | _,_,i+1,.cons q t=> .cons q (Vals.set r i t)
theorem Vals.append:∀{xs ys:List V} {us ws:List Value},Vals xs us->Vals ys ws->Vals (xs++ys) (us++ws)
 | _,_,_,_,.nil,s=>s
 | _,_,_,_,.cons r t,s=> .cons r (Vals.append t s)
theorem Vals.take:∀{xs:List V} {us:List Value} (n:Nat),Vals xs us->Vals (xs.take n) (us.take n)
 | _,_,0,_=> .nil
 | _,_,_+1,.nil=> .nil
 | _,_,n+1,.cons r t=> .cons r (Vals.take n t)
theorem Vals.drop:∀{xs:List V} {us:List Value} (n:Nat),Vals xs us->Vals (xs.drop n) (us.drop n)
 | _,_,0,r=>r
 | _,_,_+1,.nil=> .nil
 | _,_,n+1,.cons _ t=>Vals.drop n t
def nQ:Option V->Option Value->Prop
 | some v,some u=>RelV v u
 | none,none=>True
 | _,_=>False
def KV{κ:Type}:List (κ×V)->List (κ×Value)->Prop:=Paired λ(p:κ×V) (q:κ×Value)=>p.1=q.1/\RelV p.2 q.2
noncomputable def kV:Key->V
 | .inl i=> .int i
 | .inr x=> .str x
inductive HO where
  | lst (xs:List V)
  | tup (xs:List V)
  | dK (aN:List (Key×V)) | dT (aN:List (List Key×V))
  | set (S:Int->Bool) (n:Nat)
  | ins (C dx:Addr) (fs:List (Str×V))
  | own (x:Addr)
  | xd (fs:List (Str×V))
  | met (f x:Addr)
  | Wy (lo hi:Int)
  | B4 (o:Obj) (u:HO)
  | NA (ps:Array Value)
  | ext (φ:Heap->Prop)
abbrev Hp:=Addr->Option HO
noncomputable def upd(H:Hp)(a:Addr)(o:HO):Hp:=λb=>if b=a then some o else H b
theorem ah{H:Hp}{a:Addr}{o:HO}:upd H a o a=some o:=by unfold upd;rw[if_pos rfl]
theorem az{H:Hp}{a b:Addr}{o:HO}(h:b≠a):upd H a o b=H b:=by unfold upd;rw[if_neg h]
theorem Sx{H:Hp}{a b:Addr}{o u:HO}(h:H a=some o)(h':H b=some u)(d:o≠u):a≠b:=by
 intro e;subst e;rw[h]at h';exact d (Qad h')
theorem ay{H:Hp}{a b:Addr}{o:HO}(h:H a=some o)(h':H b=none):a≠b:=by
 intro e;subst e;rw[h]at h';cases h'
section
variable(P:Program)(w:World)
def cg(H:Hp)(h:Heap)(a:Addr):HO->Prop
 | .lst xs=>(xs:)<=sizeLine/\∃(aH:List Value) (n:Nat),Vals xs aH/\h.get? a=some { cls:= .type "list",data:= .seq aH.toArray n }
 | .tup xs=>(xs:)<=sizeLine/\∃aH:List Value,Vals xs aH/\IsTup h a aH.toArray
 | .dK aN=>(aN:)<=sizeLine/\(a==sysModules)=false/\∃vs,KV aN vs/\h.DictOf (cO P w) a vs
 | .dT aN=>(aN:)<=sizeLine/\(a==sysModules)=false/\∃xs:List (List Key×Addr×Value),
   Paired (λ(p:List Key×V) (q:List Key×Addr×Value)=>p.1=q.1/\H q.2.1=some (.tup (p.1.map kV))/\RelV p.2 q.2.2) aN xs/\
   ∃o es ep,h.get? a=some o/\o.ExactDict/\o.data= .dict es ep/\es.toList=xs.map (entryOfKey (tupleKind (cO P w)))/\(xs.map (·.1)).Nodup
 | .set S n=>h.SetOf (intKind P w) a S n
 | .ins C dx fs=>H dx=some (.own a)/\(fs:)<=1000/\dx≠a/\h.get? a=some (PySem.W.instObj C dx)/\
   ∃mA,h.Ns1 dx mA/\(∀f,nQ (fs.lookup f) (mA f))/\PySem.Within mA (fs.map (·.1))
 | .own _=>∃o,h.get? a=some o
 | .xd fs=>∃mA,h.Ns1 a mA/\∀f,nQ (fs.lookup f) (mA f)
 | .Wy lo hi=>∃t u v,h.get? a=some { cls:= .type "range",data:= .fields #[.int lo t,.int hi u,.int 1 v] }
 | .B4 o u=>h.get? a=some o/\cg H h a u
 | .NA ps=>h.get? a=some { cls:= .none,data:= .fields ps }
 | .met f x=>h.get? a=some (PySem.W.methodObj (.ref f) (.ref x))
 | .ext φ=>φ h/\(∃o,h.get? a=some o)/\∀h1 h2:Heap,φ h1->(∀o,h1.get? a=some o->h2.get? a=some o)->φ h2
def lU(H:Hp)(h:Heap):Prop:=∀a o,H a=some o->cg P w H h a o
end
section
variable{P:Program}{w:World}{H H':Hp}{h h':Heap}{a:Addr}{o:HO}
theorem cg.lt(x:cg P w H h a o):a<h.objs.size:=by
 cases o with
 | lst xs=>obtain ⟨_,_,_,_,e⟩:=x;exact Qap e
 | tup xs=>obtain ⟨_,_,_,p⟩:=x;exact p.lt
 | dK aN=>obtain ⟨_,_,_,_,o,_,_,e,_⟩:=x;exact Qap e
 | dT aN=>obtain ⟨_,_,_,_,o,_,_,e,_⟩:=x;exact Qap e
 | set S n=>obtain ⟨o,_,_,_,e,_⟩:=x;exact Qap e
 | ins C dx fs=>obtain ⟨_,_,_,e,_⟩:=x;exact Qap e
 | own y=>obtain ⟨_,e⟩:=x;exact Qap e
 | xd fs=>obtain ⟨_,⟨_,_,_,e,_⟩,_⟩:=x;exact Qap e
 | Wy lo hi=>obtain ⟨_,_,_,e⟩:=x;exact Qap e
 | B4 ob u=>obtain ⟨e,_⟩:=x;exact Qap e
 | NA ps=>exact Qap (show h.get? a=some _ from x)
 | met f y=>exact Qap (show h.get? a=some _ from x)
 | ext φ=>obtain ⟨_,⟨_,e⟩,_⟩:=x;exact Qap e
theorem Paired.NB{α β:Type}{F G:α->β->Prop}:∀{l₁:List α} {l₂:List β},Paired F l₁ l₂->(∀a b,F a b->G a b)->Paired G l₁ l₂
 | _,_,.nil,_=> .nil
 | _,_,.cons r t,f=> .cons (f _ _ r) (Paired.NB t f)
theorem cg.yq(x:cg P w H h a o)(k:∀b u,(b=a\/H b=some (.own a))->h.get? b=some u->h'.get? b=some u)
  (ho:∀b,H b=some (.own a)->H' b=some (.own a)) (ht:∀b xs,H b=some (.tup xs)->H' b=some (.tup xs)):cg P w H' h' a o:=by
 induction o with
 | lst xs=>obtain ⟨z,aH,n,r,e⟩:=x;exact ⟨z,aH,n,r,k _ _ (.inl rfl) e⟩
 | tup xs=>obtain ⟨z,aH,r,ob,e,c⟩:=x;exact ⟨z,aH,r,ob,k _ _ (.inl rfl) e,c⟩
 | dK aN=>obtain ⟨z,y,vs,r,ob,es,ep,e,c⟩:=x;exact ⟨z,y,vs,r,ob,es,ep,k _ _ (.inl rfl) e,c⟩
 | dT aN=>
  obtain ⟨z,y,xs,r,ob,es,ep,e,c⟩:=x
  exact ⟨z,y,xs,Paired.NB r λp q z=>⟨z.1,ht _ _ z.2.1,z.2.2⟩,ob,es,ep,k _ _ (.inl rfl) e,c⟩
 | set S n=>obtain ⟨ob,es,ep,t,e,c⟩:=x;exact ⟨ob,es,ep,t,k _ _ (.inl rfl) e,c⟩
 | ins C dx fs=>
  obtain ⟨d,z,ne,e,mA,⟨od,es,ep,e2,c⟩,r⟩:=x
  exact ⟨ho _ d,z,ne,k _ _ (.inl rfl) e,mA,⟨od,es,ep,k _ _ (.inr d) e2,c⟩,r⟩
 | own y=>obtain ⟨ob,e⟩:=x;exact ⟨ob,k _ _ (.inl rfl) e⟩
 | xd fs=>obtain ⟨mA,⟨od,es,ep,e,c⟩,r⟩:=x;exact ⟨mA,⟨od,es,ep,k _ _ (.inl rfl) e,c⟩,r⟩
 | Wy lo hi=>obtain ⟨t,u,v,e⟩:=x;exact ⟨t,u,v,k _ _ (.inl rfl) e⟩
 | B4 ob u ih=>obtain ⟨e,q⟩:=x;exact ⟨k _ _ (.inl rfl) e,ih q⟩
 | NA ps=>
  have e:h.get? a=some { cls:= .none,data:= .fields ps }:=x
  show h'.get? a=some { cls:= .none,data:= .fields ps }
  exact k a _ (.inl rfl) e
 | met f y=>
  have e:h.get? a=some (PySem.W.methodObj (.ref f) (.ref y)):=x
  show h'.get? a=some (PySem.W.methodObj (.ref f) (.ref y))
  exact k a _ (.inl rfl) e
 | ext φ=>obtain ⟨p,⟨o,e⟩,st⟩:=x;exact ⟨st _ _ p λo q=>k _ _ (.inl rfl) q,⟨o,k _ _ (.inl rfl) e⟩,st⟩
theorem lU.lt(x:lU P w H h)(e:H a=some o):a<h.objs.size:=(x a o e).lt
theorem lU.fresh(x:lU P w H h)(e:h.objs.size<=a):H a=none:=by
 cases q:H a with
 | none=>rfl
 | some u=>exact absurd (Qbc (x.lt q) e) (Qbw _)
theorem lU.kept(x:lU P w H h)(k:∀b u,h.get? b=some u->h'.get? b=some u):lU P w H h':=λa o e=>
 (x a o e).yq (λb u _ q=>k b u q) (λ_ q=>q) λ_ _ q=>q
theorem lU.laid(x:lU P w H h)(k:∀b u,h.get? b=some u->h'.get? b=some u)(hp:h.objs.size<=a)(new:cg P w (upd H a o) h' a o):lU P w (upd H a o) h':=λb u e=>by
 have hn:=x.fresh hp
 by_cases hb:b=a
 ·subst hb;rw[ah]at e;cases e;exact new
 ·rw[az hb]at e
  exact (x b u e).yq (λc v _ q=>k c v q) (λc q=>by rw[az (ay q hn)];exact q) λc xs q=>by rw[az (ay q hn)];exact q
end
def Rd(H:Hp)(a:Addr)(u:HO):Prop:=H a=some u\/∃o,H a=some (.B4 o u)
theorem Rd.ok{P:Program}{w:World}{H:Hp}{h:Heap}{a:Addr}{u:HO}(r:Rd H a u)(x:lU P w H h):cg P w H h a u:=by
 rcases r with r | ⟨o,r⟩
 ·exact x a u r
 ·obtain ⟨_,q⟩:=x a _ r
  exact q
def Sy:Option HO->Prop
 | some (.lst _)=>True
 | some (.dK _)=>True
 | some (.dT _)=>True
 | some (.set _ _)=>True
 | some (.ins _ _ _)=>True
 | some (.ext _)=>True
 | _=>False
section
variable{P:Program}{w:World}{H:Hp}{h h':Heap}{x e:Addr}{o':HO}
theorem lU.write(ok:lU P w H h)(mu:Sy (H x))(he:e=x\/H e=some (.own x))(k:∀b u,b≠e->h.get? b=some u->h'.get? b=some u)(Qx:∃u,h'.get? e=some u)
  (new:cg P w (upd H x o') h' x o'):lU P w (upd H x o') h':=λb u q=>by
 have Sz:∀c y,H c=some (.own y)->c≠x:=λc y r z=>by subst z;rw[r]at mu;exact mu
 have Wz:∀c xs,H c=some (.tup xs)->c≠x:=λc xs r z=>by subst z;rw[r]at mu;exact mu
 by_cases hb:b=x
 ·subst hb;rw[ah]at q;cases q;exact new
 ·rw[az hb]at q
  by_cases JG:b=e
  ·have q':H b=some (.own x):=by
    rcases he with z | z
    ·exact absurd (JG.trans z) hb
    ·rw[JG];exact z
   rw[q]at q';cases q'
   obtain ⟨v,hv⟩:=Qx
   exact ⟨v,by rw[JG];exact hv⟩
  ·refine (ok b u q).yq (λc v hc r=>k c v ?_ r) (λc r=>by rw[az (Sz c b r)];exact r) λc xs r=>by rw[az (Wz c xs r)];exact r
   rcases hc with rfl | hc
   ·exact JG
   ·rintro rfl
    rcases he with z | z
    ·exact Sz c b hc z
    ·rw[hc]at z;cases z;exact hb rfl
end
structure Un(fs ex:List Addr)(H H':Hp)(h h':Heap):Prop where
 keep:∀b o,h.get? b=some o->H b=none->b∉fs->b∉ex->h'.get? b=some o
 slot:∀b o,h.get? b=some o->H b=none->b∈fs->b∉ex->∃sl,h'.get? b=some { o with slots:=sl }
 free:∀b o,h.get? b=some o->H b=none->b∉ex->H' b=none
 there:∀b o,h.get? b=some o->b∉ex->∃o',h'.get? b=some o'
 tU:∀b xs,H b=some (.tup xs)->H' b=some (.tup xs)
 qG:∀b o u,H b=some (.B4 o u)->H' b=some (.B4 o u)
 wu:∀b ps,H b=some (.NA ps)->∃more,H' b=some (.NA (ps++more))
section
variable{fs fs' ex ex':List Addr}{H H1 H2:Hp}{h h1 h2 h':Heap}{a x e:Addr}{o:HO}
theorem Un.any(u:Un fs ex H H1 h h1){b:Addr}{ob:Obj}(q:h.get? b=some ob)(n:H b=none)(hx:b∉ex):∃sl,h1.get? b=some { ob with slots:=sl }:=by
 by_cases hb:b∈fs
 ·exact u.slot b ob q n hb hx
 ·exact ⟨ob.slots,u.keep b ob q n hb hx⟩
theorem Un.kept(k:∀b u,h.get? b=some u->h'.get? b=some u):Un fs ex H H h h':=
 ⟨λb ob q _ _ _=>k b ob q,λb ob q _ _ _=>⟨ob.slots,k b ob q⟩,λ_ _ _ n _=>n,λb ob q _=>⟨ob,k b ob q⟩,λ_ _ q=>q,λ_ _ _ q=>q,λ_ ps q=>⟨#[],by rw[q];simp⟩⟩
theorem Un.refl:Un fs ex H H h h:=Un.kept λ_ _ q=>q
theorem Un.laid(k:∀b u,h.get? b=some u->h'.get? b=some u)(hp:h.objs.size<=a)(hn:H a=none):Un fs ex H (upd H a o) h h' where
 keep:=λb u q _ _ _=>k b u q
 slot:=λb u q _ _ _=>⟨u.slots,k b u q⟩
 free:=λb u q n _=>by rw[az (Qaw (Qbc (Qap q) hp))];exact n
 there:=λb u q _=>⟨u,k b u q⟩
 tU:=λb xs q=>by rw[az (ay q hn)];exact q
 qG:=λb u xs q=>by rw[az (ay q hn)];exact q
 wu:=λb ps q=>⟨#[],by rw[az (ay q hn),q];simp⟩
theorem Un.write(mu:Sy (H x))(he:e=x\/H e=some (.own x))(k:∀b u,b≠e->h.get? b=some u->h'.get? b=some u)(Qx:∃u,h'.get? e=some u):Un fs ex H (upd H x o) h h':=by
 have hx:∀b,H b=none->b≠x:=λb n z=>by subst z;rw[n]at mu;exact mu
 have hb:∀b,H b=none->b≠e:=λb n z=>by
  subst z
  rcases he with r | r
  ·exact hx b n r
  ·rw[n]at r;cases r
 have hm:∀b u,H b=some u-> ¬Sy (some u)->b≠x:=λb u q nm z=>by subst z;rw[q]at mu;exact nm mu
 refine ⟨λb u q n _ _=>k b u (hb b n) q,λb u q n _ _=>⟨u.slots,k b u (hb b n) q⟩,λb u q n _=>by rw[az (hx b n)];exact n,λb u q _=>?_,
  λb xs q=>by rw[az (hm b _ q λz=>z)];exact q,λb u xs q=>by rw[az (hm b _ q λz=>z)];exact q,λb ps q=>⟨#[],by rw[az (hm b _ q λz=>z),q];simp⟩⟩
 by_cases JG:b=e
 ·subst JG;exact Qx
 ·exact ⟨u,k b u JG q⟩
end
noncomputable def Vy(h:Heap)(H:Hp):List Addr:=(List.range h.objs.size).filter λa=>(H a).isSome
noncomputable def wx(h:Heap)(H:Hp):Heap:=PySem.W.hideAll h (Vy h H)
theorem DI(h:Heap)(H:Hp):(wx h H).objs.size=h.objs.size:=PySem.W.hideAll_size _ _
theorem FG{h:Heap}{H:Hp}{b:Addr}{o:Obj}(e:h.get? b=some o)(n:H b=none):(wx h H).get? b=some o:=
 PySem.W.hideAll_get _ e λhm=>by
  have q:(H b).isSome=true:=(Qa4.mp hm).2
  rw[n]at q;simp at q
theorem J6{h:Heap}{H:Hp}{b:Addr}{o:Obj}(e:(wx h H).get? b=some o):h.get? b=some o/\H b=none:=by
 have e':h.get? b=some o:=PySem.W.of_hideAll (Vy h H) e
 refine ⟨e',?_⟩
 cases q:H b with
 | none=>rfl
 | some x=>
  have hm:b∈Vy h H:=Qa4.mpr ⟨Qcd.mpr (Qap e'),by simp[q]⟩
  have z:(wx h H).get? b=none:=PySem.W.hideAll_none (Vy h H) hm
  rw[z]at e;cases e
structure Mod(K:c7)(mg:Str->Option Value)(base:Heap):Prop where
 Qy:K.In base
 glob:base.Ns mainGlobals mg
 blt:∃mb,base.Ns builtinsNs mb/\∀x:Str,x≠"__name__"->mb x=bootBuiltins x
 nolimit:base.NoLimit
structure Cx where
 prog:Program
 w:World
 K:c7
 mg:Str->Option Value
 base:Heap
 A:Around
 N:List Str
 s₀:Shared
 H₀:Hp
 env:Env
 outer:List Env
 stack:List Env
 ex:List Addr
 fn:Str->Bool
 calm:Bool
 pn:List (Addr×Obj)
 xe:Value->Shared->Prop
noncomputable def B5(l:List Env):List Addr:=l.filterMap (·.frame)
noncomputable abbrev Cx.fs(X:Cx):List Addr:=B5 X.outer
def SA(sc:Scope)(x:Str):Prop:=sc.names.lookup x=some .local\/sc.names.lookup x=some .cell\/sc.names.lookup x=some .free
def Loc(sc:Scope)(x:Str):Prop:=sc.names.lookup x=some .local\/sc.names.lookup x=some .cell
def Look(env:Env)(h:Heap)(m:Str->Option Value)(x:Str)(u:Value):Prop:=
 (env.kindOf x=some .local/\m x=some u)\/((env.kindOf x=some .cell\/env.kindOf x=some .free)/\∃c,env.cells.lookup x=some c/\h.IsCell c (some u))
structure Cx.Ok(X:Cx):Prop where
 mod:Mod X.K X.mg X.base
 kind:X.env.scope.kind= .function
 glob:X.env.globals=mainGlobals
 blt:X.env.builtins=builtinsNs
 above:X.s₀.heap.objs.size<=X.env.locals
 inj:∀x y c,X.env.cells.lookup x=some c->X.env.cells.lookup y=some c->x=y
 has:∀x,(X.env.kindOf x=some .cell\/X.env.kindOf x=some .free)->∃c,X.env.cells.lookup x=some c
 SD:∀x c,X.fn x=true->X.env.cells.lookup x=some c->X.s₀.heap.objs.size<=c
 hd:X.calm=true->X.A.handled=none
 frames:X.A.frames=some X.stack
 Vz:X.stack=X.outer\/(X.stack=X.env::X.outer/\X.env.frame=some X.env.locals)
 Zq:∀b∈X.ex,b≠X.env.locals/\∀x c,X.env.cells.lookup x=some c->c≠b
 bs:∀b o,X.base.get? b=some o->X.s₀.heap.get? b=some o/\X.H₀ b=none
 J9:X.base.objs.size<=X.s₀.heap.objs.size
 FH:∀b o,X.base.get? b=some o->b∉X.ex
 J_:∀b∈X.ex,b∉X.fs
 pQ:X.s₀.heap.FunFrames X.base X.outer
 NC:∀b∈X.fs,X.H₀ b=none
structure Inv(X:Cx)(pins:List (Addr×Obj))(σ:List (Option V))(H:Hp)(s:Shared):Prop where
 ok:X.Ok
 os:s.os=X.s₀.os
 bare:AllBare s.gens
 base:Un X.fs X.ex X.H₀ H X.s₀.heap s.heap
 loc:∃m,s.heap.Ns X.env.locals m/\∀(i:Nat) (x:Str) (v:V),X.N[i]? =some x->σ[i]? =some (some v)->SA X.env.scope x->∃u,RelV v u/\Look X.env s.heap m x u
 cell:∀x c,X.env.cells.lookup x=some c->∃v,s.heap.IsCell c v
 free:H X.env.locals=none
 jG:∀x c,X.env.cells.lookup x=some c->H c=none
 pin:∀p∈X.pn++pins,s.heap.get? p.1=some p.2/\H p.1=none/\p.1≠X.env.locals/\p.1∉X.fs/\∀v,p.2.data≠ .cell v
 b8:lU X.prog X.w H s.heap
 len:σ.length=X.N.length
section
variable{X:Cx}{pins:List (Addr×Obj)}{σ:List (Option V)}{H H':Hp}{s:Shared}{h':Heap}
theorem Cx.Ok.WA(ok:X.Ok){b:Addr}{o:Obj}(e:X.base.get? b=some o):b∉X.fs:=λhb=>by
 have:=(ok.pQ.mem hb).1
 rw[e]at this;cases this
theorem Inv.bs(I:Inv X pins σ H s):∀b o,X.base.get? b=some o->s.heap.get? b=some o/\H b=none:=λb o e=>
 ⟨I.base.keep b o (I.ok.bs b o e).1 (I.ok.bs b o e).2 (I.ok.WA e) (I.ok.FH b o e),I.base.free b o (I.ok.bs b o e).1 (I.ok.bs b o e).2 (I.ok.FH b o e)⟩
theorem Inv.bk(I:Inv X pins σ H s):∀b o,X.base.get? b=some o->s.heap.get? b=some o:=λb o e=>(I.bs b o e).1
theorem Inv.mod(I:Inv X pins σ H s):Mod X.K X.mg X.base:=I.ok.mod
theorem Inv.ql(I:Inv X pins σ H s):X.K.In s.heap:=I.ok.mod.Qy.keeps I.bk
theorem Inv.lt(I:Inv X pins σ H s):X.env.locals<s.heap.objs.size:=let ⟨_,hn,_⟩:=I.loc;hn.lt
theorem Inv.sz(I:Inv X pins σ H s):X.s₀.heap.objs.size<=s.heap.objs.size:=Qbh I.ok.above (Qbt I.lt)
theorem Inv.ND(I:Inv X pins σ H s){a:Addr}(h:s.heap.objs.size<=a):a∉X.fs:=λhb=>by
 obtain ⟨_,o,ho,_⟩:=I.ok.pQ.mem hb
 exact absurd (Qbc (Qap ho) (Qbh I.sz h)) (Qbw _)
theorem Inv.NF(I:Inv X pins σ H s):∀x c,X.env.cells.lookup x=some c->c≠X.env.locals:=λx c e z=>by
 obtain ⟨v,o,ho,hd⟩:=I.cell x c e
 obtain ⟨m,⟨o',es,ep,Ka,WB,_⟩,_⟩:=I.loc
 rw[z,Ka]at ho;cases ho;rw[WB]at hd;cases hd
theorem Inv.pQ(I:Inv X pins σ H s):s.heap.FunFrames X.base X.outer:=by
 have all:∀(l:List Env),(∀b∈B5 l,b∈X.fs)->X.s₀.heap.FunFrames X.base l->s.heap.FunFrames X.base l:=by
  intro l
  induction l with
  | nil=>intro _ _;trivial
  | cons env r ih=>
   intro hs hl
   obtain ⟨hk,⟨L,o,hf,hn,ho,hd⟩,hr⟩:=hl
   have hL:L∈X.fs:=hs L (by unfold B5;rw[Qf2,hf];exact Qai)
   obtain ⟨sl,e⟩:=I.base.slot L o ho (I.ok.NC L hL) hL λz=>I.ok.J_ L z hL
   exact ⟨hk,⟨L,_,hf,hn,e,hd⟩,ih (λb hb=>hs b (by unfold B5;rw[Qf2,hf];exact Qaf _ hb)) hr⟩
 exact all X.outer (λ_ hb=>hb) I.ok.pQ
theorem Inv.stack(I:Inv X pins σ H s):s.heap.FunFrames X.base X.stack:=by
 rcases I.ok.Vz with e | ⟨e,hf⟩
 ·rw[e];exact I.pQ
 ·rw[e]
  obtain ⟨m,hn,_⟩:=I.loc
  refine .cons (by rw[I.ok.kind];decide) hf hn ?_ I.pQ
  exact Heap.get?_none_of_le (Qbh I.ok.J9 I.ok.above)
theorem Inv.qH(I:Inv X pins σ H s):∀b∈B5 X.stack,b∈X.env.locals::X.fs:=λb hb=>by
 rcases I.ok.Vz with e | ⟨e,hf⟩
 ·rw[e]at hb;exact Qaf _ hb
 ·rw[e]at hb
  unfold B5 at hb
  rw[Qf2,hf]at hb
  exact hb
theorem Inv.B6(I:Inv X pins σ H s):∀b∈B5 X.stack,H b=none:=λb hb=>by
 rcases Qam.mp (I.qH b hb) with e | hb
 ·rw[e];exact I.free
 ·obtain ⟨_,o,ho,_⟩:=I.ok.pQ.mem hb
  exact I.base.free b o ho (I.ok.NC b hb) λz=>I.ok.J_ b z hb
theorem Inv.step{g':Array GenState}{t':Nat}{d':Drawn}{ch:List Addr}(I:Inv X pins σ H s)
  (JH:∀b∈ch,(b∈X.ex\/X.s₀.heap.objs.size<=b)/\b≠X.env.locals/\(∀x c,X.env.cells.lookup x=some c->c≠b)/\∀p∈X.pn++pins,p.1≠b)
  (keep:∀b o,b≠X.env.locals->b∉X.fs->b∉ch->s.heap.get? b=some o->H b=none->h'.get? b=some o)
  (slot:∀b o,b≠X.env.locals->b∈X.fs->b∉ch->s.heap.get? b=some o->H b=none->∃sl,h'.get? b=some { o with slots:=sl }) (free:∀b o,b∉ch->s.heap.get? b=some o->H b=none->H' b=none)
  (there:∀b o,b∉ch->s.heap.get? b=some o->∃o',h'.get? b=some o')
  (tU:∀b xs,H b=some (.tup xs)->H' b=some (.tup xs)) (qG:∀b o u,H b=some (.B4 o u)->H' b=some (.B4 o u)) (wu:∀b ps,H b=some (.NA ps)->∃more,H' b=some (.NA (ps++more)))
  (ns:∀m,s.heap.Ns X.env.locals m->h'.Ns X.env.locals m) (b8:lU X.prog X.w H' h') (hg:AllBare g'):
  Inv X pins σ H' { s with heap:=h',gens:=g',drawn:=d',toks:=t' }:=by
 have Zr:∀b o,X.s₀.heap.get? b=some o->b≠X.env.locals:=λb o e=>Qaw (Qbc (Qap e) I.ok.above)
 have NG:∀b o,X.s₀.heap.get? b=some o->b∉X.ex->b∉ch:=λb o e hx hb=>by
  rcases (JH b hb).1 with z | z
  ·exact hx z
  ·exact absurd (Qbc (Qap e) z) (Qbw _)
 have cellK:∀x c,X.env.cells.lookup x=some c->∀v,s.heap.IsCell c v->h'.IsCell c v:=λx c e v ⟨o,ho,hd⟩=>by
  have SE:c∉ch:=λz=>(JH c z).2.2.1 x c e rfl
  by_cases hc:c∈X.fs
  ·obtain ⟨sl,q⟩:=slot c o (I.NF x c e) hc SE ho (I.jG x c e)
   exact ⟨_,q,hd⟩
  ·exact ⟨o,keep c o (I.NF x c e) hc SE ho (I.jG x c e),hd⟩
 refine ⟨I.ok,I.os,hg,⟨λb o e n hb hx=>?_,λb o e n hb hx=>?_,λb o e n hx=>?_,λb o e hx=>?_,λb xs e=>tU b xs (I.base.tU b xs e),λb o xs e=>qG b o xs (I.base.qG b o xs e),λb ps e=>?_⟩,?_,λx c e=>?_,?_,λx c e=>?_,λp hp=>?_,b8,I.len⟩
 ·exact keep b o (Zr b o e) hb (NG b o e hx) (I.base.keep b o e n hb hx) (I.base.free b o e n hx)
 ·obtain ⟨sl,e1⟩:=I.base.slot b o e n hb hx
  obtain ⟨sl',e2⟩:=slot b _ (Zr b o e) hb (NG b o e hx) e1 (I.base.free b o e n hx)
  exact ⟨sl',e2⟩
 ·obtain ⟨o',e1⟩:=I.base.there b o e hx
  exact free b o' (NG b o e hx) e1 (I.base.free b o e n hx)
 ·obtain ⟨o',e1⟩:=I.base.there b o e hx
  exact there b o' (NG b o e hx) e1
 ·obtain ⟨m1,e1⟩:=I.base.wu b ps e
  obtain ⟨m2,e2⟩:=wu b _ e1
  exact ⟨m1++m2,by rw[e2,Array.append_assoc]⟩
 ·obtain ⟨m,hn,hl⟩:=I.loc
  refine ⟨m,ns m hn,λi x v e1 e2 e3=>?_⟩
  obtain ⟨u,r,l⟩:=hl i x v e1 e2 e3
  refine ⟨u,r,?_⟩
  rcases l with l | ⟨k,c,e,z⟩
  ·exact .inl l
  ·exact .inr ⟨k,c,e,cellK x c e _ z⟩
 ·obtain ⟨v,z⟩:=I.cell x c e
  exact ⟨v,cellK x c e v z⟩
 ·obtain ⟨m,⟨o,_,_,ho,_⟩,_⟩:=I.loc
  exact free _ o (λz=>(JH _ z).2.1 rfl) ho I.free
 ·obtain ⟨v,o,ho,hd⟩:=I.cell x c e
  exact free c o (λz=>(JH c z).2.2.1 x c e rfl) ho (I.jG x c e)
 ·obtain ⟨e,n,ne,nf,d⟩:=I.pin p hp
  have SE:p.1∉ch:=λz=>(JH p.1 z).2.2.2 p hp rfl
  exact ⟨keep p.1 p.2 ne nf SE e n,free p.1 p.2 SE e n,ne,nf,d⟩
theorem Inv.un{t':Nat}(I:Inv X pins σ H s)(u:Un X.fs [] H H' s.heap h')(b8:lU X.prog X.w H' h'):Inv X pins σ H' { s with heap:=h',toks:=t' }:=by
 obtain ⟨m,⟨o,es,ep,ho,r⟩,_⟩:=id I.loc
 obtain ⟨sl,hL⟩:=u.any ho I.free (by simp)
 exact I.step (g':=s.gens) (d':=s.drawn) (ch:=[]) (λ_ z=>nomatch z) (λb o _ hb _ e n=>u.keep b o e n hb (by simp)) (λb o _ hb _ e n=>u.slot b o e n hb (by simp)) (λb o _ e n=>u.free b o e n (by simp)) (λb o _ e=>u.there b o e (by simp)) u.tU u.qG u.wu (λm' hm=>by
  obtain ⟨o',WC,NH,Ka,r'⟩:=hm
  rw[ho]at Ka;cases Ka
  exact ⟨_,WC,NH,hL,r'⟩) b8 I.bare
theorem Inv.call{g':Array GenState}{t':Nat}{d':Drawn}{ch:List Addr}(I:Inv X pins σ H s)(u:Un (B5 X.stack) ch H H' s.heap h')(b8:lU X.prog X.w H' h')(hg:AllBare g')
  (JH:∀b∈ch,(b∈X.ex\/X.s₀.heap.objs.size<=b)/\b≠X.env.locals/\(∀x c,X.env.cells.lookup x=some c->c≠b)/\∀p∈X.pn++pins,p.1≠b):
  Inv X pins σ H' { s with heap:=h',gens:=g',drawn:=d',toks:=t' }:=by
 obtain ⟨m,⟨o,es,ep,ho,r⟩,_⟩:=id I.loc
 obtain ⟨sl,hL⟩:=u.any ho I.free λz=>(JH _ z).2.1 rfl
 exact I.step (ch:=ch) JH (λb o hL hb hc e n=>u.keep b o e n (λz=>(Qam.mp (I.qH b z)).elim hL hb) hc) (λb o _ _ hc e n=>u.any e n hc) (λb o hc e n=>u.free b o e n hc) (λb o hc e=>u.there b o e hc) u.tU u.qG u.wu (λm' hm=>by
  obtain ⟨o',WC,NH,Ka,r'⟩:=hm
  rw[ho]at Ka;cases Ka
  exact ⟨_,WC,NH,hL,r'⟩) b8 hg
theorem Inv.turned{t':Nat}{it:Addr}(I:Inv X pins σ H s)(k:∀b o,b≠it->s.heap.get? b=some o->h'.get? b=some o)(hn:H it=none)(hL:it≠X.env.locals)
  (h1:it∈X.ex\/X.s₀.heap.objs.size<=it) (h2:∀x c,X.env.cells.lookup x=some c->c≠it) (h3:∀p∈X.pn++pins,p.1≠it):Inv X pins σ H { s with heap:=h',toks:=t' }:=by
 have Mw:∀b u,H b=some u->b≠it:=λb u e z=>by rw[z,hn]at e;cases e
 refine I.step (g':=s.gens) (d':=s.drawn) (ch:=[it]) (λb hb=>?_) (λb o _ _ hc e _=>k b o (λz=>hc (by simp[z])) e) (λb o _ _ hc e _=>⟨o.slots,k b o (λz=>hc (by simp[z])) e⟩) (λ_ _ _ _ n=>n)
  (λb o hc e=>⟨o,k b o (λz=>hc (by simp[z])) e⟩) (λ_ _ e=>e) (λ_ _ _ e=>e) (λb ps e=>⟨#[],by rw[e];simp⟩) (λm hm=>?_) (λb u e=>?_) I.bare
 ·have e:b=it:=by simpa using hb
  subst e
  exact ⟨h1,hL,h2,h3⟩
 ·obtain ⟨o,es,ep,ho,r⟩:=hm
  exact ⟨o,es,ep,k _ o (Ne.symm hL) ho,r⟩
 ·refine (I.b8 b u e).yq (λc v hc q=>k c v ?_ q) (λ_ q=>q) λ_ _ q=>q
  rcases hc with z | z
  ·rw[z];exact Mw b u e
  ·exact Mw c _ z
theorem Inv.tok(I:Inv X pins σ H s)(t:Nat):Inv X pins σ H { s with toks:=t }:=I.un (h':=s.heap) (t':=t) Un.refl I.b8
theorem Inv.kept{t':Nat}(I:Inv X pins σ H s)(k:∀b u,s.heap.get? b=some u->h'.get? b=some u):Inv X pins σ H { s with heap:=h',toks:=t' }:=I.un (Un.kept k) (I.b8.kept k)
theorem Inv.laid{a:Addr}{o:HO}{t':Nat}(I:Inv X pins σ H s)(k:∀b u,s.heap.get? b=some u->h'.get? b=some u)(hp:s.heap.objs.size<=a)(new:cg X.prog X.w (upd H a o) h' a o):
  Inv X pins σ (upd H a o) { s with heap:=h',toks:=t' }:=I.un (Un.laid k hp (I.b8.fresh hp)) (I.b8.laid k hp new)
theorem Inv.write{x e:Addr}{o:HO}{t':Nat}(I:Inv X pins σ H s)(mu:Sy (H x))(he:e=x\/H e=some (.own x))(k:∀b u,b≠e->s.heap.get? b=some u->h'.get? b=some u)(Qx:∃u,h'.get? e=some u)
  (new:cg X.prog X.w (upd H x o) h' x o):Inv X pins σ (upd H x o) { s with heap:=h',toks:=t' }:=I.un (Un.write mu he k Qx) (I.b8.write mu he k Qx new)
theorem Inv.weak{σ':List (Option V)}(I:Inv X pins σ H s)(hl:σ'.length=σ.length)(w:∀(i:Nat) v,σ'[i]? =some (some v)->σ[i]? =some (some v)):Inv X pins σ' H s:=
 ⟨I.ok,I.os,I.bare,I.base,let ⟨m,hn,B7⟩:=I.loc;⟨m,hn,λi x v e1 e2 e3=>B7 i x v e1 (w i v e2) e3⟩,I.cell,I.free,I.jG,I.pin,I.b8,hl.trans I.len⟩
theorem Inv.mG{B8:List (Addr×Obj)}(I:Inv X pins σ H s)(h:∀p∈B8,s.heap.get? p.1=some p.2/\H p.1=none/\p.1≠X.env.locals/\p.1∉X.fs/\∀v,p.2.data≠ .cell v):Inv X B8 σ H s:=
 ⟨I.ok,I.os,I.bare,I.base,I.loc,I.cell,I.free,I.jG,λp hp=>(Qao.mp hp).elim (λz=>I.pin p (Qck _ z)) (h p),I.b8,I.len⟩
theorem yr{N:List Str}(hN:N.Nodup){i j:Nat}{x:Str}(a:N[i]? =some x)(b:N[j]? =some x):i=j:=by
 obtain ⟨h1,e1⟩:=Og.mp a
 obtain ⟨h2,e2⟩:=Og.mp b
 exact (List.getElem_inj hN).mp (e1.trans e2.symm)
theorem DJ{M:Model}{A:Around}{E:Value->Shared->Prop}{i:Nat}{x:Str}{v:V}{u:Value}{Q:Unit->Shared->Prop}(I:Inv X pins σ H s)(hN:X.N.Nodup)(hi:X.N[i]? =some x)(hx:Loc X.env.scope x)(r:RelV v u)
  (h:∀s',Inv X pins (σ.set i (some v)) H s'->(∃a,Heap.SameBut a s.heap s'.heap/\(a=X.env.locals\/X.env.cells.lookup x=some a))->Q Unit.unit s') (hf:X.fn x=true\/X.env.scope.names.lookup x=some .local:=by first | exact .inl rfl | exact .inr rfl | assumption):wpAny M A (storeName X.env x u) Q E s:=by
 obtain ⟨m,hn,hl⟩:=id I.loc
 have WD:(X.env.scope.kind== .class||(X.env.scope.kind== .module&&X.env.locals != X.env.globals))=false:=by rw[I.ok.kind];rfl
 have Zs:i<σ.length:=by rw[I.len];exact (Og.mp hi).1
 have NF:=I.NF
 have tracked:∀{a:Addr} {h':Heap},(∃o,s.heap.get? a=some o/\H a=none)->Heap.SameBut a s.heap h'->lU X.prog X.w H h':=λ{a h'} ha hs b ob e=>by
  obtain ⟨_,_,Mx⟩:=ha
  refine (I.b8 b ob e).yq (λc w' hc q=>(hs.2 c ?_).trans q) (λ_ q=>q) λ_ _ q=>q
  rintro rfl
  rcases hc with rfl | hc
  ·rw[Mx]at e;cases e
  ·rw[Mx]at hc;cases hc
 rcases hx with hk | hk
 ·refine wpAny_storeName_local hk hn (λh' VA hs=>?_) WD
  obtain ⟨oL,_,_,Kb,_⟩:=id hn
  refine h _ ⟨I.ok,I.os,I.bare,⟨λb o e n hb hx=>?_,λb o e n hb hx=>?_,I.base.free,λb o e hx=>?_,I.base.tU,I.base.qG,I.base.wu⟩,⟨_,VA,λj y v' e1 e2 e3=>?_⟩,λy c e=>?_,I.free,I.jG,λp hp=>?_,tracked ⟨oL,Kb,I.free⟩ hs,by simpa using I.len⟩ ⟨_,hs,.inl rfl⟩
  ·exact (hs.2 b (Qaw (Qbc (Qap e) I.ok.above))).trans (I.base.keep b o e n hb hx)
  ·obtain ⟨sl,e1⟩:=I.base.slot b o e n hb hx
   exact ⟨sl,(hs.2 b (Qaw (Qbc (Qap e) I.ok.above))).trans e1⟩
  ·obtain ⟨o',e1⟩:=I.base.there b o e hx
   exact ⟨o',(hs.2 b (Qaw (Qbc (Qap e) I.ok.above))).trans e1⟩
  ·by_cases hj:j=i
   ·subst hj
    rw[hi]at e1;cases e1
    rw[List.getElem?_set_self Zs]at e2
    cases e2
    exact ⟨u,r,.inl ⟨hk,by simp⟩⟩
   ·rw[List.getElem?_set_ne (Ne.symm hj)]at e2
    obtain ⟨u',r',q⟩:=hl j y v' e1 e2 e3
    refine ⟨u',r',?_⟩
    rcases q with ⟨k,e⟩ | ⟨k,c,e,z⟩
    ·refine .inl ⟨k,?_⟩
     have:y≠x:=λe=>hj (yr hN e1 (e▸hi))
     simp[this,e]
    ·exact .inr ⟨k,c,e,z.sameBut hs (NF y c e)⟩
  ·obtain ⟨w',z⟩:=I.cell y c e
   exact ⟨w',z.sameBut hs (NF y c e)⟩
  ·obtain ⟨e,n,ne,nf,d⟩:=I.pin p hp
   exact ⟨(hs.2 p.1 ne).trans e,n,ne,nf,d⟩
 ·have WE:X.fn x=true:=by
   rcases hf with z | z
   ·exact z
   ·rw[z]at hk;cases hk
  obtain ⟨c,hc⟩:=I.ok.has x (.inl hk)
  obtain ⟨w',z⟩:=I.cell x c hc
  refine wpAny_storeName_cell I.ok.kind hk hc z (λh' tV hs=>?_)
  obtain ⟨oc,Zt,WG⟩:=id z
  refine h { s with heap:=h' } ⟨I.ok,I.os,I.bare,⟨λb o e n hb hx=>?_,λb o e n hb hx=>?_,I.base.free,λb o e hx=>?_,I.base.tU,I.base.qG,I.base.wu⟩,⟨m,hn.sameBut hs (Ne.symm (NF x c hc)),λj y v' e1 e2 e3=>?_⟩,λy c' e=>?_,I.free,I.jG,λp hp=>?_,tracked ⟨oc,Zt,I.jG x c hc⟩ hs,by simpa using I.len⟩ ⟨c,hs,.inr hc⟩
  ·exact (hs.2 b (Qaw (Qbc (Qap e) (I.ok.SD x c WE hc)))).trans (I.base.keep b o e n hb hx)
  ·obtain ⟨sl,e1⟩:=I.base.slot b o e n hb hx
   exact ⟨sl,(hs.2 b (Qaw (Qbc (Qap e) (I.ok.SD x c WE hc)))).trans e1⟩
  ·obtain ⟨o',e1⟩:=I.base.there b o e hx
   exact ⟨o',(hs.2 b (Qaw (Qbc (Qap e) (I.ok.SD x c WE hc)))).trans e1⟩
  ·by_cases hj:j=i
   ·subst hj
    rw[hi]at e1;cases e1
    rw[List.getElem?_set_self Zs]at e2
    cases e2
    exact ⟨u,r,.inr ⟨.inl hk,c,hc,tV⟩⟩
   ·rw[List.getElem?_set_ne (Ne.symm hj)]at e2
    obtain ⟨u',r',q⟩:=hl j y v' e1 e2 e3
    refine ⟨u',r',?_⟩
    rcases q with q | ⟨k,c',e,z'⟩
    ·exact .inl q
    ·refine .inr ⟨k,c',e,z'.sameBut hs ?_⟩
     rintro rfl
     exact hj (yr hN e1 (I.ok.inj _ _ _ e hc▸hi))
  ·by_cases Qz:c'=c
   ·subst Qz;exact ⟨_,tV⟩
   ·obtain ⟨w2,z2⟩:=I.cell y c' e
    exact ⟨w2,z2.sameBut hs Qz⟩
  ·obtain ⟨e,n,ne,nf,d⟩:=I.pin p hp
   refine ⟨(hs.2 p.1 ?_).trans e,n,ne,nf,d⟩
   intro q
   rw[q,Zt]at e
   have q':oc=p.2:=Qad e
   exact d w' (by rw[<-q'];exact WG)
theorem eE{M:Model}{A:Around}{E:Value->Shared->Prop}{i:Nat}{x:Str}{v:V}{u:Value}{Q:Unit->Shared->Prop}(I:Inv X pins σ H s)(hN:X.N.Nodup)(hi:X.N[i]? =some x)(hx:Loc X.env.scope x)(r:RelV v u)
  (h:∀s',Inv X pins (σ.set i (some v)) H s'->Q Unit.unit s') (hf:X.fn x=true\/X.env.scope.names.lookup x=some .local:=by first | exact .inl rfl | exact .inr rfl | assumption):wpAny M A (storeName X.env x u) Q E s:=
 DJ I hN hi hx r (λs' I' _=>h s' I') hf
theorem Inv.SF{s':Shared}{ch:List Addr}(I:Inv X pins σ H s)(ho:s'.os=s.os)(u:Un (B5 X.stack) ch H H' s.heap s'.heap)(b8:lU X.prog X.w H' s'.heap)(hg:AllBare s'.gens)
  (JH:∀b∈ch,(b∈X.ex\/X.s₀.heap.objs.size<=b)/\b≠X.env.locals/\(∀x c,X.env.cells.lookup x=some c->c≠b)/\∀p∈X.pn++pins,p.1≠b):Inv X pins σ H' s':=by
 obtain ⟨h',g',d',t',o'⟩:=s'
 have e:o'=s.os:=ho
 subst e
 exact I.call (g':=g') (t':=t') (d':=d') u b8 hg JH
end
abbrev XK:=Value->Option Addr->Hp->Prop
abbrev St:=List (Option V)
abbrev VK:=V->Hp->Prop
abbrev TE:=St->Hp->VK->Prop
abbrev TT:=St->Hp->(Bool->Hp->Prop)->Prop
abbrev TA:=St->Hp->(List V->Hp->Prop)->Prop
structure Ends where
 nx:St->Hp->Prop
 rt:VK
 bk:St->Hp->Prop:=λ_ _=>False
 ct:St->Hp->Prop:=λ_ _=>False
abbrev TS:=Ends->St->Hp->Prop
def EP(X:Cx)(pins:List (Addr×Obj))(σ:St)(Q:VK)(u:Value)(s':Shared):Prop:=∃v H',Inv X pins σ H' s'/\RelV v u/\Q v H'
def TP(X:Cx)(pins:List (Addr×Obj))(σ:St)(Q:Bool->Hp->Prop)(b:Bool)(s':Shared):Prop:=∃H',Inv X pins σ H' s'/\Q b H'
def AP(X:Cx)(pins:List (Addr×Obj))(σ:St)(Q:List V->Hp->Prop)(us:List Value)(s':Shared):Prop:=∃vs H',Inv X pins σ H' s'/\Vals vs us/\Q vs H'
def SP(X:Cx)(pins:List (Addr×Obj))(D:Ends)(f:Flow)(s':Shared):Prop:=
 match f with
 | .next=>∃σ' H',Inv X pins σ' H' s'/\D.nx σ' H'
 | .brk=>∃σ' H',Inv X pins σ' H' s'/\D.bk σ' H'
 | .cont=>∃σ' H',Inv X pins σ' H' s'/\D.ct σ' H'
 | .ret u=>∃v σ' H',Inv X pins σ' H' s'/\RelV v u/\D.rt v H'
def PE(X:Cx)(e:Expr)(t:TE):Prop:=
 ∀(pins:List (Addr×Obj)) (s:Shared) (σ:St) (H:Hp) (Q:VK),Inv X pins σ H s->t σ H Q->wpAny (model X.prog X.w) X.A (eval e X.env) (EP X pins σ Q) X.xe s
def PT(X:Cx)(e:Expr)(t:TT):Prop:=
 ∀(pins:List (Addr×Obj)) (s:Shared) (σ:St) (H:Hp) (Q:Bool->Hp->Prop),Inv X pins σ H s->t σ H Q->wpAny (model X.prog X.w) X.A (isTrue e X.env (eval e X.env)) (TP X pins σ Q) X.xe s
def PW(X:Cx)(e:Expr)(t:TT):Prop:=
 ∀(whole:Sem Value) (pins:List (Addr×Obj)) (s:Shared) (σ:St) (H:Hp) (Q:Bool->Hp->Prop),Inv X pins σ H s->t σ H Q->wpAny (model X.prog X.w) X.A (isTrue e X.env whole) (TP X pins σ Q) X.xe s
theorem PW.pt{X:Cx}{e:Expr}{t:TT}(h:PW X e t):PT X e t:=h _
def PA(X:Cx)(es:List Expr)(t:TA):Prop:=
 ∀(pos:Pos) (pins:List (Addr×Obj)) (s:Shared) (σ:St) (H:Hp) (Q:List V->Hp->Prop),Inv X pins σ H s->t σ H Q->wpAny (model X.prog X.w) X.A (spliced (backTo pos (starEach es X.env))) (AP X pins σ Q) X.xe s
def PS(X:Cx)(st:Stmt)(t:TS):Prop:=
 ∀(pins:List (Addr×Obj)) (s:Shared) (σ:St) (H:Hp) (D:Ends),Inv X pins σ H s->t D σ H->wpAny (model X.prog X.w) X.A (exec st X.env) (SP X pins D) X.xe s
def yt(X:Cx)(st:List Stmt)(t:TS):Prop:=
 ∀(pins:List (Addr×Obj)) (s:Shared) (σ:St) (H:Hp) (D:Ends),Inv X pins σ H s->t D σ H->wpAny (model X.prog X.w) X.A (execs st X.env) (SP X pins D) X.xe s
theorem cA{α:Type}{t:Sem α}{Q Q':α->Shared->Prop}{M:Model}{A:Around}{E:Value->Shared->Prop}{s:Shared}(h:wpAny M A t Q E s)(hQ:∀a s,Q a s->Q' a s):wpAny M A t Q' E s:=wpAny_mono h hQ λ_ _ x=>x
section
variable{X:Cx}
inductive FI(i:Nat)(σ:St)(H:Hp)(Q:VK):Prop
 | mk (v:V) (_:σ[i]? =some (some v)) (_:Q v H):FI i σ H Q
def NI(i:Nat):TE:=FI i
def tC(v:V):TE:=λ_ H Q=>Q v H
theorem NJ{i:Nat}{x:Str}{pos:Pos}(hN:X.N[i]? =some x)(hv:SA X.env.scope x)(hd:(x==("__debug__":Str))=false:=by decide)(pR:(x==("__classdict__":Str))=false:=by decide):PE X (.Name x pos) (NI i):=by
 walk_at"g"
 obtain ⟨v,e,h⟩:=h
 obtain ⟨m,hn,hl⟩:=I.loc
 obtain ⟨u,r,l⟩:=hl i x v hN e hv
 have fin:EP X pins σ Q u s:=⟨v,H,I,r,h⟩
 rcases l with ⟨hk,hm⟩ | ⟨hk,c,hc,ik⟩
 ·exact wpAny_Name (wpAny_loadName_local I.ok.kind hk hn hm fin) hd
 ·rcases hk with hk | hk
  ·exact wpAny_Name (wpAny_loadName_cell I.ok.kind hk hc ik fin) hd
  ·exact wpAny_Name (wpAny_loadName_free I.ok.kind hk hc ik fin pR) hd
theorem ak{i j pos}:PE X (.Constant (.int i) j pos) (tC (.int i)):=λ_ _ _ H _ I h=>wpAny_Constant_int ⟨.int i,H,I.tok _,⟨_,rfl⟩,h⟩
theorem B9{b j pos}:PE X (.Constant (.bool b) j pos) (tC (.bl b)):=λ_ _ _ H _ I h=>Constant_bool ⟨.bl b,H,I,rfl,h⟩
theorem NK{x j pos}:PE X (.Constant (.str x) j pos) (tC (.str x)):=λ_ _ _ H _ I h=>Calls.Constant_str ⟨.str x,H,I.tok _,⟨_,rfl⟩,h⟩
def Gl(X:Cx)(x:Str):Prop:=X.env.kindOf x=some .globalImplicit
theorem wz{E:Value->Shared->Prop}{pins:List (Addr×Obj)}{s:Shared}{σ:St}{H:Hp}{x:Str}{u:Value}{pos:Pos}{Q:Value->Shared->Prop}(I:Inv X pins σ H s)(hg:Gl X x)(hm:X.mg x=some u)(h:Q u s)
  (hd:(x==("__debug__":Str))=false:=by decide):wpAny (model X.prog X.w) X.A (eval (.Name x pos) X.env) Q E s:=
 Calls.Name_function_global I.ok.kind hg (Calls.loadGlobal_global (by rw[I.ok.glob];exact I.mod.glob.keeps I.bk) hm h) hd
theorem g8{E:Value->Shared->Prop}{pins:List (Addr×Obj)}{s:Shared}{σ:St}{H:Hp}{x:Str}{u:Value}{pos:Pos}{Q:Value->Shared->Prop}(I:Inv X pins σ H s)(hg:Gl X x)(hm:X.mg x=none)(hv:bootBuiltins x=some u)(h:Q u s)
  (hn:x≠"__name__":=by decide) (hd:(x==("__debug__":Str))=false:=by decide):wpAny (model X.prog X.w) X.A (eval (.Name x pos) X.env) Q E s:=by
 obtain ⟨mb,h1,h2⟩:=I.mod.blt
 exact Calls.Name_function_global I.ok.kind hg (Calls.loadGlobal_builtin (by rw[I.ok.glob];exact I.mod.glob.keeps I.bk) hm (by rw[I.ok.blt];exact h1.keeps I.bk) ((h2 x hn).trans hv) h) hd
theorem B_{x:Str}{v:V}{u:Value}{pos:Pos}(hg:Gl X x)(hm:X.mg x=some u)(r:RelV v u)(hd:(x==("__debug__":Str))=false:=by decide):PE X (.Name x pos) (tC v):=
 λ_ _ _ H _ I h=>wz I hg hm ⟨v,H,I,r,h⟩ hd
theorem Kc{x:Str}{v:V}{u:Value}{pos:Pos}(hg:Gl X x)(hm:X.mg x=none)(hv:bootBuiltins x=some u)(r:RelV v u)(hn:x≠"__name__":=by decide)(hd:(x==("__debug__":Str))=false:=by decide):PE X (.Name x pos) (tC v):=
 λ_ _ _ H _ I h=>g8 I hg hm hv ⟨v,H,I,r,h⟩ hn hd
inductive I2(x y:V)(H:Hp)(k:Int->Int->Hp->Prop):Prop
 | mk (i j:Int) (_:x= .int i) (_:y= .int j) (_:k i j H):I2 x y H k
inductive IB(x:V)(H:Hp)(Q:Bool->Hp->Prop):Prop
 | mk (c:Bool) (_:x= .bl c) (_:Q c H):IB x H Q
variable{a b:Expr}{ta tb:TE}{pos:Pos}
def tB(t:TE):TT:=λσ H Q=>t σ H λx H1=>IB x H1 Q
theorem g9{e:Expr}{t:TE}(h:PE X e t)(he:∀whole,isTrue e X.env whole=(do let v <-whole;standAt e.pos;holding [v] (truthy v)):=by intro _;rfl):PT X e (tB t):=by
 intro pins s σ H Q I hw
 refine isTrue_plain (cA (h pins s σ H _ I hw) λv s1 ⟨x,H1,I1,r1,q1⟩=>?_) (he _)
 obtain ⟨d,rfl,q⟩:=q1
 cases r1
 exact wpAny_truthy_bool ⟨H1,I1,q⟩
variable{tA VB:TT}{rest:List Expr}
def WH(t u:TT):TT:=λσ H Q=>t σ H λc H1=>if c=true then u σ H1 Q else Q false H1
def tOr(t u:TT):TT:=λσ H Q=>t σ H λc H1=>if c=true then Q true H1 else u σ H1 Q
def WI(t:TT):TT:=λσ H Q=>t σ H λc H1=>Q (!c) H1
theorem kC(ha:PT X a tA):PW X (.BoolOp .And [a] pos) tA:=by
 intro wh pins s σ H Q I h
 refine isTrue_and (cA (ha pins s σ H Q I h) λc s1 e=>?_)
 cases c with
 | true=>exact isTrue_and_nil e
 | false=>exact e
theorem FJ(ha:PT X a tA):PW X (.BoolOp .Or [a] pos) tA:=by
 intro wh pins s σ H Q I h
 refine isTrue_or (cA (ha pins s σ H Q I h) λc s1 e=>?_)
 cases c with
 | false=>exact isTrue_or_nil e
 | true=>exact e
theorem nR(ha:PT X a tA)(hb:PW X (.BoolOp .And (b::rest) pos) VB):PW X (.BoolOp .And (a::b::rest) pos) (WH tA VB):=by
 intro wh pins s σ H Q I h
 refine isTrue_and (cA (ha pins s σ H _ I h) λc s1 ⟨H1,I1,q1⟩=>?_)
 cases c with
 | true=>exact hb wh pins s1 σ H1 Q I1 q1
 | false=>exact ⟨H1,I1,q1⟩
theorem Mz(ha:PT X a tA)(hb:PW X (.BoolOp .Or (b::rest) pos) VB):PW X (.BoolOp .Or (a::b::rest) pos) (tOr tA VB):=by
 intro wh pins s σ H Q I h
 refine isTrue_or (cA (ha pins s σ H _ I h) λc s1 ⟨H1,I1,q1⟩=>?_)
 cases c with
 | true=>exact ⟨H1,I1,q1⟩
 | false=>exact hb wh pins s1 σ H1 Q I1 q1
theorem NL(ha:PT X a tA):PT X (.UnaryOp .Not a pos) (WI tA):=by
 walk_at"g"
 exact isTrue_not (ha pins s σ H (λc H1=>Q (!c) H1) I h)
def SG(ta tb:TE):TE:=λσ H Q=>ta σ H λx H1=>∃c,x= .bl c/\if c=true then tb σ H1 Q else Q (.bl false) H1
def WJ(ta tb:TE):TE:=λσ H Q=>ta σ H λx H1=>∃c,x= .bl c/\if c=true then Q (.bl true) H1 else tb σ H1 Q
theorem wA{op}{t:TE}(h:PE X a t):PE X (.BoolOp op [a] pos) t:=λpins s σ H Q I hw=>BoolOp_one (h pins s σ H Q I hw)
theorem Ag(ha:PE X a ta)(hb:PE X (.BoolOp .And (b::rest) pos) tb):PE X (.BoolOp .And (a::b::rest) pos) (SG ta tb):=by
 walk_at"g"
 refine BoolOp_and (cA (ha pins s σ H _ I h) λv s1 ⟨x,H1,I1,r1,q1⟩=>?_)
 obtain ⟨c,rfl,q1⟩:=q1
 cases r1
 refine wpAny_truthy_bool ?_
 cases c with
 | true=>exact hb pins s1 σ H1 Q I1 q1
 | false=>exact ⟨.bl false,H1,I1,rfl,q1⟩
theorem SH(ha:PE X a ta)(hb:PE X (.BoolOp .Or (b::rest) pos) tb):PE X (.BoolOp .Or (a::b::rest) pos) (WJ ta tb):=by
 walk_at"g"
 refine BoolOp_or (cA (ha pins s σ H _ I h) λv s1 ⟨x,H1,I1,r1,q1⟩=>?_)
 obtain ⟨c,rfl,q1⟩:=q1
 cases r1
 refine wpAny_truthy_bool ?_
 cases c with
 | false=>exact hb pins s1 σ H1 Q I1 q1
 | true=>exact ⟨.bl true,H1,I1,rfl,q1⟩
end
def bB(K:c7)(H:Hp)(a:Addr)(xs:List V):Prop:=
 Rd H a (.lst xs)\/
  ∃(o:Obj) (aH:Array Value) (n:Nat),K.lookup a=some o/\o.cls= .type "list"/\o.dict=none/\o.data= .seq aH n/\aH.size<=sizeLine/\Vals xs aH.toList
def de(K:c7)(H:Hp)(a:Addr)(xs:List V):Prop:=
 Rd H a (.tup xs)\/
  ∃(o:Obj) (aH:Array Value) (n:Nat),K.lookup a=some o/\o.cls= .type "tuple"/\o.data= .seq aH n/\aH.size<=sizeLine/\Vals xs aH.toList
noncomputable def WK:Value->Option V
 | .none=>some .eX
 | .bool b=>some (.bl b)
 | .int i _=>some (.int i)
 | .str x _=>some (.str x)
 | .bytes b _=>some (.B3 b)
 | .float b _=>some (.Nz b)
 | .ref a=>some (.ref a)
 | .type n=>some (.ty n)
 | _=>none
theorem RelV.abs{x:V}{u:Value}(r:RelV x u):WK u=some x:=by
 cases x with
 | eX=>cases r;rfl
 | bl _=>cases r;rfl
 | int _=>obtain ⟨t,rfl⟩:=r;rfl
 | str _=>obtain ⟨t,rfl⟩:=r;rfl
 | B3 _=>obtain ⟨t,rfl⟩:=r;rfl
 | Nz _=>obtain ⟨t,rfl⟩:=r;rfl
 | ref _=>cases r;rfl
 | ty _=>cases r;rfl
theorem RelV.inj{x y:V}{u:Value}(r:RelV x u)(q:RelV y u):x=y:=Qad (r.abs.symm.trans q.abs)
theorem Vals.inj:∀{xs ys:List V} {us:List Value},Vals xs us->Vals ys us->xs=ys
 | _,_,_,.nil,.nil=>rfl
 | _,_,_,.cons r t,.cons r' t'=>by rw[r.inj r',Vals.inj t t']
section
variable{X:Cx}{pins:List (Addr×Obj)}{σ:St}{H:Hp}{s:Shared}{a:Addr}{xs ys:List V}
theorem bB.of{K:c7}(h:H a=some (.lst xs)):bB K H a xs:= .inl (.inl h)
theorem de.of{K:c7}(h:H a=some (.tup xs)):de K H a xs:= .inl (.inl h)
theorem Inv.list(I:Inv X pins σ H s)(h:bB X.K H a xs):∃aH:List Value,Vals xs aH/\PlainL s.heap a aH.toArray/\(xs:)<=sizeLine:=by
 rcases h with h | ⟨o,aH,n,hk,hc,hd,hs,hz,r⟩
 ·obtain ⟨z,aH,n,r,e⟩:=h.ok I.b8
  exact ⟨aH,r,⟨_,n,e,rfl,rfl,rfl⟩,z⟩
 ·refine ⟨aH.toList,r,⟨o,n,I.ql a o hk,hc,hd,by simpa using hs⟩,?_⟩
  have e:=(r:)
  simp only[Qa7]at e
  lia
theorem Inv.tuple(I:Inv X pins σ H s)(h:de X.K H a xs):∃aH:List Value,Vals xs aH/\IsTup s.heap a aH.toArray/\(xs:)<=sizeLine:=by
 rcases h with h | ⟨o,aH,n,hk,hc,hs,hz,r⟩
 ·obtain ⟨z,aH,r,p⟩:=h.ok I.b8
  exact ⟨aH,r,p,z⟩
 ·refine ⟨aH.toList,r,⟨o,I.ql a o hk,hc,n,by simpa using hs⟩,?_⟩
  have e:=(r:)
  simp only[Qa7]at e
  lia
theorem Inv.yu(I:Inv X pins σ H s)(h:bB X.K H a xs)(h':bB X.K H a ys):xs=ys:=by
 obtain ⟨aH,r,⟨o,n,e,_,_,d⟩,_⟩:=I.list h
 obtain ⟨its',r',⟨o',n',e',_,_,d'⟩,_⟩:=I.list h'
 rw[e]at e';cases e'
 rw[d]at d'
 injection d' with d1 _
 have:aH=its':=by simpa using congrArg Array.toList d1
 subst this
 exact r.inj r'
theorem Inv.uK(I:Inv X pins σ H s)(h:de X.K H a xs)(h':de X.K H a ys):xs=ys:=by
 obtain ⟨aH,r,⟨o,e,_,n,d⟩,_⟩:=I.tuple h
 obtain ⟨its',r',⟨o',e',_,n',d'⟩,_⟩:=I.tuple h'
 rw[e]at e';cases e'
 rw[d]at d'
 injection d' with d1 _
 have:aH=its':=by simpa using congrArg Array.toList d1
 subst this
 exact r.inj r'
end
noncomputable abbrev Cx.tW(X:Cx)(E:Value->Shared->Prop):Cx:={ X with xe:=E }
noncomputable abbrev Cx.VC(X:Cx):Cx:=X.tW λ_ _=>False
theorem Cx.Ok.tW{X:Cx}(ok:X.Ok)(E:Value->Shared->Prop):(X.tW E).Ok:=
 ⟨ok.mod,ok.kind,ok.glob,ok.blt,ok.above,ok.inj,ok.has,ok.SD,ok.hd,ok.frames,ok.Vz,ok.Zq,ok.bs,ok.J9,ok.FH,ok.J_,ok.pQ,ok.NC⟩
theorem Cx.Ok.jH{X:Cx}{E:Value->Shared->Prop}(ok:(X.tW E).Ok):X.Ok:=
 ⟨ok.mod,ok.kind,ok.glob,ok.blt,ok.above,ok.inj,ok.has,ok.SD,ok.hd,ok.frames,ok.Vz,ok.Zq,ok.bs,ok.J9,ok.FH,ok.J_,ok.pQ,ok.NC⟩
section
variable{X:Cx}{pins:List (Addr×Obj)}{σ:St}{H:Hp}{s:Shared}{E:Value->Shared->Prop}
theorem Inv.tW(I:Inv X pins σ H s)(E:Value->Shared->Prop):Inv (X.tW E) pins σ H s:=⟨I.ok.tW E,I.os,I.bare,I.base,I.loc,I.cell,I.free,I.jG,I.pin,I.b8,I.len⟩
theorem Inv.jH(I:Inv (X.tW E) pins σ H s):Inv X pins σ H s:=⟨I.ok.jH,I.os,I.bare,I.base,I.loc,I.cell,I.free,I.jG,I.pin,I.b8,I.len⟩
theorem SP.jH{D:Ends}{f:Flow}{s':Shared}(h:SP (X.tW E) pins D f s'):SP X pins D f s':=by
 cases f with
 | next=>obtain ⟨σ',H',I,q⟩:=h;exact ⟨σ',H',I.jH,q⟩
 | brk=>obtain ⟨σ',H',I,q⟩:=h;exact ⟨σ',H',I.jH,q⟩
 | cont=>obtain ⟨σ',H',I,q⟩:=h;exact ⟨σ',H',I.jH,q⟩
 | ret u=>obtain ⟨v,σ',H',I,r,q⟩:=h;exact ⟨v,σ',H',I.jH,r,q⟩
theorem yt.VC{st:List Stmt}{t:TS}(h:yt X.VC st t):yt X st t:=λpins s σ H D I hw=>
 wpAny_mono (h pins s σ H D (I.tW _) hw) (λ_ _ q=>q.jH) λ_ _ z=>False.elim z
end
section
variable{X:Cx}{st:Stmt}{rest:List Stmt}{t u:TS}{e:Expr}{te:TE}{pos:Pos}
def SI:TS:=λD σ H=>D.nx σ H
def Kd(t u:TS):TS:=λD σ H=>t { D with nx:=u D } σ H
theorem bX:yt X [] SI:=λ_ _ σ H _ I h=>wpAny_execs_nil ⟨σ,H,I,h⟩
theorem ae(h1:PS X st t)(h2:yt X rest u):yt X (st::rest) (Kd t u):=by
 walk_at"p"
 refine wpAny_execs_cons (cA (h1 pins s σ H { D with nx:=u D } I h) λf s1 q=>?_)
 cases f with
 | next=>
  obtain ⟨σ',H',I',q⟩:=q
  exact h2 pins s1 σ' H' D I' q
 | ret v=>exact q
 | brk=>exact q
 | cont=>exact q
theorem aj(h1:PS X st t):yt X [st] t:=by
 walk_at"p"
 refine wpAny_execs_cons (cA (h1 pins s σ H D I h) λf s1 q=>?_)
 cases f with
 | next=>exact wpAny_execs_nil q
 | ret v=>exact q
 | brk=>exact q
 | cont=>exact q
theorem Inv.quiet{pins:List (Addr×Obj)}{σ:St}{H:Hp}{s:Shared}(I:Inv X pins σ H s):interactive X.env=false:=by simp[interactive,I.ok.kind]
def SJ(te:TE):TS:=λD σ H=>te σ H λ_ H1=>D.nx σ H1
theorem dh(he:PE X e te)(hs:swapsWith e none pos.line X.env=pure false:=by rfl):PS X (.Expr e pos) (SJ te):=by
 walk_at"p"
 exact wpAny_Expr_any (cA (he pins s σ H _ I h) λv s1 ⟨x,H1,I1,r1,q1⟩=>⟨σ,H1,I1,q1⟩) I.quiet hs
def WL(te:TE):TS:=λD σ H=>te σ H D.rt
theorem aG(he:PE X e te):PS X (.Return (some e) pos) (WL te):=by
 walk_at"p"
 exact wpAny_Return_some (cA (he pins s σ H _ I h) λv s1 ⟨x,H1,I1,r1,q1⟩=>⟨x,σ,H1,I1,r1,q1⟩)
def WM(c:TT)(t u:TS):TS:=λD σ H=>c σ H λb H1=>if b=true then t D σ H1 else u D σ H1
theorem cG{c:Expr}{a b:List Stmt}{tc:TT}(hc:PT X c tc)(ha:yt X a t)(hb:yt X b u):PS X (.If c a b pos) (WM tc t u):=by
 walk_at"p"
 refine wpAny_If (cA (hc pins s σ H _ I h) λd s1 ⟨H1,I1,q1⟩=>?_)
 cases d with
 | true=>exact ha pins s1 σ H1 D I1 q1
 | false=>exact hb pins s1 σ H1 D I1 q1
end
abbrev TG:=V->St->Hp->(St->Hp->Prop)->Prop
abbrev JI:=List V->St->Hp->(St->Hp->Prop)->Prop
def PG(X:Cx)(target:Expr)(t:TG):Prop:=
 ∀(pins:List (Addr×Obj)) (s:Shared) (σ:St) (H:Hp) (v:V) (u:Value) (Q:St->Hp->Prop),Inv X pins σ H s->RelV v u->t v σ H Q->
  wpAny (model X.prog X.w) X.A (assign target X.env u) (λ_ s'=>∃σ' H',Inv X pins σ' H' s'/\Q σ' H') X.xe s
def QA(X:Cx)(ts:List Expr)(t:JI):Prop:=
 ∀(pins:List (Addr×Obj)) (s:Shared) (σ:St) (H:Hp) (vs:List V) (us:List Value) (Q:St->Hp->Prop),Inv X pins σ H s->Vals vs us->t vs σ H Q->
  wpAny (model X.prog X.w) X.A (assignInOrder ((assignEach ts X.env).map (·.2)) us) (λ_ s'=>∃σ' H',Inv X pins σ' H' s'/\Q σ' H') X.xe s
abbrev NM:=V->V->V->Hp->(Hp->Prop)->Prop
def SK(X:Cx)(t:NM):Prop:=
 ∀(pins:List (Addr×Obj)) (s:Shared) (σ:St) (H:Hp) (o i v:V) (ov iv u:Value) (Q:Hp->Prop),Inv X pins σ H s->RelV o ov->RelV i iv->RelV v u->t o i v H Q->
  wpAny (model X.prog X.w) X.A (setItem ov iv u) (λ_ s'=>∃H',Inv X pins σ H' s'/\Q H') X.xe s
abbrev VD:=V->V->Hp->VK->Prop
def SM(X:Cx)(op:Operator)(t:VD):Prop:=
 ∀(pins:List (Addr×Obj)) (s:Shared) (σ:St) (H:Hp) (x y:V) (v u:Value) (Q:VK),Inv X pins σ H s->RelV x v->RelV y u->t x y H Q->
  wpAny (model X.prog X.w) X.A (inplaceOp op v u) (EP X pins σ Q) X.xe s
section
variable{X:Cx}{pos:Pos}
def uL(i:Nat):TG:=λv σ H Q=>Q (σ.set i (some v)) H
theorem aE{i:Nat}{x:Str}(hN:X.N.Nodup)(hi:X.N[i]? =some x)(hx:Loc X.env.scope x)(hf:X.fn x=true\/X.env.scope.names.lookup x=some .local:=by first | exact .inl rfl | exact .inr rfl | assumption):PG X (.Name x pos) (uL i):=by
 intro pins s σ H v u Q I r h
 exact wpAny_assign_Name (eE I hN hi hx r (λs' I'=>⟨_,H,I',h⟩) hf)
def WN:JI:=λvs σ H Q=>vs=[]/\Q σ H
def SN(t:TG)(u:JI):JI:=λvs σ H Q=>∃v r,vs=v::r/\t v σ H λσ' H'=>u r σ' H' Q
theorem fX:QA X [] WN:=by
 intro pins s σ H vs us Q I r h
 obtain ⟨e,h⟩:=h
 subst e
 cases r
 exact assignInOrder_nil ⟨σ,H,I,h⟩
theorem bA{e:Expr}{es:List Expr}{t:TG}{u:JI}(h1:PG X e t)(h2:QA X es u)
  (hs:(assignEach (e::es) X.env).map (·.2)=assign e X.env::(assignEach es X.env).map (·.2):=by rfl):QA X (e::es) (SN t u):=by
 intro pins s σ H vs us Q I r h
 obtain ⟨v,vr,e1,h⟩:=h
 subst e1
 cases r with
 | cons r rr=>
  rw[hs]
  refine assignInOrder_cons (cA (h1 pins s σ H _ _ _ I r h) λ_ s1 ⟨σ1,H1,I1,q1⟩=>?_)
  exact h2 pins s1 σ1 H1 _ _ Q I1 rr q1
def SO(K:c7)(n:Nat)(t:JI):TG:=λv σ H Q=>∃a xs,v= .ref a/\de K H a xs/\(xs:)=n/\t xs σ H Q
theorem NN{es:List Expr}{k:Nat}{t:JI}{n:Nat}(hc:X.calm=true)(h:QA X es t)
  (hn:(assignEach es X.env:)=n:=by rfl) (kZ:(assignEach es X.env).findIdx? (·.1)=none:=by rfl):PG X (.Tuple es k pos) (SO X.K n t):=by
 intro pins s σ H v u Q I r hw
 obtain ⟨a,xs,e1,hq,hl,hw⟩:=hw
 subst e1
 cases r
 obtain ⟨aH,rv,ht,hz⟩:=I.tuple hq
 refine assign_Tuple_tuple (I.ok.hd hc) ht (by simp[hn, <-hl,(rv:)]) kZ λh' hx=>?_
 have I1:Inv X pins σ H { s with heap:=h' }:=I.kept (t':=s.toks) λb o e=>hx b o (Qaw (Qap e)) e
 exact h pins _ σ H xs _ Q I1 (by simpa using rv) hw
def WO(to ti:TE)(t:NM):TG:=λv σ H Q=>to σ H λo H1=>ti σ H1 λi H2=>t o i v H2 λH3=>Q σ H3
theorem FK{o i:Expr}{to ti:TE}{t:NM}(ho:PE X o to)(hi:PE X i ti)(hs:SK X t)
  (ha:∀v,assign (.Subscript o i pos) X.env v=(do
   let ov <-holding [v] (eval o X.env)
   let iv <-holding [v,ov] (eval i X.env)
   standAt pos
   holding [v,ov,iv] (setItem ov iv v)
   release [v,ov,iv] []):=by intro _;rfl):PG X (.Subscript o i pos) (WO to ti t):=by
 intro pins s σ H v u Q I r h
 rw[ha]
 refine wpAny_bind (wpAny_holding (cA (ho pins s σ H _ I h) λov s1 ⟨x,H1,I1,r1,q1⟩=>?_))
 refine wpAny_bind (wpAny_holding (cA (hi pins s1 σ H1 _ I1 q1) λiv s2 ⟨y,H2,I2,r2,q2⟩=>?_))
 refine wpAny_bind (wpAny_standAt (wpAny_bind (wpAny_holding (cA (hs pins s2 σ H2 x y v ov iv u _ I2 r1 r2 r q2) λ_ s3 ⟨H3,I3,q3⟩=>?_))))
 exact wpAny_release ⟨σ,H3,I3,q3⟩
def FL(te:TE)(g:TG):TS:=λD σ H=>te σ H λx H1=>g x σ H1 D.nx
theorem lV{tg e:Expr}{te:TE}{g:TG}(he:PE X e te)(hg:PG X tg g)(hs:swapsWithSole [tg] e pos.line X.env=pure false:=by rfl)(hw:swappedStores [tg] e X.env=pure none:=by rfl)
  (h1:(assignEach [tg] X.env).map (·.2)=[assign tg X.env]:=by rfl):PS X (.Assign [tg] e pos) (FL te g):=by
 walk_at"p"
 refine wpAny_Assign_stores (cA (he pins s σ H _ I h) λv s1 ⟨x,H1,I1,r1,q1⟩=>?_) hs hw
 rw[h1]
 exact cA (hg pins s1 σ H1 x v _ I1 r1 q1) λ_ s2 q=>q
theorem Ah{i:Nat}{x:Str}{e:Expr}{te:TE}{pos':Pos}(hN:X.N.Nodup)(hi:X.N[i]? =some x)(hx:Loc X.env.scope x)(he:PE X e te)(hs:swapsWith e (some (.Name x pos')) pos.line X.env=pure false:=by rfl)(hf:X.fn x=true\/X.env.scope.names.lookup x=some .local:=by first | exact .inl rfl | exact .inr rfl | assumption):
  PS X (.Assign [.Name x pos'] e pos) (FL te (uL i)):=by
 walk_at"p"
 refine wpAny_Assign_Name (cA (he pins s σ H _ I h) λv s1 ⟨y,H1,I1,r1,q1⟩=>?_) hs
 exact eE I1 hN hi hx r1 (λs2 I2=>⟨_,H1,I2,q1⟩) hf
def WQ(i j:Nat)(ta:TA):TS:=λD σ H=>ta σ H λvs H1=>∃v w,vs=[v,w]/\D.nx ((σ.set i (some v)).set j (some w)) H1
theorem FN{i j:Nat}{x y:Str}{a b:Expr}{ta:TA}{px py pt:Pos}{kt k2 NO}(hc:X.calm=true)(hN:X.N.Nodup)(hi:X.N[i]? =some x)(hj:X.N[j]? =some y)(Ai:i≠j)
  (hx:X.env.scope.names.lookup x=some .local) (hy:X.env.scope.names.lookup y=some .local) (ha:PA X [a,b] ta)
  (hw:swappedStores [.Tuple [.Name x px, .Name y py] kt pt] (.Tuple [a,b] k2 NO) X.env=pure (some [x,y]))
  (hs:swapsWithSole [.Tuple [.Name x px, .Name y py] kt pt] (.Tuple [a,b] k2 NO) pos.line X.env=pure false:=by rfl):
  PS X (.Assign [.Tuple [.Name x px, .Name y py] kt pt] (.Tuple [a,b] k2 NO) pos) (WQ i j ta):=by
 walk_at"p"
 rw[exec_Assign_arm]
 refine wpAny_bind (wpAny_standAt ?_)
 rw[hs]
 walk_at"y"
 rw[if_neg ∅]
 refine wpAny_bind (Tuple_ (cA (ha _ pins s σ H _ I h) λus s1 ⟨vs,H1,I1,r1,q1⟩=>?_))
 obtain ⟨v,w,e1,q1⟩:=q1
 subst e1
 obtain ⟨u1,u2,rfl,rv,tX⟩:∃u1 u2,us=[u1,u2]/\RelV v u1/\RelV w u2:=by
  cases r1 with
  | cons p q=>
   cases q with
   | cons p' q'=>
    cases q'
    exact ⟨_,_,rfl,p,p'⟩
 refine wpAny_newObj_type ?_ (by show 2<=sizeLine;decide)
 have I2:Inv X pins σ H1 { s1 with heap:=s1.heap.push { cls:= .type "tuple",data:= .seq [u1,u2].toArray } }:=I1.kept (t':=s1.toks) λb o e=>ZG _ e
 rw[hw]
 walk_at"y"
 show wpAny (model X.prog X.w) X.A (do rule "assign.swapped-stores";let items <-unpackItems (.ref s1.heap.objs.size) 2 none;assignInOrder [λv=>bindName X.env y v,λv=>bindName X.env x v] items.reverse;pure Flow.next) _ _ _
 refine wpAny_bind (wpAny_rule (wpAny_bind (unpackItems_tuple (items:= #[u1,u2]) (I.ok.hd hc) (IsTup.new s1.heap _) λh' JJ=>?_)))
 have I3:=I2.kept (h':=h') (t':=s1.toks) λb o e=>JJ b o (Qaw (Qap e)) e
 show wpAny _ _ (assignInOrder [λv=>bindName X.env y v,λv=>bindName X.env x v] [u2,u1] >>= λ_=>pure Flow.next) _ _ _
 refine wpAny_bind (assignInOrder_cons (wpAny_bindName (eE I3 hN hj (.inl hy) tX (λs2 I4=>?_) (.inr hy))))
 refine assignInOrder_cons (wpAny_bindName (eE I4 hN hi (.inl hx) rv (λs3 I5=>assignInOrder_nil (wpAny_pure ?_)) (.inr hx)))
 rw[Qf4 _ _ (Ne.symm Ai)]at I5
 exact ⟨_,H1,I5,q1⟩
def WR(i:Nat)(te:TE)(ti:VD):TS:=λD σ H=>∃x,σ[i]? =some (some x)/\te σ H λy H1=>ti x y H1 λz H2=>D.nx (σ.set i (some z)) H2
theorem lW{i:Nat}{x:Str}{e:Expr}{te:TE}{op:Operator}{ti:VD}{pos':Pos}(hN:X.N.Nodup)(hi:X.N[i]? =some x)(hx:Loc X.env.scope x)(he:PE X e te)(ho:SM X op ti)(hf:X.fn x=true\/X.env.scope.names.lookup x=some .local:=by first | exact .inl rfl | exact .inr rfl | assumption):
  PS X (.AugAssign (.Name x pos') op e pos) (WR i te ti):=by
 walk_at"p"
 obtain ⟨v,e1,h⟩:=h
 obtain ⟨m,hn,hl⟩:=I.loc
 have vis:SA X.env.scope x:=by rcases hx with k | k;exact .inl k;exact .inr (.inl k)
 obtain ⟨u,r,l⟩:=hl i x v hi e1 vis
 refine wpAny_AugAssign_Name ?_
 have go:wpAny (model X.prog X.w) X.A (eval e X.env) (λw s₂=>wpAny (model X.prog X.w) X.A (inplaceOp op u w) (λr s₃=>wpAny (model X.prog X.w) X.A (storeName X.env x r) (λ_=>SP X pins D .next) X.xe s₃) X.xe s₂) X.xe s:=by
  refine cA (he pins s σ H _ I h) λw s1 ⟨y,H1,I1,r1,q1⟩=>?_
  refine cA (ho pins s1 σ H1 v y u w _ I1 r r1 q1) λz s2 ⟨zv,H2,I2,r2,q2⟩=>?_
  exact eE I2 hN hi hx r2 (λs3 I3=>⟨_,H2,I3,q2⟩) hf
 rcases l with ⟨hk,hm⟩ | ⟨hk,c,hc,ik⟩
 ·exact wpAny_loadName_local I.ok.kind hk hn hm go
 ·rcases hk with hk | hk
  ·exact wpAny_loadName_cell I.ok.kind hk hc ik go
  ·rcases hx with k | k
   ·have:X.env.scope.names.lookup x=some .free:=hk
    rw[k]at this;cases this
   ·have:X.env.scope.names.lookup x=some .free:=hk
    rw[k]at this;cases this
def Zu(f:Int->Int->Int):VD:=λx y H Q=>∃i j,x= .int i/\y= .int j/\Q (.int (f i j)) H
theorem wB:SM X .Add (Zu λi j=>i+j):=by
 intro pins s σ H x y v u Q I r1 r2 h
 obtain ⟨i,j,e1,e2,q⟩:=h
 subst e1;subst e2
 walk_at"T"
 obtain ⟨t',rfl⟩:=r2
 exact iadd_int ⟨.int _,H,I.tok _,⟨_,rfl⟩,q⟩
theorem NP:SM X .Sub (Zu λi j=>i - j):=by
 intro pins s σ H x y v u Q I r1 r2 h
 obtain ⟨i,j,e1,e2,q⟩:=h
 subst e1;subst e2
 walk_at"T"
 obtain ⟨t',rfl⟩:=r2
 exact isub_int ⟨.int _,H,I.tok _,⟨_,rfl⟩,q⟩
end
structure It where
 go:Nat->Hp->Prop
 FO:Nat->Hp->V->Hp->Prop
 stop:Nat->Hp->Prop
def pT(X:Cx)(pins:List (Addr×Obj))(H:Hp)(b:Addr):Prop:=
 H b=none/\b≠X.env.locals/\b∉X.fs/\(b∈X.ex\/X.s₀.heap.objs.size<=b)/\(∀x c,X.env.cells.lookup x=some c->c≠b)/\∀p∈X.pn++pins,p.1≠b
theorem Inv.qI{X:Cx}{pins:List (Addr×Obj)}{σ:St}{H H':Hp}{s:Shared}{b:Addr}(I:Inv X pins σ H s)(hb:s.heap.objs.size<=b)(hn:H' b=none):pT X pins H' b:=by
 refine ⟨hn,Qfk (Qbc I.lt hb),I.ND hb,.inr (Qbh I.sz hb),λx c e z=>?_,λp hp z=>?_⟩
 ·obtain ⟨v,q⟩:=I.cell x c e
  exact absurd (Qbc q.lt (by rw[z];exact hb)) (Qbw _)
 ·exact absurd (Qbc (Qap (I.pin p hp).1) (by rw[z];exact hb)) (Qbw _)
structure Turn(P:Program)(w:World)(K:c7)(tg:Expr)(J:It)(fp:List Addr)(it:Addr)(tn:Nat->Heap->Prop):Prop where
 mem:it∈fp
 obj:∀i h,tn i h->∀b∈fp,∃o,h.get? b=some o/\∀v,o.data≠ .cell v
 keep:∀i h h',tn i h->(∀b∈fp,∀o,h.get? b=some o->h'.get? b=some o)->tn i h'
 item:∀(X:Cx),X.prog=P->X.w=w->X.K=K->X.calm=true->∀(i:Nat) (pins:List (Addr×Obj)) (s:Shared) (σ:St) (H:Hp) (E:Value->Shared->Prop),Inv X pins σ H s->(∀b∈fp,pT X pins H b)->tn i s.heap->J.go i H->
  wpAny (model P w) X.A (pyNext (.ref it)) (λr s1=>∃u,r=some u/\
   wpAny (model P w) X.A (letOwnedTupleGo tg (.ref it) u) (λ_ s2=>∃x H',Inv X pins σ H' s2/\RelV x u/\J.FO i H x H'/\tn (i+1) s2.heap/\∀b∈fp,H' b=none) E s1) E s
 done:∀(X:Cx),X.prog=P->X.w=w->X.K=K->X.calm=true->∀(i:Nat) (pins:List (Addr×Obj)) (s:Shared) (σ:St) (H:Hp) (E:Value->Shared->Prop),Inv X pins σ H s->(∀b∈fp,pT X pins H b)->tn i s.heap->J.stop i H->
  wpAny (model P w) X.A (pyNext (.ref it)) (λr s1=>r=none/\Inv X pins σ H s1) E s
 self:∀(A:Around) (i:Nat) (s:Shared) (Q:Value->Shared->Prop) (E:Value->Shared->Prop),tn i s.heap->Q (.ref it) s->wpAny (model P w) A (pyIter (.ref it)) Q E s
abbrev TI:=St->Hp->(It->Hp->Prop)->Prop
def Zv(X:Cx)(pins:List (Addr×Obj))(σ:St)(tg:Expr)(R:It->Hp->Prop)(WS:Value)(s2:Shared):Prop:=
 ∃(it:Addr) (fp:List Addr) (tn:Nat->Heap->Prop) (J:It) (H':Hp),WS= .ref it/\Inv X pins σ H' s2/\Turn X.prog X.w X.K tg J fp it tn/\tn 0 s2.heap/\(∀b∈fp,pT X pins H' b)/\R J H'
def PI(X:Cx)(tg iter:Expr)(wi:TI):Prop:=
 ∀(pins:List (Addr×Obj)) (s:Shared) (σ:St) (H:Hp) (R:It->Hp->Prop),Inv X pins σ H s->wi σ H R->
  wpAny (model X.prog X.w) X.A (eval iter X.env) (λv s1=>wpAny (model X.prog X.w) X.A (pyIter v) (Zv X pins σ tg R) X.xe s1) X.xe s
theorem yv{M:Model}{A:Around}{E:Value->Shared->Prop}{s:Shared}{tg:Expr}{it:Addr}{u:Value}{o:Obj}{n:String}{vs:Array Value}{Q:Unit->Shared->Prop}(ho:s.heap.get? it=some o)(hc:o.cls= .type n)(hd:o.data= .fields vs)
  (hn:["enumerate","zip","dict_itemiterator","dict_reverseitemiterator","odict_iterator","itertools.zip_longest","itertools.pairwise"].contains n=false) (hQ:Q Unit.unit s):wpAny M A (letOwnedTupleGo tg (.ref it) u) Q E s:=by
 unfold letOwnedTupleGo
 cases tg<;>first
  | exact wpAny_pure hQ
  |(cases u<;>first
    | exact wpAny_pure hQ
    |(refine wpAny_bind (wpAny_load ho ?_)
      rw[hc,hd]
      show wpAny M A (if (["enumerate","zip","dict_itemiterator","dict_reverseitemiterator","odict_iterator","itertools.zip_longest","itertools.pairwise"].contains n&&vs[0]? ==some (rawInt _))=true then _ else _) Q E s
      rw[if_neg (by intro h;rw[hn,Bool.false_and]at h;cases h)]
      exact wpAny_pure hQ))
noncomputable def QB(K:c7)(a:Addr):It:=
 ⟨λi H=>∃xs x,bB K H a xs/\xs[i]? =some x,λi H x H'=>H'=H/\∀xs,bB K H a xs->xs[i]? =some x,λi H=>∃xs,bB K H a xs/\(xs:)<=i⟩
noncomputable def WT(K:c7)(a:Addr):It:=
 ⟨λi H=>∃xs x,de K H a xs/\xs[i]? =some x,λi H x H'=>H'=H/\∀xs,de K H a xs->xs[i]? =some x,λi H=>∃xs,de K H a xs/\(xs:)<=i⟩
noncomputable def MA(lo:Int)(n:Nat):It:=⟨λi _=>i<n,λi H x H'=>H'=H/\x= .int (lo+i),λi _=>n<=i⟩
theorem DK{P:Program}{w:World}{K:c7}{tg:Expr}(a it:Addr):Turn P w K tg (QB K a) [it] it (λi h=>h.IsListIter it a i) where
 mem:=by simp
 obj:=λi h st b hb=>by
  have e:b=it:=by simpa using hb
  subst e
  obtain ⟨o,e,c,d⟩:=st
  walk_at"V"
 keep:=λi h h' st k=>st.at λo e=>k it (by simp) o e
 item:=by
  walk_at"b"
  subst hP hw hK
  obtain ⟨xs,x,hq,hx⟩:=hg
  obtain ⟨aH,rv,p,hz⟩:=I.list hq
  obtain ⟨u,hu,ru⟩:=rv.get hx
  walk_at"e"
  refine wpAny_pyNext_list_item st p.isList (x:=u) (by simpa using hu) λh' aR sb=>?_
  walk_at"U"
  obtain ⟨o,e,c,d⟩:=id aR
  exact ⟨u,rfl,yv (s:={ s with heap:=h' }) e c d ∅ ⟨x,H,I1,ru,⟨rfl,λys hy=>by rw[I.yu hy hq];exact hx⟩,aR,λb hb=>(hf b hb).1⟩⟩
 done:=by
  walk_at"b"
  subst hP hw hK
  obtain ⟨xs,hq,hx⟩:=hg
  obtain ⟨aH,rv,p,hz⟩:=I.list hq
  walk_at"e"
  have hl:=(rv:)
  exact wpAny_pyNext_list_end (I.ok.hd hc) st p.isList (by simp;lia) λh' eb=>⟨rfl,I.turned (t':=s.toks) (λb o hb e=>eb b o hb e) f0 f1 f3 f4 f5⟩
 self:=λ_ _ _ _ _ st h=>wpAny_pyIter_listiter st h
theorem Aj{P:Program}{w:World}{K:c7}{tg:Expr}(a it:Addr):Turn P w K tg (WT K a) [it] it (λi h=>h.IsTupleIter it a i) where
 mem:=by simp
 obj:=λi h st b hb=>by
  have e:b=it:=by simpa using hb
  subst e
  obtain ⟨o,e,c,d⟩:=st
  walk_at"V"
 keep:=λi h h' st k=>st.at λo e=>k it (by simp) o e
 item:=by
  walk_at"b"
  subst hP hw hK
  obtain ⟨xs,x,hq,hx⟩:=hg
  obtain ⟨aH,rv,p,hz⟩:=I.tuple hq
  obtain ⟨u,hu,ru⟩:=rv.get hx
  walk_at"e"
  refine wpAny_pyNext_tuple_item st (show s.heap.IsTuple a aH.toArray from p) (x:=u) (by simpa using hu) λh' aR sb=>?_
  walk_at"U"
  obtain ⟨o,e,c,d⟩:=id aR
  exact ⟨u,rfl,yv (s:={ s with heap:=h' }) e c d ∅ ⟨x,H,I1,ru,⟨rfl,λys hy=>by rw[I.uK hy hq];exact hx⟩,aR,λb hb=>(hf b hb).1⟩⟩
 done:=by
  walk_at"b"
  subst hP hw hK
  obtain ⟨xs,hq,hx⟩:=hg
  obtain ⟨aH,rv,p,hz⟩:=I.tuple hq
  walk_at"e"
  have hl:=(rv:)
  exact wpAny_pyNext_tuple_end (I.ok.hd hc) st (show s.heap.IsTuple a aH.toArray from p) (by simp;lia) λh' eb=>⟨rfl,I.turned (t':=s.toks) (λb o hb e=>eb b o hb e) f0 f1 f3 f4 f5⟩
 self:=λ_ _ _ _ _ st h=>wpAny_pyIter_tupleiter st h
theorem Ak{P:Program}{w:World}{K:c7}{tg:Expr}(it:Addr)(lo:Int)(n:Nat):Turn P w K tg (MA lo n) [it] it (λi h=>IsRangeIter h it (lo+(i:Nat)*1) ((n:Int) - (i:Nat)) 1) where
 mem:=by simp
 obj:=λi h st b hb=>by
  have e:b=it:=by simpa using hb
  subst e
  exact ⟨_,st,λv z=>by
   have z':Data.fields _=Data.cell v:=z
   cases z'⟩
 keep:=λi h h' st k=>k it (by simp) _ st
 item:=by
  walk_at"b"
  subst hP hw hK
  walk_at"e"
  have W:=Walks.range (prog:=X.prog) (w:=X.w) (I.ok.hd hc) it lo 1 n
  refine W.item i s _ _ hg st λv h' tk hv aR kk=>?_
  obtain ⟨t,rfl⟩:=hv
  walk_at"R"
  refine ⟨_,rfl,yv (s:={ s with heap:=h',toks:=tk }) (n:="range_iterator") aR rfl rfl ∅ ⟨.int (lo+i),H,I1,⟨t,?_⟩,⟨rfl,rfl⟩,aR,λb hb=>(hf b hb).1⟩⟩
  rw[Int.mul_one]
 done:=by
  walk_at"b"
  subst hP hw hK
  walk_at"e"
  exact wpAny_pyNext_range_end (I.ok.hd hc) st (by have:n<=i:=hg;lia) λh' eb=>⟨rfl,I.turned (t':=s.toks) (λb o hb e=>eb b o hb e) f0 f1 f3 f4 f5⟩
 self:=λ_ _ _ _ _ st h=>wpAny_pyIter_rangeiter st h
section
variable{X:Cx}{tg:Expr}
def MB(K:c7)(tl:TE):TI:=λσ H R=>tl σ H λx H1=>∃a,x= .ref a/\(∃xs,bB K H1 a xs)/\R (QB K a) H1
def SQ(K:c7)(tl:TE):TI:=λσ H R=>tl σ H λx H1=>∃a,x= .ref a/\(∃xs,de K H1 a xs)/\R (WT K a) H1
theorem Ke{l:Expr}{tl:TE}(hl:PE X l tl):PI X tg l (MB X.K tl):=by
 walk_at"W"
 walk_at"S"
 obtain ⟨a,e,⟨xs,hq⟩,q⟩:=q1
 subst e
 cases r1
 obtain ⟨aH,rv,p,hz⟩:=I1.list hq
 refine wpAny_pyIter_list p.isList ?_
 refine ⟨s1.heap.objs.size,[s1.heap.objs.size],_,_,H1,rfl,I1.kept (t':=s1.toks) λb o e=>ZG _ e,DK a _,⟨_,Qaq _ rfl,rfl,rfl⟩,λb hb=>?_,q⟩
 have e:b=s1.heap.objs.size:=by simpa using hb
 subst e
 walk_at"N"
theorem NQ{l:Expr}{tl:TE}(hl:PE X l tl):PI X tg l (SQ X.K tl):=by
 walk_at"W"
 walk_at"S"
 obtain ⟨a,e,⟨xs,hq⟩,q⟩:=q1
 subst e
 cases r1
 obtain ⟨aH,rv,p,hz⟩:=I1.tuple hq
 refine wpAny_pyIter_tuple (show s1.heap.IsTuple a aH.toArray from p) ?_
 refine ⟨s1.heap.objs.size,[s1.heap.objs.size],_,_,H1,rfl,I1.kept (t':=s1.toks) λb o e=>ZG _ e,Aj a _,⟨_,Qaq _ rfl,rfl,rfl⟩,λb hb=>?_,q⟩
 have e:b=s1.heap.objs.size:=by simpa using hb
 subst e
 walk_at"N"
theorem yx{pins:List (Addr×Obj)}{σ:St}{H:Hp}{s:Shared}{R:It->Hp->Prop}{E:Value->Shared->Prop}{lo hi:Int}{t u v:Tok}{tk:Nat}(I:Inv X pins σ H s)(h1: -(2 ^ 62)<=lo)(h2:lo<2 ^ 62)(h3: -(2 ^ 62)<=hi)(h4:hi<2 ^ 62)
  (q:R (MA lo (hi - lo).toNat) H):wpAny (model X.prog X.w) X.A (pyIter (.ref s.heap.objs.size)) (Zv X pins σ tg R) E { s with heap:=s.heap.push { cls:= .type "range",data:= .fields #[.int lo t,.int hi u,.int 1 v] },toks:=tk }:=by
 refine wpAny_pyIter_range (IsRange.new ..) (small_one h1 h2 h3 h4) ?_
 have I1:Inv X pins σ H { s with heap:=s.heap.push { cls:= .type "range",data:= .fields #[.int lo t,.int hi u,.int 1 v] },toks:=tk }:=I.kept λb o e=>ZG _ e
 refine ⟨(s.heap.push { cls:= .type "range",data:= .fields #[.int lo t,.int hi u,.int 1 v] }).objs.size,[(s.heap.push { cls:= .type "range",data:= .fields #[.int lo t,.int hi u,.int 1 v] }).objs.size],_,_,H,rfl,
  I1.kept (t':=tk) λb o e=>ZG _ e,Ak _ lo (hi - lo).toNat,?_,λb hb=>?_,q⟩
 ·have e1:lo+((0:Nat):Int)*1=lo:=by simp
  have e2:(((hi - lo).toNat:Nat):Int) - ((0:Nat):Int)=Builtin.Range.rangeSize lo hi 1:=by rw[rangeSize_one];split<;>lia
  show IsRangeIter _ _ (lo+((0:Nat):Int)*1) ((((hi - lo).toNat:Nat):Int) - ((0:Nat):Int)) 1
  rw[e1,e2]
  exact Qaq _ rfl
 ·have e:b=(s.heap.push { cls:= .type "range",data:= .fields #[.int lo t,.int hi u,.int 1 v] }).objs.size:=by simpa using hb
  subst e
  walk_at"N"
def SR(ta:TA):TI:=λσ H R=>ta σ H λvs H1=>∃j:Int,vs=[.int j]/\ -(2 ^ 62)<=j/\j<2 ^ 62/\R (MA 0 j.toNat) H1
def SU(ta:TA):TI:=λσ H R=>ta σ H λvs H1=>∃i j:Int,vs=[.int i,.int j]/\(-(2 ^ 62)<=i/\i<2 ^ 62/\ -(2 ^ 62)<=j/\j<2 ^ 62)/\R (MA i (j - i).toNat) H1
theorem dY{a:Expr}{ta:TA}{p pos:Pos}(hg:Gl X "range")(hm:X.mg "range"=none)(ha:PA X [a] ta)(hs:starEach [a] X.env=[(false,eval a X.env)]:=by rfl):PI X tg (.Call (.Name "range" p) [a] [] pos) (SR ta):=by
 walk_at"W"
 refine Call_ (g8 I hg hm boot_range (Qcg (cA (ha pos pins s σ H _ I h) λus s1 ⟨vs,H1,I1,r1,q1⟩=>?_) hs rfl))
 obtain ⟨j,e,q1,q2,q⟩:=q1
 subst e
 cases r1 with
 | cons r rr=>
  cases rr
  obtain ⟨t,rfl⟩:=r
  exact call_range_1 (yx I1 () () q1 q2 (by simpa using q))
theorem uM{a b:Expr}{ta:TA}{p pos:Pos}(hg:Gl X "range")(hm:X.mg "range"=none)(ha:PA X [a,b] ta)(hs:starEach [a,b] X.env=[(false,eval a X.env),(false,eval b X.env)]:=by rfl)(SV:starEach [b] X.env=[(false,eval b X.env)]:=by rfl):
  PI X tg (.Call (.Name "range" p) [a,b] [] pos) (SU ta):=by
 walk_at"W"
 refine Call_ (g8 I hg hm boot_range (Qcg (cA (ha pos pins s σ H _ I h) λus s1 ⟨vs,H1,I1,r1,q1⟩=>?_) (by rw[hs,SV]) (by rw[SV];rfl)))
 obtain ⟨i,j,e,⟨q1,q2,q3,q4⟩,q⟩:=q1
 subst e
 cases r1 with
 | cons r rr=>
  cases rr with
  | cons r' rr=>
   cases rr
   obtain ⟨t,rfl⟩:=r
   obtain ⟨t',rfl⟩:=r'
   exact call_range_2 (yx I1 q1 q2 q3 q4 q)
def WU(wi:TI)(g:TG)(tb:TS):TS:=λD σ H=>wi σ H λJ H1=>∃W:Nat->Nat->St->Hp->Prop,(∃m,W 0 m σ H1)/\∀i m σ H,W i m σ H->(J.stop i H/\D.nx σ H)\/(J.go i H/\∃N:St->Hp->Prop,(∀σ' H',N σ' H'->∃m',m'<m/\W (i+1) m' σ' H')/\∀x H',J.FO i H x H'->g x σ H' λσ2 H2=>tb { D with nx:=N,ct:=N,bk:=D.nx } σ2 H2)
noncomputable def qJ(fp:List Addr)(h:Heap):List (Addr×Obj):=fp.filterMap λb=>(h.get? b).map λo=>(b,o)
theorem iT{fp:List Addr}{h:Heap}{b:Addr}{o:Obj}(hb:b∈fp)(e:h.get? b=some o):(b,o)∈qJ fp h:=List.mem_filterMap.mpr ⟨b,hb,by rw[e];rfl⟩
theorem DL{fp:List Addr}{h:Heap}{p:Addr×Obj}(hp:p∈qJ fp h):p.1∈fp/\h.get? p.1=some p.2:=by
 obtain ⟨b,hb,e⟩:=List.mem_filterMap.mp hp
 cases q:h.get? b with
 | none=>rw[q]at e;cases e
 | some o=>
  rw[q]at e
  have e':(b,o)=p:=Qad e
  subst e'
  exact ⟨hb,q⟩
theorem Inv.pinned{pins:List (Addr×Obj)}{σ:St}{H:Hp}{s:Shared}{fp:List Addr}(I:Inv X pins σ H s)(hf:∀b∈fp,pT X pins H b)(ho:∀b∈fp,∃o,s.heap.get? b=some o/\∀v,o.data≠ .cell v):Inv X (pins++qJ fp s.heap) σ H s:=
 I.mG λp hp=>(Qao.mp hp).elim (λz=>I.pin p (Qa2 _ z)) λz=>by
  obtain ⟨hb,e⟩:=DL z
  obtain ⟨f0,f1,f2,_⟩:=hf p.1 hb
  obtain ⟨o,e',d⟩:=ho p.1 hb
  rw[e]at e';cases e'
  exact ⟨e,f0,f1,f2,d⟩
theorem Inv.jI{pins pl:List (Addr×Obj)}{σ:St}{H:Hp}{s:Shared}(I:Inv X (pins++pl) σ H s):Inv X pins σ H s:=I.mG λp hp=>I.pin p (Qa2 _ (Qck _ hp))
theorem cH{iter:Expr}{body:List Stmt}{wi:TI}{g:TG}{tb:TS}{pos:Pos}(hp:PassesOwn (model X.prog X.w) X.A X.env X.xe)(hc:X.calm=true)(hi:PI X tg iter wi)(hg:PG X tg g)(hb:yt X body tb)
  (hs:∀x,foldedSetIterable iter X.env x=pure x:=by intro _;rfl):PS X (.For tg iter body [] pos) (WU wi g tb):=by
 walk_at"p"
 refine wpAny_For (cA (hi pins s σ H _ I h) λv s1 h1=>cA h1 λWS s2 h2=>?_) hs
 obtain ⟨it,fp,tn,J,H2,e,I2,T,jE,f2,W,⟨m0,w0⟩,turn⟩:=h2
 subst e
 -- aaa stays true of JK NR objects through JK loop
 have NS:∀{H':Hp},(∀b∈fp,H' b=none)->∀b∈fp,pT X pins H' b:=λhn b hb=>⟨hn b hb,(f2 b hb).2⟩
 refine codeAny_forLoop_any (λn s'=>∃i σ' H',Inv X pins σ' H' s'/\tn i s'.heap/\(∀b∈fp,H' b=none)/\W i n σ' H') ?_ m0 ⟨0,σ,H2,I2,jE,λb hb=>(f2 b hb).1,w0⟩
 rintro n s3 ⟨i,σ3,H3,I3,z_,SX,w3⟩
 rcases turn i n σ3 H3 w3 with ⟨stop,qn⟩ | ⟨go,N,hN,step⟩
 ·refine wpAny_passesOwn hp (cA (T.done X rfl rfl rfl hc i pins s3 σ3 H3 X.xe I3 (NS SX) z_ stop) λr s4 ⟨hr,I4⟩=>?_)
  subst hr
  exact wpAny_execs_nil ⟨σ3,H3,I4,qn⟩
 ·refine wpAny_passesOwn hp (cA (T.item X rfl rfl rfl hc i pins s3 σ3 H3 X.xe I3 (NS SX) z_ go) λr s4 ⟨u,hr,h4⟩=>?_)
  subst hr
  refine wpAny_passesOwn hp (cA h4 λ_ s5 ⟨x,H5,I5,r5,y5,nK,WV⟩=>?_)
  have WW:=I5.pinned (NS WV) (T.obj _ _ nK)
  refine wpAny_passesOwn hp (cA (hg _ s5 σ3 H5 x u _ WW r5 (step x H5 y5)) λ_ s6 ⟨σ6,H6,I6,q6⟩=>?_)
  refine wpAny_passesOwn hp (cA (hb _ s6 σ6 H6 _ I6 q6) λf s7 q7=>?_)
  have again:∀{σ7:St} {H7:Hp},Inv X (pins++qJ fp s5.heap) σ7 H7 s7->N σ7 H7->∃m,m<n/\∃i σ' H',Inv X pins σ' H' s7/\tn i s7.heap/\(∀b∈fp,H' b=none)/\W i m σ' H':=λ{σ7 H7} I7 n7=>by
   obtain ⟨m',hm,w7⟩:=hN σ7 H7 n7
   refine ⟨m',hm,i+1,σ7,H7,I7.jI,T.keep _ _ _ nK λb hb o e=>(I7.pin (b,o) (Qa2 _ (Qa2 _ (iT hb e)))).1,λb hb=>?_,w7⟩
   obtain ⟨o,e,d⟩:=T.obj _ _ nK b hb
   exact (I7.pin (b,o) (Qa2 _ (Qa2 _ (iT hb e)))).2.1
  cases f with
  | next=>obtain ⟨σ7,H7,I7,n7⟩:=q7;exact again I7 n7
  | cont=>obtain ⟨σ7,H7,I7,n7⟩:=q7;exact again I7 n7
  | brk=>obtain ⟨σ7,H7,I7,q7⟩:=q7;exact ⟨σ7,H7,I7.jI,q7⟩
  | ret v=>obtain ⟨x7,σ7,H7,I7,r7,q7⟩:=q7;exact ⟨x7,σ7,H7,I7.jI,r7,q7⟩
end
theorem il{K:c7}{a:Addr}{xs:List V}{g:TG}{tb:TS}{D:Ends}{σ:St}{H:Hp}(Pv:Nat->St->Hp->Prop)(h0:Pv 0 σ H)(hl:∀i σ H,i<=(xs:)->Pv i σ H->bB K H a xs)
  (hs:∀i x σ H,xs[i]? =some x->Pv i σ H->g x σ H λσ2 H2=>tb { D with nx:=Pv (i+1),ct:=Pv (i+1),bk:=D.nx } σ2 H2) (hd:∀σ H,Pv (xs:) σ H->D.nx σ H):
  ∃W:Nat->Nat->St->Hp->Prop,(∃m,W 0 m σ H)/\∀i m σ H,W i m σ H->
   ((QB K a).stop i H/\D.nx σ H)\/((QB K a).go i H/\∃N:St->Hp->Prop,(∀σ' H',N σ' H'->∃m',m'<m/\W (i+1) m' σ' H')/\∀x H',(QB K a).FO i H x H'->g x σ H' λσ2 H2=>tb { D with nx:=N,ct:=N,bk:=D.nx } σ2 H2):=by
 walk_at"h"
 rintro i m σ H ⟨rfl,hi,p⟩
 have q:=hl i σ H hi p
 by_cases cf:i<(xs:)
 ·refine .inr ⟨⟨xs,xs[i],q,by simp[cf]⟩,Pv (i+1),λσ' H' p'=>⟨(xs:) - (i+1),(),rfl,cf,p'⟩,λx H' y=>?_⟩
  obtain ⟨e,y⟩:=y
  subst e
  exact hs i x σ _ (y xs q) p
 ·have e:i=(xs:):=by lia
  subst e
  exact .inl ⟨⟨xs,q,ZH _⟩,hd σ H p⟩
theorem eY{lo:Int}{n:Nat}{g:TG}{tb:TS}{D:Ends}{σ:St}{H:Hp}(Pv:Nat->St->Hp->Prop)(h0:Pv 0 σ H)
  (hs:∀i σ H,i<n->Pv i σ H->g (.int (lo+i)) σ H λσ2 H2=>tb { D with nx:=Pv (i+1),ct:=Pv (i+1),bk:=D.nx } σ2 H2) (hd:∀σ H,Pv n σ H->D.nx σ H):
  ∃W:Nat->Nat->St->Hp->Prop,(∃m,W 0 m σ H)/\∀i m σ H,W i m σ H->
   ((MA lo n).stop i H/\D.nx σ H)\/((MA lo n).go i H/\∃N:St->Hp->Prop,(∀σ' H',N σ' H'->∃m',m'<m/\W (i+1) m' σ' H')/\∀x H',(MA lo n).FO i H x H'->g x σ H' λσ2 H2=>tb { D with nx:=N,ct:=N,bk:=D.nx } σ2 H2):=by
 refine ⟨λi m σ H=>m=n - i/\i<=n/\Pv i σ H,⟨n,by simp,Qar _,h0⟩,?_⟩
 rintro i m σ H ⟨rfl,hi,p⟩
 by_cases cf:i<n
 ·refine .inr ⟨cf,Pv (i+1),λσ' H' p'=>⟨n - (i+1),(),rfl,cf,p'⟩,λx H' y=>?_⟩
  obtain ⟨e,y⟩:=y
  subst e y
  exact hs i σ _ cf p
 ·have e:i=n:=by lia
  subst e
  exact .inl ⟨ZH _,hd σ H p⟩
abbrev R2:=V->V->Hp->VK->Prop
def jv(X:Cx)(f:Value->Value->Sem Value)(r:R2):Prop:=
 ∀(pins:List (Addr×Obj)) (s:Shared) (σ:St) (H:Hp) (x y:V) (v u:Value) (Q:VK),Inv X pins σ H s->RelV x v->RelV y u->r x y H Q->
  wpAny (model X.prog X.w) X.A (f v u) (EP X pins σ Q) X.xe s
def WX(X:Cx)(f:Value->Sem Value)(r:V->Hp->VK->Prop):Prop:=
 ∀(pins:List (Addr×Obj)) (s:Shared) (σ:St) (H:Hp) (x:V) (v:Value) (Q:VK),Inv X pins σ H s->RelV x v->r x H Q->
  wpAny (model X.prog X.w) X.A (f v) (EP X pins σ Q) X.xe s
def di(X:Cx)(f:Value)(r:List V->Hp->VK->Prop):Prop:=
 ∀(pins:List (Addr×Obj)) (s:Shared) (σ:St) (H:Hp) (xs:List V) (us:List Value) (Q:VK),Inv X pins σ H s->Vals xs us->r xs H Q->
  wpAny (model X.prog X.w) X.A (call f us) (EP X pins σ Q) X.xe s
def WY(X:Cx)(r:V->Hp->(Bool->Hp->Prop)->Prop):Prop:=
 ∀(pins:List (Addr×Obj)) (s:Shared) (σ:St) (H:Hp) (x:V) (v:Value) (Q:Bool->Hp->Prop),Inv X pins σ H s->RelV x v->r x H Q->
  wpAny (model X.prog X.w) X.A (truthy v) (TP X pins σ Q) X.xe s
def VE(r:R2)(ta tb:TE):TE:=λσ H Q=>ta σ H λx H1=>tb σ H1 λy H2=>r x y H2 Q
def tUn(r:V->Hp->VK->Prop)(ta:TE):TE:=λσ H Q=>ta σ H λx H1=>r x H1 Q
def rI(C:Int->Int->Prop)(g:Int->Int->V):R2:=λx y H Q=>I2 x y H λi j H=>C i j/\Q (g i j) H
def Kf(g:Int->Int->V):R2:=λx y H Q=>I2 x y H λi j H=>Q (g i j) H
def rU(g:Int->V):V->Hp->VK->Prop:=λx H Q=>∃i,x= .int i/\Q (g i) H
section
variable{X:Cx}{a b c:Expr}{ta tb tc:TE}{pos:Pos}
theorem NT(ha:PE X a ta)(hb:PE X b tb){pins:List (Addr×Obj)}{s:Shared}{σ:St}{H:Hp}{R:V->V->Hp->Prop}(I:Inv X pins σ H s)
  (h:ta σ H λx H1=>tb σ H1 λy H2=>R x y H2) {Q:Value->Shared->Prop} {f:Value->Value->Sem Value}
  (hf:∀v u s2 x y H2,Inv X pins σ H2 s2->RelV x v->RelV y u->R x y H2->wpAny (model X.prog X.w) X.A (f v u) Q X.xe s2):
  wpAny (model X.prog X.w) X.A (eval a X.env) (λv s₁=>wpAny (model X.prog X.w) X.A (eval b X.env) (λu s₂=>wpAny (model X.prog X.w) X.A (f v u) Q X.xe s₂) X.xe s₁) X.xe s:=by
 refine cA (ha pins s σ H _ I h) λv s1 ⟨x,H1,I1,r1,q1⟩=>?_
 refine cA (hb pins s1 σ H1 _ I1 q1) λu s2 ⟨y,H2,I2,r2,q2⟩=>?_
 exact hf v u s2 x y H2 I2 r1 r2 q2
theorem aB{op:Operator}{r:R2}(ho:jv X (binaryOp op) r)(ha:PE X a ta)(hb:PE X b tb):PE X (.BinOp a op b pos) (VE r ta tb):=by
 walk_at"g"
 exact wpAny_BinOp (NT ha hb I h λv u s2 x y H2 I2 rx ry q=>ho pins s2 σ H2 x y v u Q I2 rx ry q)
theorem jd{op:UnaryOp}{r:V->Hp->VK->Prop}(ho:WX X (unaryOp op) r)(ha:PE X a ta):PE X (.UnaryOp op a pos) (tUn r ta):=by
 walk_at"g"
 exact UnaryOp_ (cA (ha pins s σ H _ I h) λv s1 ⟨x,H1,I1,r1,q1⟩=>ho pins s1 σ H1 x v Q I1 r1 q1)
theorem VF{f:Value->Value->Sem Value}{C:Int->Int->Prop}{g:Int->Int->Int}
  (rule:∀(i j:Int) (t u:Tok) (s:Shared) (Q:Value->Shared->Prop) (E:Value->Shared->Prop),C i j->Q (.int (g i j) s.toks) { s with toks:=s.toks+1 }->wpAny (model X.prog X.w) X.A (f (.int i t) (.int j u)) Q E s):
  jv X f (rI C λi j=> .int (g i j)):=by
 walk_at"a"
 obtain ⟨i,j,rfl,rfl,hc,q⟩:=h
 walk_at"f"
 walk_at"J"
 exact rule i j t t' s _ _ hc ⟨.int (g i j),H,I.tok _,⟨_,rfl⟩,q⟩
theorem SY{f:Value->Value->Sem Value}{g:Int->Int->Int}
  (rule:∀(i j:Int) (t u:Tok) (s:Shared) (Q:Value->Shared->Prop) (E:Value->Shared->Prop),Q (.int (g i j) s.toks) { s with toks:=s.toks+1 }->wpAny (model X.prog X.w) X.A (f (.int i t) (.int j u)) Q E s):
  jv X f (Kf λi j=> .int (g i j)):=by
 walk_at"a"
 obtain ⟨i,j,rfl,rfl,q⟩:=h
 walk_at"f"
 walk_at"J"
 exact rule i j t t' s _ _ ⟨.int (g i j),H,I.tok _,⟨_,rfl⟩,q⟩
theorem Kg{f:Value->Value->Sem Value}{g:Int->Int->Bool}
  (rule:∀(i j:Int) (t u:Tok) (s:Shared) (Q:Value->Shared->Prop) (E:Value->Shared->Prop),Q (.bool (g i j)) s->wpAny (model X.prog X.w) X.A (f (.int i t) (.int j u)) Q E s):
  jv X f (Kf λi j=> .bl (g i j)):=by
 walk_at"a"
 obtain ⟨i,j,rfl,rfl,q⟩:=h
 walk_at"f"
 walk_at"J"
 exact rule i j t t' s _ _ ⟨.bl (g i j),H,I,rfl,q⟩
def WZ(i j:Int):Prop:=0<j/\j<1073741824
def W0(i j:Int):Prop:=0<=j/\j<=1000000/\i.natAbs<2 ^ 64
def Kh(i j:Int):Prop:=(-(2 ^ 64)<i/\i<2 ^ 64)\/(-(2 ^ 64)<j/\j<2 ^ 64)
theorem Kh.ok{i j:Int}(h:Kh i j):IntMulOk i j:=by
 rcases h with ⟨h1,h2⟩ | ⟨h1,h2⟩
 ·exact .of_left (intBits_le_64 h1 h2)
 ·exact .of_right (intBits_le_64 h1 h2)
theorem a_:jv X (binaryOp .Add) (Kf λi j=> .int (i+j)):=SY λ_ _ _ _ _ _ _ q=>add_int q
theorem cI:jv X (binaryOp .Sub) (Kf λi j=> .int (i - j)):=SY λ_ _ _ _ _ _ _ q=>sub_int q
theorem nS:jv X (binaryOp .Mult) (rI Kh λi j=> .int (i*j)):=VF λ_ _ _ _ _ _ _ hc q=>mul_int q hc.ok
theorem eZ:jv X (binaryOp .Mod) (rI (λ_ j=>0<j) λi j=> .int (i%j)):=VF λi j _ _ _ _ _ hc q=>by
 have h1:(0:Int)<j:=hc
 exact mod_int' () (by rw[Int.fmod_eq_emod_of_nonneg i ()];exact q)
theorem FP:jv X (binaryOp .Pow) (rI W0 λi j=> .int (i ^ j.toNat)):=VF λ_ _ _ _ _ _ _ hc q=>pow_int_small hc.1 hc.2.1 hc.2.2 q
theorem unI{f:Value->Sem Value}{g:Int->Int}
  (rule:∀(i:Int) (t:Tok) (s:Shared) (Q:Value->Shared->Prop) (E:Value->Shared->Prop),Q (.int (g i) s.toks) { s with toks:=s.toks+1 }->wpAny (model X.prog X.w) X.A (f (.int i t)) Q E s):
  WX X f (rU λi=> .int (g i)):=by
 intro pins s σ H x v Q I rx h
 obtain ⟨i,rfl,q⟩:=h
 walk_at"f"
 exact rule i t s _ _ ⟨.int (g i),H,I.tok _,⟨_,rfl⟩,q⟩
theorem fP:WX X (unaryOp .USub) (rU λi=> .int (-i)):=unI λ_ _ _ _ _ q=>neg_int q
end
noncomputable def S0:V->V->Bool
 | .eX,.eX=>true | .eX,.int _=>true | .int _,.eX=>true | .eX,.bl _=>true | .bl _,.eX=>true | .eX,.str _=>true | .str _,.eX=>true
 | .int _,.int _=>true | .bl _,.bl _=>true | .str _,.str _=>true | .B3 _, .B3 _=>true
 | .int _,.str _=>true | .str _,.int _=>true | .bl _,.str _=>true | .str _,.bl _=>true
 | _,_=>false
def rEq:R2:=λx y H Q=>S0 x y=true/\Q (.bl (decide (x=y))) H
def rNe:R2:=λx y H Q=>S0 x y=true/\Q (.bl (!decide (x=y))) H
theorem Ca{i j:Int}:decide (V.int i=V.int j)=(i==j):=by
 rw[Qes]
 simp
theorem FQ{i j:Bool}:decide (V.bl i=V.bl j)=(i==j):=by
 rw[Qes]
 simp
theorem Cb{i j:Str}:decide (V.str i=V.str j)=(i==j):=by
 rw[Qes]
 simp
theorem Cc{i j:Array UInt8}:decide (V.B3 i=V.B3 j)=(i.toList==j.toList):=by
 rw[Qes]
 cases i
 cases j
 simp
section
variable{X:Cx}{a b c:Expr}{ta tb tc:TE}{pos:Pos}
theorem bz{pins:List (Addr×Obj)}{σ:St}{H:Hp}{s:Shared}{Q:VK}{k k':Bool}(I:Inv X pins σ H s)(q:Q (.bl k) H)(e:k=k'):EP X pins σ Q (.bool k') s:=by
 subst e
 exact ⟨.bl k,H,I,rfl,q⟩
theorem MC:jv X (compareOp .Eq) rEq:=by
 walk_at"a"
 obtain ⟨hs,q⟩:=h
 cases x with
 | eX=>
  cases rx
  cases y with
  | eX=>cases ry;exact PySem.EqNone.eq_none_none (bz I q (by simp))
  | bl j=>cases ry;exact PySem.EqNone.eq_none_bool (bz I q (by simp))
  | int j=>obtain ⟨t',rfl⟩:=ry;exact PySem.EqNone.eq_none_int (bz I q (by simp))
  | str j=>obtain ⟨t',rfl⟩:=ry;exact PySem.EqNone.eq_none_str (bz I q (by simp))
  | _=>exact absurd (show false=true from hs) Qan
 | bl i=>
  cases rx
  cases y with
  | eX=>cases ry;exact PySem.EqNone.eq_bool_none (bz I q (by simp))
  | bl j=>cases ry;exact eq_bool (bz I q FQ)
  | str j=>obtain ⟨t',rfl⟩:=ry;exact PySem.EqMixed.eq_bool_str (bz I q (by simp))
  | _=>exact absurd (show false=true from hs) Qan
 | int i=>
  walk_at"f"
  cases y with
  | eX=>cases ry;exact PySem.EqNone.eq_int_none (bz I q (by simp))
  | int j=>obtain ⟨t',rfl⟩:=ry;exact eq_int (bz I q Ca)
  | str j=>obtain ⟨t',rfl⟩:=ry;exact PySem.EqMixed.eq_int_str (bz I q (by simp))
  | _=>exact absurd (show false=true from hs) Qan
 | str i=>
  walk_at"f"
  cases y with
  | eX=>cases ry;exact PySem.EqNone.eq_str_none (bz I q (by simp))
  | bl j=>cases ry;exact PySem.EqMixed.eq_str_bool (bz I q (by simp))
  | int j=>obtain ⟨t',rfl⟩:=ry;exact PySem.EqMixed.eq_str_int (bz I q (by simp))
  | str j=>obtain ⟨t',rfl⟩:=ry;exact eq_str (bz I q Cb)
  | _=>exact absurd (show false=true from hs) Qan
 | B3 i=>
  walk_at"f"
  cases y with
  | B3 j=>obtain ⟨t',rfl⟩:=ry;exact PySem.W.eq_bytes (bz I q Cc)
  | _=>exact absurd (show false=true from hs) Qan
 | _=>cases y<;>exact absurd (show false=true from hs) Qan
theorem MD:jv X (compareOp .NotEq) rNe:=by
 walk_at"a"
 obtain ⟨hs,q⟩:=h
 cases x with
 | eX=>
  cases rx
  cases y with
  | eX=>cases ry;exact PySem.EqNone.ne_none_none (bz I q (by simp))
  | bl j=>cases ry;exact PySem.EqNone.ne_none_bool (bz I q (by simp))
  | int j=>obtain ⟨t',rfl⟩:=ry;exact PySem.EqNone.ne_none_int (bz I q (by simp))
  | str j=>obtain ⟨t',rfl⟩:=ry;exact PySem.EqNone.ne_none_str (bz I q (by simp))
  | _=>exact absurd (show false=true from hs) Qan
 | bl i=>
  cases rx
  cases y with
  | eX=>cases ry;exact PySem.EqNone.ne_bool_none (bz I q (by simp))
  | bl j=>cases ry;exact ne_bool (bz I q (congrArg not FQ))
  | str j=>obtain ⟨t',rfl⟩:=ry;exact PySem.EqMixed.ne_bool_str (bz I q (by simp))
  | _=>exact absurd (show false=true from hs) Qan
 | int i=>
  walk_at"f"
  cases y with
  | eX=>cases ry;exact PySem.EqNone.ne_int_none (bz I q (by simp))
  | int j=>obtain ⟨t',rfl⟩:=ry;exact ne_int (bz I q (congrArg not Ca))
  | str j=>obtain ⟨t',rfl⟩:=ry;exact PySem.EqMixed.ne_int_str (bz I q (by simp))
  | _=>exact absurd (show false=true from hs) Qan
 | str i=>
  walk_at"f"
  cases y with
  | eX=>cases ry;exact PySem.EqNone.ne_str_none (bz I q (by simp))
  | bl j=>cases ry;exact PySem.EqMixed.ne_str_bool (bz I q (by simp))
  | int j=>obtain ⟨t',rfl⟩:=ry;exact PySem.EqMixed.ne_str_int (bz I q (by simp))
  | str j=>obtain ⟨t',rfl⟩:=ry;exact ne_str (bz I q (congrArg not Cb))
  | _=>exact absurd (show false=true from hs) Qan
 | B3 i=>
  walk_at"f"
  cases y with
  | B3 j=>obtain ⟨t',rfl⟩:=ry;exact PySem.W.ne_bytes (bz I q (congrArg not Cc))
  | _=>exact absurd (show false=true from hs) Qan
 | _=>cases y<;>exact absurd (show false=true from hs) Qan
theorem o7:jv X (compareOp .Lt) (Kf λi j=> .bl (decide (i<j))):=Kg λ_ _ _ _ _ _ _ q=>lt_int q
theorem ME:jv X (compareOp .LtE) (Kf λi j=> .bl (decide (i<=j))):=Kg λ_ _ _ _ _ _ _ q=>le_int q
theorem uN:jv X (compareOp .Gt) (Kf λi j=> .bl (decide (j<i))):=Kg λ_ _ _ _ _ _ _ q=>gt_int q
theorem FR:jv X (compareOp .GtE) (Kf λi j=> .bl (decide (j<=i))):=Kg λ_ _ _ _ _ _ _ q=>ge_int q
theorem DM:jv X (compareOp .Lt) (λx y H Q=>∃i j,x= .str i/\y= .str j/\Q (.bl (decide (i.cps.toList<j.cps.toList))) H):=by
 walk_at"a"
 obtain ⟨i,j,rfl,rfl,q⟩:=h
 walk_at"f"
 walk_at"J"
 exact lt_str (bz I q rfl)
theorem DN:jv X (compareOp .In) (λx y H Q=>∃i j,x= .str i/\y= .str j/\Q (.bl (!(Builtin.Str.occurrences j i 0 (j:) 1).isEmpty)) H):=by
 walk_at"a"
 obtain ⟨i,j,rfl,rfl,q⟩:=h
 walk_at"f"
 walk_at"J"
 exact in_str (bz I q rfl)
theorem aK(b:Expr){op:CmpOp}(h:op≠ .In:=by decide)(h2:op≠ .NotIn:=by decide):behindInMarks op b=false:=by
 have e1:(op==CmpOp.In)=false:=by cases op<;>first | rfl | exact absurd rfl h
 have e2:(op==CmpOp.NotIn)=false:=by cases op<;>first | rfl | exact absurd rfl h2
 cases b<;>simp[behindInMarks,e1,e2]
theorem cE{op:CmpOp}{r:R2}(ho:jv X (compareOp op) r)(ha:PE X a ta)(hb:PE X b tb)(hm:behindInMarks op b=false):PE X (.Compare a [op] [b] pos) (VE r ta tb):=by
 walk_at"g"
 exact wpAny_Compare1 (NT ha hb I h λv u s2 x y H2 I2 rx ry q=>ho pins s2 σ H2 x y v u Q I2 rx ry q) hm
def S3(t:TE):TT:=λσ H Q=>t σ H λx H'=>IB x H' Q
theorem aM{op:CmpOp}{r:R2}(ho:jv X (compareOp op) r)(ha:PE X a ta)(hb:PE X b tb)(hm:behindInMarks op b=false):PT X (.Compare a [op] [b] pos) (S3 (VE r ta tb)):=by
 walk_at"g"
 refine wpAny_isTrue_Compare1 (cA (ha pins s σ H _ I h) λv s1 ⟨x,H1,I1,r1,q1⟩=>cA (hb pins s1 σ H1 _ I1 q1) λu s2 ⟨y,H2,I2,r2,q2⟩=>
  cA (ho pins s2 σ H2 x y v u _ I2 r1 r2 q2) λc s3 ⟨z,H3,I3,r3,k,e,q3⟩=>?_) hm
 subst e
 cases r3
 exact wpAny_truthy_bool ⟨H3,I3,q3⟩
def W2(K:c7)(x:V)(H:Hp)(k:Bool):Prop:=
 match x with
 | .eX=>k=false
 | .bl b=>k=b
 | .int i=>k=(i != 0)
 | .str y=>(y:)<=sizeLine/\k=(((y:):Int) != 0)
 | .B3 y=>y.size<=sizeLine/\k=((y.size:Int) != 0)
 | .ref p=>(∃xs,bB K H p xs/\k=!xs.isEmpty)\/(∃xs,de K H p xs/\k=!xs.isEmpty)\/∃aN,H p=some (.dK aN)/\k=!aN.isEmpty
 | _=>False
theorem Al{κ:Type}{aN:List (κ×V)}{vs:List (κ×Value)}(r:KV aN vs):(!vs.isEmpty)=!aN.isEmpty:=by
 cases r<;>rfl
theorem qK{xs:List V}{aH:List Value}(r:Vals xs aH):(!aH.toArray.isEmpty)=!xs.isEmpty:=by
 cases r<;>simp
theorem gx:(sizeLine:Nat)<2 ^ 63:=by rw[sizeLine_eq];decide
theorem NU:WY X (λx H Q=>∃k,W2 X.K x H k/\Q k H):=by
 intro pins s σ H x v Q I rx h
 obtain ⟨k,e,q⟩:=h
 have hl:=gx
 have hs:sizeLine=16777216:=sizeLine_eq
 cases x with
 | eX=>
  cases rx
  have e':k=false:=e
  subst e'
  exact truthy_none ⟨H,I,q⟩
 | bl b=>
  cases rx
  have e':k=b:=e
  subst e'
  exact wpAny_truthy_bool ⟨H,I,q⟩
 | int i=>
  walk_at"f"
  have e':k=(i != 0):=e
  subst e'
  exact PySem.P.truthy_int ⟨H,I,q⟩
 | str y=>
  walk_at"f"
  obtain ⟨hy,e'⟩:(y:)<=sizeLine/\k=(((y:):Int) != 0):=e
  subst e'
  exact PySem.P.truthy_str () ⟨H,I.tok _,q⟩
 | B3 y=>
  walk_at"f"
  obtain ⟨hy,e'⟩:y.size<=sizeLine/\k=((y.size:Int) != 0):=e
  subst e'
  exact PySem.W.truthy_bytes () ⟨H,I.tok _,q⟩
 | ref p=>
  cases rx
  have e':(∃xs,bB X.K H p xs/\k=!xs.isEmpty)\/(∃xs,de X.K H p xs/\k=!xs.isEmpty)\/∃aN,H p=some (.dK aN)/\k=!aN.isEmpty:=e
  rcases e' with ⟨xs,hx,e'⟩ | ⟨xs,hx,e'⟩ | ⟨aN,hx,e'⟩
  ·subst e'
   obtain ⟨aH,r,pl,hz⟩:=I.list hx
   have hlen:=(r:)
   exact wpAny_truthy_list pl.isList (by simp only[Qag];lia) ⟨H,I.tok _,by rw[qK r];exact q⟩
  ·subst e'
   obtain ⟨aH,r,pl,hz⟩:=I.tuple hx
   have hlen:=(r:)
   exact truthy_tuple pl (by simp only[Qag];lia) ⟨H,I.tok _,by rw[qK r];exact q⟩
  ·subst e'
   obtain ⟨hz,hS,vs,r,m⟩:(aN:)<=sizeLine/\(p==sysModules)=false/\∃vs,KV aN vs/\s.heap.DictOf (cO X.prog X.w) p vs:=I.b8 p _ hx
   have hlen:(aN:)=(vs:):=Paired.length r
   exact wpAny_truthy_dict hS m () ⟨H,I.tok _,by rw[Al r];exact q⟩
 | _=>exact (show False from e).elim
theorem Am:jv X (binaryOp .Add) (λx y H Q=>∃i j,x= .str i/\y= .str j/\(i:)+(j:)<=sizeLine/\Q (.str (i++j)) H):=by
 walk_at"a"
 obtain ⟨i,j,rfl,rfl,hz,q⟩:=h
 walk_at"f"
 walk_at"J"
 exact add_str (λt' tk=>⟨.str (i++j),H,I.tok _,⟨_,rfl⟩,q⟩) hz
theorem vals1{x:V}{us:List Value}(r:Vals [x] us):∃u,us=[u]/\RelV x u:=by
 cases r with
 | cons r1 r2=>cases r2;exact ⟨_,rfl,r1⟩
theorem vals2{x y:V}{us:List Value}(r:Vals [x,y] us):∃u w',us=[u,w']/\RelV x u/\RelV y w':=by
 cases r with
 | cons r1 r2=>
  cases r2 with
  | cons r3 r4=>cases r4;exact ⟨_,_,rfl,r1,r3⟩
theorem uO(hc:X.calm=true):di X (.builtin "max") (λxs H Q=>∃i j,xs=[.int i,.int j]/\Q (.int (if j>i then j else i)) H):=by
 walk_at"d"
 obtain ⟨i,j,rfl,q⟩:=h
 obtain ⟨u,w',rfl,⟨t,rfl⟩,⟨t',rfl⟩⟩:=vals2 r
 refine max_two_ints (I.ok.hd hc) λh' tk k=>⟨_,H,I.kept k,?_,q⟩
 by_cases hj:j>i
 ·rw[if_pos hj,if_pos hj];exact ⟨_,rfl⟩
 ·rw[if_neg hj,if_neg hj];exact ⟨_,rfl⟩
theorem kD(hc:X.calm=true):di X (.builtin "min") (λxs H Q=>∃i j,xs=[.int i,.int j]/\Q (.int (if j<i then j else i)) H):=by
 walk_at"d"
 obtain ⟨i,j,rfl,q⟩:=h
 obtain ⟨u,w',rfl,⟨t,rfl⟩,⟨t',rfl⟩⟩:=vals2 r
 refine min_two_ints (I.ok.hd hc) λh' tk k=>⟨_,H,I.kept k,?_,q⟩
 by_cases hj:j<i
 ·rw[if_pos hj,if_pos hj];exact ⟨_,rfl⟩
 ·rw[if_neg hj,if_neg hj];exact ⟨_,rfl⟩
theorem uQ:di X (.type "int") (λxs H Q=>(∃i,xs=[.int i]/\Q (.int i) H)\/∃k,xs=[.bl k]/\Q (.int (if k then 1 else 0)) H):=by
 walk_at"d"
 rcases h with ⟨i,rfl,q⟩ | ⟨k,rfl,q⟩
 ·obtain ⟨u,rfl,t,rfl⟩:=vals1 r
  exact call_int_int ⟨.int i,H,I,⟨_,rfl⟩,q⟩
 ·obtain ⟨u,rfl,r1⟩:=vals1 r
  cases r1
  exact call_int_bool ⟨.int (if k then 1 else 0),H,I.tok _,⟨_,rfl⟩,q⟩
theorem wC:di X (.type "str") (λxs H Q=>∃i,xs=[.int i]/\i.natAbs.log2<1920/\Q (.str (toString i)) H):=by
 walk_at"d"
 obtain ⟨i,rfl,hz,q⟩:=h
 obtain ⟨u,rfl,t,rfl⟩:=vals1 r
 exact PySem.P.str_of_int hz ⟨.str _,H,I.tok _,⟨_,rfl⟩,q⟩
end
structure DO(h:Heap)(x dx C:Addr)(mA:Str->Option Value):Prop where
 obj:h.get? x=some (PySem.W.instObj C dx)
 ns:h.Ns1 dx mA
 ne:dx≠x
theorem DP{h:Heap}{dx:Addr}{mA:Str->Option Value}(n:h.Ns1 dx mA):∃od,h.get? dx=some od/\∀name,PySem.W.lookIn name od=some (mA name):=by
 obtain ⟨o,es,ep,ho,hd,hk,_,hm⟩:=n
 refine ⟨o,ho,λname=>?_⟩
 have e:=hm name
 unfold nsFind findBy at e
 rw[<-Array.find?_toList]at e
 unfold PySem.W.lookIn
 rw[hd]
 dsimp only
 split
 ·rename_i y q
  rw[q]at e
  exact congrArg some e
 ·rename_i q
  rw[q]at e
  have a:es.toList.any (·.refKey)=false:=by
   rw[Qge]
   intro y hy
   obtain ⟨z,t,Ki⟩:=hk y (Array.mem_toList_iff.mp hy)
   simp[DictEntry.refKey,Ki]
  have a': ¬es.toList.any (·.refKey)=true:=by rw[a];exact Qan
  rw[if_neg a']
  exact congrArg some e
theorem DO.look{h:Heap}{x dx C:Addr}{mA:Str->Option Value}(I:DO h x dx C mA):∃od,PySem.W.InstAt h x (PySem.W.instObj C dx) C (some od)/\∀name,PySem.W.lookIn name od=some (mA name):=
 let ⟨od,ho,hl⟩:=DP I.ns
 ⟨od,⟨I.obj,rfl,rfl,ho⟩,hl⟩
section
variable{prog:Program}{w:World}{A:Around}{E:Value->Shared->Prop}{s:Shared}{K:c7}{x dx C f:Addr}{mA:Str->Option Value}{name:Str}{v:Value}
theorem get_map{expr:Bool}{Q:Value->Shared->Prop}(X:K.In s.heap)(I:DO s.heap x dx C mA)(hg:PySem.W.plainGet K C name=true)(hh:PySem.W.hasDictIn K C=true)
  (ha:PySem.W.findIn K (.ref C) name=some none) (hv:mA name=some v) (hv':PySem.W.handedIn v=true) (h:Q v { s with toks:=s.toks+1 }):
  wpAny (model prog w) A (getAttr (.ref x) name expr) Q E s:=by
 obtain ⟨od,J,hl⟩:=I.look
 exact PySem.W.get_value X J (PySem.W.plainGet_of hg).1 (PySem.W.findObj_own hh ha rfl (by rw[hl,hv])) hv' h
theorem Kj{ns:List Str}{Q:Unit->Shared->Prop}(X:K.In s.heap)(I:DO s.heap x dx C mA)
  (hs:PySem.W.findIn K (.ref C) "__setattr__"=some (some (.builtin "object.__setattr__"))) (hp:PySem.W.plainOver K C=true) (ht:PySem.W.takerIn K C name=some none) (hh:PySem.W.hasDictIn K C=true)
  (hw:PySem.Within mA ns) (hsz:(ns:)<=sizeLine)
  (h:∀h',DO h' x dx C (λy=>if y=name then some v else mA y)->Heap.SameBut dx s.heap h'->Q Unit.unit { s with heap:=h',toks:=s.toks+2 }):
  wpAny (model prog w) A (setAttr (.ref x) name v) Q E s:=by
 obtain ⟨od,J,hl⟩:=I.look
 refine PySem.W.set_plain X J hs (PySem.W.osa_open (s:={ s with toks:=s.toks+1 }) (r:=none) X J hp ht λb=>?_)
 obtain ⟨cd,hc,WB⟩:=PySem.W.any_some hh
 have hx:s.heap.get? x=some ⟨.ref C,some dx,.plain, #[]⟩:=I.obj
 refine wpAny_bind (wpAny_pure (wpAny_bind (wpAny_bind (wpAny_loadPart hx (wpAny_bind (PySem.W.Looks.here (s:={ s with toks:=s.toks+1 }) (PySem.W.looks_clsIn X hc) ?_))))))
 rw[WB]
 refine wpAny_pure (a:=some dx) (wpAny_bind (wpAny_pure (wpAny_bind ?_)))
 refine wpAny_nsSet1 (s:={ s with toks:=s.toks+1 }) I.ns λh' tY SV=>?_
 obtain ⟨oD,esD,epD,hoD,hdD,hcD⟩:=tY.count (PySem.Within.cons name v hw)
 refine wpAny_bind (wpAny_lookBehind hoD (by rw[hdD];exact pastItsLine_dict (Qbh hcD (by rw[Qa5];lia))) ?_)
 exact wpAny_pure (h _ ⟨(SV.2 _ (Ne.symm I.ne)).trans I.obj,tY,I.ne⟩ SV)
theorem FT{R:Result->Shared->Prop}{vs:List Value}{kw:List (Str×Value)}(X:K.In s.heap)(hm:PySem.W.makesIn K C=true)
  (hi:PySem.W.findIn K (.ref C) "__init__"=some (some (.ref f))) (hf:PySem.W.typeIn K (.ref f)=some (.type "function"))
  (h:codeAny (model prog w) (A.under (.builtin "type.__call__" ⟨.ref C::vs,kw⟩)) (.call (.ref f) ⟨.ref (s.heap.objs.size+1)::vs,kw⟩) (PySem.W.InitBack (s.heap.objs.size+1) R)
   { s with heap:=(s.heap.push PySem.W.emptyDict).push (PySem.W.instObj C s.heap.objs.size) }):
  codeAny (model prog w) A (.call (.ref C) ⟨vs,kw⟩) R s:=by
 obtain ⟨hh,g,d,t,os⟩:=s
 exact PySem.W.make_core (PySem.W.makes_of X hm) (PySem.W.looks_findIn X hi) (λself=>PySem.W.bind_fn X self hf) (.inl rfl) h
end
noncomputable def eF(f:Str)(v:V):List (Str×V)->List (Str×V)
 | []=>[(f,v)]
 |(g,x)::r=>if g=f then (g,v)::r else (g,x)::eF f v r
theorem aL(f g:Str)(v:V):∀fs:List (Str×V),(eF f v fs).lookup g=if g=f then some v else fs.lookup g
 | []=>by
  show List.lookup g [(f,v)]=_
  by_cases h:g=f
  ·have hb:(g==f)=true:=beq_iff_eq.mpr h
   simp only[List.lookup,hb,if_pos h]
  ·have hb:(g==f)=false:=beq_eq_false_iff_ne.mpr h
   simp only[List.lookup,hb,if_neg h]
 |(k,x)::r=>by
  have ih:=aL f g v r
  walk_at"E"
  by_cases hk:k=f
  ·rw[if_pos hk]
   by_cases h:g=k
   ·have hb:(g==k)=true:=beq_iff_eq.mpr h
    simp only[List.lookup,hb,if_pos (h.trans hk)]
   ·have hb:(g==k)=false:=beq_eq_false_iff_ne.mpr h
    simp only[List.lookup,hb,if_neg (λe:g=f=>h (e.trans hk.symm))]
  ·rw[if_neg hk]
   by_cases h:g=k
   ·have hb:(g==k)=true:=beq_iff_eq.mpr h
    simp only[List.lookup,hb,if_neg (λe:g=f=>hk (h.symm.trans e))]
   ·have hb:(g==k)=false:=beq_eq_false_iff_ne.mpr h
    simp only[List.lookup,hb]
    exact ih
theorem nU(f:Str)(v:V):∀fs:List (Str×V),f∈(eF f v fs).map (·.1)/\∀g,g∈fs.map (·.1)->g∈(eF f v fs).map (·.1)
 | []=>⟨by simp[eF],λg h=>by simp at h⟩
 |(k,x)::r=>by
  obtain ⟨i1,i2⟩:=nU f v r
  walk_at"E"
  by_cases hk:k=f
  ·rw[if_pos hk]
   subst hk
   exact ⟨by simp,λg h=>by simpa using h⟩
  ·rw[if_neg hk]
   refine ⟨?_,λg h=>?_⟩
   ·rw[Qa0]
    exact Qaf _ i1
   ·rw[Qa0]at h ⊢
    rcases Qam.mp h with e | e
    ·exact Qam.mpr (.inl e)
    ·exact Qaf _ (i2 g e)
theorem o8(f:Str)(v:V):∀fs:List (Str×V),(eF f v fs:)<=(fs:)+1
 | []=>by simp[eF]
 |(k,x)::r=>by
  have ih:=o8 f v r
  walk_at"E"
  by_cases hk:k=f
  ·rw[if_pos hk,Qa5,Qa5];lia
  ·rw[if_neg hk,Qa5,Qa5];lia
theorem nQ.some_of{v:V}{o:Option Value}(r:nQ (some v) o):∃u,o=some u/\RelV v u:=by
 cases o with
 | none=>exact (show False from r).elim
 | some u=>exact ⟨u,rfl,r⟩
theorem DQ{v:V}{u:Value}(r:RelV v u):PySem.W.handedIn u=true:=by
 cases v with
 | eX=>cases (show u=Value.none from r);rfl
 | bl b=>cases (show u=Value.bool b from r);rfl
 | int i=>obtain ⟨t,e⟩:=(show ∃t,u=Value.int i t from r);cases e;rfl
 | str x=>obtain ⟨t,e⟩:=(show ∃t,u=Value.str x t from r);cases e;rfl
 | B3 b=>obtain ⟨t,e⟩:=(show ∃t,u=Value.bytes b t from r);cases e;rfl
 | Nz b=>obtain ⟨t,e⟩:=(show ∃t,u=Value.float b t from r);cases e;rfl
 | ref a=>cases (show u=Value.ref a from r);rfl
 | ty n=>cases (show u=Value.type n from r);rfl
section
variable{P:Program}{w:World}{H H':Hp}{h h':Heap}{a C dx:Addr}{fs fs':List (Str×V)}
theorem wD(b8:lU P w H h)(e:H a=some (.ins C dx fs)):∃mA,DO h a dx C mA/\(∀f,nQ (fs.lookup f) (mA f))/\PySem.Within mA (fs.map (·.1))/\(fs:)<=1000/\H dx=some (.own a):=by
 obtain ⟨d,z,ne,ob,mA,n,r,q⟩:=(show cg P w H h a (.ins C dx fs) from b8 a _ e)
 exact ⟨mA,⟨ob,n,ne⟩,r,q,z,d⟩
end
structure Kk(K:c7)(C:Addr):Prop where
 pg:PySem.W.plainGet K C Str.empty=true
 hd:PySem.W.hasDictIn K C=true
 po:PySem.W.plainOver K C=true
 sa:PySem.W.findIn K (.ref C) "__setattr__"=some (some (.builtin "object.__setattr__"))
theorem Kk.get{K:c7}{C:Addr}(c:Kk K C)(f:Str):PySem.W.plainGet K C f=true:=c.pg
def eG(K:c7)(C:Addr)(f:Str):Prop:=PySem.W.findIn K (.ref C) f=some none
theorem eG.S4{K:c7}{C:Addr}{f:Str}(n:eG K C f):PySem.W.takerIn K C f=some none:=by
 unfold PySem.W.takerIn
 rw[show PySem.W.findIn K (.ref C) f=some none from n]
 rfl
section
variable{X:Cx}{pins:List (Addr×Obj)}{σ:St}{H:Hp}{s:Shared}{a C dx:Addr}{fs:List (Str×V)}{f:Str}{v:V}{A:Around}{E:Value->Shared->Prop}
theorem An{b:Bool}{Q:Value->Shared->Prop}(I:Inv X pins σ H s)(e:H a=some (.ins C dx fs))(c:Kk X.K C)(n:eG X.K C f)(l:fs.lookup f=some v)
  (h:∀u s',Inv X pins σ H s'->RelV v u->Q u s'):wpAny (model X.prog X.w) A (getAttr (.ref a) f b) Q E s:=by
 obtain ⟨mA,O,r,_,_,_⟩:=wD I.b8 e
 obtain ⟨u,hu,ru⟩:=nQ.some_of (v:=v) (o:=mA f) (by rw[<-l];exact r f)
 exact get_map I.ql O (c.get f) c.hd n hu (DQ ru) (h u _ (I.tok _) ru)
theorem Ao{y:V}{u:Value}{Q:Unit->Shared->Prop}(I:Inv X pins σ H s)(e:H a=some (.ins C dx fs))(c:Kk X.K C)(n:eG X.K C f)(hl:(fs:)<1000)(ry:RelV y u)
  (h:∀s',Inv X pins σ (upd H a (.ins C dx (eF f y fs))) s'->Q Unit.unit s'):wpAny (model X.prog X.w) A (setAttr (.ref a) f u) Q E s:=by
 obtain ⟨mA,O,r,wi,_,ho⟩:=wD I.b8 e
 have hz:(fs.map (·.1):)<=sizeLine:=by rw[kb,sizeLine_eq];lia
 refine Kj I.ql O c.sa c.po n.S4 c.hd wi hz λh' O' sb=>h _ ?_
 have hd:∃o,h'.get? dx=some o:=let ⟨o,_,_,e',_⟩:=O'.ns;⟨o,e'⟩
 refine I.write (x:=a) (e:=dx) (by rw[e];exact True.intro) (.inr ho) (λb q hb z=>(sb.2 b hb).trans z) hd ?_
 refine ⟨by rw[az O.ne];exact ho,?_,O.ne,O'.obj,_,O'.ns,λg=>?_,λg hg=>?_⟩
 ·have:=o8 f y fs;lia
 ·show nQ ((eF f y fs).lookup g) (if g=f then some u else mA g)
  rw[aL]
  by_cases q:g=f
  ·rw[if_pos q,if_pos q];exact ry
  ·rw[if_neg q,if_neg q];exact r g
 ·by_cases q:g=f
  ·rw[q];exact (nU f y fs).1
  ·refine (nU f y fs).2 g (wi g λz=>hg ?_)
   show (if g=f then some u else mA g)=none
   rw[if_neg q];exact z
theorem Inv.made(I:Inv X pins σ H s):Inv X pins σ (upd (upd H s.heap.objs.size (.own (s.heap.objs.size+1))) (s.heap.objs.size+1) (.ins C s.heap.objs.size []))
  { s with heap:=(s.heap.push PySem.W.emptyDict).push (PySem.W.instObj C s.heap.objs.size) }:=by
 have e1:(s.heap.push PySem.W.emptyDict).get? s.heap.objs.size=some PySem.W.emptyDict:=Qaq s.heap rfl
 have e2:((s.heap.push PySem.W.emptyDict).push (PySem.W.instObj C s.heap.objs.size)).get? (s.heap.objs.size+1)=some (PySem.W.instObj C s.heap.objs.size):=by
  have:=Qaq (s.heap.push PySem.W.emptyDict) (o:=PySem.W.instObj C s.heap.objs.size) rfl
  rwa [Qda]at this
 have e3:(s.heap.push PySem.W.emptyDict).Ns s.heap.objs.size (λ_=>none):=⟨PySem.W.emptyDict, #[],_,e1,rfl,(λe he=>absurd he (by simp)),λ_=>rfl⟩
 have I1:=I.laid (a:=s.heap.objs.size) (o:= .own (s.heap.objs.size+1)) (h':=s.heap.push PySem.W.emptyDict) (t':=s.toks) (λb u q=>ZG _ q) (ZH _) ⟨_,e1⟩
 refine I1.laid (a:=s.heap.objs.size+1) (o:= .ins C s.heap.objs.size []) (t':=s.toks) (λb u q=>ZG _ q) (Nat.le_of_eq (Qda _ _)) ?_
 have ne:s.heap.objs.size≠s.heap.objs.size+1:=Qaw (Qcp _)
 refine ⟨by rw[az ne,ah],Qar _,ne,e2,λ_=>none,(Heap.Ns1.of_empty e3).at λo q=>ZG _ q,λ_=>True.intro,λy hy=>absurd rfl hy⟩
theorem Kl{prog:Program}{w:World}{env:Env}{e:Expr}{f:Str}{pos:Pos}{s:Shared}{Q:Value->Shared->Prop}(hb:attributeBase e f env (eval e env)=eval e env)
  (h:wpAny (model prog w) A (eval e env) (λo s₁=>wpAny (model prog w) A (getAttr o f true) Q E s₁) E s):wpAny (model prog w) A (eval (.Attribute e f pos) env) Q E s:=
 Attribute_any_ h (by rw[arm_eval_Attribute,hb])
end
def S5(K:c7)(ta:TE)(f:Str):TE:=λσ H Q=>ta σ H λx H1=>∃a C dx fs v,x= .ref a/\H1 a=some (.ins C dx fs)/\Kk K C/\eG K C f/\fs.lookup f=some v/\Q v H1
def W3(K:c7)(ta tv:TE)(f:Str):TS:=λD σ H=>tv σ H λy H1=>ta σ H1 λx H2=>∃a C dx fs,x= .ref a/\H2 a=some (.ins C dx fs)/\Kk K C/\eG K C f/\(fs:)<1000/\D.nx σ (upd H2 a (.ins C dx (eF f y fs)))
section
variable{X:Cx}{o e value:Expr}{f:Str}{pos pos' S6:Pos}{ta tv:TE}
theorem NV(he:PE X e ta)(hb:attributeBase e f X.env (eval e X.env)=eval e X.env):PE X (.Attribute e f pos) (S5 X.K ta f):=by
 walk_at"g"
 refine Kl hb (cA (he pins s σ H _ I h) λu s1 ⟨x,H1,I1,rx,a,C,dx,fs,v,ex,ea,c,n,l,q⟩=>?_)
 subst ex
 obtain rfl:u=Value.ref a:=rx
 exact An I1 ea c n l λu' s2 I2 ru=>⟨v,H1,I2,ru,q⟩
theorem jJ(ha:PE X o ta)(hv:PE X value tv)(hs:swapsWith value (some (.Attribute o f pos')) pos.line X.env=pure false):PS X (.Assign [.Attribute o f pos'] value pos) (W3 X.K ta tv f):=by
 walk_at"p"
 refine plainObj_wpAny_Assign_Attribute (cA (hv pins s σ H _ I h) λu s1 ⟨y,H1,I1,ry,q⟩=>cA (ha pins s1 σ H1 _ I1 q) λov s2 ⟨x,H2,I2,rx,a,C,dx,fs,ex,ea,c,n,l,q2⟩=>?_) hs
 subst ex
 obtain rfl:ov=Value.ref a:=rx
 exact Ao I2 ea c n l ry λs3 I3=>⟨σ,_,I3,q2⟩
end
section
variable{X:Cx}{pins:List (Addr×Obj)}{σ:St}{H:Hp}{s:Shared}{A:Around}{E:Value->Shared->Prop}{Q:Value->Shared->Prop}{c:Value}{b:Bool}
inductive pU(K:c7)(H:Hp):V->Value->Prop where
 | eX:pU K H .eX (.type "NoneType")
 | bl (x:Bool):pU K H (.bl x) (.type "bool")
 | int (i:Int):pU K H (.int i) (.type "int")
 | str (x:Str):pU K H (.str x) (.type "str")
 | Nz (x:UInt64):pU K H (.Nz x) (.type "float")
 | lst {a:Addr} {xs:List V} (e:H a=some (.lst xs)):pU K H (.ref a) (.type "list")
 | B4 {a:Addr} {o:Obj} {xs:List V} (e:H a=some (.B4 o (.lst xs))):pU K H (.ref a) (.type "list")
 | tup {a:Addr} {xs:List V} (e:H a=some (.tup xs)):pU K H (.ref a) (.type "tuple")
 | dK {a:Addr} {aN:List (Key×V)} (e:H a=some (.dK aN)):pU K H (.ref a) (.type "dict")
 | dT {a:Addr} {aN:List (List Key×V)} (e:H a=some (.dT aN)):pU K H (.ref a) (.type "dict")
 | ins {a C dx:Addr} {fs:List (Str×V)} (e:H a=some (.ins C dx fs)) (cl:Kk K C) (ha:PySem.W.findIn K (.ref C) "__class__"=some (some (.builtin "object.__class__")))
   (hn:PySem.W.specialIn K (.builtin "object.__class__") "__get__"=some (some (.builtin "getset_descriptor.__get__"))) (Zw:PySem.W.takesIn K (.builtin "object.__class__")=some true)
   (hm:PySem.W.mroIn K C (.type "object")=some true):pU K H (.ref a) (.ref C)
theorem DR{x:V}{u t:Value}(I:Inv X pins σ H s)(rx:RelV x u)(ty:pU X.K H x t)(e:PySem.W.kitOne X.K t c=some b)(h:∀tk,Q (.bool b) { s with toks:=tk }):
  wpAny (model X.prog X.w) A (call (.builtin "isinstance") [u,c]) Q E s:=by
 cases ty with
 | eX=>cases (show u=Value.none from rx);exact Qct PySem.W.kitx_none I.ql True.intro e (λz=>nomatch z) h
 | bl y=>cases (show u=Value.bool y from rx);exact Qct PySem.W.kitx_bool I.ql True.intro e (λz=>nomatch z) h
 | int i=>obtain ⟨t,q⟩:=(show ∃t,u=Value.int i t from rx);cases q;exact Qct PySem.W.kitx_int I.ql True.intro e (λz=>nomatch z) h
 | str y=>obtain ⟨t,q⟩:=(show ∃t,u=Value.str y t from rx);cases q;exact Qct PySem.W.kitx_str I.ql True.intro e (λz=>nomatch z) h
 | Nz y=>obtain ⟨t,q⟩:=(show ∃t,u=Value.float y t from rx);cases q;exact Qct PySem.W.kitx_float I.ql True.intro e (λz=>nomatch z) h
 | @lst a xs ea=>
  cases (show u=Value.ref a from rx)
  obtain ⟨_,_,n,_,h1⟩:=(show cg X.prog X.w H s.heap a (.lst xs) from I.b8 a _ ea)
  exact Qct PySem.W.kitx_list I.ql ⟨_,h1,rfl⟩ e (λz=>nomatch z) h
 | @B4 a ob xs ea=>
  cases (show u=Value.ref a from rx)
  obtain ⟨_,_,_,n,_,h1⟩:=(show cg X.prog X.w H s.heap a (.B4 ob (.lst xs)) from I.b8 a _ ea)
  exact Qct PySem.W.kitx_list I.ql ⟨_,h1,rfl⟩ e (λz=>nomatch z) h
 | @tup a xs ea=>
  cases (show u=Value.ref a from rx)
  obtain ⟨_,_,_,p⟩:=(show cg X.prog X.w H s.heap a (.tup xs) from I.b8 a _ ea)
  obtain ⟨o,h1,h2,_⟩:=p
  exact Qct PySem.W.kitx_tuple I.ql ⟨o,h1,h2⟩ e (λz=>nomatch z) h
 | @dK a aN ea=>
  cases (show u=Value.ref a from rx)
  obtain ⟨_,_,vs,_,p⟩:=(show cg X.prog X.w H s.heap a (.dK aN) from I.b8 a _ ea)
  obtain ⟨o,es,ep,h1,h2,_⟩:=p
  exact Qct PySem.W.kitx_dict I.ql ⟨o,h1,h2.1⟩ e (λz=>nomatch z) h
 | @dT a aN ea=>
  cases (show u=Value.ref a from rx)
  obtain ⟨_,_,xs,_,o,es,ep,h1,h2,_⟩:=(show cg X.prog X.w H s.heap a (.dT aN) from I.b8 a _ ea)
  exact Qct PySem.W.kitx_dict I.ql ⟨o,h1,h2.1⟩ e (λz=>nomatch z) h
 | @ins a C dx fs ea cl ha hn Zw hm=>
  cases (show u=Value.ref a from rx)
  obtain ⟨mA,O,_⟩:=wD I.b8 ea
  obtain ⟨od,J,_⟩:=O.look
  exact Qct (PySem.W.kitx_own (cl.get _) cl.hd ha hn Zw hm) I.ql J e (λz=>nomatch z) h
end
structure eI(k:Nat)(A:Around):Prop where
 hd:A.handled=none
 dp:A.depth+3*k+5<recursionLimit
 un:A.units+16*k+200<cLine
 gd:A.guards=some []
theorem eI.mono{j k:Nat}{A:Around}(r:eI k A)(h:j<=k):eI j A:=⟨r.hd,by have:=r.dp;lia,by have:=r.un;lia,r.gd⟩
theorem eI.deeper{k:Nat}{A:Around}(r:eI (k+1) A)(env:Env):eI k (A.deeper env):=
 ⟨r.hd,by have:=r.dp;show A.depth+1+3*k+5<_;lia,by have:=r.un;show A.units+3+16*k+200<_;lia,r.gd⟩
theorem Ap{A:Around}{C:Addr}{us:List Value}{kw:List (Str×Value)}:(A.under (.builtin "type.__call__" ⟨.ref C::us,kw⟩)).depth=A.depth+1:=by
 first | rfl | simp[Around.under,Code.weight,Code.isCreation,Code.isGuard,Code.isCaller,Code.frames,Code.isFrame,guardIds]
theorem Aq{A:Around}{C:Addr}{us:List Value}{kw:List (Str×Value)}:(A.under (.builtin "type.__call__" ⟨.ref C::us,kw⟩)).units=A.units+1:=by
 first | rfl | simp[Around.under,Code.cUnits,Code.frames,Code.isFrame]
theorem eI.make{k:Nat}{A:Around}(r:eI (k+1) A)(C:Addr)(us:List Value)(kw:List (Str×Value)):eI k (A.under (.builtin "type.__call__" ⟨.ref C::us,kw⟩)):=
 ⟨r.hd,by have:=r.dp;rw[Ap];lia,by have:=r.un;rw[Aq];lia,by first | exact r.gd | (simpa [Around.under,Code.guards,Code.isGuard,pushGuards,guardIds]using r.gd)⟩
theorem eI.depth{k:Nat}{A:Around}(r:eI k A):A.depth<recursionLimit:=by have:=r.dp;lia
theorem eI.units{k:Nat}{A:Around}(r:eI k A):A.units+64<cLine:=by have:=r.un;lia
def NW:TA:=λ_ H Q=>Q [] H
def FU(ta:TE)(tr:TA):TA:=λσ H Q=>ta σ H λx H1=>tr σ H1 λxs H2=>Q (x::xs) H2
section
variable{X:Cx}{e:Expr}{es:List Expr}{te:TE}{t:TA}{pos:Pos}
theorem bM:PA X [] NW:=λ_ _ _ _ H Q I h=>Calls.spliced_nil ⟨[],H,I,.nil,h⟩
theorem aa(ha:PE X e te)(hr:PA X es t)(hs:starEach (e::es) X.env=(false,eval e X.env)::starEach es X.env:=by rfl):PA X (e::es) (FU te t):=by
 intro pos pins s σ H Q I h
 rw[hs]
 show wpAny _ _ (spliced ((false,eval e X.env)::backTo pos (starEach es X.env))) _ _ s
 refine Calls.spliced_cons (cA (ha pins s σ H _ I h) λu s1 ⟨x,H1,I1,r1,q1⟩=>?_)
 exact cA (hr pos pins s1 σ H1 _ I1 q1) λus s2 ⟨xs,H2,I2,r2,q2⟩=>⟨x::xs,H2,I2,.cons r1 r2,q2⟩
def W4(t:TA):TE:=λσ H Q=>t σ H λxs H1=>(xs:)<=sizeLine/\∀p,H1 p=none->Q (.ref p) (upd H1 p (.tup xs))
def W5(t:TA):TE:=λσ H Q=>t σ H λxs H1=>(xs:)<=sizeLine/\∀p,H1 p=none->Q (.ref p) (upd H1 p (.lst xs))
theorem cP{x1}(h:PA X es t):PE X (.Tuple es x1 pos) (W4 t):=by
 intro pins s σ H Q I hq
 refine wpAny_Tuple_spliced (cA (h pos pins s σ H _ I hq) λus s1 ⟨xs,H1,I1,r,z,q⟩=>⟨by rw[<-(r:)];exact z,?_⟩)
 have hf:H1 s1.heap.objs.size=none:=I1.b8.fresh (ZH _)
 refine ⟨.ref s1.heap.objs.size,upd H1 s1.heap.objs.size (.tup xs),I1.laid (t':=s1.toks) (λb u e=>ZG _ e) (ZH _) ?_,rfl,q _ hf⟩
 exact ⟨z,us,r,⟨_,Qaq _ rfl,rfl,_,rfl⟩⟩
theorem da(h:PA X es t):PE X (.List es pos) (W5 t):=by
 intro pins s σ H Q I hq
 refine wpAny_List_spliced (cA (h pos pins s σ H _ I hq) λus s1 ⟨xs,H1,I1,r,z,q⟩=>⟨by rw[<-(r:)];exact z,?_⟩)
 have hf:H1 s1.heap.objs.size=none:=I1.b8.fresh (ZH _)
 refine ⟨.ref s1.heap.objs.size,upd H1 s1.heap.objs.size (.lst xs),I1.laid (t':=s1.toks) (λb u e=>ZG _ e) (ZH _) ?_,rfl,q _ hf⟩
 exact ⟨z,us,0,r,Qaq _ rfl⟩
end
abbrev Sp:=List V->Hp->VK->XK->Prop
abbrev DS:=List Env->Hp->Shared->XK->Value->Shared->Prop
structure Ar(P:Program)(w:World)(K:c7)(mg:Str->Option Value)(base:Heap)(A:Around)(outer:List Env)(s:Shared)(H:Hp):Prop where
 frames:A.frames=some outer
 mod:Mod K mg base
 bs:∀b o,base.get? b=some o->s.heap.get? b=some o/\H b=none
 J9:base.objs.size<=s.heap.objs.size
 pQ:s.heap.FunFrames base outer
 NC:∀b∈B5 outer,H b=none
 b8:lU P w H s.heap
 bare:AllBare s.gens
def CE(outer:List Env)(P:Program)(w:World)(H:Hp)(s:Shared)(Q:VK)(u:Value)(s':Shared):Prop:=
 ∃v H',s'.os=s.os/\AllBare s'.gens/\Un (B5 outer) [] H H' s.heap s'.heap/\lU P w H' s'.heap/\RelV v u/\Q v H'
def CR(CX:DS)(outer:List Env)(P:Program)(w:World)(H:Hp)(s:Shared)(Q:VK)(E:XK)(r:Result)(s':Shared):Prop:=
 match r with
 | .ok (.ret u)=>CE outer P w H s Q u s'
 | .ok _=>False
 | .error e=>CX outer H s E e s'
structure bo(P:Program)(w:World)(K:c7)(mg:Str->Option Value)(base:Heap)(CX:DS)(k:Nat)(f:Addr)(fd:FuncData)(ps:List Str)(sp:Sp):Prop where
 len:∀vs H Q E,sp vs H Q E->(vs:)=(ps:)
 run:∀(A:Around) (outer:List Env) (s:Shared) (H:Hp) (args:Args) (us:List Value) (vs:List V) (Q:VK) (E:XK),eI k A->Ar P w K mg base A outer s H->BindsTo s fd args (ps.zip us)->Vals vs us->sp vs H Q E->
  codeAny (model P w) A (.call (.ref f) args) (CR CX outer P w H s Q E) s
theorem Ar.make{P:Program}{w:World}{K:c7}{mg:Str->Option Value}{base:Heap}{A:Around}{outer:List Env}{s:Shared}{H:Hp}(e:Ar P w K mg base A outer s H)(C:Addr)(us:List Value)(kw:List (Str×Value)):
  Ar P w K mg base (A.under (.builtin "type.__call__" ⟨.ref C::us,kw⟩)) outer s H:=⟨by first | exact e.frames | (simpa [Around.under,Code.envs,Code.isFrame,pushEnvs]using e.frames),e.mod,e.bs,e.J9,e.pQ,e.NC,e.b8,e.bare⟩
section
variable{X:Cx}{pins:List (Addr×Obj)}{σ:St}{H:Hp}{s s':Shared}
theorem Inv.S7(I:Inv X pins σ H s):Ar X.prog X.w X.K X.mg X.base X.A X.stack s H:=
 ⟨I.ok.frames,I.ok.mod,I.bs,Qbh I.ok.J9 I.sz,I.stack,I.B6,I.b8,I.bare⟩
theorem Inv.after{Q:VK}{u:Value}(I:Inv X pins σ H s)(h:CE X.stack X.prog X.w H s Q u s'):EP X pins σ Q u s':=by
 obtain ⟨v,H',os,bare,un,b8,r,q⟩:=h
 obtain ⟨hh,g,d,t,W6⟩:=s'
 obtain rfl:W6=s.os:=os
 exact ⟨v,H',I.call (h':=hh) (g':=g) (d':=d) (t':=t) (ch:=[]) un b8 bare (λb z=>absurd z (by simp)),r,q⟩
end
def MF(sp:Sp)(dvs:List V)(E:XK)(t:TA):TE:=λσ H Q=>t σ H λvs H1=>sp (vs++dvs) H1 Q E
def S8(C:Addr)(sp:Sp)(dvs:List V)(E:XK)(t:TA):TE:=λσ H Q=>t σ H λvs H1=>∀x dx,H1 x=none->H1 dx=none->dx≠x->sp (.ref x::(vs++dvs)) (upd (upd H1 dx (.own x)) x (.ins C dx [])) (λv H2=>v= .eX/\Q (.ref x) H2) E
def Binds(K:c7)(fd:FuncData)(ps:List Str)(ds:List Value):Prop:=
 ∀(s:Shared) (us:List Value),K.In s.heap->(us++ds:)=(ps:)->BindsTo s fd ⟨us,[]⟩ (ps.zip (us++ds))
theorem Binds.all{K:c7}{fd:FuncData}{ps:List Str}(h:∀us:List Value,(us:)=(ps:)->bindArgs fd ⟨us,[]⟩=pure (ps.zip us)):Binds K fd ps []:=λs us _ hl=>by
 rw[Qa1]at hl ⊢
 exact .of_eq (h us hl)
def Passes(CX:DS)(X:Cx)(E:XK):Prop:=∀(pins:List (Addr×Obj)) (σ:St) (H:Hp) (s:Shared) (e:Value) (s':Shared),Inv X pins σ H s->CX X.stack H s E e s'->X.xe e s'
section
variable{X:Cx}{CX:DS}{k:Nat}{f C:Addr}{fd:FuncData}{ps:List Str}{sp:Sp}{dvs:List V}{ds:List Value}{E:XK}{x m:Str}{p pos apos:Pos}{e o:Expr}{es:List Expr}{ta:TE}{t:TA}
theorem As{pins:List (Addr×Obj)}{σ:St}{H:Hp}{s:Shared}{Q:VK}{us:List Value}{vs:List V}(F:bo X.prog X.w X.K X.mg X.base CX k f fd ps sp)(hr:eI k X.A)(hb:Binds X.K fd ps ds)(hd:Vals dvs ds)(hx:Passes CX X E)
  (I:Inv X pins σ H s) (r:Vals vs us) (h:sp (vs++dvs) H Q E):wpAny (model X.prog X.w) X.A (call (.ref f) us) (EP X pins σ Q) X.xe s:=by
 have r2:Vals (vs++dvs) (us++ds):=r.append hd
 have hl:(us++ds:)=(ps:):=by rw[<-(r2:)];exact F.len _ _ _ _ h
 refine wpAny_call (codeAny_mono (F.run X.A X.stack s H ⟨us,[]⟩ (us++ds) (vs++dvs) Q E hr I.S7 (hb s us I.ql hl) r2 h) λr s' hq=>?_)
 cases r with
 | error e=>exact hx pins σ H s e s' I hq
 | ok fl=>
  cases fl with
  | ret u=>exact I.after hq
  | next=>exact False.elim hq
  | brk=>exact False.elim hq
  | cont=>exact False.elim hq
theorem kE(F:bo X.prog X.w X.K X.mg X.base CX k f fd ps sp)(hr:eI k X.A)(hg:Gl X x)(hm:X.mg x=some (.ref f))(hk:PySem.W.keepIn X.K (.ref f)=true)(hb:Binds X.K fd ps ds)(hd:Vals dvs ds)(hx:Passes CX X E)
  (ha:PA X (e::es) t) (NX:(x==("__debug__":Str))=false:=by decide) (he:starEach (e::es) X.env=(false,eval e X.env)::starEach es X.env:=by rfl) (iU:(backTo pos (starEach es X.env)).any (·.1)=false:=by rfl):
  PE X (.Call (.Name x p) (e::es) [] pos) (MF sp dvs E t):=by
 walk_at"g"
 refine wpAny_Call_Name_kw (wz I hg hm ?_ NX)
 refine Qew (h₀:=X.base) I.ok.mod.Qy hk (cA (ha pos pins s σ H _ I h) λus s1 ⟨vs,H1,I1,r,q⟩=>⟨I1.ql,?_⟩) he iU
 exact As F hr hb hd hx I1 r q
structure Mk(K:c7)(C f:Addr):Prop where
 makes:PySem.W.makesIn K C=true
 init:PySem.W.findIn K (.ref C) "__init__"=some (some (.ref f))
 fn:PySem.W.isFn K (.ref f)=true
 kp:PySem.W.keepIn K (.ref C)=true
theorem FV{pins:List (Addr×Obj)}{σ:St}{H:Hp}{s:Shared}{Q:VK}{us:List Value}{vs:List V}(M:Mk X.K C f)(F:bo X.prog X.w X.K X.mg X.base CX k f fd ps sp)(hr:eI (k+1) X.A)(hb:Binds X.K fd ps ds)(hd:Vals dvs ds)
  (hx:Passes CX X E) (I:Inv X pins σ H s) (r:Vals vs us)
  (h:∀x dx,H x=none->H dx=none->dx≠x->sp (.ref x::(vs++dvs)) (upd (upd H dx (.own x)) x (.ins C dx [])) (λv H2=>v= .eX/\Q (.ref x) H2) E):
  wpAny (model X.prog X.w) X.A (call (.ref C) us) (EP X pins σ Q) X.xe s:=by
 have hq:=h (s.heap.objs.size+1) s.heap.objs.size (I.b8.fresh (Qc6 _)) (I.b8.fresh (ZH _)) (Qaw (Qcp _))
 have I2:=Inv.made (C:=C) I
 have r2:Vals (V.ref (s.heap.objs.size+1)::(vs++dvs)) (Value.ref (s.heap.objs.size+1)::(us++ds)):= .cons rfl (r.append hd)
 have hl:((Value.ref (s.heap.objs.size+1)::us++ds):)=(ps:):=by
  have e:=(r2:)
  rw[F.len _ _ _ _ hq]at e
  exact e.symm
 refine wpAny_call (FT (f:=f) I.ql M.makes M.init (beq_iff_eq.mp M.fn) (codeAny_mono (F.run _ X.stack _ _ ⟨Value.ref (s.heap.objs.size+1)::us,[]⟩ (Value.ref (s.heap.objs.size+1)::(us++ds)) _ _ E (hr.make C us [])
  (I2.S7.make C us []) (hb _ (Value.ref (s.heap.objs.size+1)::us) I2.ql hl) r2 hq) λr s' S9=>?_))
 cases r with
 | error e=>exact hx pins σ _ _ e s' I2 S9
 | ok fl=>
  cases fl with
  | ret u=>
   obtain ⟨v,H',I3,rv,ev,q3⟩:=I2.after S9
   subst ev
   exact ⟨rv,⟨V.ref (s.heap.objs.size+1),H',I3,rfl,q3⟩⟩
  | next=>exact False.elim S9
  | brk=>exact False.elim S9
  | cont=>exact False.elim S9
theorem qm(M:Mk X.K C f)(F:bo X.prog X.w X.K X.mg X.base CX k f fd ps sp)(hr:eI (k+1) X.A)(hg:Gl X x)(hm:X.mg x=some (.ref C))(hb:Binds X.K fd ps ds)(hd:Vals dvs ds)(hx:Passes CX X E)
  (ha:PA X (e::es) t) (NX:(x==("__debug__":Str))=false:=by decide) (he:starEach (e::es) X.env=(false,eval e X.env)::starEach es X.env:=by rfl) (iU:(backTo pos (starEach es X.env)).any (·.1)=false:=by rfl):
  PE X (.Call (.Name x p) (e::es) [] pos) (S8 C sp dvs E t):=by
 walk_at"g"
 refine wpAny_Call_Name_kw (wz I hg hm ?_ NX)
 refine Qew (h₀:=X.base) I.ok.mod.Qy M.kp (cA (ha pos pins s σ H _ I h) λus s1 ⟨vs,H1,I1,r,q⟩=>⟨I1.ql,?_⟩) he iU
 exact FV M F hr hb hd hx I1 r q
end
structure aD(N P:List Str)(sc:Scope):Prop where
 kind:sc.kind= .function
 co:sc.isCoroutine=false
 gen:sc.isGenerator=false
 nd:N.Nodup
 pre:N.take P.length=P
 par:∀x∈P,sc.names.lookup x=some .local\/sc.names.lookup x=some .cell
 NY:∀y∈sc.names,y.2≠ .free
theorem uR{kindOf:Str->Option NameKind}{x:Str}:∀{binds:List (Str×Value)} {m:Str->Option Value},(∀v,(x,v)∉binds)->bindL kindOf binds m x=m x
 | [],_,_=>rfl
 |(n,v)::r,m,h=>by
  unfold bindL
  rw[uR λw hw=>h w (Qaf _ hw)]
  split
  ·have:x≠n:=by rintro rfl;exact h v Qai
   simp[this]
  ·rfl
theorem uS{kindOf:Str->Option NameKind}{x:Str}:∀{binds:List (Str×Value)} {m:Str->Option Value},(∀v,(x,v)∉binds)->bindC kindOf binds m x=m x
 | [],_,_=>rfl
 |(n,v)::r,m,h=>by
  unfold bindC
  rw[uS λw hw=>h w (Qaf _ hw)]
  split
  ·rfl
  ·have:x≠n:=by rintro rfl;exact h v Qai
   simp[this]
theorem uT{kindOf:Str->Option NameKind}{x:Str}{v:Value}:∀{P:List Str} {vs:List Value} {i:Nat} {m:Str->Option Value},P.Nodup->P[i]? =some x->vs[i]? =some v->kindOf x=some .local->
  bindL kindOf (P.zip vs) m x=some v
 | [],_,_,_,_,h,_,_=>by simp at h
 | _::_,[],_,_,_,_,h,_=>by simp at h
 | p::P,w::vs,0,m,nd,h1,h2,hk=>by
  simp at h1 h2;subst h1;subst h2
  show bindL kindOf ((p,w)::P.zip vs) m p=_
  unfold bindL
  rw[uR λv hv=>(Qbp.mp nd).1 (Qgs hv).1,if_pos hk]
  simp
 | p::P,w::vs,i+1,m,nd,h1,h2,hk=>by
  show bindL kindOf ((p,w)::P.zip vs) m x=_
  unfold bindL
  exact uT (i:=i) (Qbp.mp nd).2 (by simpa using h1) (by simpa using h2) hk
theorem uU{kindOf:Str->Option NameKind}{x:Str}{v:Value}:∀{P:List Str} {vs:List Value} {i:Nat} {m:Str->Option Value},P.Nodup->P[i]? =some x->vs[i]? =some v->kindOf x≠some .local->
  bindC kindOf (P.zip vs) m x=some v
 | [],_,_,_,_,h,_,_=>by simp at h
 | _::_,[],_,_,_,_,h,_=>by simp at h
 | p::P,w::vs,0,m,nd,h1,h2,hk=>by
  simp at h1 h2;subst h1;subst h2
  show bindC kindOf ((p,w)::P.zip vs) m p=_
  unfold bindC
  rw[uS λv hv=>(Qbp.mp nd).1 (Qgs hv).1,if_neg hk]
  simp
 | p::P,w::vs,i+1,m,nd,h1,h2,hk=>by
  show bindC kindOf ((p,w)::P.zip vs) m x=_
  unfold bindC
  exact uU (i:=i) (Qbp.mp nd).2 (by simpa using h1) (by simpa using h2) hk
noncomputable def start(N:List Str)(vs:List V):St:=vs.map some++List.replicate (N.length - (vs:)) none
noncomputable def DT(CX:DS)(P:Program)(w:World)(K:c7)(mg:Str->Option Value)(base:Heap)(N:List Str)(qual:Str)(scope:Scope)(f:Addr)(cd:Value)(A:Around)(outer:List Env)(s:Shared)(H:Hp)(E:XK):Cx where
 prog:=P
 w:=w
 K:=K
 mg:=mg
 base:=base
 A:=A.deeper (envOfC qual scope s.heap.objs.size f cd)
 N:=N
 s₀:=s
 H₀:=H
 env:=envOfC qual scope s.heap.objs.size f cd
 outer:=outer
 stack:=envOfC qual scope s.heap.objs.size f cd::outer
 ex:=[]
 calm:=true
 fn:=λ_=>true
 pn:=[]
 xe:=λe s'=>wpAny (model P w) (A.deeper (envOfC qual scope s.heap.objs.size f cd)) (leaving (envOfC qual scope s.heap.objs.size f cd) e) (λ_ NZ=>CX outer H s E e NZ) (λe' NZ=>CX outer H s E e' NZ) s'
theorem yy{sc:Scope}{n:Nat}{x:Str}(h:sc.names.lookup x=some .cell):∃c,(cellsFrom n sc.names []).lookup x=some c:=by
 have q:=PySem.W.cellsFrom_some sc.names n [] (.inl h)
 exact Option.isSome_iff_exists.mp q
theorem DU{CX:DS}{P:Program}{w:World}{K:c7}{mg:Str->Option Value}{base:Heap}{N ps:List Str}{qual:Str}{scope:Scope}{f:Addr}{cd:Value}{A:Around}{outer:List Env}{s s1:Shared}{H:Hp}{E:XK}{us:List Value}{vs:List V}
  (S:aD N ps scope) (hd:A.handled=none) (e0:Ar P w K mg base A outer s H) (hl:(vs:)=(ps:)) (r:Vals vs us)
  (x:InCallC s s.heap.objs.size (bindL (envOfC qual scope s.heap.objs.size f cd).kindOf (ps.zip us) λ_=>none) (cellsFrom (s.heap.objs.size+1) scope.names []) (bindC (envOfC qual scope s.heap.objs.size f cd).kindOf (ps.zip us) λ_=>none) s1):
  Inv (DT CX P w K mg base N qual scope f cd A outer s H E) [] (start N vs) H s1:=by
 have iU:(ps:)<=N.length:=by have:=congrArg List.length S.pre;rw[Qaa]at this;lia
 obtain ⟨h1,tk,rfl,hk⟩:=x.done
 have S_:∀b:Addr,b∉(DT CX P w K mg base N qual scope f cd A outer s H E).ex:=λb z=>absurd (show b∈([]:List Addr) from z) (by simp)
 refine ⟨⟨e0.mod,S.kind,rfl,rfl,ZH _,λy z c h1 h2=>?_,λy hy=>?_,λy c _ h=>?_,λ_=>hd,Around.frames_deeper e0.frames,.inr ⟨rfl,rfl⟩,λb z=>absurd z (S_ b),e0.bs,e0.J9,λb _ _=>S_ b,λb z=>absurd z (S_ b),e0.pQ,e0.NC⟩,
  rfl,e0.bare,Un.kept hk,⟨_,x.toInCall.ns,λi y v h1 h2 h3=>?_⟩,λy c h=>⟨_,x.cell y c h⟩,e0.b8.fresh (ZH _),λy c h=>?_,λp hp=>absurd (show p∈([]:List (Addr×Obj)) from hp) (by simp),e0.b8.kept hk,?_⟩
 ·exact name_of_addr x.apart (Qd7 h1) (Qd7 h2)
 ·have hy:scope.names.lookup y=some .cell\/scope.names.lookup y=some .free:=hy
  rcases hy with hy | hy
  ·exact yy hy
  ·exact absurd rfl (S.NY _ (Qd7 hy))
 ·exact Qbt (x.above y c (Qd7 h))
 ·have hi:i<(vs:):=by
   unfold start at h2
   by_cases hi:i<(vs:)
   ·exact hi
   ·rw[Qav (by simpa using hi)]at h2
    rw[List.getElem?_replicate]at h2
    split at h2<;>cases h2
  have ha:vs[i]? =some v:=by
   unfold start at h2
   rw[Qbg (by simpa using hi),Qas]at h2
   cases e:vs[i]? with
   | none=>rw[e]at h2;cases h2
   | some a=>rw[e]at h2;cases h2;rfl
  obtain ⟨u,hu,rv⟩:=r.get ha
  have hp:ps[i]? =some y:=by
   rw[<-S.pre,Qay ()];exact h1
  have Zx:ps.Nodup:=by rw[<-S.pre];exact S.nd.sublist (Qgc _ _)
  refine ⟨u,rv,?_⟩
  rcases S.par y (Qac hp) with k | k
  ·exact .inl ⟨k,uT Zx hp hu k⟩
  ·obtain ⟨c,e⟩:=yy (n:=s.heap.objs.size+1) k
   refine .inr ⟨.inl k,c,e,?_⟩
   have q:=x.cell y c e
   rw[uU Zx hp hu (by show scope.names.lookup y≠_;rw[k];decide)]at q
   exact q
 ·exact e0.b8.fresh (Qbt (x.above y c (Qd7 h)))
 ·unfold start
  show _=N.length
  rw[QD,kb,List.length_replicate]
  lia
theorem Ta{CX:DS}{P:Program}{w:World}{K:c7}{mg:Str->Option Value}{base:Heap}{k:Nat}{f:Addr}{name qual:Str}{params:Arguments}{body:List Stmt}{scope:Scope}{dV kV doc pm cw ct oc:Value}{an od:Option Addr}
  {JL:Array (Option Value)} {N ps:List Str} {sp:Sp} (lk:K.lookup f=some ⟨oc,od,.func (PySem.W.fnOf name qual params body scope dV kV doc pm an cw ct),JL⟩) (pR:PySem.W.codeIn K cw qual=true) (S:aD N ps scope)
  (len:∀vs H Q E,sp vs H Q E->(vs:)=(ps:))
  (FW:∀(A:Around) (outer:List Env) (s:Shared) (H:Hp) (vs:List V) (Q:VK) (E:XK),eI k (A.deeper (envOfC qual scope s.heap.objs.size f cw))->sp vs H Q E->
   ∃t,yt (DT CX P w K mg base N qual scope f cw A outer s H E) body t/\t { nx:=λ_ H'=>Q .eX H',rt:=Q } (start N vs) H):
  bo P w K mg base CX (k+1) f (PySem.W.fnOf name qual params body scope dV kV doc pm an cw ct) ps sp:=by
 refine ⟨len,λA outer s H args us vs Q E hr e0 hb r MG=>?_⟩
 have hl:=len _ _ _ _ MG
 have KX:K.In s.heap:=e0.mod.Qy.keeps λb o e=>(e0.bs b o e).1
 have lim:s.heap.NoLimit:=e0.mod.nolimit.keeps λb o e=>(e0.bs b o e).1
 have je:∀y∈ps.zip us,scope.names.lookup y.1=some .local\/(scope.names.lookup y.1=some .cell/\((cellsFrom (s.heap.objs.size+1) scope.names []).lookup y.1).isSome=true):=λ⟨n,v⟩ hy=>by
  rcases S.par n (Qgs hy).1 with q | q
  ·exact .inl q
  ·exact .inr ⟨q,PySem.W.cellsFrom_some _ _ _ (.inl q)⟩
 refine codeAny_call_function hr.depth (KX _ _ lk) rfl S.co S.gen rfl (PySem.W.codeRec_of KX pR) (hb _ _ _ _ ?_)
 refine wpAny_newFunctionEnv_cells S.kind je λenv he s1 x=>?_
 subst he
 refine ⟨lim.keeps x.toInCall.keep,codeAny_func ?_⟩
 obtain ⟨t,ht,hq⟩:=FW A outer s H vs Q E (hr.deeper _) MG
 have I:Inv (DT CX P w K mg base N qual scope f cw A outer s H E) [] (start N vs) H s1:=DU S hr.hd e0 hl r x
 refine wpAny_mono (ht [] s1 (start N vs) H _ I hq) (λfl s' hs=>?_) λe s' hs=>hs
 have fin:∀{σ':St} {H':Hp} {v:V} {u:Value},Inv (DT CX P w K mg base N qual scope f cw A outer s H E) [] σ' H' s'->RelV v u->Q v H'->CE outer P w H s Q u s':=
  λ{σ' H' v u} J rv q=>⟨v,H',J.os,J.bare,J.base,J.b8,rv,q⟩
 cases fl with
 | ret u=>
  obtain ⟨v,σ',H',J,rv,q⟩:=hs
  exact fin J rv q
 | next=>
  obtain ⟨σ',H',J,q⟩:=hs
  exact fin (v:=V.eX) (u:=Value.none) J rfl q
 | brk=>
  obtain ⟨_,_,_,q⟩:=hs
  exact False.elim q
 | cont=>
  obtain ⟨_,_,_,q⟩:=hs
  exact False.elim q
section
variable{X:Cx}{x:Str}{p pos:Pos}{e:Expr}{es:List Expr}{t:TA}{id T:String}{r:List V->Hp->VK->Prop}
def W7(r:List V->Hp->VK->Prop)(t:TA):TE:=λσ H Q=>t σ H λvs H1=>r vs H1 Q
theorem aI(hc:di X (.builtin id) r)(hg:Gl X x)(hm:X.mg x=none)(hv:bootBuiltins x=some (.builtin id))(ha:PA X (e::es) t)(hn:x≠"__name__":=by decide)(NX:(x==("__debug__":Str))=false:=by decide)
  (he:starEach (e::es) X.env=(false,eval e X.env)::starEach es X.env:=by rfl) (iU:(backTo pos (starEach es X.env)).any (·.1)=false:=by rfl):PE X (.Call (.Name x p) (e::es) [] pos) (W7 r t):=by
 walk_at"g"
 refine wpAny_Call_Name_kw (g8 I hg hm hv ?_ hn NX)
 exact PyProof.Rows.callWith_builtin1 (cA (ha pos pins s σ H _ I h) λus s1 ⟨vs,H1,I1,r1,q1⟩=>hc pins s1 σ H1 vs us Q I1 r1 q1) he iU
theorem cX(hc:di X (.type T) r)(hg:Gl X x)(hm:X.mg x=none)(hv:bootBuiltins x=some (.type T))(ha:PA X (e::es) t)(hn:x≠"__name__":=by decide)(NX:(x==("__debug__":Str))=false:=by decide)
  (he:starEach (e::es) X.env=(false,eval e X.env)::starEach es X.env:=by rfl) (iU:(backTo pos (starEach es X.env)).any (·.1)=false:=by rfl):PE X (.Call (.Name x p) (e::es) [] pos) (W7 r t):=by
 walk_at"g"
 refine wpAny_Call_Name_kw (g8 I hg hm hv ?_ hn NX)
 exact Qcg (cA (ha pos pins s σ H _ I h) λus s1 ⟨vs,H1,I1,r1,q1⟩=>hc pins s1 σ H1 vs us Q I1 r1 q1) he iU
end
end L2
namespace HT
open PySem PyProof.Rows
section
variable{prog:Program}{w:World}{A:Around}{E:Value->Shared->Prop}{s:Shared}
noncomputable def yk(n d:Nat):Option Int->Nat
 | none=>d
 | some v=>if v<0 then (v+(n:Int)).toNat else min v.toNat n
theorem qL(n d:Nat):yk n d none=d:=rfl
theorem eJ(n d k:Nat):yk n d (some (k:Int))=min k n:=by
 show (if (k:Int)<0 then ((k:Int)+(n:Int)).toNat else min (k:Int).toNat n)=min k n
 rw[if_neg (),Qab]
theorem N0(n d:Nat)(hd:d<=n)(o:Option Int):yk n d o<=n:=by
 cases o with
 | none=>exact hd
 | some v=>
  show (if v<0 then (v+(n:Int)).toNat else min v.toNat n)<=n
  by_cases hv:v<0
  ·rw[if_pos hv];lia
  ·rw[if_neg hv];exact Nat.min_le_right _ _
end
end HT
namespace L2
open PySem PySem.Spec PyProof.Rows
abbrev TO:=St->Hp->(Option Int->Hp->Prop)->Prop
def PO(X:Cx)(e:Option Expr)(t:TO):Prop:=
 ∀(pins:List (Addr×Obj)) (s:Shared) (σ:St) (H:Hp) (Q:Option Int->Hp->Prop),Inv X pins σ H s->t σ H Q->
  wpAny (model X.prog X.w) X.A (evalPart e X.env) (λu s'=>∃o H',Inv X pins σ H' s'/\IsPart u o/\Q o H') X.xe s
def Km:TO:=λ_ H Q=>Q none H
def Tb(t:TE):TO:=λσ H Q=>t σ H λx H1=>∃i,x= .int i/\Q (some i) H1
section
variable{X:Cx}{e:Expr}{te:TE}{lo hi:Option Expr}{tl th:TO}{pos p2:Pos}
theorem dz:PO X none Km:=by
 walk_at"g"
 rw[evalPart_none]
 exact wpAny_pure ⟨none,H,I,.none,h⟩
theorem bF(h:PE X e te):PO X (some e) (Tb te):=by
 intro pins s σ H Q I hw
 rw[evalPart_some]
 refine cA (h pins s σ H _ I hw) λu s1 ⟨x,H1,I1,r1,q1⟩=>?_
 obtain ⟨i,rfl,q⟩:=q1
 walk_at"T"
 exact ⟨some i,H1,I1,.int i t,q⟩
def Zy(X:Cx)(r:V->Option Int->Option Int->Hp->VK->Prop):Prop:=
 ∀(pins:List (Addr×Obj)) (s:Shared) (σ:St) (H:Hp) (x:V) (v vl vu:Value) (lo hi:Option Int) (sl:Addr) (Q:VK),Inv X pins σ H s->RelV x v->s.heap.IsSliceOf sl vl vu .none->IsPart vl lo->IsPart vu hi->r x lo hi H Q->
  ∃T id,typeLookup (.type T) "__getitem__"=pure (some (.builtin id))/\s.TypeIs v T/\wpAny (model X.prog X.w) X.A (getItem v (.ref sl)) (EP X pins σ Q) X.xe s
def tSl(r:V->Option Int->Option Int->Hp->VK->Prop)(te:TE)(tl th:TO):TE:=λσ H Q=>te σ H λx H1=>tl σ H1 λl H2=>th σ H2 λu H3=>r x l u H3 Q
theorem bK{r:V->Option Int->Option Int->Hp->VK->Prop}(hr:Zy X r)(he:PE X e te)(hl:PO X lo tl)(hu:PO X hi th):PE X (.Subscript e (.Slice lo hi none p2) pos) (tSl r te tl th):=by
 walk_at"g"
 refine Subscript_ (cA (he pins s σ H _ I h) λv s1 ⟨x,H1,I1,r1,q1⟩=>?_)
 refine wpAny_Slice (cA (hl pins s1 σ H1 _ I1 q1) λvl s2 ⟨l,H2,I2,pl,q2⟩=>cA (hu pins s2 σ H2 _ I2 q2) λvu s3 ⟨u,H3,I3,pu,q3⟩=>?_)
 rw[evalPart_none]
 refine wpAny_pure ?_
 have I4:Inv X pins σ H3 { s3 with heap:=s3.heap.push { cls:= .type "slice",data:= .fields #[vl,vu,.none] } }:=I3.kept (t':=s3.toks) λb ob q=>ZG _ q
 obtain ⟨T,id,hT,ht,hg⟩:=hr pins { s3 with heap:=s3.heap.push { cls:= .type "slice",data:= .fields #[vl,vu,.none] } } σ H3 x v vl vu l u s3.heap.objs.size Q I4 r1 (Heap.IsSliceOf.new ..) pl pu q3
 show wpAny (model X.prog X.w) X.A (subscriptTail e (.Slice lo hi none p2) v (.ref s3.heap.objs.size)) (EP X pins σ Q) X.xe { s3 with heap:=s3.heap.push { cls:= .type "slice",data:= .fields #[vl,vu,.none] } }
 exact tail_any (ops:=[.ref s3.heap.objs.size,v]) ht hT hg (by with_unfolding_all rfl)
end
noncomputable def JM(n:Nat)(i:Int):Option Nat:=if 0<=i then (if i<n then some i.toNat else none) else if -(n:Int)<=i then some (i+n).toNat else none
noncomputable def qp{α:Type}(xs:List α)(i:Int):Option α:=(JM (xs:) i).bind λj=>xs[j]?
theorem Cd{n:Nat}{i:Int}{j:Nat}(h:JM n i=some j):seqIndex? i n=some j/\j<n/\ -(n:Int)<=i/\i<n:=by
 unfold JM at h
 by_cases h0:0<=i
 ·rw[if_pos h0]at h
  by_cases h1:i<n
  ·rw[if_pos h1]at h
   have e:i.toNat=j:=Qad h
   exact ⟨by rw[seqIndex_of h0 h1,e],(),(),h1⟩
  ·rw[if_neg h1]at h;cases h
 ·rw[if_neg h0]at h
  by_cases h1: -(n:Int)<=i
  ·rw[if_pos h1]at h
   have e:(i+n).toNat=j:=Qad h
   exact ⟨by rw[seqIndex_neg () h1,e],(),h1,()⟩
  ·rw[if_neg h1]at h;cases h
theorem wF{α:Type}{xs:List α}{i:Int}{v:α}(h:qp xs i=some v):∃j,seqIndex? i (xs:)=some j/\xs[j]? =some v/\j<(xs:)/\ -((xs:):Int)<=i/\i<(xs:):=by
 unfold qp at h
 cases e:JM (xs:) i with
 | none=>rw[e]at h;cases h
 | some j=>
  rw[e]at h
  obtain ⟨h1,h2,h3,h4⟩:=Cd e
  exact ⟨j,h1,h,h2,h3,h4⟩
theorem dj{α:Type}{xs:List α}{j:Nat}{v:α}(h:xs[j]? =some v):qp xs (j:Int)=some v:=by
 have hj:j<(xs:):=(Og.mp h).1
 have e:JM (xs:) (j:Int)=some j:=by
  unfold JM
  rw[if_pos (),if_pos ()];simp
 unfold qp;rw[e];exact h
theorem mH{α:Type}(xs:List α)(v:α):qp (xs++[v]) (-1)=some v:=by
 have hl:(xs++[v]:)=(xs:)+1:=by simp
 have e:JM (xs++[v]:) (-1)=some (xs:):=by
  unfold JM
  rw[hl,if_neg ∅,if_pos ()]
  congr 1
  lia
 unfold qp
 rw[e]
 show (xs++[v])[(xs:)]? =some v
 simp
def Kn(b:Expr):Prop:=∀o i,subscripted b false o i=operate [o,i] (getItem o i)
def N1(X:Cx)(r:R2):Prop:=
 ∀(value slice:Expr) (pins:List (Addr×Obj)) (s:Shared) (σ:St) (H:Hp) (x y:V) (v u:Value) (Q:VK),Inv X pins σ H s->RelV x v->RelV y u->r x y H Q->
  subscripted slice false v u=operate [v,u] (getItem v u)->wpAny (model X.prog X.w) X.A (subscriptTail value slice v u) (EP X pins σ Q) X.xe s
def Ce(X:Cx)(id:String)(r:V->List V->Hp->VK->Prop):Prop:=
 ∀(pins:List (Addr×Obj)) (s:Shared) (σ:St) (H:Hp) (x:V) (xs:List V) (v:Value) (us:List Value) (Q:VK),Inv X pins σ H s->RelV x v->Vals xs us->r x xs H Q->
  wpAny (model X.prog X.w) X.A (call (.builtin id) (v::us)) (EP X pins σ Q) X.xe s
section
variable{X:Cx}{a b:Expr}{ta tb:TE}{pos:Pos}
theorem aV{r:R2}(hr:N1 X r)(ha:PE X a ta)(hb:PE X b tb)(hs:Kn b):PE X (.Subscript a b pos) (VE r ta tb):=by
 walk_at"g"
 exact Subscript_ (NT ha hb I h λv u s2 x y H2 I2 rx ry q=>hr a b pins s2 σ H2 x y v u Q I2 rx ry q (hs _ _))
inductive FX(K:c7)(x:V)(y:V)(H:Hp)(Q:VK):Prop
 | mk (p:_) (xs:_) (i:_) (v:_) (_:x= .ref p) (_:y= .int i) (_:bB K H p xs) (_:qp xs i=some v) (_:Q v H):FX K x y H Q
def Tc(K:c7):R2:=FX K
inductive FY(K:c7)(x:V)(y:V)(H:Hp)(Q:VK):Prop
 | mk (p:_) (xs:_) (i:_) (v:_) (_:x= .ref p) (_:y= .int i) (_:de K H p xs) (_:qp xs i=some v) (_:Q v H):FY K x y H Q
def Td(K:c7):R2:=FY K
inductive FZ(x:V)(y:V)(H:Hp)(Q:VK):Prop
 | mk (z:_) (i:_) (c:_) (_:x= .str z) (_:y= .int i) (_:(z:)<=sizeLine) (_:qp z.cps.toList i=some c) (_:Q (.str ⟨#[c]⟩) H):FZ x y H Q
def W8:R2:=FZ
theorem Ko:N1 X (Tc X.K):=by
 walk_at"K"
 obtain ⟨p,xs,i,z,rfl,rfl,hq,he,q⟩:=h
 cases rx
 obtain ⟨t,rfl⟩:=ry
 obtain ⟨aH,r,pl,hz⟩:=I.list hq
 obtain ⟨j,h1,h2,h3,h4,h5⟩:=wF he
 obtain ⟨w,ew,tX⟩:=r.get h2
 have hl:=(r:)
 have hn:=gx
 have fin:EP X pins σ Q w s:=⟨z,H,I,tX,q⟩
 by_cases h0:0<=i
 ·have hj:i.toNat=j:=by
   rw[seqIndex_of h0 h5]at h1
   exact Qad h1
  exact item_listR pl.isList h0 () (by rw[hj];simpa using ew) fin hs
 ·have hj:(i+(aH.toArray.size:Int)).toNat=j:=by
   rw[seqIndex_neg () h4]at h1
   rw[Qag, <-hl]
   exact Qad h1
  exact subscriptTail_builtinR (x:=w) pl.isList.typeIs slot_list_getitem.lookup
   (wpAny_getItem_list_neg (Q:=λr s'=>r=w/\EP X pins σ Q r s') pl.isList () (by rw[Qag]<;>lia) () (by rw[hj];simpa using ew) ⟨rfl,fin⟩) hs
theorem N2:N1 X (Td X.K):=by
 walk_at"K"
 obtain ⟨p,xs,i,z,rfl,rfl,hq,he,q⟩:=h
 cases rx
 obtain ⟨t,rfl⟩:=ry
 obtain ⟨aH,r,pl,hz⟩:=I.tuple hq
 obtain ⟨j,h1,h2,h3,h4,h5⟩:=wF he
 obtain ⟨w,ew,tX⟩:=r.get h2
 have hl:=(r:)
 have hn:=gx
 have fin:EP X pins σ Q w s:=⟨z,H,I,tX,q⟩
 exact subscriptTail_builtinR (x:=w) pl.typeIs slot_tuple_getitem.lookup
  (getItem_tuple (j:=j) (Q:=λr s'=>r=w/\EP X pins σ Q r s') pl () () (by rw[Qag, <-hl];exact h1) (by simpa using ew) ⟨rfl,fin⟩) hs
theorem N3:N1 X W8:=by
 walk_at"K"
 obtain ⟨z,i,c,rfl,rfl,hz,he,q⟩:=h
 walk_at"f"
 walk_at"J"
 obtain ⟨j,h1,h2,h3,h4,h5⟩:=wF he
 have hl:(z.cps.toList:)=(z:):=by simp[Str.length]
 rw[hl]at h1 h4 h5
 have hn:=gx
 exact tail_any (typeIs_str s z t) slot_str_getitem.lookup (getItem_str (c:=c) (by
  have e1:decide (i< -(2 ^ 63:Int))=false:=decide_eq_false ()
  have e2:decide (i ≥ 2 ^ 63)=false:=decide_eq_false ()
  rw[e1,e2,Qfa]) (by rw[h1];simpa using h2) ⟨.str ⟨#[c]⟩,H,I.tok _,⟨_,rfl⟩,q⟩) hs
theorem Au(aH:List Value)(n j:Nat)(u:Value):Obj.mapSeq (·.setIfInBounds j u) { cls:= .type "list",data:= .seq aH.toArray n }={ cls:= .type "list",data:= .seq (aH.set j u).toArray n }:=by
 simp[Obj.mapSeq]
theorem Inv.lst{pins:List (Addr×Obj)}{σ:St}{H:Hp}{s:Shared}{p:Addr}{xs:List V}(I:Inv X pins σ H s)(h:H p=some (.lst xs)):
  ∃(aH:List Value) (n:Nat),Vals xs aH/\s.heap.get? p=some { cls:= .type "list",data:= .seq aH.toArray n }/\(xs:)<=sizeLine:=by
 obtain ⟨z,aH,n,r,e⟩:=I.b8 p _ h
 exact ⟨aH,n,r,e,z⟩
theorem Inv.N4{pins:List (Addr×Obj)}{σ:St}{H:Hp}{s:Shared}{p:Addr}{xs ys:List V}{aH its':List Value}{n n':Nat}{f:Obj->Obj}(I:Inv X pins σ H s)(h:H p=some (.lst xs))
  (ho:s.heap.get? p=some { cls:= .type "list",data:= .seq aH.toArray n }) (hf:f { cls:= .type "list",data:= .seq aH.toArray n }={ cls:= .type "list",data:= .seq its'.toArray n' }) (r:Vals ys its') (hz:(ys:)<=sizeLine) (t:Nat):
  Inv X pins σ (upd H p (.lst ys)) { s with heap:=s.heap.update p f,toks:=t }:=by
 have e:(s.heap.update p f).get? p=some { cls:= .type "list",data:= .seq its'.toArray n' }:=by
  rw[Qcv f ho (by rw[hf]<;>rfl),hf]
 refine I.write (x:=p) (e:=p) (by rw[h];trivial) (.inl rfl) (λb u hb q=>(Qb1 _ _ (Ne.symm hb)).trans q) ⟨_,e⟩ ?_
 exact ⟨hz,its',n',r,e⟩
inductive Cf(o:V)(i:V)(v:V)(H:Hp)(Q:(Hp->Prop)):Prop
 | mk (p:_) (xs:_) (k:_) (j:_) (_:o= .ref p) (_:i= .int k) (_:H p=some (.lst xs)) (_:JM (xs:) k=some j) (_:Q (upd H p (.lst (xs.set j v)))):Cf o i v H Q
def Te:V->V->V->Hp->(Hp->Prop)->Prop:=Cf
theorem set_list:SK X Te:=by
 intro pins s σ H o i v ov iv u Q I ro ri rv h
 obtain ⟨p,xs,k,j,rfl,rfl,hp,hj,q⟩:=h
 cases ro
 obtain ⟨t,rfl⟩:=ri
 obtain ⟨aH,n,r,ho,hz⟩:=I.lst hp
 obtain ⟨h1,h2,h3,h4⟩:=Cd hj
 have hl:=(r:)
 have hn:=gx
 have I':Inv X pins σ (upd H p (.lst (xs.set j v))) { s with heap:=s.heap.update p (Obj.mapSeq (·.setIfInBounds j u)) }:=
  I.N4 hp ho (Au aH n j u) (r.set rv j) (by rw[List.length_set];exact hz) s.toks
 by_cases h0:0<=k
 ·have hk:k.toNat=j:=by
   rw[seqIndex_of h0 h4]at h1
   exact Qad h1
  exact PySem.W.ki_setAt ho h0 () (by rw[Qag, <-hl];exact h4) (by rw[hk];exact ⟨_,I',q⟩)
 ·have hk:(k+(aH.toArray.size:Int)).toNat=j:=by
   rw[seqIndex_neg () h3]at h1
   rw[Qag, <-hl]
   exact Qad h1
  exact PySem.W.ki_setBack ho () (by rw[Qag, <-hl];exact h3) () (by rw[hk];exact ⟨_,I',q⟩)
noncomputable def mI:V->Bool
 | .eX=>true
 | .bl _=>true
 | .int _=>true
 | .str _=>true
 | _=>false
noncomputable def JN:V->V->Bool
 | .eX,.eX=>true
 | .bl a,.bl b=>a==b
 | .bl a,.int b=>(if a then 1 else 0)==b
 | .int a,.bl b=>a==(if b then 1 else 0)
 | .int a,.int b=>a==b
 | .str a,.str b=>a==b
 | _,_=>false
theorem N5{A:Around}{s:Shared}{y x:V}{u v:Value}(ry:RelV y u)(rx:RelV x v)(fy:mI y=true)(fx:mI x=true):SeqAt.EqAt A s u v (JN y x):=by
 cases y with
 | eX=>
  cases ry
  cases x with
  | eX=>cases rx;exact SeqAt.EqAt.same _
  | bl b=>cases rx;exact SeqAt.EqAt.none_bool b
  | int b=>obtain ⟨t,rfl⟩:=rx;exact SeqAt.EqAt.none_int b t
  | str b=>obtain ⟨t,rfl⟩:=rx;exact SeqAt.EqAt.none_str b t
  | _=>exact absurd (show false=true from fx) Qan
 | bl a=>
  cases ry
  cases x with
  | eX=>cases rx;exact SeqAt.EqAt.bool_none a
  | bl b=>cases rx;exact SeqAt.EqAt.bool_bool a b
  | int b=>obtain ⟨t,rfl⟩:=rx;exact SeqAt.EqAt.bool_int a b t
  | str b=>obtain ⟨t,rfl⟩:=rx;exact SeqAt.EqAt.bool_str a b t
  | _=>exact absurd (show false=true from fx) Qan
 | int a=>
  walk_at"J"
  cases x with
  | eX=>cases rx;exact SeqAt.EqAt.int_none a t'
  | bl b=>cases rx;exact SeqAt.EqAt.int_bool a t' b
  | int b=>obtain ⟨t,rfl⟩:=rx;exact SeqAt.EqAt.int_int a t' b t
  | str b=>obtain ⟨t,rfl⟩:=rx;exact SeqAt.EqAt.int_str a t' b t
  | _=>exact absurd (show false=true from fx) Qan
 | str a=>
  walk_at"J"
  cases x with
  | eX=>cases rx;exact SeqAt.EqAt.str_none a t'
  | bl b=>cases rx;exact SeqAt.EqAt.str_bool a t' b
  | int b=>obtain ⟨t,rfl⟩:=rx;exact SeqAt.EqAt.str_int a t' b t
  | str b=>obtain ⟨t,rfl⟩:=rx;exact SeqAt.EqAt.str_str a t' b t
  | _=>exact absurd (show false=true from fx) Qan
 | _=>exact absurd (show false=true from fy) Qan
noncomputable def F_(x:V)(u:Value):Bool:=match u with
 | .none=>JN .eX x
 | .bool b=>JN (.bl b) x
 | .int i _=>JN (.int i) x
 | .str z _=>JN (.str z) x
 | _=>false
theorem Av{x y:V}{u:Value}(r:RelV y u)(f:mI y=true):F_ x u=JN y x:=by
 cases y with
 | eX=>cases r;rfl
 | bl b=>cases r;rfl
 | int i=>obtain ⟨t,rfl⟩:=r;rfl
 | str z=>obtain ⟨t,rfl⟩:=r;rfl
 | _=>exact absurd (show false=true from f) Qan
theorem wG{x:V}:∀{xs:List V} {us:List Value},Vals xs us->xs.all mI=true->us.any (F_ x)=xs.any λy=>JN y x
 | _,_,.nil,_=>rfl
 | y::xs,u::us,.cons r t,f=>by
  rw[List.all_cons,Qbr]at f
  rw[Qdt,Qdt,Av r f.1,wG t f.2]
theorem mJ{A:Around}{s:Shared}{x:V}{v:Value}(rx:RelV x v)(fx:mI x=true):∀{xs:List V} {us:List Value},Vals xs us->xs.all mI=true->∀u∈us,SeqAt.EqAt A s u v (F_ x u)
 | _,_,.nil,_=>λu hu=>by cases hu
 | y::xs,u::us,.cons r t,f=>λu' hu=>by
  rw[List.all_cons,Qbr]at f
  rcases Qam.mp hu with rfl | hu
  ·rw[Av r f.1];exact N5 r rx f.1 fx
  ·exact mJ rx fx t f.2 u' hu
noncomputable def Kp(x:V)(xs:List V):Bool:=xs.any λy=>JN y x
inductive MH(K:c7)(neg:Bool)(x:V)(y:V)(H:Hp)(Q:VK):Prop
 | mk (p:_) (xs:_) (_:y= .ref p) (_:(bB K H p xs\/de K H p xs)) (_:mI x=true) (_:xs.all mI=true) (_:Q (.bl (if neg then !Kp x xs else Kp x xs)) H):MH K neg x y H Q
def Zz(K:c7)(neg:Bool):R2:=MH K neg
theorem DV:jv X (compareOp .In) (Zz X.K false):=by
 walk_at"a"
 obtain ⟨p,xs,rfl,hq,fx,fs,q⟩:=h
 cases ry
 rcases hq with hq | hq
 ·obtain ⟨aH,r,pl,hz⟩:=I.list hq
  refine SeqAt.in_listAt (F_ x) pl.isList (λw hw=>mJ rx fx r fs w (by simpa using hw)) ⟨.bl _,H,I,rfl,?_⟩
  rw[show aH.toArray.any (F_ x)=aH.any (F_ x) by simp,wG r fs]
  exact q
 ·obtain ⟨aH,r,pl,hz⟩:=I.tuple hq
  refine SeqAt.in_tupleAt (F_ x) pl (λw hw=>mJ rx fx r fs w (by simpa using hw)) ⟨.bl _,H,I,rfl,?_⟩
  rw[show aH.toArray.any (F_ x)=aH.any (F_ x) by simp,wG r fs]
  exact q
theorem wH:di X (.builtin "len") (λxs H Q=>∃p ys,xs=[.ref p]/\(bB X.K H p ys\/de X.K H p ys)/\Q (.int (ys:)) H):=by
 walk_at"d"
 obtain ⟨p,ys,rfl,hq,q⟩:=h
 obtain ⟨u,rfl,rx⟩:=vals1 r
 cases rx
 have hn:=gx
 rcases hq with hq | hq
 ·obtain ⟨aH,r',pl,hz⟩:=I.list hq
  have hlen:=(r':)
  exact Calls.call_len_list pl.isList (by simp only[Qag]<;>lia) ⟨.int (ys:),H,I.tok _,⟨s.toks+1,by rw[Qag,hlen]⟩,q⟩
 ·obtain ⟨aH,r',pl,hz⟩:=I.tuple hq
  have hlen:=(r':)
  exact len_tuple pl (by simp only[Qag]<;>lia) ⟨.int (ys:),H,I.tok _,⟨s.toks+1,by rw[Qag,hlen]⟩,q⟩
theorem wI:di X (.builtin "len") (λxs H Q=>∃z,xs=[.str z]/\(z:)<=sizeLine/\Q (.int (z:)) H):=by
 walk_at"d"
 obtain ⟨z,rfl,hz,q⟩:=h
 obtain ⟨u,rfl,t,rfl⟩:=vals1 r
 have hn:=gx
 exact len_str () ⟨.int (z:),H,I.tok _,⟨_,rfl⟩,q⟩
theorem wJ:di X (.type "list") (λxs H Q=>∃p ys,xs=[.ref p]/\(bB X.K H p ys\/de X.K H p ys)/\∀l,H l=none->Q (.ref l) (upd H l (.lst ys))):=by
 walk_at"d"
 obtain ⟨p,ys,rfl,hq,q⟩:=h
 obtain ⟨u,rfl,rx⟩:=vals1 r
 cases rx
 have fin:∀(aH:List Value),Vals ys aH->(ys:)<=sizeLine->∀(h':Heap) (c':Nat),(∀b o',s.heap.get? b=some o'->h'.get? b=some o')->
   h'.get? s.heap.objs.size=some { cls:= .type "list",dict:=none,data:= .seq aH.toArray c',slots:= #[] }->EP X pins σ Q (.ref s.heap.objs.size) { s with heap:=h' }:=λaH r' hz h' c' kp e=>
  ⟨.ref s.heap.objs.size,_,I.laid (t':=s.toks) kp (ZH _) (show cg X.prog X.w _ h' _ (.lst ys) from ⟨hz,aH,c',r',e⟩),rfl,q _ (I.b8.fresh (ZH _))⟩
 rcases hq with hq | hq
 ·obtain ⟨aH,r',pl,hz⟩:=I.list hq
  have hlen:=(r':)
  obtain ⟨o,ho,hc,n,hd⟩:=pl.isList
  exact call_list_seq p (.inl rfl) ho hc hd (λh' c' kp e=>fin aH r' hz h' c' kp e) (by simp only[Qag]<;>lia)
 ·obtain ⟨aH,r',pl,hz⟩:=I.tuple hq
  have hlen:=(r':)
  obtain ⟨o,ho,hc,n,hd⟩:=pl
  exact call_list_seq p (.inr rfl) ho hc hd (λh' c' kp e=>fin aH r' hz h' c' kp e) (by simp only[Qag]<;>lia)
theorem tZ:di X (.type "tuple") (λxs H Q=>∃p ys,xs=[.ref p]/\((bB X.K H p ys/\∀l,H l=none->Q (.ref l) (upd H l (.tup ys)))\/(de X.K H p ys/\Q (.ref p) H))):=by
 walk_at"d"
 obtain ⟨p,ys,rfl,h⟩:=h
 obtain ⟨u,rfl,rx⟩:=vals1 r
 cases rx
 rcases h with ⟨hq,q⟩ | ⟨hq,q⟩
 ·obtain ⟨aH,r',pl,hz⟩:=I.list hq
  have hlen:=(r':)
  refine call_tuple_list pl.isList (λh' kp=>?_) (by simp only[Qag]<;>lia)
  have I1:Inv X pins σ H { s with heap:=h' }:=I.kept (t':=s.toks) kp
  have I2:Inv X pins σ (upd H h'.objs.size (.tup ys)) { s with heap:=h'.push { cls:= .type "tuple",data:= .seq aH.toArray } }:=
   I1.laid (t':=s.toks) (λb o e=>ZG _ e) (ZH _) (show cg X.prog X.w _ _ _ (.tup ys) from ⟨hz,aH,r',IsTup.new _ _⟩)
  exact ⟨.ref h'.objs.size,_,I2,rfl,q _ (I1.b8.fresh (ZH _))⟩
 ·obtain ⟨aH,r',pl,hz⟩:=I.tuple hq
  exact call_tuple_same pl ⟨.ref p,H,I,rfl,q⟩
def W9(K:c7)(T:String)(x:V)(H:Hp):Prop:=match x with
 | .str _=>T="str"
 | .int _=>T="int"
 | .ref p=>(T="list"/\∃xs,bB K H p xs)\/(T="tuple"/\∃o,K.lookup p=some o/\o.cls= .type "tuple"/\o.dict=none)\/
   (T="dict"/\((∃aN,H p=some (.dK aN))\/∃aN,H p=some (.dT aN)))\/(T="set"/\∃S n,H p=some (.set S n))
 | _=>False
theorem Ga{pins:List (Addr×Obj)}{σ:St}{H:Hp}{s:Shared}{T:String}{x:V}{v:Value}(I:Inv X pins σ H s)(r:RelV x v)(ty:W9 X.K T x H):
  s.TypeIs v T/\∀a,v= .ref a->∃ob,s.heap.get? a=some ob/\ob.dict=none:=by
 cases x with
 | str z=>
  obtain ⟨t,rfl⟩:=r
  cases (show T="str" from ty)
  exact ⟨typeIs_str s z t,λ_ e=>nomatch e⟩
 | int i=>
  obtain ⟨t,rfl⟩:=r
  cases (show T="int" from ty)
  exact ⟨typeIs_int s i t,λ_ e=>nomatch e⟩
 | ref p=>
  cases r
  rcases ty with ⟨rfl,xs,hq⟩ | ⟨rfl,o,hk,hc,hd⟩ | ⟨rfl,hk⟩ | ⟨rfl,S,n,hk⟩
  ·obtain ⟨aH,_,pl,_⟩:=I.list hq
   refine ⟨pl.isList.typeIs,λa e=>?_⟩
   cases e
   obtain ⟨o,n,e,c,hd,_⟩:=pl
   exact ⟨o,e,hd⟩
  ·refine ⟨⟨o,I.ql p o hk,hc⟩,λa e=>?_⟩
   cases e
   exact ⟨o,I.ql _ o hk,hd⟩
  ·have z:∃o,s.heap.get? p=some o/\o.ExactDict:=by
    rcases hk with ⟨aN,hk⟩ | ⟨aN,hk⟩
    ·obtain ⟨_,_,_,_,o,_,_,e,ex,_⟩:=I.b8 p _ hk
     exact ⟨o,e,ex⟩
    ·obtain ⟨_,_,_,_,o,_,_,e,ex,_⟩:=I.b8 p _ hk
     exact ⟨o,e,ex⟩
   obtain ⟨o,e,ex⟩:=z
   refine ⟨⟨o,e,ex.1⟩,λa e2=>?_⟩
   cases e2
   exact ⟨o,e,ex.2.1⟩
  ·obtain ⟨o,_,_,_,e,ex,_⟩:=I.b8 p _ hk
   refine ⟨⟨o,e,ex.1⟩,λa e2=>?_⟩
   cases e2
   exact ⟨o,e,ex.2.1⟩
 | _=>exact False.elim ty
def Tf(K:c7)(T:String)(r:V->List V->Hp->VK->Prop)(to:TE):TE:=λσ H Q=>to σ H λx H1=>W9 K T x H1/\r x [] H1 Q
def ZA(K:c7)(T:String)(r:V->List V->Hp->VK->Prop)(to:TE)(t:TA):TE:=λσ H Q=>to σ H λx H1=>W9 K T x H1/\t σ H1 λxs H2=>r x xs H2 Q
variable{o e:Expr}{es:List Expr}{to:TE}{t:TA}{name:Str}{apos jw:Pos}{T id:String}{r:V->List V->Hp->VK->Prop}
theorem N6(pa:PlainAttrs T)(slot:Slot T name id)(N7:typeOf (.builtin id)=pure (.type "method_descriptor"))(hm:Ce X id r)(ho:PE X o to)
  (qM:attributeBase o name X.env (eval o X.env)=eval o X.env:=by rfl) (k_:(apos.endLine==jw.line)=true:=by rfl):PE X (.Call (.Attribute o name apos) [] [] jw) (Tf X.K T r to):=by
 walk_at"g"
 refine wpAny_Call_method0_late qM k_ (cA (ho pins s σ H _ I h) λv s1 ⟨x,H1,I1,r1,ty,q1⟩=>?_)
 obtain ⟨h1,h2⟩:=Ga I1 r1 ty
 exact ⟨T,id,pa,slot,N7,h1,h2,Calls.callWith_builtin rfl (PySem.evalArgs_none (hm pins s1 σ H1 x [] v [] Q I1 r1 .nil q1))⟩
theorem Tg(pa:PlainAttrs T)(slot:Slot T name id)(N7:typeOf (.builtin id)=pure (.type "method_descriptor"))(hm:Ce X id r)(ho:PE X o to)(ha:PA X (e::es) t)
  (qM:attributeBase o name X.env (eval o X.env)=eval o X.env:=by rfl)
  (Kq:((backTo jw (starEach (e::es) X.env)).all (λx=>!x.1)&&(backToKw jw (keywordEach [] X.env)).all (λx=>x.1.isSome)
   &&decide (((e::es):)+(([]:List Keyword):)+(if ([]:List Keyword).isEmpty then 0 else 1)<30))=true:=by rfl)
  (k_:(apos.endLine==jw.line)=true:=by rfl) (hs:starEach (e::es) X.env=(false,eval e X.env)::starEach es X.env:=by rfl) (Aw:(backTo jw (starEach es X.env)).any (·.1)=false:=by rfl):
  PE X (.Call (.Attribute o name apos) (e::es) [] jw) (ZA X.K T r to t):=by
 walk_at"g"
 refine wpAny_Call_method_late qM Kq k_ rfl (cA (ho pins s σ H _ I h) λv s1 ⟨x,H1,I1,r1,ty,q1⟩=>?_)
 obtain ⟨h1,h2⟩:=Ga I1 r1 ty
 refine ⟨T,id,pa,slot,N7,h1,h2,?_⟩
 have hA:=ha jw pins s1 σ H1 _ I1 q1
 rw[hs]at hA ⊢
 refine Calls.callWith_builtin (by show (false||(backTo jw (starEach es X.env)).any (·.1))=false;rw[Aw]<;>rfl) (Calls.evalArgs_plain ?_)
 exact cA hA λus s2 ⟨vs,H2,I2,r2,q2⟩=>hm pins s2 σ H2 x vs v us Q I2 r1 r2 q2
end
def QC(X:Cx)(id:String)(r:V->List V->Hp->VK->Prop):Prop:=
 ∀(pins:List (Addr×Obj)) (s:Shared) (σ:St) (H:Hp) (x:V) (xs:List V) (v:Value) (us:List Value) (Q:VK),Inv X pins σ H s->RelV x v->Vals xs us->r x xs H Q->
  wpAny (model X.prog X.w) X.A (call (.builtin id) (v::us)) (EP X pins σ Q) X.xe s
theorem Vals.one:∀{x:V} {us:List Value},Vals [x] us->∃u,us=[u]/\RelV x u
 | _,_,.cons r .nil=>⟨_,rfl,r⟩
theorem Vals.zero:∀{us:List Value},Vals [] us->us=[]
 | _,.nil=>rfl
theorem Vals.dropLast{xs:List V}{us:List Value}(h:Vals xs us):Vals xs.dropLast us.dropLast:=by
 induction h with
 | nil=>exact .nil
 | cons r t ih=>
  cases t with
  | nil=>exact .nil
  | cons q t'=>exact .cons r ih
theorem Vals.eraseIdx:∀{xs:List V} {us:List Value} (i:Nat),Vals xs us->Vals (xs.eraseIdx i) (us.eraseIdx i)
 | _,_,_,.nil=> .nil
 | _,_,0,.cons _ t=>t
 | _,_,i+1,.cons r t=> .cons r (Vals.eraseIdx i t)
theorem Vals.reverse{xs:List V}{us:List Value}(h:Vals xs us):Vals xs.reverse us.reverse:=by
 induction h with
 | nil=>exact .nil
 | cons r t ih=>rw[List.reverse_cons,List.reverse_cons];exact Vals.append ih (.cons r .nil)
theorem Vals.rep{xs:List V}{us:List Value}(h:Vals xs us):∀k:Nat,Vals (List.replicate k xs).flatten (List.replicate k us).flatten
 | 0=> .nil
 | k+1=>by
  rw[Qc9,Qc9,Qb6,Qb6]
  exact Vals.append h (Vals.rep h k)
theorem Ax{α:Type}(l:List α):l.eraseIdx ((l:) - 1)=l.dropLast:=by
 induction l with
 | nil=>rfl
 | cons a r ih=>
  cases r with
  | nil=>rfl
  | cons b r=>
   have e:((a::b::r):) - 1=(((b::r):) - 1)+1:=by
    have h1:((a::b::r):)=(r:)+2:=rfl
    have h2:((b::r):)=(r:)+1:=rfl
    lia
   rw[e,Qef,ih]
   all_goals rfl
theorem uV{α:Type}:∀(l:List α) (i:Nat),(l.eraseIdx i:)<=(l:)
 | [],_=>ZH _
 | _::_,0=>Qc6 _
 | _::r,i+1=>Qde (uV r i)
theorem foldl_rep(aH:List Value):∀(k:Nat) (acc:List Value),
  List.foldl (λx1 x2=>x1++x2) acc.toArray (List.replicate k aH.toArray)=(acc++(List.replicate k aH).flatten).toArray
 | 0,acc=>by simp
 | k+1,acc=>by
  have e:acc.toArray++aH.toArray=(acc++aH).toArray:=by simp
  have e2:(acc++aH)++(List.replicate k aH).flatten=acc++(List.replicate (k+1) aH).flatten:=by
   rw[Qc9,Qb6,VI]
  rw[<-e2, <-foldl_rep aH k (acc++aH), <-e,Qc9,Qdi]
section
variable{X:Cx}{pins:List (Addr×Obj)}{σ:St}{H:Hp}{s:Shared}{l b:Addr}{xs ys zs:List V}
theorem Inv.DW{aH its':List Value}{n:Nat}{f:Array Value->Array Value}{t':Nat}(I:Inv X pins σ H s)(hH:H l=some (.lst xs))
  (e:s.heap.get? l=some { cls:= .type "list",data:= .seq aH.toArray n }) (hf:f aH.toArray=its'.toArray) (hv:Vals ys its') (hz:(ys:)<=sizeLine):
  Inv X pins σ (upd H l (.lst ys)) { s with heap:=s.heap.update l (Obj.mapSeq f),toks:=t' }:=by
 have q:=PySem.IsL.update e f
 rw[hf]at q
 refine I.write (x:=l) (e:=l) (by rw[hH];exact trivial) (.inl rfl) (λb' u hb hu=>(Qb1 s.heap (Obj.mapSeq f) (Ne.symm hb)).trans hu) ⟨_,q⟩ ?_
 exact ⟨hz,its',_,hv,q⟩
theorem Inv.Th{aH:List Value}{t':Nat}(I:Inv X pins σ H s)(hv:Vals ys aH)(hz:(ys:)<=sizeLine):
  Inv X pins σ (upd H s.heap.objs.size (.lst ys)) { s with heap:=s.heap.push { cls:= .type "list",data:= .seq aH.toArray },toks:=t' }:=
 I.laid (λ_ _ q=>ZG _ q) (ZH _) ⟨hz,aH,0,hv,Qaq _ rfl⟩
theorem Inv.fresh(I:Inv X pins σ H s):H s.heap.objs.size=none:=I.b8.fresh (ZH _)
theorem Inv.qN(I:Inv X pins σ H s)(hH:H l=some (.lst xs)):(xs:)<=sizeLine/\∃(aH:List Value) (n:Nat),Vals xs aH/\(xs:)=(aH:)/\s.heap.get? l=some { cls:= .type "list",data:= .seq aH.toArray n }:=by
 obtain ⟨z,aH,n,r,e⟩:=I.b8 l _ hH
 exact ⟨z,aH,n,r,(r:),e⟩
theorem yz{n:Nat}(h:n<=sizeLine):Builtin.List.listTooLong n=false:=by
 unfold Builtin.List.listTooLong
 exact decide_eq_false ()
end
section
variable{X:Cx}
inductive uW(x:V)(vs:List V)(H:Hp)(Q:VK):Prop
 | mk (l:_) (xs:_) (y:_) (_:x= .ref l) (_:vs=[y]) (_:H l=some (.lst xs)) (_:(xs:)<sizeLine) (_:Q .eX (upd H l (.lst (xs++[y])))):uW x vs H Q
def Kr:V->List V->Hp->VK->Prop:=uW
theorem gq:QC X "list.append" Kr:=by
 walk_at"t"
 obtain ⟨l,xs,y,rfl,rfl,hH,hz,q⟩:=h
 cases rx
 obtain ⟨u,rfl,ru⟩:=rv.one
 walk_at"o"
 refine call_meets F.slot_list_append ⟨_,e,rfl⟩ F.entry_list_append (F.args_list_append_2 _ _) (PySem.list_append l aH.toArray n u (by rw[Qag];lia)) ⟨e,?_⟩
 refine ⟨.eX,_,I.DW (its':=aH++[u]) hH e (by simp) (r.append (.cons ru .nil)) ?_,rfl,q⟩
 rw[QD,List.length_singleton]
 lia
inductive uX(x:V)(vs:List V)(H:Hp)(Q:VK):Prop
 | mk (l:_) (b:_) (xs:_) (zs:_) (_:x= .ref l) (_:vs=[.ref b]) (_:H l=some (.lst xs)) (_:H b=some (.lst zs)) (_:(xs:)+(zs:)<=sizeLine) (_:Q .eX (upd H l (.lst (xs++zs)))):uX x vs H Q
def Ks:V->List V->Hp->VK->Prop:=uX
theorem kF:QC X "list.extend" Ks:=by
 walk_at"t"
 obtain ⟨l,b,xs,zs,rfl,rfl,hH,hB,hz,q⟩:=h
 cases rx
 obtain ⟨u,rfl,ru⟩:=rv.one
 cases ru
 walk_at"o"
 obtain ⟨z2,Ay,n2,r2,Fq,e2⟩:=I.qN hB
 have hsz:aH.toArray.size+Ay.toArray.size<=sizeLine:=by rw[Qag,Qag];lia
 have Gd: ¬(!aH.toArray.isEmpty&&Builtin.List.listTooLong (aH.toArray.size+Ay.toArray.size))=true:=by
  rw[yz hsz,Bool.and_false]
  exact Qan
 refine call_meets F.slot_list_extend ⟨_,e,rfl⟩ F.entry_list_extend (F.args_list_extend_2 _ _)
  (AutoSeq1.list_extend_list_list_0 l aH.toArray n b Ay.toArray n2 Gd (by rw[Qag];lia) ()) ⟨e,e2,?_⟩
 refine ⟨.eX,_,I.DW (its':=aH++Ay) hH e (by simp) (r.append r2) ?_,rfl,q⟩
 rw[QD]
 lia
inductive Ge(x:V)(vs:List V)(H:Hp)(Q:VK):Prop
 | mk (l:_) (xs:_) (y:_) (_:x= .ref l) (_:vs=[]) (_:H l=some (.lst xs)) (_:xs[(xs:) - 1]? =some y) (_:Q y (upd H l (.lst xs.dropLast))):Ge x vs H Q
def W_:V->List V->Hp->VK->Prop:=Ge
theorem N8:QC X "list.pop" W_:=by
 walk_at"t"
 obtain ⟨l,xs,y,rfl,rfl,hH,hy,q⟩:=h
 cases rx
 have Az:=rv.zero
 subst Az
 walk_at"o"
 obtain ⟨u,hu,ru⟩:=r.get hy
 have hy':aH.toArray[aH.toArray.size - 1]? =some u:=by
  show aH.toArray[(aH:) - 1]? =some u
  rw[<-Qba, <-hl]
  exact hu
 refine call_meets F.slot_list_pop ⟨_,e,rfl⟩ F.entry_list_pop (F.args_list_pop_1 _) (MeetsSeq.list_pop_last l aH.toArray n u hy' (by rw[Qag];lia)) ⟨e,?_⟩
 refine ⟨y,_,I.DW (its':=aH.dropLast) hH e ?_ r.dropLast ?_,ru,q⟩
 ·show aH.toArray.eraseIdxIfInBounds (aH.toArray.size - 1)=aH.dropLast.toArray
  rw[Qag,List.eraseIdxIfInBounds_toArray,Ax]
 ·rw[Qfy]
  lia
inductive yA(x:V)(vs:List V)(H:Hp)(Q:VK):Prop
 | mk (l:_) (xs:_) (i:_) (k:_) (y:_) (_:x= .ref l) (_:vs=[.int i]) (_:H l=some (.lst xs)) (_: -(2 ^ 63)<=i) (_:i<2 ^ 63) (_:seqIndex? i (xs:)=some k) (_:xs[k]? =some y) (_:Q y (upd H l (.lst (xs.eraseIdx k)))):yA x vs H Q
def N9:V->List V->Hp->VK->Prop:=yA
theorem qO:QC X "list.pop" N9:=by
 walk_at"t"
 obtain ⟨l,xs,i,k,y,rfl,rfl,hH,h1,h2,hk,hy,q⟩:=h
 cases rx
 obtain ⟨u,rfl,ru⟩:=rv.one
 obtain ⟨t,rfl⟩:=ru
 walk_at"o"
 obtain ⟨w,hw,tX⟩:=r.get hy
 refine call_meets F.slot_list_pop ⟨_,e,rfl⟩ F.entry_list_pop (F.args_list_pop_2 _ _)
  (MeetsSeq.list_pop_at l aH.toArray n i t k w (fitsIndex_both h1 h2) (by rw[Qag, <-hl];exact hk) (by rw[<-Qba];exact hw) (by rw[Qag];lia)) ⟨e,?_⟩
 refine ⟨y,_,I.DW (its':=aH.eraseIdx k) hH e ?_ (r.eraseIdx k) ?_,tX,q⟩
 ·show aH.toArray.eraseIdxIfInBounds k=(aH.eraseIdx k).toArray
  rw[List.eraseIdxIfInBounds_toArray]
 ·have:=uV xs k
  lia
inductive qP(x:V)(vs:List V)(H:Hp)(Q:VK):Prop
 | mk (l:_) (xs:_) (_:x= .ref l) (_:vs=[]) (_:H l=some (.lst xs)) (_:Q .eX (upd H l (.lst xs.reverse))):qP x vs H Q
def Gf:V->List V->Hp->VK->Prop:=qP
theorem AA:QC X "list.reverse" Gf:=by
 walk_at"t"
 obtain ⟨l,xs,rfl,rfl,hH,q⟩:=h
 cases rx
 have Az:=rv.zero
 subst Az
 walk_at"o"
 refine call_meets F.slot_list_reverse ⟨_,e,rfl⟩ F.entry_list_reverse (F.args_list_reverse_1 _) (AutoSeq1.list_reverse_list_0 l aH.toArray n (by rw[Qag];lia)) ⟨e,?_⟩
 refine ⟨.eX,_,I.DW (its':=aH.reverse) hH e (by simp) r.reverse ?_,rfl,q⟩
 rw[Qat]
 lia
inductive Gg(x:V)(y:V)(H:Hp)(Q:VK):Prop
 | mk (l:_) (b:_) (xs:_) (zs:_) (_:x= .ref l) (_:y= .ref b) (_:H l=some (.lst xs)) (_:H b=some (.lst zs)) (_:(xs:)+(zs:)<=sizeLine) (_:∀p,H p=none->Q (.ref p) (upd H p (.lst (xs++zs)))):Gg x y H Q
def Xa:R2:=Gg
theorem N_:jv X (binaryOp .Add) Xa:=by
 walk_at"a"
 obtain ⟨l,b,xs,zs,rfl,rfl,hH,hB,hz,q⟩:=h
 cases rx
 cases ry
 walk_at"o"
 obtain ⟨z2,Ay,n2,r2,Fq,e2⟩:=I.qN hB
 refine PySem.P.add_list e e2 ?_ (by rw[Qag,Qag];lia)
 have ea:aH.toArray++Ay.toArray=(aH++Ay).toArray:=by simp
 rw[ea]
 exact ⟨.ref _,_,I.Th (t':=s.toks) (r.append r2) (by rw[QD];lia),rfl,q _ I.fresh⟩
inductive Gh(x:V)(y:V)(H:Hp)(Q:VK):Prop
 | mk (l:_) (k:_) (xs:_) (_:x= .ref l) (_:y= .int k) (_:H l=some (.lst xs)) (_: -(2 ^ 63)<=k) (_:k<2 ^ 63) (_:(xs:)*k.toNat<=sizeLine) (_:∀p,H p=none->Q (.ref p) (upd H p (.lst (List.replicate k.toNat xs).flatten))):Gh x y H Q
def Xb:R2:=Gh
theorem len_rep{α:Type}(xs:List α)(k:Nat):(List.replicate k xs).flatten.length=k*(xs:):=by
 induction k with
 | zero=>simp
 | succ k ih=>rw[Qc9,Qb6,QD,ih,Qd2,Nat.add_comm]
theorem Oa:jv X (binaryOp .Mult) Xb:=by
 walk_at"a"
 obtain ⟨l,k,xs,rfl,rfl,hH,h1,h2,hz,q⟩:=h
 cases rx
 obtain ⟨t,rfl⟩:=ry
 walk_at"o"
 have hlen:aH.toArray.size*k.toNat<=sizeLine:=by rw[Qag, <-hl];exact hz
 have Xc: ¬aH.toArray.size*k.toNat>(2 ^ 63 - 1) / 8:=by
  have:(sizeLine:Nat)<=(2 ^ 63 - 1) / 8:=by decide
  lia
 have Xd: ¬(!Builtin.List.listFitsIndex k)=true:=by
  rw[fitsIndex_both h1 h2]
  exact Qan
 have Gd: ¬Builtin.List.listTooLong (aH.toArray.size*k.toNat)=true:=by
  rw[yz hlen]
  exact Qan
 have Xe:List.foldl (λx1 x2=>x1++x2) #[] (List.replicate (if aH.toArray.isEmpty=true then 0 else k.toNat) aH.toArray)=(List.replicate k.toNat aH).flatten.toArray:=by
  have f0:∀m:Nat,List.foldl (λx1 x2=>x1++x2) #[] (List.replicate m aH.toArray)=(List.replicate m aH).flatten.toArray:=λm=>by
   have:=foldl_rep aH m []
   rw[Qec]at this
   exact this
  rw[f0]
  cases aH with
  | nil=>simp
  | cons a r'=>rw[if_neg (by simp)]
 refine wpAny_binaryOp_repeat_ref (T:="list") (U:="int") ∅ ⟨_,e,rfl⟩ (λs'=>typeIs_int s' k t) noFill_list_mul F.fills_int_mul F.slot_int_rmul repeat_list F.slot_int_index.lookup
  (call_meets F.slot_int_rmul (typeIs_int s k t) F.entry_int_rmul (F.args_int_rmul_2 _ _) (int___rmul___int_list k t l aH.toArray n)
   ⟨e,rfl,⟨_,e,rfl⟩,call_meets F.slot_list_mul ⟨_,e,rfl⟩ F.entry_list_mul (F.args_list_mul_2 _ _) (AutoListH.list___mul___list_int_3 l aH.toArray n k t Xd Xc Gd) ⟨e,?_⟩⟩)
 rw[Xe]
 exact ⟨.ref _,_,I.Th (t':=s.toks) (r.rep k.toNat) (by rw[len_rep,Qb5];exact hz),rfl,q _ I.fresh⟩
end
end L2
namespace ZC
open PySem PySem.W PySem.Calls PyProof.Rows
theorem pV{P:Params}{h:Heap}:∀(ns:List Int) (vs:List Value),WellAll P h vs (ns.map WData.int)->IntsAre vs ns:=by
 intro ns
 induction ns with
 | nil=>
  intro vs w
  rw[List.map_nil]at w
  cases w
  exact .nil
 | cons n ns ih=>
  intro vs w
  rw[Qa0]at w
  cases w with
  | cons a b=>
   cases a
   exact .cons _ _ (ih _ b)
theorem DX{l:OpenLaw}{n:Nat}(hn:l.most=some n){P:Params}{h:Heap}{args:List WData}{vals:List Value}
  (Kt:l.row.toRowW.claim.pre args=true) (uY:WellAll P h vals args):
  ∃a vs ns,vals=[Value.ref a]/\args=[WData.list (ns.map WData.int)]/\h.get? a=some { cls:= .type "list",data:= .seq vs.toArray }/\IntsAre vs ns/\(ns:)<=n:=by
 have hsh:WShape.hasAll [] args [.list .int]=true:=(pre_splitW Kt).1
 have hc:l.pre.holds [] { args:=args }=true:=(pre_splitW Kt).2
 obtain ⟨d,r,rfl,h1,h2⟩:=hasAllW_cons hsh
 obtain rfl:=hasAllW_nil h2
 obtain ⟨xs,rfl,h3⟩:=hasW_list h1
 obtain ⟨ns,rfl⟩:=items_int h3
 have hlen:(ns:)<=n:=by
  unfold OpenLaw.pre at hc
  have h4:(WTm.not (.lt (.lit (.int (n:Int))) (.len (.arg 0)))).holds [] { args:=[.list (ns.map .int)] }=true:=by
   have h4:=(holds_andW hc).1
   rw[hn]at h4
   exact h4
  have h5:=condW_of h4 (w_not (w_lt w_lit (w_len_list (w_arg rfl))))
  rw[kb]at h5
  refine Nat.le_of_not_lt λq=>?_
  have q':(n:Int)<(((ns:):Nat):Int):=by lia
  first
   |(rw[decide_eq_true q']at h5;exact absurd h5 ∅)
   |(simp at h5;lia)
 cases uY with
 | cons w1 w2=>
  cases w2
  cases w1 with
  | list ho Ob=>exact ⟨_,_,ns,rfl,rfl,ho,pV ns _ Ob,hlen⟩
theorem DY(l:OpenLaw)(args:List WData):l.row.toRowW.claim.post args (.bool true) args=true:=
 postW_of (r:=l.row.toRowW) (X:=(true==true))
  (show WShape.has [] (.bool true) .bool=true by first | rfl | decide | simp[WShape.has,WShape.arms,WShape.armsAll])
  (show (WTm.eq .res (.lit (.bool true))).value [] { args:=args,res:=some (.bool true),after:=args }=some (.bool (true==true)) from w_eq_bool (w_res rfl) w_lit) rfl
theorem yB{l:OpenLaw}{n:Nat}{q:Program}{loose:List Str}{XP:(Str->Option Value)->Heap->Prop}{YP:World->Heap->Prop}{d:DefRec}
  (hn:l.most=some n) (Ti:d.params.defaults=[])
  (call:∀(w:World) (s₀ s₁:Shared) (mg mb:Str->Option Value) (fa:Addr) (o:Obj) (pm cd doc:Value) (a:Addr) (vs:List Value) (ns:List Int),
   Ground q loose [] XP w s₀ mg mb s₁.heap->YP w s₁.heap->
   s₁.heap.get? fa=some o->o.data= .func (docDef d.name d.params d.body d.scope pm cd doc)->s₁.heap.CodeRec cd d.name->mg d.name=some (.ref fa)->
   s₁.heap.get? a=some { cls:= .type "list",data:= .seq vs.toArray }->IntsAre vs ns->(ns:)<=n->s₁.gens= #[]->
   codeAny (model l.prog w) callerA (.call (.ref fa) ⟨[.ref a],[]⟩) (λr s'=>r= .ok (.ret (.bool true))/\OldK s₁.heap s'.heap/\s'.os=s₁.os/\AllBare s'.gens) s₁):
  WalkO q loose XP YP l.row.toRowW d [] (λf vs=>PySem.call f vs):=by
 intro w s₀ s₁ mg mb G Y fa o pm cd doc dV kV ho hd pR hD hmg hg args vals as Kt aac hrd uY ZD
 obtain rfl:dV= .none:=Dflts.none hD Ti
 obtain rfl:kV= .none:=Dflts.noKw hD
 obtain ⟨a,vs,ns,rfl,rfl,Oc,hints,hlen⟩:=DX hn Kt uY
 refine enter_call (codeAny_mono (call w s₀ s₁ mg mb fa o pm cd doc a vs ns G Y ho (fd_plain hd) pR hmg Oc hints hlen hg) λr s' hq=>?_)
 obtain ⟨rfl,h2,h3,h4⟩:=hq
 exact ⟨.inl ⟨.bool true,.bool true,[],rfl,λ_=>rfl,.bool true,DY l _,λ_=>⟨List.Pairwise.nil,λ_ hm=>(nomatch hm)⟩⟩,h2,h3,h4⟩
end ZC
namespace L2
open PySem PySem.Spec PyProof.Rows
theorem uZ:∀{vs:List Value} {ns:List Int},IntsAre vs ns->Vals (ns.map V.int) vs
 | _,_,.nil=> .nil
 | _,_,.cons n t h=> .cons ⟨t,rfl⟩ (uZ h)
def Oe(H:Hp):Prop:=∀b,H b=none\/∃o xs,H b=some (.B4 o (.lst xs))
theorem Gi{P:Program}{w:World}{K:c7}{mg mb:Str->Option Value}{CX:DS}{k:Nat}{fa a:Addr}{fd:FuncData}{x:Str}{sp:Sp}{s₁:Shared}{vs:List Value}{ns:List Int}
  (KX:K.In s₁.heap) (VG:s₁.heap.Ns mainGlobals mg) (hb:s₁.heap.Ns builtinsNs mb) (hbb:∀x:Str,x≠"__name__"->mb x=bootBuiltins x) (Xf:s₁.heap.NoLimit) (hg:s₁.gens= #[])
  (ha:s₁.heap.get? a=some { cls:= .type "list",data:= .seq vs.toArray }) (hi:IntsAre vs ns) (hl:(ns:)<=sizeLine) (hr:eI k callerA)
  (F:∀base:Heap,K.In base->base.Ns mainGlobals mg->bo P w K mg base CX k fa fd [x] sp) (Tj:∀(s:Shared) (u:Value),BindsTo s fd ⟨[u],[]⟩ [(x,u)])
  (MG:∀H:Hp,Oe H->bB K H a (ns.map V.int)->sp [.ref a] H (λv _=>v= .bl true) λ_ _ _=>False)
  (Xg:∀H e s',CX [] H s₁ (λ_ _ _=>False) e s'->False):
  codeAny (model P w) callerA (.call (.ref fa) ⟨[.ref a],[]⟩) (λr s'=>r= .ok (.ret (.bool true))/\OldK s₁.heap s'.heap/\s'.os=s₁.os/\AllBare s'.gens) s₁:=by
 have rv:=uZ hi
 have Xh:=(hi:)
 -- from an abstract heap in ZE nothing but JK script may be tracked
 have core:∀H:Hp,Oe H->bB K H a (ns.map V.int)->lU P w H s₁.heap->(∀b,H b≠none->b=a)->(H a≠none->K.lookup a=none)->
   codeAny (model P w) callerA (.call (.ref fa) ⟨[.ref a],[]⟩) (λr s'=>r= .ok (.ret (.bool true))/\OldK s₁.heap s'.heap/\s'.os=s₁.os/\AllBare s'.gens) s₁:=by
  intro H hO hS b8 hA hK
  have Cg:∀{b:Addr} {o:Obj},s₁.heap.get? b=some o->H b=none->(wx s₁.heap H).get? b=some o:=λe n=>FG e n
  have S_:∀{b:Addr} {o:Obj} {es:Array DictEntry} {ep:Nat},s₁.heap.get? b=some o->o.data= .dict es ep->H b=none:=λ{b o es ep} e d=>by
   cases q:H b with
   | none=>rfl
   | some u=>
    have e':b=a:=hA b (by rw[q];simp)
    subst e'
    rw[ha]at e;cases e
    have d':Data.seq vs.toArray _=Data.dict es ep:=d
    cases d'
  have VH:∀{b:Addr} {m:Str->Option Value},s₁.heap.Ns b m->(wx s₁.heap H).Ns b m:=λ{b m} ⟨o,es,ep,e,d,r⟩=>⟨o,es,ep,Cg e (S_ e d),d,r⟩
  have ZF:K.In (wx s₁.heap H):=λb o e=>Cg (KX b o e) (by
   cases q:H b with
   | none=>rfl
   | some u=>
    have e':b=a:=hA b (by rw[q];simp)
    subst e'
    rw[hK (by rw[q];simp)]at e;cases e)
  have hM:Mod K mg (wx s₁.heap H):=⟨ZF,VH VG,⟨mb,VH hb,hbb⟩,let ⟨mc,h1,h2⟩:=Xf;⟨mc,VH h1,h2⟩⟩
  have e0:Ar P w K mg (wx s₁.heap H) callerA [] s₁ H:=⟨rfl,hM,λb o e=>J6 e,Nat.le_of_eq (DI _ _),trivial,λb hb=>absurd (show b∈([]:List Addr) from hb) (by simp),b8,.of_eq hg⟩
  refine codeAny_mono ((F _ ZF (VH VG)).run callerA [] s₁ H ⟨[.ref a],[]⟩ [.ref a] [.ref a] _ _ hr e0 (Tj s₁ (.ref a)) (.cons rfl .nil) (MG H hO hS)) λr s' h=>?_
  cases r with
  | error e=>exact (Xg H e s' h).elim
  | ok fl=>
   cases fl with
   | next=>exact False.elim h
   | brk=>exact False.elim h
   | cont=>exact False.elim h
   | ret u=>
    obtain ⟨v,H',os,bare,un,Xi,r',q⟩:=h
    have q':v= .bl true:=q
    subst q'
    obtain rfl:u=Value.bool true:=r'
    refine ⟨rfl,OldK.of_keep λb o e=>?_,os,bare⟩
    cases q:H b with
    | none=>exact un.keep b o e q (by intro z;exact absurd (show b∈([]:List Addr) from z) (by simp)) (by simp)
    | some u=>
     rcases hO b with z | ⟨ob,xs,z⟩
     ·rw[q]at z;cases z
     ·have z2:=un.qG b ob _ z
      obtain ⟨e1,_⟩:=b8 b _ z
      obtain ⟨e2,_⟩:=Xi b _ z2
      rw[e]at e1;cases e1
      exact e2
 cases hk:K.lookup a with
 | some o=>
  -- JK script is one of JK Gb own objects
  have e:=KX a o hk
  rw[ha]at e
  cases e
  refine core (λ_=>none) (λ_=> .inl rfl) (.inr ⟨_,vs.toArray,_,hk,rfl,rfl,rfl,by rw[Qag,Xh];exact hl,by simpa using rv⟩) (λb u z=>by have z':(none:Option HO)=some u:=z;cases z') (λb z=>absurd rfl z) λz=>absurd rfl z
 | none=>
  refine core (λb=>if b=a then some (.B4 { cls:= .type "list",data:= .seq vs.toArray } (.lst (ns.map V.int))) else none) (λb=>?_) (.inl (.inr ⟨{ cls:= .type "list",data:= .seq vs.toArray },if_pos rfl⟩)) (λb u z=>?_) (λb z=>?_) λ_=>hk
  ·by_cases hb:b=a
   ·exact .inr ⟨_,_,if_pos hb⟩
   ·exact .inl (if_neg hb)
  ·by_cases hb:b=a
   ·have z':=(if_pos hb).symm.trans z
    cases z'
    subst hb
    exact ⟨ha,by rw[kb];exact hl,vs,_,rv,ha⟩
   ·have z':=(if_neg hb).symm.trans z
    cases z'
  ·by_cases hb:b=a
   ·exact hb
   ·exact absurd (if_neg hb) z
theorem Ci{l:PySem.W.OpenLaw}{n k:Nat}{q:Program}{loose:List Str}{XP:(Str->Option Value)->Heap->Prop}{YP:World->Heap->Prop}{d:DefRec}{K:Params->c7}{CX:World->DS}{sp:World->Sp}{x:Str}
  (hn:l.most=some n) (tY:n<=sizeLine) (Ti:d.params.defaults=[]) (hr:eI k callerA)
  (hY:∀(w:World) (h:Heap),YP w h->(K w.params).In h)
  (F:∀(w:World) (mg:Str->Option Value) (fa:Addr) (h:Heap),(K w.params).In h->h.Ns mainGlobals mg->mg d.name=some (.ref fa)->
   ∃fd:FuncData,(∀(s:Shared) (u:Value),BindsTo s fd ⟨[u],[]⟩ [(x,u)])/\
    ∀base:Heap,(K w.params).In base->base.Ns mainGlobals mg->bo l.prog w (K w.params) mg base (CX w) k fa fd [x] (sp w))
  (MG:∀(w:World) (H:Hp) (a:Addr) (ns:List Int),(ns:)<=n->Oe H->bB (K w.params) H a (ns.map V.int)->sp w [.ref a] H (λv _=>v= .bl true) λ_ _ _=>False)
  (Xg:∀(w:World) (H:Hp) (s:Shared) (e:Value) (s':Shared),CX w [] H s (λ_ _ _=>False) e s'->False):
  PySem.W.WalkO q loose XP YP l.row.toRowW d [] (λf vs=>PySem.call f vs):=by
 refine ZC.yB hn Ti λw s₀ s₁ mg mb fa o pm cd doc a vs ns G Y ho hd pR hmg Oc hints hlen hg=>?_
 have KX:=hY w _ Y
 obtain ⟨fd,hb,hF⟩:=F w mg fa _ KX G.T.g hmg
 exact Gi KX G.T.g G.T.b G.T.builtins G.T.nolimit hg Oc hints (Qbh hlen tY) hr hF hb (λH hO hS=>MG w H a ns hlen hO hS) λH e s'=>Xg w H s₁ e s'
noncomputable def fZ(s:Stmt):Arguments:=match s with
 | .FunctionDef _ a _ _ _ _ _ _ _ _=>a
 | _=>{ posonlyargs:=[],args:=[],vararg:=none,kwonlyargs:=[],kw_defaults:=[],kwarg:=none,defaults:=[] }
noncomputable def ft(s:Stmt):List Stmt:=match s with
 | .FunctionDef _ _ b _ _ _ _ _ _ _=>b
 | _=>[]
noncomputable def au(s:Stmt):Scope:=match s with
 | .FunctionDef _ _ _ _ _ _ sc _ _ _=>sc
 | _=>{ kind:= .function,names:=[],isGenerator:=false,isCoroutine:=false }
abbrev dS:DS:=λ_ _ _ _ _ _=>False
abbrev E0:XK:=λ_ _ _=>False
theorem gP{X:Cx}:Passes dS X E0:=λ_ _ _ _ _ _ _ h=>h.elim
structure Ku(K:c7)(x qual:Str)(st:Stmt)(f:Addr)(fd:FuncData):Prop where
 ex:∃(oc:Value) (od:Option Addr) (kV doc pm:Value) (an:Option Addr) (cw ct:Value) (JL:Array (Option Value)),
  fd=PySem.W.fnOf x qual (fZ st) (ft st) (au st) .none kV doc pm an cw ct/\K.lookup f=some ⟨oc,od,.func fd,JL⟩/\PySem.W.codeIn K cw qual=true
 kp:PySem.W.keepIn K (.ref f)=true
section
variable{P:Program}{w:World}{K:c7}{mg:Str->Option Value}{base:Heap}
theorem Ku.ok{x qual:Str}{st:Stmt}{f:Addr}{fd:FuncData}{N ps:List Str}{k:Nat}{sp:Sp}(F:Ku K x qual st f fd)(S:aD N ps (au st))(len:∀vs H Q E,sp vs H Q E->(vs:)=(ps:))
  (FW:∀(cw:Value) (A:Around) (outer:List Env) (s:Shared) (H:Hp) (vs:List V) (Q:VK) (E:XK),eI k (A.deeper (envOfC qual (au st) s.heap.objs.size f cw))->sp vs H Q E->
   ∃t,yt (DT dS P w K mg base N qual (au st) f cw A outer s H E).VC (ft st) t/\t { nx:=λ_ H'=>Q .eX H',rt:=Q } (start N vs) H):bo P w K mg base dS (k+1) f fd ps sp:=by
 obtain ⟨oc,od,kV,doc,pm,an,cw,ct,JL,rfl,lk,pR⟩:=F.ex
 refine Ta lk pR S len λA outer s H vs Q E hr MG=>?_
 obtain ⟨t,h,q⟩:=FW cw A outer s H vs Q E hr MG
 exact ⟨t,h.VC,q⟩
theorem Ku.binds{x qual:Str}{st:Stmt}{f:Addr}{fd:FuncData}{ps:List Str}(F:Ku K x qual st f fd)
  (h:∀(kV doc pm:Value) (an:Option Addr) (cw ct:Value) (us:List Value),(us:)=(ps:)->bindArgs (PySem.W.fnOf x qual (fZ st) (ft st) (au st) .none kV doc pm an cw ct) ⟨us,[]⟩=pure (ps.zip us)):Binds K fd ps []:=by
 obtain ⟨oc,od,kV,doc,pm,an,cw,ct,JL,rfl,lk,pR⟩:=F.ex
 exact .all (h kV doc pm an cw ct)
theorem AB{x qual:Str}{st:Stmt}{f:Addr}{oc:Value}{od an:Option Addr}{JL:Array (Option Value)}{kV doc pm cw ct:Value}(l:K.lookup f=some ⟨oc,od,.func (PySem.W.fnOf x qual (fZ st) (ft st) (au st) .none kV doc pm an cw ct),JL⟩)
  (c:PySem.W.codeIn K cw qual=true) (k:PySem.W.keepIn K (.ref f)=true):Ku K x qual st f (PySem.W.fnOf x qual (fZ st) (ft st) (au st) .none kV doc pm an cw ct):=⟨⟨oc,od,kV,doc,pm,an,cw,ct,JL,rfl,l,c⟩,k⟩
end
theorem qQ{A:Around}{k:Nat}(hr:eI k A):A.units+1<cLine:=Qbm (Nat.add_le_add_left (by decide:1<=64) _) hr.units
section
variable{X:Cx}
theorem pv(i:Nat){x:Str}{pos:Pos}(hN:X.N[i]? =some x:=by rfl)(hv:SA X.env.scope x:=by first | exact Or.inl rfl | exact Or.inr (Or.inl rfl) | exact Or.inr (Or.inr rfl))(hd:(x==("__debug__":Str))=false:=by decide)
  (pR:(x==("__classdict__":Str))=false:=by decide):PE X (.Name x pos) (NI i):=NJ hN hv hd pR
end
theorem Kv{A B:Prop}(h:B):if false=true then A else B:=by
 rw[if_neg Qan]
 exact h
theorem Xj{A B:Prop}(h:A):if true=true then A else B:=by
 rw[if_pos rfl]
 exact h
theorem cM{c A B:Prop}[Decidable c](h1:c->A)(h2: ¬c->B):if c then A else B:=by
 by_cases h:c
 ·rw[if_pos h]
  exact h1 h
 ·rw[if_neg h]
  exact h2 h
def aq(H H':Hp):Prop:=∀b o,H b=some o->H' b=some o
theorem aq.refl(H:Hp):aq H H:=λ_ _ h=>h
theorem aq.trans{H H1 H2:Hp}(a:aq H H1)(b:aq H1 H2):aq H H2:=λc o h=>b c o (a c o h)
theorem aq.free{H H':Hp}(e:aq H H'){l:Addr}(h:H' l=Option.none):H l=Option.none:=by
 cases q:H l with
 | none=>rfl
 | some o=>
  rw[e l o q]at h
  cases h
noncomputable def jx(env:Env):List (Str×NameKind)->List (Str×Addr)->List (Str×Addr)
 | [],acc=>acc
 |(n,k)::r,acc=>jx env r (if k== .free then (match env.cells.lookup n with | some a=>(n,a)::acc | none=>acc) else acc)
theorem fQ{env:Env}:∀(names:List (Str×NameKind)) (acc:List (Str×Addr)),(∀y∈names,y.2= .free->∃c,env.cells.lookup y.1=some c)->
  (forIn names acc λ(x:Str×NameKind) (cs:List (Str×Addr))=>(if (x.2==NameKind.free)=true then do let a <-cellOf env x.1;pure (ForInStep.yield ((x.1,a)::cs)) else pure (ForInStep.yield cs):Sem (ForInStep (List (Str×Addr)))))=pure (jx env names acc)
 | [],acc,_=>rfl
 |(n,k)::r,acc,h=>by
  rw[Qer]
  have hr:∀y∈r,y.2= .free->∃c,env.cells.lookup y.1=some c:=λy hy=>h y (Qaf _ hy)
  cases hk:(k==NameKind.free) with
  | false=>
   have e1:jx env ((n,k)::r) acc=jx env r acc:=by
    walk_at"P"
    rw[hk,if_neg Qan]
   rw[e1, <-fQ r acc hr]
   simp only[hk,Qcm,if_false,pure_bind]
  | true=>
   obtain ⟨c,hc⟩:=h (n,k) Qai (by simpa using hk)
   have e1:jx env ((n,k)::r) acc=jx env r ((n,c)::acc):=by
    have tV:env.cells.lookup n=some c:=hc
    walk_at"P"
    rw[hk,tV,if_pos rfl]
   have e2:cellOf env n=pure c:=by
    have tV:env.cells.lookup n=some c:=hc
    unfold cellOf
    rw[tV]
   rw[e1, <-fQ r ((n,c)::acc) hr]
   simp only[hk,if_true,e2,pure_bind]
theorem lh{scope:Scope}{env:Env}(h:∀y∈scope.names,y.2= .free->∃c,env.cells.lookup y.1=some c):closureFor scope env=pure (jx env scope.names []):=by
 have e:=fQ scope.names [] h
 simp only[closureFor]
 rw[e]
 rfl
theorem nW{env:Env}{x:Str}{c:Addr}:∀(names:List (Str×NameKind)) (acc:List (Str×Addr)),(∀y d,acc.lookup y=some d->env.cells.lookup y=some d)->(jx env names acc).lookup x=some c->env.cells.lookup x=some c
 | [],acc,ha,h=>ha x c h
 |(n,k)::r,acc,ha,h=>by
  refine nW r _ (λy d q=>?_) h
  by_cases hk:(k==NameKind.free)=true
  ·rw[if_pos hk]at q
   cases e:env.cells.lookup n with
   | none=>rw[e]at q;exact ha y d q
   | some a=>
    rw[e]at q
    have q':List.lookup y ((n,a)::acc)=some d:=q
    rw[Qbz]at q'
    cases hy:(y==n) with
    | true=>
     rw[hy]at q'
     have:y=n:=by simpa using hy
     subst this
     rw[e];exact q'
    | false=>rw[hy]at q';exact ha y d q'
  ·rw[if_neg hk]at q;exact ha y d q
theorem yC{env:Env}{x:Str}:∀(names:List (Str×NameKind)) (acc:List (Str×Addr)),(∃c,acc.lookup x=some c)->∃c,(jx env names acc).lookup x=some c
 | [],acc,h=>h
 |(n,k)::r,acc,⟨c,hc⟩=>by
  refine yC r _ ?_
  by_cases hk:(k==NameKind.free)=true
  ·rw[if_pos hk]
   cases e:env.cells.lookup n with
   | none=>exact ⟨c,hc⟩
   | some a=>
    show ∃c,List.lookup x ((n,a)::acc)=some c
    rw[Qbz]
    cases hy:(x==n) with
    | true=>exact ⟨a,rfl⟩
    | false=>exact ⟨c,hc⟩
  ·rw[if_neg hk];exact ⟨c,hc⟩
theorem qR{env:Env}{x:Str}:∀(names:List (Str×NameKind)) (acc:List (Str×Addr)),(∀y∈names,y.2= .free->∃c,env.cells.lookup y.1=some c)->names.lookup x=some .free->∃c,(jx env names acc).lookup x=some c
 | [],acc,_,h=>by simp at h
 |(n,k)::r,acc,hf,h=>by
  have hr:∀y∈r,y.2= .free->∃c,env.cells.lookup y.1=some c:=λy hy=>hf y (Qaf _ hy)
  rw[Qbz]at h
  cases hy:(x==n) with
  | true=>
   rw[hy]at h
   have hk:k= .free:=Qad h
   subst hk
   have hx:x=n:=by simpa using hy
   subst hx
   obtain ⟨c,hc⟩:=hf (x,.free) Qai rfl
   have tV:env.cells.lookup x=some c:=hc
   refine yC r _ ⟨c,?_⟩
   rw[if_pos (show (NameKind.free==NameKind.free)=true by decide),tV]
   show List.lookup x ((x,c)::acc)=some c
   rw[Qbz]
   simp
  | false=>
   rw[hy]at h
   exact qR r _ hr h
theorem mK{env:Env}:∀{names:List (Str×NameKind)} {x:Str},names.lookup x=some .free->
  ((names.map λ(n,k)=>if (k==NameKind.free&&env.scope.kind== .function&&env.kindOf n==some .cell) then (n,NameKind.cell) else (n,k)).lookup x=some .cell\/
   (names.map λ(n,k)=>if (k==NameKind.free&&env.scope.kind== .function&&env.kindOf n==some .cell) then (n,NameKind.cell) else (n,k)).lookup x=some .free)
 | [],_,h=>by simp at h
 |(n,k)::r,x,h=>by
  have ih:= @mK env r x
  show (List.lookup x ((if (k==NameKind.free&&env.scope.kind== .function&&env.kindOf n==some .cell)=true then (n,NameKind.cell) else (n,k))::_)=_\/List.lookup x ((if (k==NameKind.free&&env.scope.kind== .function&&env.kindOf n==some .cell)=true then (n,NameKind.cell) else (n,k))::_)=_)
  cases hx:x==n with
  | true=>
   simp only[Qbz,hx]at h
   cases h
   by_cases hc:((NameKind.free==NameKind.free)&&env.scope.kind== .function&&env.kindOf n==some .cell)=true
   ·rw[if_pos hc];simp[Qbz,hx]
   ·rw[if_neg hc];simp[Qbz,hx]
  | false=>
   simp only[Qbz,hx]at h
   by_cases hc:(k==NameKind.free&&env.scope.kind== .function&&env.kindOf n==some .cell)=true
   ·rw[if_pos hc];simp only[Qbz,hx];exact ih h
   ·rw[if_neg hc];simp only[Qbz,hx];exact ih h
theorem mL{env:Env}:∀{names:List (Str×NameKind)} {x:Str},(∀y∈names,y.2≠ .cell)->
  ((names.map λ(n,k)=>if (k==NameKind.free&&env.scope.kind== .function&&env.kindOf n==some .cell) then (n,NameKind.cell) else (n,k)).lookup x=some .cell\/
   (names.map λ(n,k)=>if (k==NameKind.free&&env.scope.kind== .function&&env.kindOf n==some .cell) then (n,NameKind.cell) else (n,k)).lookup x=some .free)->names.lookup x=some .free
 | [],_,_,h=>by simp at h
 |(n,k)::r,x,hn,h=>by
  have ih:= @mL env r x (λy hy=>hn y (Qaf _ hy))
  have hk:=hn (n,k) Qai
  have h':(List.lookup x ((if (k==NameKind.free&&env.scope.kind== .function&&env.kindOf n==some .cell)=true then (n,NameKind.cell) else (n,k))::(r.map λ(n,k)=>if (k==NameKind.free&&env.scope.kind== .function&&env.kindOf n==some .cell) then (n,NameKind.cell) else (n,k)))=some .cell\/List.lookup x ((if (k==NameKind.free&&env.scope.kind== .function&&env.kindOf n==some .cell)=true then (n,NameKind.cell) else (n,k))::(r.map λ(n,k)=>if (k==NameKind.free&&env.scope.kind== .function&&env.kindOf n==some .cell) then (n,NameKind.cell) else (n,k)))=some .free):=h
  cases hx:x==n with
  | true=>
   rw[Qbz,hx]
   by_cases hc:(k==NameKind.free&&env.scope.kind== .function&&env.kindOf n==some .cell)=true
   ·have:(k==NameKind.free)=true:=by
     rw[Qbr,Qbr]at hc;exact hc.1.1
    have JO:k= .free:=by simpa using this
    rw[JO]
   ·rw[if_neg hc]at h'
    simp only[Qbz,hx]at h'
    rcases h' with h' | h'
    ·exact absurd (Qad h') hk
    ·exact h'
  | false=>
   rw[Qbz,hx]
   by_cases hc:(k==NameKind.free&&env.scope.kind== .function&&env.kindOf n==some .cell)=true
   ·rw[if_pos hc]at h';simp only[Qbz,hx]at h';exact ih h'
   ·rw[if_neg hc]at h';simp only[Qbz,hx]at h';exact ih h'
abbrev JP:Value->Shared->Prop:=λ_ _=>False
theorem wK{prog:Program}{w:World}{A:Around}{R:Result->Shared->Prop}{s:Shared}{elt target iter:Expr}{ifs:List Expr}{scope:Scope}{pos:Pos}{it acc:Value}{env:Env}(I:Nat->Shared->Prop)
  (turn:∀n s,I n s->wpAny (model prog w) A (pyNext it) (λr s₁=>match r with
   | none=>R (.ok .next) s₁
   | some v=>wpAny (model prog w) A (letOwnedTupleGo target it v) (λ_ ZK=>wpAny (model prog w) A (assign target env v) (λ_ s₂=>
     wpAny (model prog w) A (forIn ifs true λc r=>if r=true then do let ok <-isTrue c env (eval c env);pure (ForInStep.yield ok) else pure (ForInStep.yield r)) (λok s₃=>
      if ok=true then wpAny (model prog w) A (eval elt env) (λx s₄=>
       wpAny (model prog w) A (call (.builtin "list.append") [acc,x]) (λ_ s₅=>∃m,m<n/\I m s₅) JP s₄) JP s₃
      else ∃m,m<n/\I m s₃) JP s₂) JP ZK) JP s₁) JP s)
  (n:Nat) (h:I n s):codeAny (model prog w) A (.compLoop (.ListComp elt [⟨target,iter,ifs,0⟩] scope pos) 0 it acc env) R s:=by
 refine codeAny_loop rfl I (λn s hI=>?_) n h
 show wpAny _ A ((compTurn (.ListComp elt [⟨target,iter,ifs,0⟩] scope pos) 0 it acc env).onRaise (λx=>do noteFrame x env;theTreesLotGoes x)) _ _ s
 refine wpAny_noted ?_
 rw[compTurn_list]
 have no:∀{F:Value->Shared->Prop} (e:Value) (s':Shared),JP e s'->F e s':=λ_ _ h=>h.elim
 refine wpAny_bind (wpAny_standAt (wpAny_bind (wpAny_mono (turn n s hI) (λr s₁ h₁=>?_) no)))
 cases r with
 | none=>exact wpAny_pure h₁
 | some v=>
  refine wpAny_bind (wpAny_mono h₁ (λ_ ZK h₁'=>?_) no)
  refine wpAny_bind (wpAny_mono h₁' (λ_ s₂ h₂=>wpAny_bind (wpAny_mono h₂ (λok s₃ h₃=>?_) no)) no)
  cases ok with
  | false=>exact wpAny_pure ⟨rfl,h₃⟩
  | true=>
   exact wpAny_bind (wpAny_bind (wpAny_mono h₃ (λx s₄ h₄=>wpAny_bind (wpAny_mono h₄ (λ_ s₅ h₅=>wpAny_pure (wpAny_pure ⟨rfl,h₅⟩)) no)) no))
noncomputable def bR(X:Cx)(scope:Scope)(C:Addr)(Nc:List Str)(s:Shared)(H:Hp)(fp:List Addr):Cx where
 prog:=X.prog
 w:=X.w
 K:=X.K
 mg:=X.mg
 base:=X.base
 A:=X.A
 N:=Nc
 s₀:=s
 H₀:=H
 env:=compEnvC scope (jx X.env scope.names []) C X.env
 outer:=X.stack
 stack:=X.stack
 ex:=fp
 fn:=λ_=>false
 calm:=X.calm
 pn:=[]
 xe:=JP
def kS(X:Cx)(scope:Scope):List Str->List (Option Nat)->Prop
 | [],[]=>True
 | _::ys,none::os=>kS X scope ys os
 | y::ys,some j::os=>(X.N[j]? =some y/\scope.names.lookup y=some .free/\(X.env.kindOf y=some .cell\/X.env.kindOf y=some .free))/\kS X scope ys os
 | _,_=>False
noncomputable def mM(σ:St)(ix:List (Option Nat)):St:=ix.map λo=>match o with | none=>none | some j=>(σ[j]?).getD none
def Wk:St->St->Prop
 | [],[]=>True
 | none::a,_::b=>Wk a b
 | some v::a,w::b=>w=some v/\Wk a b
 | _,_=>False
theorem Wk.len:∀{a b:St},Wk a b->(a:)=(b:)
 | [],[],_=>rfl
 | none::a,_::b,h=>congrArg (· +1) (Wk.len (a:=a) (b:=b) h)
 | some _::a,_::b,h=>congrArg (· +1) (Wk.len (a:=a) (b:=b) h.2)
theorem Wk.get:∀{a b:St} {i:Nat} {v:V},Wk a b->a[i]? =some (some v)->b[i]? =some (some v)
 | [],[],i,v,_,h=>by simp at h
 | none::a,x::b,0,v,_,h=>by simp at h
 | none::a,x::b,i+1,v,k,h=>by
  have:=Wk.get (a:=a) (b:=b) (i:=i) (v:=v) k (by simpa using h)
  simpa using this
 | some y::a,x::b,0,v,k,h=>by
  have e:y=v:=by simpa using h
  subst e
  simp[k.1]
 | some y::a,x::b,i+1,v,k,h=>by
  have:=Wk.get (a:=a) (b:=b) (i:=i) (v:=v) k.2 (by simpa using h)
  simpa using this
theorem kS.len{X:Cx}{scope:Scope}:∀{N:List Str} {ix:List (Option Nat)},kS X scope N ix->(ix:)=N.length
 | [],[],_=>rfl
 | _::ys,none::os,h=>congrArg (· +1) (kS.len (N:=ys) (ix:=os) h)
 | _::ys,some _::os,h=>congrArg (· +1) (kS.len (N:=ys) (ix:=os) h.2)
theorem kS.get{X:Cx}{scope:Scope}:∀{N:List Str} {ix:List (Option Nat)} {i j:Nat},kS X scope N ix->ix[i]? =some (some j)->∃y,N[i]? =some y/\X.N[j]? =some y/\scope.names.lookup y=some .free/\(X.env.kindOf y=some .cell\/X.env.kindOf y=some .free)
 | [],[],i,j,_,h=>by simp at h
 | y::ys,none::os,0,j,_,h=>by simp at h
 | y::ys,none::os,i+1,j,k,h=>by
  obtain ⟨z,h1,h2⟩:=kS.get (N:=ys) (ix:=os) (i:=i) (j:=j) k (by simpa using h)
  exact ⟨z,by simpa using h1,h2⟩
 | y::ys,some j'::os,0,j,k,h=>by
  have e:j'=j:=by simpa using h
  subst e
  exact ⟨y,by simp,k.1⟩
 | y::ys,some j'::os,i+1,j,k,h=>by
  obtain ⟨z,h1,h2⟩:=kS.get (N:=ys) (ix:=os) (i:=i) (j:=j) k.2 (by simpa using h)
  exact ⟨z,by simpa using h1,h2⟩
theorem DZ{σ:St}{ix:List (Option Nat)}{i:Nat}{v:V}(h:(mM σ ix)[i]? =some (some v)):∃j,ix[i]? =some (some j)/\σ[j]? =some (some v):=by
 unfold mM at h
 rw[Qas]at h
 cases e:ix[i]? with
 | none=>rw[e]at h;cases h
 | some o=>
  rw[e]at h
  cases o with
  | none=>cases h
  | some j=>
   refine ⟨j,rfl,?_⟩
   have h':some ((σ[j]?).getD none)=some (some v):=h
   cases q:σ[j]? with
   | none=>rw[q]at h';cases h'
   | some z=>rw[q]at h';cases h';rfl
theorem AD{X:Cx}{pins:List (Addr×Obj)}{σ:St}{H:Hp}{s:Shared}(I:Inv X pins σ H s){scope:Scope}{Nc:List Str}{ix:List (Option Nat)}(AE:kS X scope Nc ix)(ik:∀y∈scope.names,y.2≠ .cell)
  (je:scope.kind= .function) (Kw:∀y∈scope.names,y.2= .free->X.env.kindOf y.1=some .cell\/X.env.kindOf y.1=some .free) {fp:List Addr} (hf:∀b∈fp,pT X pins H b) (Tn:∀b∈fp,∃o,s.heap.get? b=some o)
  {C:Addr} {h':Heap} {t':Nat} {m0:Str->Option Value} (hC:s.heap.objs.size<=C) (VG:h'.Ns C m0) (k:∀b o,s.heap.get? b=some o->h'.get? b=some o):
  Inv (bR X scope C Nc s H fp) [] (mM σ ix) H { s with heap:=h',toks:=t' }:=by
 walk_at"m"
 walk_at"B"
 refine ⟨⟨I.ok.mod,je,I.ok.glob,I.ok.blt,hC,λx y c h1 h2=>I.ok.inj x y c (mN h1) (mN h2),λx hx=>?_,λx c h=>?_,I.ok.hd,I.ok.frames,.inl rfl,λb hb=>?_,I.bs,Qbh I.ok.J9 I.sz,λb o e hb=>?_,λb hb hs=>?_,I.stack,I.B6⟩,
  rfl,I.bare,Un.kept k,⟨m0,VG,λi x v h1 h2 h3=>?_⟩,λx c e=>?_,I.b8.fresh hC,λx c e=>I.jG x c (mN e),λp hp=>absurd (show p∈([]:List (Addr×Obj)) from hp) (by simp),I.b8.kept k,?_⟩
 ·have JJ:scope.names.lookup x=some .free:=mL ik hx
  exact qR scope.names [] QE JJ
 ·exact absurd (show false=true from h) ∅
 ·refine ⟨?_,λx c e=>(hf b hb).2.2.2.2.1 x c (mN e)⟩
  obtain ⟨o,ho⟩:=Tn b hb
  exact Qaw (Qbc (Qap ho) hC)
 ·rcases (hf b hb).2.2.2.1 with z | z
  ·exact I.ok.FH b o e z
  ·exact absurd (Qbc (Qap e) (Qbh I.ok.J9 z)) (Qbw _)
 ·rcases Qam.mp (I.qH b hs) with z | z
  ·exact (hf b hb).2.1 z
  ·exact (hf b hb).2.2.1 z
 ·obtain ⟨j,e1,e2⟩:=DZ h2
  obtain ⟨y,y1,y2,y3,y4⟩:=AE.get e1
  have ZL:Nc[i]? =some x:=h1
  rw[y1]at ZL
  cases ZL
  obtain ⟨m,hn,hl⟩:=I.loc
  have hv:SA X.env.scope x:=by
   rcases y4 with z | z
   ·exact .inr (.inl z)
   ·exact .inr (.inr z)
  obtain ⟨u,r,l⟩:=hl j x v y2 e2 hv
  refine ⟨u,r,.inr ⟨mK y3,?_⟩⟩
  rcases l with ⟨l,_⟩ | ⟨_,c,hc,q⟩
  ·rcases y4 with z | z
   ·rw[z]at l;cases l
   ·rw[z]at l;cases l
  ·obtain ⟨c',tV⟩:=qR scope.names [] QE y3
   have e:=mN tV
   rw[hc]at e
   cases e
   obtain ⟨o,ho,hd⟩:=q
   exact ⟨c,tV,o,k _ _ ho,hd⟩
 ·obtain ⟨v,o,ho,hd⟩:=I.cell x c (mN e)
  exact ⟨v,o,k _ _ ho,hd⟩
 ·show (mM σ ix:)=Nc.length
  unfold mM
  rw[kb]
  exact AE.len
theorem D0{X:Cx}{pins B8:List (Addr×Obj)}{σ σ':St}{H H':Hp}{s s':Shared}(I:Inv X pins σ H s){scope:Scope}{Nc:List Str}{fp:List Addr}{C D:Addr}(J:Inv (bR X scope C Nc s H fp) B8 σ' H' s')
  (hf:∀b∈fp,pT X pins H b) (hD:s.heap.objs.size<=D) (hC:s.heap.objs.size<=C) (Oh:D≠C) {aH:List Value} {n:Nat} {acc:List V} (eD:s'.heap.get? D=some { cls:= .type "list",data:= .seq aH.toArray n }) (r:Vals acc aH)
  (hz:(acc:)<=sizeLine) (nD:H' D=none) {oC:Obj} (eC:s'.heap.get? C=some oC) (dC:∀v,oC.data≠ .cell v):Inv X (pins++[(C,oC)]) σ (upd H' D (.lst acc)) s':=by
 have lt:∀b o,s.heap.get? b=some o->b≠D:=λb o e=>Qaw (Qbc (Qap e) hD)
 have U:Un (B5 X.stack) fp H H' s.heap s'.heap:=J.base
 have U':Un (B5 X.stack) fp H (upd H' D (.lst acc)) s.heap s'.heap:=
  ⟨U.keep,U.slot,λb o e n hx=>by rw[az (lt b o e)];exact U.free b o e n hx,U.there,λb xs e=>by rw[az (ay (U.tU b xs e) nD)];exact U.tU b xs e,
   λb o u e=>by rw[az (ay (U.qG b o u e) nD)];exact U.qG b o u e,λb ps e=>by
    obtain ⟨more,q⟩:=U.wu b ps e
    exact ⟨more,by rw[az (ay q nD)];exact q⟩⟩
 have b8:lU X.prog X.w (upd H' D (.lst acc)) s'.heap:=λb u e=>by
  by_cases hb:b=D
  ·subst hb
   rw[ah]at e;cases e
   exact ⟨hz,aH,n,r,eD⟩
  ·rw[az hb]at e
   exact (J.b8 b u e).yq (λc v _ q=>q) (λc q=>by rw[az (ay q nD)];exact q) λc xs q=>by rw[az (ay q nD)];exact q
 have I':Inv X pins σ (upd H' D (.lst acc)) s':=I.SF (ch:=fp) J.os U' b8 J.bare λb hb=>by
  obtain ⟨_,h1,_,h2,h3,h4⟩:=hf b hb
  exact ⟨h2,h1,h3,h4⟩
 refine I'.mG λp hp=>?_
 rcases Qao.mp hp with z | z
 ·exact I'.pin p (Qa2 _ z)
 ·have e:p=(C,oC):=ZI.mp z
  subst e
  refine ⟨eC,?_,Qfk (Qbc I.lt hC),I.ND hC,dC⟩
  rw[az (Ne.symm Oh)]
  exact J.free
def PF(Y:Cx)(ifs:List Expr)(tc:TT):Prop:=
 ∀(pins:List (Addr×Obj)) (s:Shared) (σ:St) (H:Hp) (Q:Bool->Hp->Prop),Inv Y pins σ H s->tc σ H Q->
  wpAny (model Y.prog Y.w) Y.A (forIn ifs true λc r=>if r=true then do let ok <-isTrue c Y.env (eval c Y.env);pure (ForInStep.yield ok) else pure (ForInStep.yield r)) (TP Y pins σ Q) Y.xe s
def To:TT:=λ_ H Q=>Q true H
theorem fR{Y:Cx}:PF Y [] To:=λ_ _ _ H _ I h=>wpAny_tests_nil ⟨H,I,h⟩
theorem jK{Y:Cx}{c:Expr}{tc:TT}(h:PT Y c tc):PF Y [c] tc:=λpins s σ H Q I hw=>wpAny_tests_one (h pins s σ H Q I hw)
def u5(J:It)(σc:St)(g:TG)(tc:TT)(te:TE)(Q:VK)(H1:Hp):Prop:=
 ∃W:Nat->Nat->List V->Hp->Prop,(∃m,W 0 m [] H1)/\∀i m acc H,W i m acc H->(acc:)<sizeLine/\
 ((J.stop i H/\∀D,H D=none->Q (.ref D) (upd H D (.lst acc)))\/
  (J.go i H/\∀x H',J.FO i H x H'->g x σc H' λσ2 H2=>Wk σc σ2/\tc σ2 H2 λb H3=>if b=true then te σ2 H3 λv H4=>∃m',m'<m/\W (i+1) m' (acc++[v]) H4 else ∃m',m'<m/\W (i+1) m' acc H3))
def yD(wi:TI)(ix:List (Option Nat))(g:TG)(tc:TT)(te:TE):TE:=λσ H Q=>wi σ H λJ H1=>u5 J (mM σ ix) g tc te Q H1
theorem u6{X:Cx}{tg iter elt:Expr}{ifs:List Expr}{scope:Scope}{pos:Pos}{wi:TI}{g:TG}{tc:TT}{te:TE}{Nc:List Str}{ix:List (Option Nat)}(hi:PI X tg iter wi)(lq:X.calm=true)(AE:kS X scope Nc ix)
  (ik:∀y∈scope.names,y.2≠ .cell) (je:scope.kind= .function) (Kw:∀y∈scope.names,y.2= .free->X.env.kindOf y.1=some .cell\/X.env.kindOf y.1=some .free)
  (hG:∀C s H fp,PG (bR X scope C Nc s H fp) tg g) (hT:∀C s H fp,PF (bR X scope C Nc s H fp) ifs tc) (hE:∀C s H fp,PE (bR X scope C Nc s H fp) elt te)
  {pins:List (Addr×Obj)} {s:Shared} {σ:St} {H:Hp} {Q:VK} (I:Inv X pins σ H s) (h:yD wi ix g tc te σ H Q) {RR:Value->Addr->Result->Shared->Prop}
  (hRR:∀(D C:Addr) (oC:Obj) (m:Str->Option Value) (H':Hp) (s':Shared),s'.heap.get? C=some oC->s'.heap.Ns C m->pT X pins H' C->Inv X (pins++[(C,oC)]) σ H' s'->Q (.ref D) H'->RR (.ref D) C (.ok .next) s'):
  wpAny (model X.prog X.w) X.A (eval iter X.env) (λv s1=>wpAny (model X.prog X.w) X.A (pyIter v) (λit s2=>wpAny (model X.prog X.w) X.A (newList []) (λacc s3=>
   wpAny (model X.prog X.w) X.A (newFunctionEnv scope X.env.globals (jx X.env scope.names []) [] X.env.qual none .none (some X.env)) (λTp s4=>
    codeAny (model X.prog X.w) X.A (.compStart (.ListComp elt [⟨tg,iter,ifs,0⟩] scope pos) 0 it acc { Tp with scope:=relabel scope X.env }) (RR acc Tp.locals) s4) X.xe s3) X.xe s2) X.xe s1) X.xe s:=by
 refine cA (hi pins s σ H _ I h) λv s1 h1=>cA h1 λWS s2 h2=>?_
 obtain ⟨it,fp,tn,J,H2,e,I2,T,jE,f2,W,⟨m0,w0⟩,turn⟩:=h2
 subst e
 refine wpAny_newObj_type (wpAny_newFunctionEnv ik (by intro y hy;simp at hy) (λh₁ Oi Kx=>?_) je)
 dsimp only at Oi Kx ⊢
 generalize MI:s2.heap.push { cls:= .type "list",dict:=none,data:= .seq ([]:List Value).toArray }=P2 at Oi Kx ⊢
 have hC:P2.objs.size=s2.heap.objs.size+1:=by rw[<-MI,Qda]
 have Oh:s2.heap.objs.size≠P2.objs.size:=by rw[hC];exact Qaw (Qcp _)
 have Oj:s2.heap.objs.size<=P2.objs.size:=by rw[hC];exact Qc6 _
 have NG:∀b,b<s2.heap.objs.size->b≠P2.objs.size:=λb hb=>by rw[hC];exact Qaw (Qcr hb)
 have old:∀b o,s2.heap.get? b=some o->h₁.get? b=some o:=λb o e=>Kx.extBut b o (NG b (Qap e)) (ZG _ (MI▸ZG _ e))
 have AF:h₁.get? s2.heap.objs.size=some { cls:= .type "list",data:= .seq ([]:List Value).toArray }:=Kx.extBut _ _ Oh (ZG _ (MI▸Qaq _ rfl))
 have ZM:tn 0 h₁:=T.keep 0 _ _ jE λb _ o e=>old b o e
 have Tn:∀b∈fp,∃o,s2.heap.get? b=some o:=λb hb=>let ⟨o,e,_⟩:=T.obj 0 _ jE b hb;⟨o,e⟩
 have ZN:∀b∈fp,s2.heap.objs.size≠b:=λb hb=>let ⟨o,e⟩:=Tn b hb;Qfk (Qap e)
 have IY:=AD I2 AE ik je Kw f2 Tn (t':=s2.toks+(([]:List (Str×Value)):)) Oj Oi old
 have Xk:∀b,s2.heap.objs.size<=b->b∉B5 X.stack:=λb hb hs=>by
  rcases Qam.mp (I2.qH b hs) with z | z
  ·exact absurd (Qbc I2.lt hb) (by rw[z];exact Qbw _)
  ·exact I2.ND hb z
 walk_at"B"
 have Tq:∀x c,(jx X.env scope.names []).lookup x=some c->c≠s2.heap.objs.size:=λx c e z=>by
  obtain ⟨v,q⟩:=I2.cell x c (mN e)
  exact absurd (q.lt) (by rw[z];exact Qbw _)
 have fY:∀{pl:List (Addr×Obj)} {H':Hp},(∀p∈pl,p.1=s2.heap.objs.size)->(∀b∈fp,H' b=none)->∀b∈fp,pT (bR X scope P2.objs.size Nc s2 H2 fp) pl H' b:=λ{pl H'} iU hn b hb=>by
  refine ⟨hn b hb,?_,?_,.inl hb,λx c e=>(f2 b hb).2.2.2.2.1 x c (mN e),λp hp=>?_⟩
  ·obtain ⟨o,e⟩:=Tn b hb
   exact NG b (Qap e)
  ·intro hs
   rcases Qam.mp (I2.qH b hs) with z | z
   ·exact (f2 b hb).2.1 z
   ·exact (f2 b hb).2.2.1 z
  ·rw[iU p hp]
   exact ZN b hb
 have loop:∀s₃:Shared,s₃={ s2 with heap:=h₁,toks:=s2.toks+(([]:List (Str×Value)):) }->
   codeAny (model X.prog X.w) X.A (.compLoop (.ListComp elt [⟨tg,iter,ifs,0⟩] scope pos) 0 (.ref it) (.ref s2.heap.objs.size) (compEnvC scope (jx X.env scope.names []) P2.objs.size X.env)) (RR (.ref s2.heap.objs.size) P2.objs.size) s₃:=by
  rintro s₃ rfl
  refine wK (λn s'=>∃i acc aH nn H',Inv (bR X scope P2.objs.size Nc s2 H2 fp) [] (mM σ ix) H' s'/\tn i s'.heap/\(∀b∈fp,H' b=none)/\
   s'.heap.get? s2.heap.objs.size=some { cls:= .type "list",data:= .seq (aH:List Value).toArray nn }/\Vals acc aH/\H' s2.heap.objs.size=none/\W i n acc H') ?_ m0
   ⟨0,[],[],0,H2,IY,ZM,λb hb=>(f2 b hb).1,AF,.nil,I2.b8.fresh (ZH _),w0⟩
  rintro n s3 ⟨i,acc,aH,nn,H3,I3,z_,SX,eD,rv,nD,w3⟩
  obtain ⟨hz,alt⟩:=turn i n acc H3 w3
  have IP:Inv (bR X scope P2.objs.size Nc s2 H2 fp) [(s2.heap.objs.size,{ cls:= .type "list",data:= .seq aH.toArray nn })] (mM σ ix) H3 s3:=I3.mG λp hp=>by
   have e:p=(s2.heap.objs.size,_):=ZI.mp hp
   subst e
   refine ⟨eD,nD,Oh,Xk _ (ZH _),λv z=>?_⟩
   have z':Data.seq aH.toArray nn=Data.cell v:=z
   cases z'
  have iU:∀p∈[(s2.heap.objs.size,({ cls:= .type "list",data:= .seq aH.toArray nn }:Obj))],p.1=s2.heap.objs.size:=λp hp=>by
   have e:p=(s2.heap.objs.size,_):=ZI.mp hp
   rw[e]
  rcases alt with ⟨stop,fin⟩ | ⟨go,step⟩
  ·refine cA (T.done (bR X scope P2.objs.size Nc s2 H2 fp) rfl rfl rfl lq i _ s3 _ H3 JP IP (fY iU SX) z_ stop) λr s4 zz=>?_
   obtain ⟨hr,I4⟩:=zz
   subst hr
   obtain ⟨m,hn,_⟩:=id I4.loc
   obtain ⟨oC,es,ep,eC,dC,_⟩:=id hn
   have eD4:=(I4.pin (s2.heap.objs.size,_) (Qa2 _ (ZI.mpr rfl))).1
   have Xl:=fin _ nD
   refine hRR _ _ oC m _ s4 eC hn ?_ (D0 I2 I4 f2 (ZH _) Oj Oh eD4 rv (Qbt hz) nD eC λv z=>?_) Xl
   ·refine I2.qI Oj ?_
    rw[az (Ne.symm Oh)]
    exact I4.free
   ·rw[dC]at z;cases z
  ·refine cA (T.item (bR X scope P2.objs.size Nc s2 H2 fp) rfl rfl rfl lq i _ s3 _ H3 JP IP (fY iU SX) z_ go) λr s4 zz=>?_
   obtain ⟨u,hr,h4⟩:=zz
   subst hr
   refine cA h4 λ_ s5 zz=>?_
   obtain ⟨x,H5,I5,r5,y5,nK,WV⟩:=zz
   have WW:=I5.pinned (fY iU WV) (T.obj _ _ nK)
   refine cA (hG _ s2 H2 fp _ s5 _ H5 x u _ WW r5 (step x H5 y5)) λ_ s6 zz=>?_
   obtain ⟨σ6,H6,I6,wk,q6⟩:=zz
   refine cA (hT _ s2 H2 fp _ s6 σ6 H6 _ I6 q6) λb s7 zz=>?_
   obtain ⟨H7,I7,q7⟩:=zz
   have again:∀{H9:Hp} {s9:Shared} {m':Nat},Inv (bR X scope P2.objs.size Nc s2 H2 fp) ([(s2.heap.objs.size,({ cls:= .type "list",data:= .seq aH.toArray nn }:Obj))]++qJ fp s5.heap) σ6 H9 s9->
     (s9.heap.get? s2.heap.objs.size=some { cls:= .type "list",data:= .seq aH.toArray nn }/\H9 s2.heap.objs.size=none)/\tn (i+1) s9.heap/\(∀b∈fp,H9 b=none)/\Inv (bR X scope P2.objs.size Nc s2 H2 fp) [] (mM σ ix) H9 s9:=λ{H9 s9 m'} I9=>by
    have pD:=I9.pin (s2.heap.objs.size,_) (Qa2 _ (Qck _ (ZI.mpr rfl)))
    refine ⟨⟨pD.1,pD.2.1⟩,T.keep _ _ _ nK λb hb o e=>(I9.pin (b,o) (Qa2 _ (Qa2 _ (iT hb e)))).1,λb hb=>?_,?_⟩
    ·obtain ⟨o,e,d⟩:=T.obj _ _ nK b hb
     exact (I9.pin (b,o) (Qa2 _ (Qa2 _ (iT hb e)))).2.1
    ·exact (I9.weak wk.len λi v e=>wk.get e).mG λp hp=>absurd hp (by simp)
   cases b with
   | false=>
    rw[if_neg Qan]at q7 ⊢
    obtain ⟨m',hm,w7⟩:=q7
    obtain ⟨⟨e7,n7⟩,t7,f7,J7⟩:=again (m':=0) I7
    exact ⟨m',hm,i+1,acc,aH,nn,H7,J7,t7,f7,e7,rv,n7,w7⟩
   | true=>
    rw[if_pos rfl]at q7 ⊢
    refine cA (hE _ s2 H2 fp _ s7 σ6 H7 _ I7 q7) λy s8 zz=>?_
    obtain ⟨v,H8,I8,r8,m',hm,w8⟩:=zz
    obtain ⟨⟨e8,n8⟩,t8,f8,J8⟩:=again (m':=0) I8
    refine wpAny_list_append_plain (items:=aH.toArray) ⟨nn,e8⟩ (λh9 hl9 ZO=>?_) (by rw[Qag, <-(rv:)];exact Qbt hz)
    obtain ⟨n9,e9⟩:=hl9
    refine ⟨m',hm,i+1,acc++[v],aH++[y],n9,H8,J8.turned (t':=s8.toks) (λb o hb e=>(ZO.2 b hb).trans e) n8 Oh (.inr (ZH _)) Tq (λp hp=>absurd hp (by simp[bR])),?_,f8,?_,rv.append (.cons r8 .nil),n8,w8⟩
    ·exact T.keep _ _ _ t8 λb hb o e=>(ZO.2 b (Ne.symm (ZN b hb))).trans e
    ·simpa using e9
 exact codeAny_compStart_list (loop _ rfl) (T.self _ 0 _ _ _ ZM (loop _ rfl))
theorem Ky{X:Cx}{tg iter elt:Expr}{ifs:List Expr}{scope:Scope}{pos:Pos}{wi:TI}{g:TG}{tc:TT}{te:TE}(Nc:List Str)(ix:List (Option Nat))(hi:PI X tg iter wi)(lq:X.calm=true)(AE:kS X scope Nc ix)
  (ik:∀y∈scope.names,y.2≠ .cell) (je:scope.kind= .function) (Kw:∀y∈scope.names,y.2= .free->X.env.kindOf y.1=some .cell\/X.env.kindOf y.1=some .free)
  (AG:∀x∈scope.names,x.2= .local->scope.names.lookup x.1=some .local)
  (hG:∀C s H fp,PG (bR X scope C Nc s H fp) tg g) (hT:∀C s H fp,PF (bR X scope C Nc s H fp) ifs tc) (hE:∀C s H fp,PE (bR X scope C Nc s H fp) elt te)
  (hs:∀x,foldedSetIterable iter X.env x=pure x:=by intro _;rfl):PE X (.ListComp elt [⟨tg,iter,ifs,0⟩] scope pos) (yD wi ix g tc te):=by
 walk_at"g"
 rw[eval_ListComp]
 walk_at"m"
 refine wpAny_comprehension_free (use:=none) rfl hs (lh QE) je AG (u6 hi lq AE ik je Kw hG hT hE I h (RR:=λacc C=>compPost (model X.prog X.w) X.A X.xe none (EP X pins σ Q) acc C) ?_)
 intro D C oC m H' s' eC hn fC I' q
 refine ⟨m,hn,λh' Tr=>⟨.ref D,H',?_,rfl,q⟩⟩
 exact I'.jI.turned (t':=s'.toks) (λb o hb e=>(Tr.2 b hb).trans e) fC.1 fC.2.1 fC.2.2.2.1 fC.2.2.2.2.1 fC.2.2.2.2.2
theorem Kz{X:Cx}{i:Nat}{x:Str}{tg iter elt:Expr}{ifs:List Expr}{scope:Scope}{pos Gj pos':Pos}{wi:TI}{g:TG}{tc:TT}{te:TE}(Nc:List Str)(ix:List (Option Nat))(hN:X.N.Nodup)(Ol:X.N[i]? =some x)(hx:Loc X.env.scope x)
  (Fs:swapsWith (.ListComp elt [⟨tg,iter,ifs,0⟩] scope pos) (some (.Name x pos')) Gj.line X.env=pure true) (hi:PI X tg iter wi) (lq:X.calm=true) (AE:kS X scope Nc ix)
  (ik:∀y∈scope.names,y.2≠ .cell) (je:scope.kind= .function) (Kw:∀y∈scope.names,y.2= .free->X.env.kindOf y.1=some .cell\/X.env.kindOf y.1=some .free)
  (AG:∀x∈scope.names,x.2= .local->scope.names.lookup x.1=some .local)
  (hG:∀C s H fp,PG (bR X scope C Nc s H fp) tg g) (hT:∀C s H fp,PF (bR X scope C Nc s H fp) ifs tc) (hE:∀C s H fp,PE (bR X scope C Nc s H fp) elt te)
  (hs:∀x,foldedSetIterable iter X.env x=pure x:=by intro _;rfl) (hf:X.fn x=true\/X.env.scope.names.lookup x=some .local:=by first | exact .inl rfl | exact .inr rfl | assumption):
  PS X (.Assign [.Name x pos'] (.ListComp elt [⟨tg,iter,ifs,0⟩] scope pos) Gj) (FL (yD wi ix g tc te) (uL i)):=by
 intro pins s σ H E I h
 walk_at"m"
 rw[exec_Assign_Name_used _ _ _ _ Fs]
 refine wpAny_bind (wpAny_standAt (wpAny_bind ?_))
 show wpAny _ X.A (do let _ <-comprehension (.ListComp elt [⟨tg,iter,ifs,0⟩] scope pos) scope X.env _ (newList []) false (eval iter X.env) (some (assign (.Name x pos') X.env))) _ _ s
 refine wpAny_bind (wpAny_mono (wpAny_comprehension_free (use:=some (assign (.Name x pos') X.env)) (Q:=λ_ s'=>SP X pins E .next s') rfl hs (lh QE) je AG
  (u6 hi lq AE ik je Kw hG hT hE I h (RR:=λacc C=>compPost (model X.prog X.w) X.A X.xe (some (assign (.Name x pos') X.env)) (λ_ s'=>SP X pins E .next s') acc C) ?_)) (λ_ s' hq=>wpAny_pure (wpAny_pure hq)) λ_ _ e=>e)
 intro D C oC m H' s' eC hn fC I' q
 show wpAny _ X.A (assign (.Name x pos') X.env (.ref D)) _ _ _
 refine wpAny_assign_Name (eE I' hN Ol hx (show RelV (.ref D) _ from rfl) (λNZ ZP=>?_) hf)
 have pC:=ZP.pin (C,oC) (Qa2 _ (Qa2 _ (ZI.mpr rfl)))
 refine ⟨m,?_,λh' Tr=>?_⟩
 ·obtain ⟨o,es,ep,e,r⟩:=hn
  rw[eC]at e;cases e
  exact ⟨oC,es,ep,pC.1,r⟩
 ·refine ⟨_,H',ZP.jI.turned (t':=NZ.toks) (λb o hb e=>(Tr.2 b hb).trans e) fC.1 fC.2.1 fC.2.2.2.1 fC.2.2.2.2.1 fC.2.2.2.2.2,q⟩
noncomputable def S(l:c0):Str:=⟨l.toArray⟩
theorem dc(l:c0):(S l).cps.toList=l:=by simp[S]
theorem dD(l:c0):(S l:)=(l:):=by simp[S,Str.length]
theorem nX(l:c0):(S l).cps.size=(l:):=by simp[S]
theorem Ts{a b:c0}(h:S a=S b):a=b:=by
 have:=congrArg (λx:Str=>x.cps.toList) h
 simpa [S]using this
theorem Tt(x:Str):x=S x.cps.toList:=by cases x;simp[S]
theorem Tu(a b:c0):S a++S b=S (a++b):=by
 apply Str.ext'
 apply Qfg.mp
 simp[S,Str.cps_append]
theorem MJ{a b:c0}:decide (V.str (S a)=V.str (S b))=decide (a=b):=by
 by_cases h:a=b
 ·subst h;simp
 ·rw[decide_eq_false h,decide_eq_false]
  intro q
  exact h (Ts (V.str.inj q))
noncomputable def cut{α:Type}(xs:List α)(lo hi:Option Int):List α:=(xs.drop (HT.yk (xs:) 0 lo)).take (HT.yk (xs:) (xs:) hi - HT.yk (xs:) 0 lo)
theorem yE(n d:Nat)(v:Int):max 0 (min (if v<0 then v+(n:Int) else v) (n:Int))=((HT.yk n d (some v):Nat):Int):=by
 show _=(((if v<0 then (v+(n:Int)).toNat else min v.toNat n):Nat):Int)
 by_cases hv:v<0
 ·simp only[if_pos hv];lia
 ·simp only[if_neg hv];lia
theorem o9(lo hi:Option Int)(n:Nat):Builtin.Str.strSliceIndices lo hi 1 n=(List.range (HT.yk n n hi - HT.yk n 0 lo)).map (HT.yk n 0 lo+ ·):=by
 have h1:(1:Int)>0:=by decide
 rw[<-sliceRange_one]
 unfold Builtin.Str.strSliceIndices
 simp only[h1,if_true]
 congr 1
 ·cases lo with
  | none=>rfl
  | some v=>exact yE n 0 v
 ·cases hi with
  | none=>rfl
  | some v=>exact yE n n v
theorem KA(l:c0)(lo hi:Option Int):Txt.slice (S l) lo hi=S (cut l lo hi):=by
 have hx:((Builtin.Str.strSliceIndices lo hi 1 (S l:)).filterMap ((S l).cps[·]?))=cut l lo hi:=by
  rw[dD,o9,pick_run,dc]
  rfl
 have hlen:(Builtin.Str.strSliceIndices lo hi 1 (S l:):)=HT.yk (l:) (l:) hi - HT.yk (l:) 0 lo:=by
  rw[dD,o9,kb,Qe4]
 unfold Txt.slice
 by_cases hc:((1:Int)==1&&(Builtin.Str.strSliceIndices lo hi 1 (S l:):)==(S l:))=true
 ·rw[if_pos hc]
  rw[hlen,dD]at hc
  have e:HT.yk (l:) (l:) hi - HT.yk (l:) 0 lo=(l:):=by simpa using hc
  have h2:=HT.N0 (l:) (l:) (ZH _) hi
  have e0:HT.yk (l:) 0 lo=0\/(l:)=0:=by lia
  unfold cut
  rw[e]
  rcases e0 with z | z
  ·rw[z];simp
  ·have:l=[]:=Qc8 z
   subst this
   simp
 ·rw[if_neg hc]
  rw[hx]
  rfl
section
variable{X:Cx}
theorem jy{x:Str}{j pos}(l:c0)(h:x=S l):PE X (.Constant (.str x) j pos) (tC (.str (S l))):=by
 subst h
 exact NK
def Tv:R2:=λx y H Q=>∃a b,x= .str (S a)/\y= .str (S b)/\(a:)+(b:)<=sizeLine/\Q (.str (S (a++b))) H
theorem fu:jv X (binaryOp .Add) Tv:=by
 walk_at"a"
 obtain ⟨a,b,rfl,rfl,hz,q⟩:=h
 exact Am pins s σ H _ _ v u Q I rx ry ⟨S a,S b,rfl,rfl,by rw[dD,dD];exact hz,by rw[Tu];exact q⟩
inductive Cj(x:V)(y:V)(H:Hp)(Q:VK):Prop
 | mk (l:_) (i:_) (c:_) (_:x= .str (S l)) (_:y= .int i) (_:(l:)<=sizeLine) (_:qp l i=some c) (_:Q (.str (S [c])) H):Cj x y H Q
def Tw:R2:=Cj
theorem jz:N1 X Tw:=by
 walk_at"K"
 obtain ⟨l,i,c,rfl,rfl,hz,he,q⟩:=h
 exact N3 value slice pins s σ H _ _ v u Q I rx ry ⟨S l,i,c,rfl,rfl,by rw[dD];exact hz,by rw[dc];exact he,q⟩ hs
def Xm:V->Option Int->Option Int->Hp->VK->Prop:=λx lo hi H Q=>∃l,x= .str (S l)/\(l:)<=sizeLine/\Q (.str (S (cut l lo hi))) H
theorem jA:Zy X Xm:=by
 intro pins s σ H x v vl vu lo hi sl Q I rx hs pl pu h
 obtain ⟨l,rfl,hz,q⟩:=h
 walk_at"f"
 refine ⟨"str",_,F.slot_str_getitem.lookup,typeIs_str _ _ _,?_⟩
 have key:∀(a b:Option (Int×Tok)),vl=partValue a->vu=partValue b->a.map (·.1)=lo->b.map (·.1)=hi->wpAny (model X.prog X.w) X.A (getItem (.str (S l) t) (.ref sl)) (EP X pins σ Q) X.xe s:=by
  rintro a b rfl rfl rfl rfl
  obtain ⟨o,e,c,d⟩:=hs
  refine wpAny_getItem_str_slice (l:=a) (u:=b) (st:=none) ⟨o,e,c,d⟩ rfl (post_val_or_str ⟨?_,λt' k=>?_⟩)
  ·exact Qbh (Txt.slice_le (S l) _ _) (by rw[dD];exact hz)
  ·exact ⟨.str (S (cut l _ _)),H,I.tok _,⟨t',congrArg (λz=>Value.str z t') (KA l _ _)⟩,q⟩
 cases pl with
 | none=>
  cases pu with
  | none=>exact key none none rfl rfl rfl rfl
  | int i ti=>exact key none (some (i,ti)) rfl rfl rfl rfl
 | int i ti=>
  cases pu with
  | none=>exact key (some (i,ti)) none rfl rfl rfl rfl
  | int j tj=>exact key (some (i,ti)) (some (j,tj)) rfl rfl rfl rfl
theorem aT:di X (.builtin "len") (λxs H Q=>∃l,xs=[.str (S l)]/\(l:)<=sizeLine/\Q (.int (l:)) H):=by
 walk_at"d"
 obtain ⟨l,rfl,hz,q⟩:=h
 exact wI pins s σ H _ us Q I r ⟨S l,rfl,by rw[dD];exact hz,by rw[dD];exact q⟩
noncomputable def cx(l:c0):List V:=l.map λc=>V.str (S [c])
theorem AH{l:c0}:∀{acc:List Value},(acc:)=(l:)->(∀j v,acc[j]? =some v->SignAt (S l) j v)->Vals (cx l) acc:=by
 induction l with
 | nil=>intro acc h _;have:acc=[]:=Qc8 h;subst this;exact .nil
 | cons c l ih=>
  intro acc h k
  cases acc with
  | nil=>cases h
  | cons a acc=>
   refine .cons ?_ (ih (by simpa using h) λj v e=>?_)
   ·obtain ⟨c',u,e1,e2⟩:=k 0 a rfl
    have:c=c':=by simpa [S]using e1
    subst this
    exact ⟨u,e2⟩
   ·obtain ⟨c',u,e1,e2⟩:=k (j+1) v (by simpa using e)
    exact ⟨c',u,by simpa [S]using e1,e2⟩
theorem qS(hc:X.calm=true):di X (.type "list") (λxs H Q=>∃l,xs=[.str (S l)]/\(l:)<=sizeLine/\∀p,H p=none->Q (.ref p) (upd H p (.lst (cx l)))):=by
 walk_at"d"
 obtain ⟨l,rfl,hz,q⟩:=h
 obtain ⟨u,rfl,t,rfl⟩:=vals1 r
 refine call_list_str (I.ok.hd hc) (S l) t (λh' tk e_ c' hk e AF=>?_) (by rw[nX];exact hz)
 obtain ⟨h1,h2⟩:=AF
 rw[nX]at h1
 refine ⟨.ref s.heap.objs.size,_,I.laid (t':=tk) (o:= .lst (cx l)) hk (ZH _) ?_,rfl,q _ I.fresh⟩
 exact ⟨by unfold cx;rw[kb];exact hz,e_.toList,c',AH (by simpa using h1) (λj v e=>h2 j v (by simpa using e)),by simpa using e⟩
inductive Gk(x:V)(y:V)(H:Hp)(Q:VK):Prop
 | mk (c:_) (l:_) (_:x= .str (S [c])) (_:y= .str (S l)) (_:Q (.bl (decide (c∈l))) H):Gk x y H Q
def Xn:R2:=Gk
theorem Om:jv X (compareOp .In) Xn:=by
 walk_at"a"
 obtain ⟨c,l,rfl,rfl,q⟩:=h
 refine DN pins s σ H _ _ v u Q I rx ry ⟨S [c],S l,rfl,rfl,?_⟩
 have e:=StrLaws.found_one (S l) c
 rw[dc]at e
 rw[show (S [c])=(⟨#[c]⟩:Str) from rfl,e]
 exact q
end
theorem u7(s sub:Str)(hi:Nat):∀(l:c0) (st:Array Nat×Nat),1<=st.fst.size->(forIn l st (StrLaws.occBody s sub hi 1)).run.fst=st.fst
 | [],st,h=>rfl
 | a::l,st,h=>by
  rw[Qer]
  unfold StrLaws.occBody
  rw[if_neg (λz=>absurd z.1.1.1 (Nat.not_lt.mpr h))]
  exact u7 s sub hi l _ h
theorem occ_first(s sub:Str)(hi:Nat):∀(l:c0) (free:Nat),(∀i∈l,free<=i)->
  (forIn l ((#[]:Array Nat),free) (StrLaws.occBody s sub hi 1)).run.fst.toList=(l.find? λi=>decide (i+(sub:)<=hi)&&Builtin.Str.subAt s sub i).toList
 | [],free,_=>rfl
 | a::l,free,hf=>by
  rw[Qer,Qdj]
  unfold StrLaws.occBody
  have ha:free<=a:=hf a Qai
  by_cases hc:a+(sub:)<=hi/\Builtin.Str.subAt s sub a=true
  ·rw[if_pos ⟨⟨⟨by simp,ha⟩,hc.1⟩,hc.2⟩]
   have:(decide (a+(sub:)<=hi)&&Builtin.Str.subAt s sub a)=true:=by simp[hc]
   rw[this]
   show (forIn l (#[].push a,a+(sub:)) (StrLaws.occBody s sub hi 1)).run.fst.toList=_
   rw[u7 s sub hi l _ (by simp)]
   rfl
  ·rw[if_neg (λz=>hc ⟨z.1.2,z.2⟩)]
   have:(decide (a+(sub:)<=hi)&&Builtin.Str.subAt s sub a)=false:=by
    cases h1:decide (a+(sub:)<=hi) with
    | false=>rfl
    | true=>
     cases h2:Builtin.Str.subAt s sub a with
     | false=>rfl
     | true=>exact absurd ⟨of_decide_eq_true h1,h2⟩ hc
   rw[this]
   exact occ_first s sub hi l free λi nL=>hf i (Qaf _ nL)
theorem subAt_one(l:c0)(c i:Nat):Builtin.Str.subAt (S l) (S [c]) i=(l[i]? ==some c):=by
 unfold Builtin.Str.subAt
 rw[dD]
 show ((S l).cps.extract i (i+1)== #[c])=_
 have e:((S l).cps.extract i (i+1))=((l.drop i).take 1).toArray:=by
  apply Qfg.mp
  simp[S,List.take_drop]
 rw[e]
 by_cases h:i<(l:)
 ·have e2:(l.drop i).take 1=[l[i]]:=by
   rw[Qbq h];rfl
  rw[e2,Of h]
  by_cases hc:l[i]=c
  ·rw[hc];simp
  ·have h1:([l[i]].toArray== #[c])=false:=by
    rw[beq_eq_false_iff_ne]
    intro z
    apply hc
    have:=congrArg Array.toList z
    simpa using this
   have h2:(some l[i]==some c)=false:=by simpa using hc
   rw[h1,h2]
 ·have e2:(l.drop i).take 1=[]:=by rw[Qek ()];rfl
  rw[e2,Qdh ()]
  rfl
theorem qT(l:c0)(c:Nat):∀(k n:Nat),k+n=(l:)+1->((List.range' k n).find? λi=>decide (i+1<=(l:))&&(l[i]? ==some c))=if c∈l.drop k then some (k+(l.drop k).idxOf c) else none
 | k,0,h=>by
  have:l.drop k=[]:=Qek ()
  rw[this];simp
 | k,n+1,h=>by
  rw[List.range'_succ,Qdj]
  by_cases hk:k<(l:)
  ·have e:l.drop k=l[k]::l.drop (k+1):=Qbq hk
   rw[Of hk,e]
   by_cases hc:l[k]=c
   ·have:(decide (k+1<=(l:))&&(some l[k]==some c))=true:=by simp[hc];lia
    rw[this,if_pos (by simp[hc])]
    simp[hc]
   ·have:(decide (k+1<=(l:))&&(some l[k]==some c))=false:=by simp[hc]
    rw[this,qT l c (k+1) n ()]
    have tV: ¬c=l[k]:=λz=>hc z.symm
    by_cases hm:c∈l.drop (k+1)
    ·rw[if_pos hm,if_pos (Qaf _ hm),List.idxOf_cons]
     have:(l[k]==c)=false:=by simpa using hc
     rw[this]
     show some (k+1+List.idxOf c (List.drop (k+1) l))=some (k+(List.idxOf c (List.drop (k+1) l)+1))
     congr 1
     lia
    ·rw[if_neg hm,if_neg (by intro z;rcases Qam.mp z with z | z;exact tV z;exact hm z)]
  ·have:l.drop k=[]:=Qek ()
   have e1:(decide (k+1<=(l:))&&(l[k]? ==some c))=false:=by
    rw[decide_eq_false ()];rfl
   have e2:l.drop (k+1)=[]:=Qek ()
   rw[e1,qT l c (k+1) n (),this,e2]
   simp
theorem MK(l:c0)(c:Nat):Builtin.Str.occurrences (S l) (S [c]) 0 (S l:) 1=if c∈l then [l.idxOf c] else []:=by
 rw[StrLaws.occ_eq,occ_first _ _ _ _ 0 λ_ _=>Qar _]
 have e:(λi=>decide (i+(S [c]:)<=(S l:))&&Builtin.Str.subAt (S l) (S [c]) i)=λi=>decide (i+1<=(l:))&&(l[i]? ==some c):=by
  funext i
  rw[subAt_one,dD,dD]
  rfl
 rw[e,dD,Qdk,qT l c 0 ((l:)+1) (),Qcl]
 by_cases h:c∈l
 ·rw[if_pos h,if_pos h,Qc1];rfl
 ·rw[if_neg h,if_neg h];rfl
section
variable{X:Cx}
inductive u9(x:V)(vs:List V)(H:Hp)(Q:VK):Prop
 | mk (l:_) (c:_) (_:x= .str (S l)) (_:vs=[.str (S [c])]) (_:c∈l) (_:Q (.int (l.idxOf c:Nat)) H):u9 x vs H Q
def KC:V->List V->Hp->VK->Prop:=u9
theorem gs:Ce X "str.index" KC:=by
 walk_at"s"
 obtain ⟨l,c,rfl,rfl,hc,q⟩:=h
 walk_at"f"
 obtain ⟨u,rfl,t',rfl⟩:=vals1 rv
 exact SC.index (i:=l.idxOf c) (rest:=[]) (by rw[MK,if_pos hc]) ⟨.int (l.idxOf c:Nat),H,I.tok _,⟨_,rfl⟩,q⟩
inductive yF(x:V)(vs:List V)(H:Hp)(Q:VK):Prop
 | mk (l:_) (c:_) (_:x= .str (S l)) (_:vs=[.str (S [c])]) (_:Q (.int (if c∈l then (l.idxOf c:Nat) else -1)) H):yF x vs H Q
def Oo:V->List V->Hp->VK->Prop:=yF
theorem yG:Ce X "str.find" Oo:=by
 walk_at"s"
 obtain ⟨l,c,rfl,rfl,q⟩:=h
 walk_at"f"
 obtain ⟨u,rfl,t',rfl⟩:=vals1 rv
 refine SC.find ⟨.int _,H,I.tok _,⟨_,rfl⟩,?_⟩
 have e:Txt.find (S l) (S [c])=(if c∈l then ((l.idxOf c:Nat):Int) else -1):=by
  unfold Txt.find
  rw[MK]
  by_cases h:c∈l
  ·rw[if_pos h,if_pos h]
  ·rw[if_neg h,if_neg h]
 rw[e]
 exact q
def ML(f:Nat->Bool):V->List V->Hp->VK->Prop:=λx vs H Q=>∃c,x= .str (S [c])/\vs=[]/\c<128/\Q (.bl (f c)) H
def Tx(f:Nat->Nat):V->List V->Hp->VK->Prop:=λx vs H Q=>∃c,x= .str (S [c])/\vs=[]/\c<128/\Q (.str (S [f c])) H
noncomputable def aC(c:Nat):Bool:=decide (97<=c)&&decide (c<=122)
noncomputable def isUp(c:Nat):Bool:=decide (65<=c)&&decide (c<=90)
theorem KD:∀c,c<128->Txt.islower ⟨#[c]⟩=aC c:=⋯
theorem Oq:∀c,c<128->Txt.isupper ⟨#[c]⟩=isUp c:=⋯
theorem lX:Ce X "str.islower" (ML aC):=by
 walk_at"s"
 obtain ⟨c,rfl,rfl,hc,q⟩:=h
 walk_at"f"
 have e:us=[]:=by cases rv;rfl
 subst e
 exact SC.islower ⟨.bl (aC c),H,I,congrArg Value.bool (KD c hc),q⟩
theorem AI:Ce X "str.isupper" (ML isUp):=by
 walk_at"s"
 obtain ⟨c,rfl,rfl,hc,q⟩:=h
 walk_at"f"
 have e:us=[]:=by cases rv;rfl
 subst e
 exact SC.isupper ⟨.bl (isUp c),H,I,congrArg Value.bool (Oq c hc),q⟩
theorem upper_one{c:Nat}(hc:c<128):Txt.upper (S [c])=S [up1 c]:=by
 rw[upper_ascii (by intro d hd;rw[dc]at hd;simp at hd;lia)]
 simp[S]
theorem u_{c:Nat}(hc:c<128):Txt.lower (S [c])=S [lo1 c]:=by
 rw[lower_ascii (by intro d hd;rw[dc]at hd;simp at hd;lia)]
 simp[S]
theorem MM(c:Nat):Builtin.Str.tooLong (S [c]:)=false:=by
 rw[dD]
 show Builtin.Str.tooLong 1=false
 decide
theorem Gm:Ce X "str.upper" (Tx up1):=by
 walk_at"s"
 obtain ⟨c,rfl,rfl,hc,q⟩:=h
 walk_at"f"
 have e:us=[]:=by cases rv;rfl
 subst e
 exact SC.upper (by rw[upper_one hc];exact MM _) ⟨.str (S [up1 c]),H,I.tok _,⟨_,congrArg (λz=>Value.str z _) (upper_one hc)⟩,q⟩
theorem qU:Ce X "str.lower" (Tx lo1):=by
 walk_at"s"
 obtain ⟨c,rfl,rfl,hc,q⟩:=h
 walk_at"f"
 have e:us=[]:=by cases rv;rfl
 subst e
 exact SC.lower (by rw[u_ hc];exact MM _) ⟨.str (S [lo1 c]),H,I.tok _,⟨_,congrArg (λz=>Value.str z _) (u_ hc)⟩,q⟩
theorem Gn:∀(ls:List c0) (a:Array Nat),(ls.map S).foldl (λacc p=>acc++(S []).cps++p.cps) a=a++ls.flatten.toArray
 | [],a=>by simp
 | l::ls,a=>by
  rw[Qa0,Qdi,Gn ls]
  simp[S]
theorem Ot(ls:List c0):Txt.join (S []) (ls.map S)=S ls.flatten:=by
 unfold Txt.join Builtin.Str.glued
 cases ls with
 | nil=>rfl
 | cons l ls=>
  show Str.mk ((List.map S ls).foldl (λacc p=>acc++(S []).cps++p.cps) (S l).cps)=_
  rw[Gn]
  simp[S]
theorem lY:∀{ls:List c0} {us:List Value},Vals (ls.map λl=>V.str (S l)) us->StrsAre us (ls.map S)
 | [],us,r=>by cases r;exact .nil
 | l::ls,us,r=>by
  cases r with
  | cons r1 r2=>
   walk_at"T"
   exact .cons _ t (lY r2)
inductive yH(K:c7)(x:V)(vs:List V)(H:Hp)(Q:VK):Prop
 | mk (p:Addr) (ls:List c0) (_:x= .str (S [])) (_:vs=[.ref p]) (_:bB K H p (ls.map λl=>V.str (S l))) (_:(ls.map List.length).sum<=16777216) (_:Q (.str (S ls.flatten)) H):yH K x vs H Q
def Gp(K:c7):V->List V->Hp->VK->Prop:=yH K
theorem Gq:Ce X "str.join" (Gp X.K):=by
 walk_at"s"
 obtain ⟨p,ls,rfl,rfl,hq,hz,q⟩:=h
 walk_at"f"
 obtain ⟨u,rfl,ru⟩:=vals1 rv
 cases ru
 obtain ⟨aH,r,pl,_⟩:=I.list hq
 have e:(S []:)=0:=rfl
 refine join_list pl.isList (by simpa using lY r) ?_ λt' k=>?_
 ·rw[e,Nat.mul_zero,Qdd,Qbx]
  have e2:(Str.length ∘ S)=List.length:=by funext l;exact dD l
  have e3:((λx:Str=>(x:)) ∘ S)=List.length:=by funext l;exact dD l
  first | (rw[e2];exact hz) | (rw[e3];exact hz)
 ·exact ⟨.str (S ls.flatten),H,I.tok _,⟨t',congrArg (λz=>Value.str z t') (Ot ls)⟩,q⟩
end
end L2
namespace L2.F2
open PySem PySem.Spec PyProof.Rows
theorem va:Manifest.owners.lookup (String.ofList ['d','e','s','r','e','v','e','r'].reverse)=some Manifest.sig_reversed:=by kernel_rfl
theorem dG:Slot "reversed" "__next__" "reversed.__next__":=
 .of (owner:="reversed") (n:="__next__") (by rw[typeLookup_type,builtinLookup_eq_fast];kernel_rfl) ⋯ ⋯ ⋯
  (by first | exact .inl ⋯ | exact .inr ⋯) (by rw[isSubtype_type];kernel_rfl)
theorem jL:entryFor table "reversed.__next__"=some Builtin.«reversed.__next__» :=entryFor_of_tree (by kernel_rfl)
theorem jf(a:Value):argsOk "reversed.__next__" ⟨[a],[]⟩:=by
 unfold argsOk;rw[signature?_of (id:="reversed.__next__") (n:=['_','_','t','x','e','n','_','_']) (o:=['d','e','s','r','e','v','e','r']) (by kernel_rfl) va];kernel_rfl
theorem lA:Slot "reversed" "__iter__" "reversed.__iter__":=
 .of (owner:="reversed") (n:="__iter__") (by rw[typeLookup_type,builtinLookup_eq_fast];kernel_rfl) ⋯ ⋯ ⋯
  (by first | exact .inl ⋯ | exact .inr ⋯) (by rw[isSubtype_type];kernel_rfl)
theorem pW(a:Value):argsOk "reversed.__iter__" ⟨[a],[]⟩:=by
 unfold argsOk;rw[signature?_of (id:="reversed.__iter__") (n:=['_','_','r','e','t','i','_','_']) (o:=['d','e','s','r','e','v','e','r']) (by kernel_rfl) va];kernel_rfl
theorem qV:entryFor table "reversed.__iter__"=some Builtin.«dict_keyiterator.__iter__» :=
 entryFor_alias (id':="dict_keyiterator.__iter__") (by kernel_rfl) (by first | rfl | decide+kernel | (unfold String.splitOn;simp+decide [String.splitOnAux])) ⋯ (by kernel_rfl)
theorem t6:Slot "reversed" "__init__" "object.__init__":=
 .of (owner:="object") (n:="__init__") (by rw[typeLookup_type,builtinLookup_eq_fast];kernel_rfl) ⋯ ⋯ ⋯
  (by first | exact .inl ⋯ | exact .inr ⋯) (by rw[isSubtype_type];kernel_rfl)
theorem AJ:TypeCalled "reversed" "reversed.__new__" "object.__init__":=
 ⟨⋯,⋯,⟨_,_,F.mro_reversed⟩,F.made_reversed,⋯,by rw[isSubtype_type];kernel_rfl,t6⟩
theorem AK:typeLookup (.type "str") "__reversed__"=pure none:=by rw[typeLookup_type,builtinLookup_eq_fast];kernel_rfl
end L2.F2
namespace L2
open PySem PySem.Spec PyProof.Rows
theorem qW(x:Str)(t:Tok)(hz:(x:)<=sizeLine):Meets (Builtin.«reversed.__new__» ⟨[.type "reversed",.str x t],[]⟩) (λ_ R s=>∀tk,R (.ok (.ret (.ref s.heap.objs.size))) { s with heap:=s.heap.push { cls:= .type "reversed",data:= .fields #[.str x t,rawInt (((x:):Int) - 1)] },toks:=tk }):=by
 refine Meets.of_wp λprog w A R s h=>?_
 unfold Builtin.«reversed.__new__»
 refine wpAny_bind (wpAny_of_eq (newClass_reversed _) ?_)
 try dsimp only
 refine wpAny_bind (wpAny_of_eq (a:=Unit.unit) (by first | rfl | kernel_rfl) ?_)
 refine wpAny_bind (wpAny_of_eq (a:=Unit.unit) (by first | rfl | kernel_rfl) ?_)
 try dsimp only
 refine wpAny_bind (wpAny_specialOf (typeIs_str s x t) F2.AK ?_)
 try dsimp only
 refine wpAny_bind (wpAny_of_eq (a:=true) (by first | rfl | kernel_rfl) ?_)
 rw[if_neg ∅]
 have hn:=gx
 refine wpAny_bind (len_str () ?_)
 refine wpAny_bind (wpAny_of_eq (a:=some ((x:):Int)) (by first | rfl | kernel_rfl) ?_)
 show wpAny _ _ (Builtin.SmallTypes.newRecord (Value.type "reversed") [Value.str x t,rawInt (((x:):Int) - 1)] >>= _) _ _ _
 refine wpAny_bind ?_
 unfold Builtin.SmallTypes.newRecord
 refine wpAny_newObj_type ?_ (by size_fits)
 exact wpAny_pure ⟨_,rfl,h _⟩
section
variable{prog:Program}{w:World}{A:Around}{E:Value->Shared->Prop}{s:Shared}
theorem qX{x:Str}{t:Tok}{Q:Value->Shared->Prop}(hz:(x:)<=sizeLine)(h:∀tk,Q (.ref s.heap.objs.size) { s with heap:=s.heap.push { cls:= .type "reversed",data:= .fields #[.str x t,rawInt (((x:):Int) - 1)] },toks:=tk }):
  wpAny (model prog w) A (call (.type "reversed") [.str x t]) Q E s:=
 callType_new F2.AJ ⋯ (F.typeCall_reversed_1 _) (F.newCall_reversed_1 _) (λobj=>by unfold argsOk;kernel_rfl) F.entry_reversed_new (qW x t hz)
  λtk=>⟨⟨_,Qaq _ rfl,rfl⟩,h tk⟩
def jM(h:Heap)(it:Addr)(x:Str)(t:Tok)(i:Int):Prop:=∃o,h.get? it=some o/\o.cls= .type "reversed"/\o.data= .fields #[.str x t,rawInt i]
theorem jM.typeIs{it:Addr}{x:Str}{t:Tok}{i:Int}(h:jM s.heap it x t i):s.TypeIs (.ref it) "reversed":=let ⟨o,ho,hc,_⟩:=h;⟨o,ho,hc⟩
theorem qY{it:Addr}{x:Str}{t:Tok}{i:Int}{Q:Value->Shared->Prop}(hit:jM s.heap it x t i)(h:Q (.ref it) s):wpAny (model prog w) A (pyIter (.ref it)) Q E s:=by
 refine wpAny_pyIter_slot hit.typeIs F2.lA (wpAny_call_entry F2.lA hit.typeIs F2.qV ?_ (F2.pW _))
 show wpAny _ _ (ret (.ref it)) _ _ s
 exact wpAny_pure ⟨_,rfl,"reversed",_,hit.typeIs,F2.dG.lookup,h⟩
theorem pX{it:Addr}{x:Str}{t:Tok}{i c:Nat}{Q:Option Value->Shared->Prop}(hit:jM s.heap it x t (i:Int))(hx:x.cps[i]? =some c)(hz:(x:)<=sizeLine)
  (hQ:∀h' tk u,jM h' it x t ((i:Int) - 1)->Heap.SameBut it s.heap h'->Q (some (.str ⟨#[c]⟩ u)) { s with heap:=h',toks:=tk }):wpAny (model prog w) A (pyNext (.ref it)) Q E s:=by
 obtain ⟨o,ho,hc,hd⟩:=id hit
 have hn:=gx
 have hi:i<(x:):=(Array.getElem?_eq_some_iff.mp hx).1
 unfold pyNext
 refine wpAny_bind (wpAny_attempt (wpAny_callSpecial?_slot (name:=Str.ofString "__next__") hit.typeIs F2.dG
  (wpAny_call_entry F2.dG hit.typeIs F2.jL ?_ (F2.jf _))))
 unfold Builtin.«reversed.__next__»
 refine wpAny_bind (wpAny_of_eq (a:=(Value.ref it,[])) rfl ?_)
 try dsimp only
 refine wpAny_bind (wpAny_field ho hd (x:= .str x t) rfl ?_)
 refine wpAny_bind (wpAny_field ho hd (x:=rawInt (i:Int)) rfl ?_)
 show wpAny _ _ (if (i:Int)<0 then _ else _) _ _ s
 rw[if_neg ()]
 refine wpAny_bind (wpAny_specialOf (typeIs_str s x t) F.slot_str_getitem.lookup ?_)
 show wpAny _ _ (if (some (Value.builtin _)).isNone=true then _ else _) _ _ s
 rw[if_neg ∅]
 refine wpAny_bind (wpAny_mkInt ?_)
 refine wpAny_bind (wpAny_attempt (getItem_str (c:=c) (by
  have e1:decide ((i:Int)< -(2 ^ 63:Int))=false:=decide_eq_false ()
  have e2:decide ((i:Int) ≥ 2 ^ 63)=false:=decide_eq_false ()
  rw[e1,e2,Qfa]) (by rw[seqIndex_of () (),Qab];exact hx) ?_))
 show wpAny _ _ (field (Value.ref it) 1 >>= _) _ _ _
 refine wpAny_bind (wpAny_field ho hd (x:=rawInt (i:Int)) rfl ?_)
 show wpAny _ _ (setField (Value.ref it) 1 (rawInt ((i:Int) - 1)) >>= _) _ _ _
 refine wpAny_bind (wpAny_setField ho hd (by simp) ?_)
 refine wpAny_pure ⟨_,rfl,wpAny_pure (hQ _ _ _ ?_ (Qgo ..))⟩
 exact ⟨_,Qcv _ ho (Obj.isFreed_of_fields (Obj.data_mapFields hd _)),(Obj.cls_mapFields ..).trans hc,by
  rw[Obj.data_mapFields hd];simp⟩
theorem qZ{it:Addr}{x:Str}{t:Tok}{Q:Option Value->Shared->Prop}(hh:A.handled=none)(hit:jM s.heap it x t (-1))
  (hQ:∀h',Heap.ExtBut it s.heap h'->Q none { s with heap:=h' }):wpAny (model prog w) A (pyNext (.ref it)) Q E s:=by
 obtain ⟨o,ho,hc,hd⟩:=id hit
 unfold pyNext
 refine wpAny_bind (wpAny_attempt (wpAny_callSpecial?_slot (name:=Str.ofString "__next__") hit.typeIs F2.dG
  (wpAny_call_entry F2.dG hit.typeIs F2.jL ?_ (F2.jf _))))
 unfold Builtin.«reversed.__next__»
 refine wpAny_bind (wpAny_of_eq (a:=(Value.ref it,[])) rfl ?_)
 try dsimp only
 refine wpAny_bind (wpAny_field ho hd (x:= .str x t) rfl ?_)
 refine wpAny_bind (wpAny_field ho hd (x:=rawInt (-1)) rfl ?_)
 show wpAny _ _ (if (-1:Int)<0 then _ else _) _ _ s
 rw[if_pos ∅]
 refine wpAny_bind (wpAny_rule ?_)
 refine wpAny_bind ?_
 show wpAny _ _ (setField (Value.ref it) 1 (rawInt (-1)) >>= λ_=>setField (Value.ref it) 0 .none) _ _ _
 refine wpAny_bind (wpAny_setField ho hd (by simp) ?_)
 refine wpAny_setField (Qcv _ ho (Obj.isFreed_of_fields (Obj.data_mapFields hd _))) (Obj.data_mapFields hd _) (by simp) ?_
 first
 | show wpAny _ _ (newExc (.type "StopIteration") [] >>= _) _ _ _
 |(refine wpAny_bind ?_;show wpAny _ _ (newExc (.type "StopIteration") [] >>= _) _ _ _)
 refine wpAny_bind ?_
 simp only[newExc,newTuple]
 refine wpAny_bind (wpAny_newObj_type ?_ (by size_fits))
 refine wpAny_bind (m:=firstArgMember _ _) (wpAny_of_eq (a:=Value.none) (by first | rfl | (simp only[firstArgMember];rfl)) ?_)
 refine wpAny_newObj_type ?_ (by size_fits)
 simp only[raiseNew]
 refine wpAny_bind (wpAny_handled ?_)
 first | rw[show A.in1.handled=none from hh] | rw[hh]
 refine wpAny_bind (wpAny_pure (wpAny_throw ?_))
 refine wpAny_bind (wpAny_isInstance (T:="StopIteration") (b:=true) ⟨_,Qaq _ rfl,rfl⟩ isSubtype_stop ?_)
 refine wpAny_pure (hQ _ λb ob hb e=>?_)
 refine ZG _ (ZG _ ?_)
 exact (Qb1 _ _ (Ne.symm hb)).trans ((Qb1 _ _ (Ne.symm hb)).trans e)
end
noncomputable def KG(xs:List V):It:=⟨λi _=>i<(xs:),λi H x H'=>H'=H/\xs[i]? =some x,λi _=>(xs:)<=i⟩
theorem f_{l:c0}{i:Nat}{x:V}(h:(cx l)[i]? =some x):∃c,l[i]? =some c/\x= .str (S [c]):=by
 unfold cx at h
 rw[Qas]at h
 cases e:l[i]? with
 | none=>rw[e]at h;cases h
 | some c=>rw[e]at h;cases h;exact ⟨c,rfl,rfl⟩
theorem aX(l:c0):(cx l:)=(l:):=by unfold cx;rw[kb]
theorem Gr{P:Program}{w:World}{K:c7}{tg:Expr}(it:Addr)(l:c0)(t:Tok):Turn P w K tg (KG (cx l)) [it] it (λi h=>h.IsStrIter it (strIterType (S l)) (S l) t i) where
 mem:=by simp
 obj:=λi h st b hb=>by
  have e:b=it:=by simpa using hb
  subst e
  obtain ⟨o,e,c,d⟩:=st
  walk_at"V"
 keep:=λi h h' st k=>let ⟨o,e,r⟩:=st;⟨o,k it (by simp) o e,r⟩
 item:=by
  walk_at"b"
  subst hP hw hK
  have Ou:i<(l:):=by have:i<(cx l:):=hg;rwa [aX]at this
  walk_at"e"
  have fin:∀(v:Value) (h':Heap) (tk:Nat),SignAt (S l) i v->h'.IsStrIter it (strIterType (S l)) (S l) t (i+1)->(∀b o,b∉[it]->s.heap.get? b=some o->h'.get? b=some o)->
    ∃u,some v=some u/\wpAny (model X.prog X.w) X.A (letOwnedTupleGo tg (.ref it) u) (λ_ s2=>∃x H',Inv X pins σ H' s2/\RelV x u/\(KG (cx l)).FO i H x H'/\s2.heap.IsStrIter it (strIterType (S l)) (S l) t (i+1)/\∀b∈[it],H' b=none) E { s with heap:=h',toks:=tk }:=by
   intro v h' tk hv aR kk
   obtain ⟨c,u,e1,e2⟩:=hv
   subst e2
   walk_at"R"
   obtain ⟨o,e,cc,d⟩:=id aR
   refine ⟨_,rfl,yv (s:={ s with heap:=h',toks:=tk }) e cc d (by unfold strIterType;split<;>decide) ⟨.str (S [c]),H,I1,⟨u,rfl⟩,⟨rfl,?_⟩,aR,λb hb=>(hf b hb).1⟩⟩
   unfold cx
   rw[Qas]
   have D1:l[i]? =some c:=by simpa [S]using e1
   rw[D1]
   rfl
  have hsz:i<(S l).cps.size:=by rw[nX];exact Ou
  by_cases ha:(S l).cps.all (· <128)=true
  ·have et:strIterType (S l)="str_ascii_iterator":=by unfold strIterType;rw[if_pos ha]
   rw[et]at st
   exact (Walks.strAscii (prog:=X.prog) (w:=X.w) (I.ok.hd hc) it (S l) t).item i s _ _ hsz st λv h' tk hv aR kk=>fin v h' tk hv (by rw[et];exact aR) kk
  ·have et:strIterType (S l)="str_iterator":=by unfold strIterType;rw[if_neg ha]
   rw[et]at st
   exact (Walks.strWide (prog:=X.prog) (w:=X.w) (I.ok.hd hc) it (S l) t).item i s _ _ hsz st λv h' tk hv aR kk=>fin v h' tk hv (by rw[et];exact aR) kk
 done:=by
  walk_at"b"
  subst hP hw hK
  walk_at"e"
  have Ou:(l:)<=i:=by have:(cx l:)<=i:=hg;rwa [aX]at this
  have hx:(S l).cps[i]? =none:=by rw[Array.getElem?_eq_none_iff,nX];exact Ou
  by_cases ha:(S l).cps.all (· <128)=true
  ·have et:strIterType (S l)="str_ascii_iterator":=by unfold strIterType;rw[if_pos ha]
   rw[et]at st
   exact wpAny_pyNext_ascii_end (I.ok.hd hc) st hx λh' eb=>⟨rfl,I.turned (t':=s.toks) (λb o hb e=>eb b o hb e) f0 f1 f3 f4 f5⟩
  ·have et:strIterType (S l)="str_iterator":=by unfold strIterType;rw[if_neg ha]
   rw[et]at st
   exact wpAny_pyNext_wide_end (I.ok.hd hc) st hx λh' eb=>⟨rfl,I.turned (t':=s.toks) (λb o hb e=>eb b o hb e) f0 f1 f3 f4 f5⟩
 self:=λ_ _ s _ _ st h=>by
  by_cases ha:(S l).cps.all (· <128)=true
  ·have et:strIterType (S l)="str_ascii_iterator":=by unfold strIterType;rw[if_pos ha]
   rw[et]at st
   exact wpAny_pyIter_striter_ascii st h
  ·have et:strIterType (S l)="str_iterator":=by unfold strIterType;rw[if_neg ha]
   rw[et]at st
   exact wpAny_pyIter_striter_wide st h
theorem Gs{P:Program}{w:World}{K:c7}{tg:Expr}(it:Addr)(l:c0)(t:Tok)(hz:(l:)<=sizeLine):Turn P w K tg (KG (cx l).reverse) [it] it (λi h=>i<=(l:)/\jM h it (S l) t (((l:):Int) - 1 - (i:Int))) where
 mem:=by simp
 obj:=λi h st b hb=>by
  have e:b=it:=by simpa using hb
  subst e
  obtain ⟨_,o,e,c,d⟩:=st
  walk_at"V"
 keep:=λi h h' st k=>let ⟨q,o,e,r⟩:=st;⟨q,o,k it (by simp) o e,r⟩
 item:=by
  walk_at"b"
  subst hP hw hK
  have Ou:i<(l:):=by have:i<(cx l).reverse.length:=hg;rwa [Qat,aX]at this
  walk_at"e"
  obtain ⟨_,st⟩:=st
  have e:((l:):Int) - 1 - (i:Int)=(((l:) - 1 - i:Nat):Int):=by lia
  rw[e]at st
  have cf:(l:) - 1 - i<(l:):=by lia
  refine pX (c:=l[(l:) - 1 - i]) st (by simp[S,cf]) (by rw[dD];exact hz) λh' tk u aR sb=>?_
  have I1:Inv X pins σ H { s with heap:=h',toks:=tk }:=I.turned (λb o hb e=>(sb.2 b hb).trans e) f0 f1 f3 f4 f5
  obtain ⟨o,e1,cc,d⟩:=id aR
  refine ⟨_,rfl,yv (s:={ s with heap:=h',toks:=tk }) e1 cc d ∅ ⟨.str (S [l[(l:) - 1 - i]]),H,I1,⟨u,rfl⟩,⟨rfl,?_⟩,⟨Ou,?_⟩,λb hb=>(hf b hb).1⟩⟩
  ·rw[Qdw (by rw[aX];exact Ou),aX]
   unfold cx
   rw[Qas,Of cf]
   rfl
  ·have e2:((l:):Int) - 1 - ((i+1:Nat):Int)=(((l:) - 1 - i:Nat):Int) - 1:=by lia
   rw[e2]
   exact aR
 done:=by
  walk_at"b"
  subst hP hw hK
  walk_at"e"
  have Ou:(l:)<=i:=by have:(cx l).reverse.length<=i:=hg;rwa [Qat,aX]at this
  obtain ⟨hi,st⟩:=st
  have e:((l:):Int) - 1 - (i:Int)= -1:=by lia
  rw[e]at st
  exact qZ (I.ok.hd hc) st λh' eb=>⟨rfl,I.turned (t':=s.toks) (λb o hb e=>eb b o hb e) f0 f1 f3 f4 f5⟩
 self:=λ_ _ _ _ _ st h=>qY st.2 h
section
variable{X:Cx}{tg:Expr}
def Xo(tl:TE):TI:=λσ H R=>tl σ H λx H1=>∃l,x= .str (S l)/\R (KG (cx l)) H1
theorem lZ{l:Expr}{tl:TE}(hl:PE X l tl):PI X tg l (Xo tl):=by
 walk_at"W"
 walk_at"S"
 obtain ⟨l,rfl,q⟩:=q1
 walk_at"T"
 refine wpAny_pyIter_strU ?_
 refine ⟨s1.heap.objs.size,[s1.heap.objs.size],_,_,H1,rfl,I1.kept (t':=s1.toks) λb o e=>ZG _ e,Gr _ l t,⟨_,Qaq _ rfl,rfl,rfl⟩,λb hb=>?_,q⟩
 have e:b=s1.heap.objs.size:=by simpa using hb
 subst e
 walk_at"N"
def Xp(ta:TA):TI:=λσ H R=>ta σ H λvs H1=>∃l,vs=[.str (S l)]/\(l:)<=sizeLine/\R (KG (cx l).reverse) H1
theorem Gu{a:Expr}{ta:TA}{p pos:Pos}(hg:Gl X "reversed")(hm:X.mg "reversed"=none)(ha:PA X [a] ta)(hs:starEach [a] X.env=[(false,eval a X.env)]:=by rfl):PI X tg (.Call (.Name "reversed" p) [a] [] pos) (Xp ta):=by
 walk_at"W"
 refine Call_ (g8 I hg hm boot_reversed (Qcg (cA (ha pos pins s σ H _ I h) λus s1 ⟨vs,H1,I1,r1,q1⟩=>?_) hs rfl))
 obtain ⟨l,rfl,hz,q⟩:=q1
 obtain ⟨u,rfl,t,rfl⟩:=vals1 r1
 refine qX (by rw[dD];exact hz) λtk=>?_
 have hit:jM (s1.heap.push { cls:= .type "reversed",data:= .fields #[.str (S l) t,rawInt (((S l:):Int) - 1)] }) s1.heap.objs.size (S l) t (((S l:):Int) - 1):=⟨_,Qaq _ rfl,rfl,rfl⟩
 refine qY hit ?_
 refine ⟨s1.heap.objs.size,[s1.heap.objs.size],_,_,H1,rfl,I1.kept (t':=tk) λb o e=>ZG _ e,Gs _ l t hz,⟨Qar _,?_⟩,λb hb=>?_,q⟩
 ·have e:((l:):Int) - 1 - ((0:Nat):Int)=((S l:):Int) - 1:=by rw[dD];simp
  rw[e]
  exact hit
 ·have e:b=s1.heap.objs.size:=by simpa using hb
  subst e
  walk_at"N"
end
theorem wL{xs:List V}{g:TG}{tb:TS}{D:Ends}{σ:St}{H:Hp}(Pv:Nat->St->Hp->Prop)(h0:Pv 0 σ H)
  (hs:∀i x σ H,xs[i]? =some x->Pv i σ H->g x σ H λσ2 H2=>tb { D with nx:=Pv (i+1),ct:=Pv (i+1),bk:=D.nx } σ2 H2) (hd:∀σ H,Pv (xs:) σ H->D.nx σ H):
  ∃W:Nat->Nat->St->Hp->Prop,(∃m,W 0 m σ H)/\∀i m σ H,W i m σ H->
   ((KG xs).stop i H/\D.nx σ H)\/((KG xs).go i H/\∃N:St->Hp->Prop,(∀σ' H',N σ' H'->∃m',m'<m/\W (i+1) m' σ' H')/\∀x H',(KG xs).FO i H x H'->g x σ H' λσ2 H2=>tb { D with nx:=N,ct:=N,bk:=D.nx } σ2 H2):=by
 walk_at"h"
 rintro i m σ H ⟨rfl,hi,p⟩
 by_cases cf:i<(xs:)
 ·refine .inr ⟨cf,Pv (i+1),λσ' H' p'=>⟨(xs:) - (i+1),(),rfl,cf,p'⟩,λx H' y=>?_⟩
  obtain ⟨e,y⟩:=y
  subst e
  exact hs i x σ _ y p
 ·have e:i=(xs:):=by lia
  subst e
  exact .inl ⟨ZH _,hd σ H p⟩
theorem qq{J:It}{n:Nat}{xs:Nat->V->Prop}{σc:St}{g:TG}{tc:TT}{te:TE}{Q:VK}{H1:Hp}(Pv:Nat->List V->Hp->Prop)(hn:n<sizeLine)(hgo:∀i acc H,i<n->Pv i acc H->J.go i H)(Tz:∀acc H,Pv n acc H->J.stop n H)
  (hy:∀i acc H x H',i<n->Pv i acc H->J.FO i H x H'->H'=H/\xs i x) (h0:Pv 0 [] H1)
  (hs:∀(i:Nat) (x:V) (acc:List V) (H:Hp) (Nx:List V->Hp->Prop),i<n->xs i x->(acc:)<=i->Pv i acc H->(∀e_ H',(e_:)<=i+1->Pv (i+1) e_ H'->Nx e_ H')->
   g x σc H λσ2 H2=>Wk σc σ2/\tc σ2 H2 λb H3=>if b=true then te σ2 H3 λv H4=>Nx (acc++[v]) H4 else Nx acc H3)
  (hd:∀acc H D,(acc:)<=n->Pv n acc H->H D=none->Q (.ref D) (upd H D (.lst acc))):u5 J σc g tc te Q H1:=by
 refine ⟨λi m acc H=>m=n - i/\i<=n/\(acc:)<=i/\Pv i acc H,⟨n,by simp,Qar _,ZH _,h0⟩,?_⟩
 rintro i m acc H ⟨rfl,hi,hl,p⟩
 refine ⟨(),?_⟩
 by_cases cf:i<n
 ·refine .inr ⟨hgo i acc H cf p,λx H' y=>?_⟩
  obtain ⟨rfl,y2⟩:=hy i acc H x H' cf p y
  exact hs i x acc _ (λe_ H'=>∃m',m'<n - i/\(m'=n - (i+1)/\i+1<=n/\(e_:)<=i+1/\Pv (i+1) e_ H')) cf y2 hl p λe_ H' h1 h2=>⟨n - (i+1),(),rfl,cf,h1,h2⟩
 ·have e:i=n:=by lia
  subst e
  exact .inl ⟨Tz acc H p,λD hD=>hd acc H D hl p hD⟩
theorem iq{xs:List V}{σc:St}{g:TG}{tc:TT}{te:TE}{Q:VK}{H1:Hp}(Pv:Nat->List V->Hp->Prop)(hn:(xs:)<sizeLine)(h0:Pv 0 [] H1)
  (hs:∀(i:Nat) (x:V) (acc:List V) (H:Hp) (Nx:List V->Hp->Prop),i<(xs:)->xs[i]? =some x->(acc:)<=i->Pv i acc H->(∀e_ H',(e_:)<=i+1->Pv (i+1) e_ H'->Nx e_ H')->
   g x σc H λσ2 H2=>Wk σc σ2/\tc σ2 H2 λb H3=>if b=true then te σ2 H3 λv H4=>Nx (acc++[v]) H4 else Nx acc H3)
  (hd:∀acc H D,(acc:)<=(xs:)->Pv (xs:) acc H->H D=none->Q (.ref D) (upd H D (.lst acc))):u5 (KG xs) σc g tc te Q H1:=
 qq (xs:=λi x=>xs[i]? =some x) Pv hn (λi _ _ h _=>h) (λ_ _ _=>ZH _) (λi _ H x H' _ _ y=>y) h0 hs hd
theorem q0{lo:Int}{n:Nat}{σc:St}{g:TG}{tc:TT}{te:TE}{Q:VK}{H1:Hp}(Pv:Nat->List V->Hp->Prop)(hn:n<sizeLine)(h0:Pv 0 [] H1)
  (hs:∀(i:Nat) (acc:List V) (H:Hp) (Nx:List V->Hp->Prop),i<n->(acc:)<=i->Pv i acc H->(∀e_ H',(e_:)<=i+1->Pv (i+1) e_ H'->Nx e_ H')->
   g (.int (lo+i)) σc H λσ2 H2=>Wk σc σ2/\tc σ2 H2 λb H3=>if b=true then te σ2 H3 λv H4=>Nx (acc++[v]) H4 else Nx acc H3)
  (hd:∀acc H D,(acc:)<=n->Pv n acc H->H D=none->Q (.ref D) (upd H D (.lst acc))):u5 (MA lo n) σc g tc te Q H1:=
 qq (xs:=λi x=>x= .int (lo+i)) Pv hn (λi _ _ h _=>h) (λ_ _ _=>ZH _) (λi _ H x H' _ _ y=>y) h0 (λi x acc H Nx h1 h2=>by subst h2;exact hs i acc H Nx h1) hd
theorem gu{K:c7}{a:Addr}{xs:List V}{σc:St}{g:TG}{tc:TT}{te:TE}{Q:VK}{H1:Hp}(Pv:Nat->List V->Hp->Prop)(hn:(xs:)<sizeLine)(hl:∀i acc H,Pv i acc H->bB K H a xs)(h0:Pv 0 [] H1)
  (hs:∀(i:Nat) (x:V) (acc:List V) (H:Hp) (Nx:List V->Hp->Prop),i<(xs:)->xs[i]? =some x->(acc:)<=i->Pv i acc H->(∀e_ H',(e_:)<=i+1->Pv (i+1) e_ H'->Nx e_ H')->
   g x σc H λσ2 H2=>Wk σc σ2/\tc σ2 H2 λb H3=>if b=true then te σ2 H3 λv H4=>Nx (acc++[v]) H4 else Nx acc H3)
  (hd:∀acc H D,(acc:)<=(xs:)->Pv (xs:) acc H->H D=none->Q (.ref D) (upd H D (.lst acc))):u5 (QB K a) σc g tc te Q H1:=
 qq (xs:=λi x=>xs[i]? =some x) Pv hn (λi acc H h p=>⟨xs,xs[i],hl i acc H p,by simp[h]⟩) (λacc H p=>⟨xs,hl _ acc H p,ZH _⟩) (λi acc H x H' h p y=>⟨y.1,y.2 xs (hl i acc H p)⟩) h0 hs hd
def KH(c:TT)(tb:TS):TS:=λD σ H=>∃W:Nat->St->Hp->Prop,(∃m,W m σ H)/\∀m σ H,W m σ H->c σ H λb H1=>if b=true then tb { D with nx:=λσ' H'=>∃m',m'<m/\W m' σ' H',ct:=λσ' H'=>∃m',m'<m/\W m' σ' H',bk:=D.nx } σ H1 else D.nx σ H1
theorem cY{X:Cx}{c:Expr}{body:List Stmt}{tc:TT}{tb:TS}{pos:Pos}(hp:PassesOwn (model X.prog X.w) X.A X.env X.xe)(hc:PT X c tc)(hb:yt X body tb):PS X (.While c body [] pos) (KH tc tb):=by
 walk_at"p"
 obtain ⟨W,⟨m0,w0⟩,turn⟩:=h
 refine wpAny_While (codeAny_whileLoop (λn s'=>∃σ' H',Inv X pins σ' H' s'/\W n σ' H') ?_ m0 ⟨σ,H,I,w0⟩)
 rintro n s1 ⟨σ1,H1,I1,w1⟩
 refine wpAny_passesOwn hp (cA (hc pins s1 σ1 H1 _ I1 (turn n σ1 H1 w1)) λb s2 ⟨H2,I2,q2⟩=>?_)
 cases b with
 | true=>
  rw[if_pos rfl]at q2 ⊢
  refine wpAny_passesOwn hp (cA (hb pins s2 σ1 H2 _ I2 q2) λf s3 q3=>?_)
  cases f with
  | next=>
   obtain ⟨σ3,H3,I3,m',hm,w3⟩:=q3
   exact ⟨m',hm,σ3,H3,I3,w3⟩
  | cont=>
   obtain ⟨σ3,H3,I3,m',hm,w3⟩:=q3
   exact ⟨m',hm,σ3,H3,I3,w3⟩
  | brk=>exact q3
  | ret v=>exact q3
 | false=>
  rw[if_neg Qan]at q2 ⊢
  exact wpAny_execs_nil ⟨σ1,H2,I2,q2⟩
noncomputable def wM(X:Cx)(scope:Scope):Bool:=(scope.names.all λy=>y.2 != .cell)&&(scope.kind== .function)&&(scope.names.all λy=>y.2 != .free||X.env.kindOf y.1==some .cell||X.env.kindOf y.1==some .free)&&(scope.names.all λy=>y.2 != .local||scope.names.lookup y.1==some .local)
theorem mO{X:Cx}{scope:Scope}(h:wM X scope=true):(∀y∈scope.names,y.2≠ .cell)/\scope.kind= .function/\(∀y∈scope.names,y.2= .free->X.env.kindOf y.1=some .cell\/X.env.kindOf y.1=some .free)/\(∀x∈scope.names,x.2= .local->scope.names.lookup x.1=some .local):=by
 unfold wM at h
 simp only[Qbr]at h
 obtain ⟨⟨⟨h1,h2⟩,h3⟩,h4⟩:=h
 refine ⟨λy hy e=>?_,by simpa using h2,λy hy e=>?_,λy hy e=>?_⟩
 ·have:=Qff.mp h1 y hy
  rw[e]at this;simp at this
 ·have:=Qff.mp h3 y hy
  rw[e]at this
  simpa using this
 ·have:=Qff.mp h4 y hy
  rw[e]at this
  simpa using this
theorem bW{X:Cx}{tg iter elt:Expr}{ifs:List Expr}{scope:Scope}{pos:Pos}{wi:TI}{g:TG}{tc:TT}{te:TE}(Nc:List Str)(ix:List (Option Nat))(hi:PI X tg iter wi)(AE:kS X scope Nc ix)
  (hG:∀C s H fp,PG (bR X scope C Nc s H fp) tg g) (hT:∀C s H fp,PF (bR X scope C Nc s H fp) ifs tc) (hE:∀C s H fp,PE (bR X scope C Nc s H fp) elt te) (b8:wM X scope=true:=by rfl) (lq:X.calm=true:=by rfl)
  (hs:∀x,foldedSetIterable iter X.env x=pure x:=by intro _;rfl):PE X (.ListComp elt [⟨tg,iter,ifs,0⟩] scope pos) (yD wi ix g tc te):=
 let ⟨h1,h2,h3,h4⟩:=mO b8
 Ky Nc ix hi lq AE h1 h2 h3 h4 hG hT hE hs
theorem mP{X:Cx}{i:Nat}{x:Str}{tg iter elt:Expr}{ifs:List Expr}{scope:Scope}{pos Gj pos':Pos}{wi:TI}{g:TG}{tc:TT}{te:TE}(Nc:List Str)(ix:List (Option Nat))(hN:X.N.Nodup)(Ol:X.N[i]? =some x)(hx:Loc X.env.scope x)
  (hi:PI X tg iter wi) (AE:kS X scope Nc ix)
  (hG:∀C s H fp,PG (bR X scope C Nc s H fp) tg g) (hT:∀C s H fp,PF (bR X scope C Nc s H fp) ifs tc) (hE:∀C s H fp,PE (bR X scope C Nc s H fp) elt te)
  (Fs:swapsWith (.ListComp elt [⟨tg,iter,ifs,0⟩] scope pos) (some (.Name x pos')) Gj.line X.env=pure true:=by rfl) (b8:wM X scope=true:=by rfl) (lq:X.calm=true:=by rfl)
  (hs:∀x,foldedSetIterable iter X.env x=pure x:=by intro _;rfl) (hf:X.fn x=true\/X.env.scope.names.lookup x=some .local:=by first | exact .inl rfl | exact .inr rfl | assumption):
  PS X (.Assign [.Name x pos'] (.ListComp elt [⟨tg,iter,ifs,0⟩] scope pos) Gj) (FL (yD wi ix g tc te) (uL i)):=
 let ⟨h1,h2,h3,h4⟩:=mO b8
 Kz Nc ix hN Ol hx Fs hi lq AE h1 h2 h3 h4 hG hT hE hs hf
section
variable{X:Cx}
inductive Gv(x:V)(y:V)(H:Hp)(Q:VK):Prop
 | mk (a:_) (b:_) (_:x= .str (S a)) (_:y= .str (S b)) (_:Q (.bl (decide (a=b))) H):Gv x y H Q
def Xq:R2:=Gv
inductive Gw(x:V)(y:V)(H:Hp)(Q:VK):Prop
 | mk (a:_) (b:_) (_:x= .str (S a)) (_:y= .str (S b)) (_:Q (.bl (!decide (a=b))) H):Gw x y H Q
def Xr:R2:=Gw
theorem dF:jv X (compareOp .Eq) Xq:=by
 walk_at"a"
 obtain ⟨a,b,rfl,rfl,q⟩:=h
 exact MC pins s σ H _ _ v u Q I rx ry ⟨rfl,by rw[MJ];exact q⟩
theorem nY:jv X (compareOp .NotEq) Xr:=by
 walk_at"a"
 obtain ⟨a,b,rfl,rfl,q⟩:=h
 exact MD pins s σ H _ _ v u Q I rx ry ⟨rfl,by rw[MJ];exact q⟩
theorem TB{i j:Int}:decide (V.int i=V.int j)=decide (i=j):=by
 by_cases h:i=j
 ·subst h;simp
 ·rw[decide_eq_false h,decide_eq_false]
  intro q
  exact h (V.int.inj q)
theorem TC{i j:Bool}:decide (V.bl i=V.bl j)=decide (i=j):=by
 by_cases h:i=j
 ·subst h;simp
 ·rw[decide_eq_false h,decide_eq_false]
  intro q
  exact h (V.bl.inj q)
theorem wN:jv X (compareOp .Eq) (Kf λi j=> .bl (decide (i=j))):=by
 walk_at"a"
 obtain ⟨a,b,rfl,rfl,q⟩:=h
 exact MC pins s σ H _ _ v u Q I rx ry ⟨rfl,by rw[TB];exact q⟩
inductive MN(g:Bool->Bool->V)(x:V)(y:V)(H:Hp)(Q:VK):Prop
 | mk (i:_) (j:_) (_:x= .bl i) (_:y= .bl j) (_:Q (g i j) H):MN g x y H Q
def rB0(g:Bool->Bool->V):R2:=MN g
theorem Ov:jv X (compareOp .NotEq) (rB0 λi j=> .bl (!decide (i=j))):=by
 walk_at"a"
 obtain ⟨a,b,rfl,rfl,q⟩:=h
 exact MD pins s σ H _ _ v u Q I rx ry ⟨rfl,by rw[TC];exact q⟩
inductive Gx(f:c0->c0->Bool)(x:V)(y:V)(H:Hp)(Q:VK):Prop
 | mk (a:_) (b:_) (_:x= .str (S a)) (_:y= .str (S b)) (_:Q (.bl (f a b)) H):Gx f x y H Q
def TF(f:c0->c0->Bool):R2:=Gx f
theorem wO:jv X (compareOp .Lt) (TF λa b=>decide (a<b)):=by
 walk_at"a"
 obtain ⟨a,b,rfl,rfl,q⟩:=h
 exact DM pins s σ H _ _ v u Q I rx ry ⟨S a,S b,rfl,rfl,by rw[dc,dc];exact q⟩
end
section
variable{X:Cx}{tg:Expr}
theorem b9(K:c7)(h:X.K=K):N1 X (Tc K):=by subst h;exact Ko
theorem bJ(K:c7)(h:X.K=K):N1 X (Td K):=by subst h;exact N2
def MO(K:c7):List V->Hp->VK->Prop:=λxs H Q=>∃p ys,xs=[.ref p]/\(bB K H p ys\/de K H p ys)/\Q (.int (ys:)) H
theorem t9(K:c7)(h:X.K=K):di X (.builtin "len") (MO K):=by subst h;exact wH
theorem jN(K:c7)(h:X.K=K):Ce X "str.join" (Gp K):=by subst h;exact Gq
def KI(K:c7):List V->Hp->VK->Prop:=λxs H Q=>∃p ys,xs=[.ref p]/\(bB K H p ys\/de K H p ys)/\∀l,H l=none->Q (.ref l) (upd H l (.lst ys))
theorem t_(K:c7)(h:X.K=K):di X (.type "list") (KI K):=by subst h;exact wJ
theorem cV(K:c7)(h:X.K=K){l:Expr}{tl:TE}(hl:PE X l tl):PI X tg l (MB K tl):=by subst h;exact Ke hl
theorem mQ(K:c7)(h:X.K=K){l:Expr}{tl:TE}(hl:PE X l tl):PI X tg l (SQ K tl):=by subst h;exact NQ hl
end
section
variable{X:Cx}{o e:Expr}{es:List Expr}{to:TE}{t:TA}{name:Str}{apos jw:Pos}{T id:String}{r:V->List V->Hp->VK->Prop}
theorem fz(K:c7)(hK:X.K=K)(pa:PlainAttrs T)(slot:Slot T name id)(N7:typeOf (.builtin id)=pure (.type "method_descriptor"))(hm:Ce X id r)(ho:PE X o to)
  (qM:attributeBase o name X.env (eval o X.env)=eval o X.env:=by rfl) (k_:(apos.endLine==jw.line)=true:=by rfl):PE X (.Call (.Attribute o name apos) [] [] jw) (Tf K T r to):=by
 subst hK
 exact N6 pa slot N7 hm ho qM k_
theorem bH(K:c7)(hK:X.K=K)(pa:PlainAttrs T)(slot:Slot T name id)(N7:typeOf (.builtin id)=pure (.type "method_descriptor"))(hm:Ce X id r)(ho:PE X o to)(ha:PA X (e::es) t)
  (qM:attributeBase o name X.env (eval o X.env)=eval o X.env:=by rfl)
  (Kq:((backTo jw (starEach (e::es) X.env)).all (λx=>!x.1)&&(backToKw jw (keywordEach [] X.env)).all (λx=>x.1.isSome)
   &&decide (((e::es):)+(([]:List Keyword):)+(if ([]:List Keyword).isEmpty then 0 else 1)<30))=true:=by rfl)
  (k_:(apos.endLine==jw.line)=true:=by rfl) (hs:starEach (e::es) X.env=(false,eval e X.env)::starEach es X.env:=by rfl) (Aw:(backTo jw (starEach es X.env)).any (·.1)=false:=by rfl):
  PE X (.Call (.Attribute o name apos) (e::es) [] jw) (ZA K T r to t):=by
 subst hK
 exact Tg pa slot N7 hm ho ha qM Kq k_ hs Aw
end
mutual
inductive Ck(K:c7)(H:Hp):V->PyData->Prop
 | eX:Ck K H .eX .none
 | bl (b:Bool):Ck K H (.bl b) (.bool b)
 | int (i:Int):Ck K H (.int i) (.int i)
 | str (x:Str):Ck K H (.str x) (.str x)
 | lst {a:Addr} {xs:List V} {ds:List PyData} (h:bB K H a xs) (r:q8 K H xs ds):Ck K H (.ref a) (.list ds)
 | tup {a:Addr} {xs:List V} {ds:List PyData} (h:de K H a xs) (r:q8 K H xs ds):Ck K H (.ref a) (.tuple ds)
inductive q8(K:c7)(H:Hp):List V->List PyData->Prop
 | nil:q8 K H [] []
 | cons {x:V} {xs:List V} {d:PyData} {ds:List PyData} (h:Ck K H x d) (r:q8 K H xs ds):q8 K H (x::xs) (d::ds)
end
section
variable{X:Cx}{pins:List (Addr×Obj)}{σ:St}{H:Hp}{s:Shared}
mutual
theorem Ck.reads(I:Inv X pins σ H s):∀{x:V} {d:PyData} {u:Value},Ck X.K H x d->RelV x u->∃as,Reads s.heap u d as
 | _,_,u,.eX,r=>by cases (show u=Value.none from r);exact ⟨_,.none⟩
 | _,_,u,.bl b,r=>by cases (show u=Value.bool b from r);exact ⟨_,.bool b⟩
 | _,_,u,.int i,r=>by obtain ⟨t,rfl⟩:=r;exact ⟨_,.int i t⟩
 | _,_,u,.str x,r=>by obtain ⟨t,rfl⟩:=r;exact ⟨_,.str x t⟩
 | _,_,u,.lst (a:=a) h q,r=>by
  cases (show u=Value.ref a from r)
  obtain ⟨aH,rv,pl,_⟩:=I.list h
  obtain ⟨as,ra⟩:=q8.reads I q rv
  obtain ⟨o,ho,hc,n,hd⟩:=pl.isList
  exact ⟨_,.list ho hc hd (by simpa using ra)⟩
 | _,_,u,.tup (a:=a) h q,r=>by
  cases (show u=Value.ref a from r)
  obtain ⟨aH,rv,pl,_⟩:=I.tuple h
  obtain ⟨as,ra⟩:=q8.reads I q rv
  obtain ⟨o,ho,hc,n,hd⟩:=pl
  exact ⟨_,.tuple ho hc hd (by simpa using ra)⟩
theorem q8.reads(I:Inv X pins σ H s):∀{xs:List V} {ds:List PyData} {us:List Value},q8 X.K H xs ds->Vals xs us->∃as,ReadsAll s.heap us ds as
 | _,_,us,.nil,r=>by cases r;exact ⟨_,.nil⟩
 | _,_,us,.cons h q,r=>by
  cases r with
  | cons r1 r2=>
   obtain ⟨as,ra⟩:=Ck.reads I h r1
   obtain ⟨bs,rb⟩:=q8.reads I q r2
   exact ⟨_,.cons ra rb⟩
end
end
section
variable{X:Cx}
inductive Gy(K:c7)(x:V)(y:V)(H:Hp)(Q:VK):Prop
 | mk (dx:_) (dy:_) (_:Ck K H x dx) (_:Ck K H y dy) (_:(dx.canLay0=true/\dy.canLay0=true)) (_:dx.depth<=60) (_:Q (.bl (PyData.eqv dx dy)) H):Gy K x y H Q
def Xs(K:c7):R2:=Gy K
inductive Gz(K:c7)(x:V)(y:V)(H:Hp)(Q:VK):Prop
 | mk (dx:_) (dy:_) (_:Ck K H x dx) (_:Ck K H y dy) (_:(dx.canLay0=true/\dy.canLay0=true)) (_:dx.depth<=60) (_:Q (.bl (!PyData.eqv dx dy)) H):Gz K x y H Q
def Xt(K:c7):R2:=Gz K
theorem Ow{k:Nat}(K:c7)(h:X.K=K)(hr:eI k X.A):jv X (compareOp .Eq) (Xs K):=by
 subst h
 walk_at"a"
 obtain ⟨dx,dy,h1,h2,⟨h3,h4⟩,h5,q⟩:=h
 obtain ⟨as,ra⟩:=h1.reads I rx
 obtain ⟨bs,rb⟩:=h2.reads I ry
 have hu:=hr.units
 exact SeqAt.compareEq_reads ra rb h3 h4 () ⟨.bl _,H,I,rfl,q⟩
theorem AL{k:Nat}(K:c7)(h:X.K=K)(hr:eI k X.A):jv X (compareOp .NotEq) (Xt K):=by
 subst h
 walk_at"a"
 obtain ⟨dx,dy,h1,h2,⟨h3,h4⟩,h5,q⟩:=h
 obtain ⟨as,ra⟩:=h1.reads I rx
 obtain ⟨bs,rb⟩:=h2.reads I ry
 have hu:=hr.units
 exact SeqAt.compareNe_reads ra rb h3 h4 () ⟨.bl _,H,I,rfl,q⟩
def TH(K:c7)(ta:TE):TT:=λσ H Q=>ta σ H λx H'=>∃p xs,x= .ref p/\bB K H' p xs/\Q (!xs.isEmpty) H'
theorem KJ{a:Expr}{ta:TE}(K:c7)(h:X.K=K)(ha:PE X a ta)(he:∀whole,isTrue a X.env whole=(do let v <-whole;standAt a.pos;holding [v] (truthy v)):=by intro _;rfl):PT X a (TH K ta):=by
 subst h
 intro pins s σ H Q I hw
 refine isTrue_plain (cA (ha pins s σ H _ I hw) λv s1 ⟨x,H1,I1,r1,q1⟩=>?_) (he _)
 obtain ⟨p,xs,rfl,hq,q⟩:=q1
 exact NU pins s1 σ H1 _ v Q I1 r1 ⟨_,.inl ⟨xs,hq,rfl⟩,q⟩
theorem gQ(K:c7)(h:X.K=K){es:List Expr}{k:Nat}{t:JI}{n:Nat}{pos:Pos}(hc:X.calm=true)(hs:QA X es t)
  (hn:(assignEach es X.env:)=n:=by rfl) (kZ:(assignEach es X.env).findIdx? (·.1)=none:=by rfl):PG X (.Tuple es k pos) (SO K n t):=by
 subst h
 exact NN hc hs hn kZ
end
noncomputable def bp(a b:c0):c0:=if b<a then b else a
noncomputable def bC:c0->List c0->c0
 | a,[]=>a
 | a,b::r=>bC (bp a b) r
noncomputable def dH(ls:List c0)(i j:Nat):Bool:=decide ((ls|||i)<(ls|||j))
theorem lB:∀(n:Nat) (ls:List c0),n<(ls:)->ls.getD (argBest (dH ls) n) []=bC (ls|||0) ((ls.drop 1).take n)
 | 0,ls,_=>by simp[argBest,bC]
 | n+1,ls,h=>by
  have ih:=lB n ls ()
  have e:(ls.drop 1).take (n+1)=(ls.drop 1).take n++[ls.getD (n+1) []]:=by
   rw[Qei,Qbj]
   have:1+n=n+1:=by lia
   rw[this,Qaj,Of h]
   rfl
  have hs:∀(r:List c0) (a b:c0),bC a (r++[b])=bp (bC a r) b:=by
   intro r
   induction r with
   | nil=>intro a b;rfl
   | cons c r ih=>intro a b;exact ih _ _
  rw[e,hs, <-ih]
  show ls.getD (if dH ls (n+1) (argBest (dH ls) n)=true then n+1 else argBest (dH ls) n) []=_
  unfold bp
  by_cases z:ls.getD (n+1) []<ls.getD (argBest (dH ls) n) []
  ·rw[if_pos (show dH ls (n+1) (argBest (dH ls) n)=true from decide_eq_true z),if_pos z]
  ·rw[if_neg (show ¬dH ls (n+1) (argBest (dH ls) n)=true from λw=>z (of_decide_eq_true w)),if_neg z]
theorem argBest_lt(bt:Nat->Nat->Bool):∀n,argBest bt n<=n
 | 0=>ZH _
 | n+1=>by
  unfold argBest
  split
  ·exact ZH _
  ·exact Nat.le_succ_of_le (argBest_lt bt n)
section
variable{X:Cx}
theorem vb{prog:Program}{w:World}{A:Around}{ls:List c0}{aH:List Value}(r:Vals (ls.map λl=>V.str (S l)) aH):CmpOf prog w A .Lt (λi v=>aH.toArray[i]? =some v) (dH ls):=by
 intro i j vi vj s Q E hi hj hQ
 have get:∀{i:Nat} {v:Value},aH.toArray[i]? =some v->∃t,v= .str (S (ls|||i)) t:=by
  intro i v h
  have h':aH[i]? =some v:=by simpa using h
  have hl:i<(ls:):=by have:=(Og.mp h').1;rw[<-(r:),kb]at this;exact this
  obtain ⟨u,hu,ru⟩:=r.get (i:=i) (x:=V.str (S (ls|||i))) (by rw[Qas,Qaj,Of hl];rfl)
  rw[h']at hu;cases hu
  exact ru
 obtain ⟨t,rfl⟩:=get hi
 obtain ⟨u,rfl⟩:=get hj
 have q:Q (.bool (decide ((S (ls|||i)).cps.toList<(S (ls|||j)).cps.toList))) s:=by rw[dc,dc];exact hQ
 exact lt_str q
def TJ(K:c7):List V->Hp->VK->Prop:=λxs H Q=>∃(p:Addr) (a:c0) (ls:List c0),xs=[.ref p]/\bB K H p ((a::ls).map λl=>V.str (S l))/\Q (.str (S (bC a ls))) H
theorem AM(K:c7)(h:X.K=K)(hc:X.calm=true):di X (.builtin "min") (TJ K):=by
 subst h
 walk_at"d"
 obtain ⟨p,a,ls,rfl,hq,q⟩:=h
 obtain ⟨u,rfl,ru⟩:=vals1 r
 cases ru
 obtain ⟨aH,rv,pl,hz⟩:=I.list hq
 have hlen:(aH:)=(ls:)+1:=by rw[<-(rv:),kb];rfl
 have hp:p<s.heap.objs.size:=by
  obtain ⟨o,n,e,_⟩:=pl
  exact Qap e
 refine call_min_walk (wpAny_pyIter_list pl.isList ?_)
 refine ⟨s.heap.objs.size,_,_,_,_,_,dH (a::ls),rfl,Walks.list (A:=X.A.in1) (I.ok.hd hc) s.heap.objs.size p (Qaw hp) aH.toArray,⟨⟨_,Qaq _ rfl,rfl,rfl⟩,?_⟩,λb hb=>?_,by rw[Qag];lia,vb rv,λv h' tk hP hk=>?_⟩
 ·obtain ⟨o,ho,hr⟩:=pl.isList
  exact ⟨o,ZG _ ho,hr⟩
 ·show b<(s.heap.push _).objs.size
  rw[Qda]
  rcases Qam.mp hb with z | z
  ·rw[z];exact Qcp _
  ·rw[ZI.mp z];exact Qcr hp
 ·have VJ:aH[argBest (dH (a::ls)) (aH.toArray.size - 1)]? =some v:=by simpa using hP
  have hn:aH.toArray.size - 1=(ls:):=by rw[Qag];lia
  rw[hn]at VJ
  have hle:=argBest_lt (dH (a::ls)) (ls:)
  have e:=lB (ls:) (a::ls) (by show (ls:)<(ls:)+1;lia)
  have e2:(((a::ls).drop 1).take (ls:))=ls:=by show ls.take (ls:)=ls;exact Qae (ZH _)
  rw[e2]at e
  have hl:argBest (dH (a::ls)) (ls:)<((a::ls):):=by show _<(ls:)+1;lia
  obtain ⟨u,hu,ru⟩:=rv.get (i:=argBest (dH (a::ls)) (ls:)) (x:=V.str (S (bC a ls))) (by
   rw[Qas,Of hl]
   rw[Qaj,Of hl]at e
   have e':(a::ls)[argBest (dH (a::ls)) (ls:)]=bC a ls:=e
   rw[e']
   rfl)
  rw[VJ]at hu;cases hu
  have I1:Inv X pins σ H { s with heap:=h',toks:=tk }:=by
   have I0:Inv X pins σ H { s with heap:=s.heap.push { cls:= .type "list_iterator",data:= .fields #[.ref p,.int 0 0] } }:=I.kept (t':=s.toks) λb o e=>ZG _ e
   have f:=I.qI (H':=H) (b:=s.heap.objs.size) (ZH _) I.fresh
   have J:=I0.turned (h':=h') (t':=tk) (it:=s.heap.objs.size) (λb o hb e=>hk b o (by simpa using hb) e) f.1 f.2.1 f.2.2.2.1 f.2.2.2.2.1 f.2.2.2.2.2
   exact J
  exact ⟨.str (S (bC a ls)),H,I1,ru,q⟩
def Ox:List V->Hp->VK->Prop:=λxs H Q=>∃(a b:c0),xs=[.str (S a),.str (S b)]/\Q (.str (S (bp a b))) H
theorem l_(hc:X.calm=true):di X (.builtin "min") Ox:=by
 walk_at"d"
 obtain ⟨a,b,rfl,q⟩:=h
 obtain ⟨u,w',rfl,⟨t,rfl⟩,⟨t',rfl⟩⟩:=vals2 r
 have rv:Vals ([a,b].map λl=>V.str (S l)) [Value.str (S a) t,Value.str (S b) t']:= .cons ⟨t,rfl⟩ (.cons ⟨t',rfl⟩ .nil)
 have hT:(s.heap.push { cls:= .type "tuple",data:= .seq #[.str (S a) t,.str (S b) t'] }).IsTuple s.heap.objs.size #[.str (S a) t,.str (S b) t']:=⟨_,Qaq _ rfl,rfl,0,rfl⟩
 refine call_min_two (wpAny_pyIter_tuple hT ?_)
 have hsz:(s.heap.push { cls:= .type "tuple",data:= .seq #[.str (S a) t,.str (S b) t'] }).objs.size=s.heap.objs.size+1:=Qda ..
 refine ⟨_,_,_,_,_,_,dH [a,b],rfl,Walks.tuple (A:=X.A.in1) (I.ok.hd hc) _ s.heap.objs.size (by rw[hsz];exact Qaw (Qcp _)) #[.str (S a) t,.str (S b) t'],
  ⟨⟨_,Qaq _ rfl,rfl,rfl⟩,hT.push _⟩,λc hc=>?_,(by show 0<2;decide),vb rv,λv h' tk hP hk=>?_⟩
 ·show c<((s.heap.push _).push _).objs.size
  rw[Qda,hsz]
  rcases Qam.mp hc with rfl | hc
  ·rw[hsz];exact Qcp _
  ·rcases Qam.mp hc with rfl | hc
   ·exact Qcr (Qcp _)
   ·cases hc
 ·have I1:Inv X pins σ H { s with heap:=h',toks:=tk }:=by
   refine I.kept (t':=tk) λc o e=>hk c o (λhm=>?_) (ZG _ (ZG _ e))
   have:c=(s.heap.push { cls:= .type "tuple",data:= .seq #[.str (S a) t,.str (S b) t'] }).objs.size:=by simpa using hm
   have hl:=Qap e
   rw[this,hsz]at hl
   exact absurd hl (Nat.not_lt.mpr (Qc6 _))
  have e:argBest (dH [a,b]) (#[Value.str (S a) t,Value.str (S b) t'].size - 1)=if b<a then 1 else 0:=by
   show (if dH [a,b] 1 0=true then 1 else 0)=_
   by_cases z:b<a
   ·rw[if_pos z,if_pos (show dH [a,b] 1 0=true from decide_eq_true z)]
   ·rw[if_neg z,if_neg (show ¬dH [a,b] 1 0=true from λy=>z (of_decide_eq_true y))]
  rw[e]at hP
  refine ⟨.str (S (bp a b)),H,I1,?_,q⟩
  unfold bp
  by_cases z:b<a
  ·rw[if_pos z]at hP ⊢
   have:v= .str (S b) t':=by simpa using hP.symm
   exact ⟨_,this⟩
  ·rw[if_neg z]at hP ⊢
   have:v= .str (S a) t:=by simpa using hP.symm
   exact ⟨_,this⟩
theorem Oy(K:c7)(h:X.K=K):jv X (compareOp .In) (Zz K false):=by subst h;exact DV
end
noncomputable def eK(n:Nat)(l:c0):c0:=(List.replicate n l).flatten
theorem ff(n:Nat)(l:c0):eK (n+1) l=l++eK n l:=by unfold eK;rw[Qc9,Qb6]
theorem AN(n:Nat)(l:c0):eK (n+1) l=eK n l++l:=by unfold eK;rw[List.replicate_succ',Qf1,Qb6,Qfd,Qa1]
theorem yI(n:Nat)(l:c0):(eK n l:)=n*(l:):=by
 induction n with
 | zero=>simp[eK]
 | succ n ih=>rw[ff,QD,ih,Qd2,Nat.add_comm]
theorem vc(l:c0):∀(n:Nat) (acc:Array Nat),((List.replicate n (S l).cps).foldl (· ++ ·) acc).toList=acc.toList++eK n l
 | 0,acc=>by simp[eK]
 | n+1,acc=>by
  rw[Qc9,Qdi,vc l n,ff]
  simp[S]
def TK:R2:=λx y H Q=>∃(l:c0) (i:Int),x= .str (S l)/\y= .int i/\(0<=i/\i<=1000000)/\(l:)*i.toNat<=sizeLine/\Q (.str (S (eK i.toNat l))) H
theorem wQ{X:Cx}:jv X (binaryOp .Mult) TK:=by
 walk_at"a"
 obtain ⟨l,i,rfl,rfl,⟨h0,h1⟩,hz,q⟩:=h
 walk_at"f"
 walk_at"J"
 have hn:=gx
 have D7:(S l:)=(l:):=dD l
 have Xu:((l:):Int)*i<=2 ^ 63 - 1:=by
  have e:(((l:)*i.toNat:Nat):Int)=((l:):Int)*i:=by rw[Int.natCast_mul,Qet h0]
  have:(((l:)*i.toNat:Nat):Int)<=(sizeLine:Int):=by exact_mod_cast hz
  rw[<-e];lia
 refine P.mul_str (x:=S l) (n:=i) (t:=t) (u:=t') (by
  have e1:decide (i< -(2 ^ 63:Int))=false:=decide_eq_false ()
  have e2:decide (i ≥ 2 ^ 63)=false:=decide_eq_false ()
  rw[e1,e2];rfl) (λz _=>?_) (λz _=>?_) ?_
 ·rw[D7]
  have:((l:):Int)<=(2 ^ 63 - 1) / i:=(Int.le_ediv_iff_mul_le ()).mpr Xu
  lia
 ·rw[D7]
  show Builtin.Str.tooLong _=false
  unfold Builtin.Str.tooLong
  exact decide_eq_false ()
 ·by_cases z:i<1
  ·rw[if_pos z]
   have e:i.toNat=0:=by lia
   rw[e]at q
   exact ⟨∅,.str _,H,I.tok _,⟨_,rfl⟩,q⟩
  ·rw[if_neg z]
   by_cases z2:(i==1||(S l:)==0)=true
   ·rw[if_pos z2]
    have e:eK i.toNat l=l:=by
     rcases Bool.or_eq_true _ _ |>.mp z2 with e | e
     ·have e:i=1:=by simpa using e
      subst e
      show eK 1 l=l
      rw[ff];simp[eK]
     ·have e:(l:)=0:=by rw[D7]at e;simpa using e
      have e:l=[]:=Qcj.mp e
      subst e
      unfold eK
      simp
    rw[e]at q
    exact ⟨.str _,H,I,⟨_,rfl⟩,q⟩
   ·rw[if_neg z2]
    have e:(⟨(List.replicate i.toNat (S l).cps).foldl (· ++ ·) #[]⟩:Str)=S (eK i.toNat l):=by
     have:=vc l i.toNat #[]
     show _=(⟨(eK i.toNat l).toArray⟩:Str)
     congr 1
     apply Qfg.mp
     rw[this]
     simp
    rw[e]
    refine ⟨?_,.str _,H,I.tok _,⟨_,rfl⟩,q⟩
    rw[dD,yI,Qb5]
    exact hz
section
variable{X:Cx}{pins:List (Addr×Obj)}{σ:St}{H:Hp}{s:Shared}{h':Heap}
theorem Inv.q9{t':Nat}{ch:List Addr}{T:Addr}{ob:HO}(I:Inv X pins σ H s)(k:∀b o,b∉ch->s.heap.get? b=some o->h'.get? b=some o)(hf:∀b∈ch,pT X pins H b)
  (hT:s.heap.objs.size<=T) (new:cg X.prog X.w (upd H T ob) h' T ob):Inv X pins σ (upd H T ob) { s with heap:=h',toks:=t' }:=by
 have hn:=I.b8.fresh hT
 have Mw:∀b u,H b=some u->b∉ch:=λb u e z=>by rw[(hf b z).1]at e;cases e
 have neT:∀b o,s.heap.get? b=some o->b≠T:=λb o e z=>absurd (Qbc (Qap e) hT) (by rw[z];exact Qbw _)
 refine I.step (g':=s.gens) (d':=s.drawn) (ch:=ch) (λb hb=>?_) (λb o _ _ hc e _=>k b o hc e) (λb o _ _ hc e _=>⟨o.slots,k b o hc e⟩) (λb o _ e n=>by rw[az (neT b o e)];exact n)
  (λb o hc e=>⟨o,k b o hc e⟩) (λb xs e=>by rw[az (ay e hn)];exact e) (λb o u e=>by rw[az (ay e hn)];exact e) (λb ps e=>⟨#[],by rw[az (ay e hn),e];simp⟩) (λm hm=>?_) (λb u e=>?_) I.bare
 ·obtain ⟨_,h2,_,h4,h5,h6⟩:=hf b hb
  exact ⟨h4,h2,h5,h6⟩
 ·obtain ⟨o,es,ep,ho,r⟩:=hm
  exact ⟨o,es,ep,k _ o (λz=>(hf _ z).2.1 rfl) ho,r⟩
 ·by_cases hb:b=T
  ·subst hb;rw[ah]at e;cases e;exact new
  ·rw[az hb]at e
   refine (I.b8 b u e).yq (λc v hc q=>k c v ?_ q) (λc q=>by rw[az (ay q hn)];exact q) λc xs q=>by rw[az (ay q hn)];exact q
   rcases hc with z | z
   ·rw[z];exact Mw b u e
   ·exact Mw c _ z
theorem Inv.wR{t':Nat}{ch:List Addr}(I:Inv X pins σ H s)(k:∀b o,b∉ch->s.heap.get? b=some o->h'.get? b=some o)(hf:∀b∈ch,pT X pins H b):Inv X pins σ H { s with heap:=h',toks:=t' }:=by
 have Mw:∀b u,H b=some u->b∉ch:=λb u e z=>by rw[(hf b z).1]at e;cases e
 refine I.step (g':=s.gens) (d':=s.drawn) (ch:=ch) (λb hb=>?_) (λb o _ _ hc e _=>k b o hc e) (λb o _ _ hc e _=>⟨o.slots,k b o hc e⟩) (λb o _ e n=>n)
  (λb o hc e=>⟨o,k b o hc e⟩) (λb xs e=>e) (λb o u e=>e) (λb ps e=>⟨#[],by rw[e];simp⟩) (λm hm=>?_) (λb u e=>?_) I.bare
 ·obtain ⟨_,h2,_,h4,h5,h6⟩:=hf b hb
  exact ⟨h4,h2,h5,h6⟩
 ·obtain ⟨o,es,ep,ho,r⟩:=hm
  exact ⟨o,es,ep,k _ o (λz=>(hf _ z).2.1 rfl) ho,r⟩
 ·refine (I.b8 b u e).yq (λc v hc q=>k c v ?_ q) (λc q=>q) λc xs q=>q
  rcases hc with z | z
  ·rw[z];exact Mw b u e
  ·exact Mw c _ z
end
noncomputable def TL(l:c0):It:=⟨λi _=>i<(l:),λi H x H'=>∃T c,l[i]? =some c/\x= .ref T/\H T=none/\H'=upd H T (.tup [.int i,.str (S [c])]),λi _=>(l:)<=i⟩
theorem vd{prog:Program}{w:World}{A:Around}(hh:A.handled=none)(it:Addr)(x:Str)(t:Tok):
  Draws prog w A it [it] x.cps.size (λi v=>∃c u,x.cps[i]? =some c/\v= .str ⟨#[c]⟩ u) (λi h=>h.IsStrIter it (strIterType x) x t i):=by
 by_cases ha:x.cps.all (· <128)=true
 ·have et:strIterType x="str_ascii_iterator":=by unfold strIterType;rw[if_pos ha]
  rw[et];exact Draws.strAscii hh it x t
 ·have et:strIterType x="str_iterator":=by unfold strIterType;rw[if_neg ha]
  rw[et];exact Draws.strWide hh it x t
theorem AO{P:Program}{w:World}{K:c7}{elts:List Expr}{k:Nat}{pos:Pos}(e it:Addr)(Cm:e≠it)(l:c0)(t:Tok):
  Turn P w K (.Tuple elts k pos) (TL l) [e,it] e (λi h=>i<=(l:)/\(∃old,IsEnum h e it i old)/\h.IsStrIter it (strIterType (S l)) (S l) t i) where
 mem:=by simp
 obj:=λi h st b hb=>by
  obtain ⟨_,⟨old,he⟩,o,ho,hc,hd⟩:=st
  rcases Qam.mp hb with z | z
  ·rw[z];exact ⟨_,he,λv z=>by cases z⟩
  ·rw[ZI.mp z];exact ⟨o,ho,λv z=>by rw[hd]at z;cases z⟩
 keep:=λi h h' st kp=>by
  obtain ⟨h1,⟨old,he⟩,o,ho,r⟩:=st
  exact ⟨h1,⟨old,kp e (by simp) _ he⟩,o,kp it (by simp) o ho,r⟩
 item:=by
  walk_at"b"
  subst hP hw hK
  obtain ⟨_,dQ,jE⟩:=st
  have D:=vd (prog:=X.prog) (w:=X.w) (A:=X.A.in1) (I.ok.hd hc) it (S l) t
  have W:=WalksT.enumerateD D e Cm (by simpa using Cm) (by simp)
  have hi:i<(S l).cps.size:=by rw[nX];exact hg
  refine W.item i s _ _ hi ⟨dQ,jE⟩ λT vals h' tk TM hT GA yJ hk=>⟨_,rfl,?_⟩
  walk_at"F"
  obtain ⟨tt,x,⟨c,u,Xv,rfl⟩,rfl⟩:=TM
  have MP:T∉[e,it]:=W.apart i T h' yJ
  have yL:h2.IsTuple T #[.int i tt,.str ⟨#[c]⟩ u]:=by
   obtain ⟨o,ho,r⟩:=GA
   exact ⟨o,nZ T o MP ho,r⟩
  have hl:l[i]? =some c:=by simpa [S]using Xv
  refine ⟨.ref T,upd H T (.tup [.int i,.str (S [c])]),?_,rfl,⟨T,c,hl,rfl,I.b8.fresh hT,rfl⟩,⟨hg,yK.1,yK.2⟩,λb hb=>?_⟩
  ·refine I.q9 (t':=tk) (h':=h2) (λb o hb y=>nZ b o hb (hk b o hb y)) hf hT ?_
   exact ⟨by show 2<=sizeLine;decide,[.int i tt,.str ⟨#[c]⟩ u],.cons ⟨tt,rfl⟩ (.cons ⟨u,rfl⟩ .nil),yL⟩
  ·rw[az (λz:b=T=>MP (z▸hb))];exact (hf b hb).1
 done:=by
  walk_at"b"
  subst hP hw hK
  obtain ⟨h1,dQ,jE⟩:=st
  have e1:i=(l:):=Qds h1 hg
  have D:=vd (prog:=X.prog) (w:=X.w) (A:=X.A.in1) (I.ok.hd hc) it (S l) t
  have W:=WalksT.enumerateD D e Cm (by simpa using Cm) (by simp)
  walk_at"Q"
  rw[nX, <-e1]
  exact ⟨dQ,jE⟩
 self:=λ_ _ s _ _ st h=>by
  obtain ⟨_,⟨old,he⟩,_⟩:=st
  exact wpAny_pyIter_enum he h
def Oz(ta:TA):TI:=λσ H R=>ta σ H λvs H1=>∃l,vs=[.str (S l)]/\R (TL l) H1
theorem GB{X:Cx}{elts:List Expr}{k:Nat}{pos':Pos}{a:Expr}{ta:TA}{p pos:Pos}(hg:Gl X "enumerate")(hm:X.mg "enumerate"=none)(ha:PA X [a] ta)(hs:starEach [a] X.env=[(false,eval a X.env)]:=by rfl):PI X (.Tuple elts k pos') (.Call (.Name "enumerate" p) [a] [] pos) (Oz ta):=by
 walk_at"W"
 walk_at"l"
 obtain ⟨l,rfl,q⟩:=q1
 obtain ⟨u,rfl,t,rfl⟩:=vals1 r1
 refine call_enumerate_str λh' he hit hsz hk=>?_
 refine wpAny_pyIter_enum he ?_
 refine ⟨s1.heap.objs.size+1,[s1.heap.objs.size+1,s1.heap.objs.size],_,_,H1,rfl,I1.kept (t':=s1.toks) hk,AO _ _ (Qfb _) l t,⟨Qar _,⟨_,he⟩,hit⟩,λb hb=>?_,q⟩
 have yl:s1.heap.objs.size<=b:=by
  rcases Qam.mp hb with z | z
  ·rw[z];exact Qc6 _
  ·rw[ZI.mp z];exact ZH _
 exact I1.qI yl (I1.b8.fresh yl)
theorem GC{l:c0}{g:TG}{tb:TS}{D:Ends}{σ:St}{H:Hp}(Pv:Nat->St->Hp->Prop)(h0:Pv 0 σ H)
  (hs:∀i c σ H T,l[i]? =some c->Pv i σ H->H T=none->g (.ref T) σ (upd H T (.tup [.int i,.str (S [c])])) λσ2 H2=>tb { D with nx:=Pv (i+1),ct:=Pv (i+1),bk:=D.nx } σ2 H2) (hd:∀σ H,Pv (l:) σ H->D.nx σ H):
  ∃W:Nat->Nat->St->Hp->Prop,(∃m,W 0 m σ H)/\∀i m σ H,W i m σ H->
   ((TL l).stop i H/\D.nx σ H)\/((TL l).go i H/\∃N:St->Hp->Prop,(∀σ' H',N σ' H'->∃m',m'<m/\W (i+1) m' σ' H')/\∀x H',(TL l).FO i H x H'->g x σ H' λσ2 H2=>tb { D with nx:=N,ct:=N,bk:=D.nx } σ2 H2):=by
 refine ⟨λi m σ H=>m=(l:) - i/\i<=(l:)/\Pv i σ H,⟨(l:),by simp,Qar _,h0⟩,?_⟩
 rintro i m σ H ⟨rfl,hi,p⟩
 by_cases cf:i<(l:)
 ·refine .inr ⟨cf,Pv (i+1),λσ' H' p'=>⟨(l:) - (i+1),(),rfl,cf,p'⟩,λx H' y=>?_⟩
  obtain ⟨T,c,hc,rfl,hn,rfl⟩:=y
  exact hs i c σ _ T hc p hn
 ·have e:i=(l:):=by lia
  subst e
  exact .inl ⟨ZH _,hd σ H p⟩
section
variable{X:Cx}
theorem wU{ls:List c0}:∀{aH:List Value},Vals (ls.map λl=>V.str (S l)) aH->StrsAre aH (ls.map S):=by
 induction ls with
 | nil=>intro aH r;cases r;exact .nil
 | cons l ls ih=>
  intro aH r
  cases r with
  | cons r1 r2=>
   walk_at"T"
   exact .cons _ t (ih r2)
theorem wV:∀{aH:List Value} {ss:List Str},StrsAre aH ss->Vals ((ss.map λx=>x.cps.toList).map λl=>V.str (S l)) aH
 | _,_,.nil=> .nil
 | _,_,.cons x t h=> .cons ⟨t,by rw[<-Tt]⟩ (wV h)
theorem ve:∀(p:Str) (r:List Str),risingS p r=true->(p::r).Pairwise λa b=> ¬b.cps.toList<a.cps.toList
 | p,[],_=>Qcb _ _
 | p,x::r,h=>by
  have h':(!ltCps x.cps.toList p.cps.toList&&risingS x r)=true:=h
  rw[Qbr,ltCps_eq]at h'
  have h1: ¬x.cps.toList<p.cps.toList:=by simpa using h'.1
  have ih:=ve x r h'.2
  refine Qdf.mpr ⟨λy hy=>?_,ih⟩
  rcases Qam.mp hy with z | z
  ·rw[z];exact h1
  ·exact Qe8 (show p.cps.toList<=x.cps.toList from h1) (show x.cps.toList<=y.cps.toList from Qe0 ih z)
theorem D8{ss:List Str}(h:sortedS ss=true):(ss.map λx=>x.cps.toList).Pairwise λa b=> ¬b<a:=by
 rw[Qch]
 cases ss with
 | nil=>exact List.Pairwise.nil
 | cons x r=>exact ve x r h
def OA(K:c7):List V->Hp->VK->Prop:=λxs H Q=>∃(p:Addr) (ls:List c0),xs=[.ref p]/\bB K H p (ls.map λl=>V.str (S l))/\(ls:)<64/\∀(q:Addr) (OB:List c0),H q=none->OB.Perm ls->(OB.Pairwise λa b=> ¬b<a)->Q (.ref q) (upd H q (.lst (OB.map λl=>V.str (S l))))
theorem wW(K:c7)(h:X.K=K):di X (.builtin "sorted") (OA K):=by
 subst h
 walk_at"d"
 obtain ⟨p,ls,rfl,hq,hn,q⟩:=h
 obtain ⟨u,rfl,ru⟩:=vals1 r
 cases ru
 obtain ⟨aH,rv,pl,hz⟩:=I.list hq
 have hlen:(aH:)=(ls:):=by rw[<-(rv:),kb]
 refine sorted_strs (l:=p) (vs:=aH) (ss:=ls.map S) pl.isList (wU rv) () λout kT h1 h2 h3=>?_
 obtain ⟨e,he⟩:=sortedAll_at s.heap aH out
 have o_:(kT.map λx=>x.cps.toList).Perm ls:=by
  have:=h2.map λx:Str=>x.cps.toList
  rw[Qbx]at this
  have e2:ls.map ((λx:Str=>x.cps.toList) ∘ S)=ls:=by
   have:∀l∈ls,((λx:Str=>x.cps.toList) ∘ S) l=l:=λl _=>dc l
   calc ls.map _=ls.map id:=Qdo this
    _=ls:=Qfx ls
  rwa [e2]at this
 have Fq:=o_.length_eq
 have h64:(64:Nat)<sizeLine:=by decide
 have GD:(((kT.map λx=>x.cps.toList).map λl=>V.str (S l)):)<=sizeLine:=by rw[kb,Fq];lia
 refine ⟨.ref (s.heap.objs.size+1),_,I.laid (t':=s.toks) (a:=s.heap.objs.size+1) (o:= .lst ((kT.map λx=>x.cps.toList).map λl=>V.str (S l))) (λb o e=>sortedAll_old e) (Qc6 _) ⟨GD,out.toList,e,wV h1,by simpa [seqObj]using he⟩,rfl,q _ _ (I.b8.fresh (Qc6 _)) o_ (D8 h3)⟩
theorem KL{ls:List c0}{l:c0}(h:ls.Perm (l.map λc=>[c])):∃l':c0,ls=l'.map (λc=>[c])/\l'.Perm l:=by
 refine ⟨ls.flatten,?_,?_⟩
 ·have hs:∀x∈ls,∃c,x=[c]:=λx hx=>by
   obtain ⟨c,_,e⟩:=Qa3.mp (h.mem_iff.mp hx)
   exact ⟨c,e.symm⟩
  clear h
  induction ls with
  | nil=>rfl
  | cons x ls ih=>
   obtain ⟨c,rfl⟩:=hs x Qai
   rw[Qb6,Qak, <-ih λy hy=>hs y (Qaf _ hy)]
   rfl
 ·have:=h.flatten
  have e:(l.map λc=>[c]).flatten=l:=by
   clear h this
   induction l with
   | nil=>rfl
   | cons c l ih=>rw[Qa0,Qb6,ih];rfl
  rwa [e]at this
theorem KN{l:c0}(h:(l.map λc=>[c]).Pairwise λa b=> ¬b<a):l.Pairwise λa b=>a<=b:=by
 rw[Qch]at h
 refine h.imp λ{a b} z=>?_
 by_cases y:a<=b
 ·exact y
 ·exact absurd (Qft.mpr (.inl ())) z
end
section
variable{prog:Program}{w:World}{A:Around}{E:Value->Shared->Prop}{s:Shared}
theorem AQ{it tp:Addr}{j:Nat}{xs:Array Value}{y:Value}{Q:Value->Shared->Prop}(hi:s.heap.IsTupleIter it tp j)(ht:s.heap.IsTuple tp xs)(hy:xs[j]? =some y)
  (q:∀h2,h2.IsTupleIter it tp (j+1)->Heap.SameBut it s.heap h2->Q y { s with heap:=h2 }):wpAny (model prog w) A (Builtin.SmallTypes.nextOf (.ref it)) Q E s:=by
 obtain ⟨oi,eo,ec,ed⟩:=id hi
 obtain ⟨ot,et,_,nt,dt⟩:=ht
 unfold Builtin.SmallTypes.nextOf
 walk_at"k"
 refine wpAny_bind (m:=field (.ref it) 0) (wpAny_field eo ed (x:= .ref tp) rfl ?_)
 show wpAny (model prog w) _ (if (Value.ref tp==Value.none)=true then _ else _) _ E s
 rw[if_neg (show ¬(Value.ref tp==Value.none)=true from Qan)]
 refine wpAny_bind (m:=field (.ref it) 1) (wpAny_field eo ed (x:= .int j 0) rfl ?_)
 refine wpAny_bind (m:=seqItems? (.ref tp)) (wpAny_seqItems et dt ?_)
 simp only[Qab,hy]
 refine wpAny_bind (wpAny_setField eo ed (by simp) (wpAny_pure ⟨y,rfl,wpAny_pure (q _ ⟨_,Qcv _ eo (Obj.isFreed_of_fields (Obj.data_mapFields ed _)),(Obj.cls_mapFields ..).trans ec,by rw[Obj.data_mapFields ed];simp[rawInt]⟩ (Qgo ..))⟩))
theorem D9{it tp:Addr}{j:Nat}{xs:Array Value}{Q:Value->Shared->Prop}(hh:A.handled=none)(hi:s.heap.IsTupleIter it tp j)(ht:s.heap.IsTuple tp xs)(hy:xs[j]? =none)
  (q:∀h2 e,Heap.ExtBut it s.heap h2->(∃o,h2.get? e=some o/\o.cls= .type "StopIteration")->E (.ref e) { s with heap:=h2 }):wpAny (model prog w) A (Builtin.SmallTypes.nextOf (.ref it)) Q E s:=by
 obtain ⟨oi,eo,ec,ed⟩:=id hi
 obtain ⟨ot,et,_,nt,dt⟩:=ht
 unfold Builtin.SmallTypes.nextOf
 walk_at"k"
 refine wpAny_bind (m:=field (.ref it) 0) (wpAny_field eo ed (x:= .ref tp) rfl ?_)
 show wpAny (model prog w) _ (if (Value.ref tp==Value.none)=true then _ else _) _ E s
 rw[if_neg (show ¬(Value.ref tp==Value.none)=true from Qan)]
 refine wpAny_bind (m:=field (.ref it) 1) (wpAny_field eo ed (x:= .int j 0) rfl ?_)
 refine wpAny_bind (m:=seqItems? (.ref tp)) (wpAny_seqItems et dt ?_)
 simp only[Qab,hy]
 refine wpAny_bind (wpAny_rule (wpAny_bind (wpAny_setField eo ed (by simp) ?_)))
 refine wpAny_bind (m:=newExc (.type "StopIteration") []) ?_
 simp only[newExc,newTuple]
 refine wpAny_bind (wpAny_newObj_type (wpAny_bind (m:=firstArgMember _ _) (wpAny_of_eq (a:=Value.none) (by first | rfl | (simp only[firstArgMember];rfl)) (wpAny_newObj_type ?_ (by size_fits)))) (by size_fits))
 simp only[raiseNew]
 refine wpAny_bind (wpAny_handled ?_);first | rw[show A.in1.handled=none from hh] | rw[hh]
 exact wpAny_bind (wpAny_pure (wpAny_throw (q _ _ (((Qgo ..).extBut.push _).push _) ⟨_,Qaq _ rfl,rfl⟩)))
theorem ph(hh:A.handled=none)(it tp:Addr)(ne:tp≠it)(xs:Array Value):
  Draws prog w A it [it,tp] xs.size (λi v=>xs[i]? =some v) (λi h=>h.IsTupleIter it tp i/\h.IsTuple tp xs) where
 live:=λ_ _ z=>let ⟨o,e,_⟩:=z.1;⟨o,e⟩
 frame:=λ_ _ _ z k=>by
  obtain ⟨⟨o,e,r⟩,o2,e2,r2⟩:=z
  exact ⟨⟨o,k it (by simp) o e,r⟩,o2,k tp (by simp) o2 e2,r2⟩
 item:=λi s Q E hi z q=>AQ z.1 z.2 (y:=xs[i]) (by simp[hi]) λh2 z2 sb=>q _ h2 s.toks (by simp[hi]) ⟨z2,z.2.extBut sb.extBut ne⟩ sb
 done:=λs Q E z q=>D9 hh z.1 z.2 (by simp) q
theorem yM(l:Addr)(items:Array Value)(n:Nat)(Xw:Option Addr)(sl:Array (Option Value)):
  Meets (Builtin.«enumerate.__new__» ⟨[.type "enumerate",.ref l],[]⟩) (λ_ R s=>s.heap.get? l=some { cls:= .type "tuple",dict:=Xw,data:= .seq items n,slots:=sl }/\
   R (.ok (.ret (.ref (s.heap.push { cls:= .type "tuple_iterator",data:= .fields #[.ref l,.int 0 0] }).objs.size)))
    { s with heap:=(s.heap.push { cls:= .type "tuple_iterator",data:= .fields #[.ref l,.int 0 0] }).push { cls:= .type "enumerate",data:= .fields #[.none,.bool false,.ref s.heap.objs.size,rawInt 0,.none,.none] } }):=
 .of_wp λprog w A R s h=>by
  obtain ⟨hp,g,d,tk,os⟩:=s;obtain ⟨hl,q⟩:=h;have Xx:=sub_enumerate
  have hT:Heap.IsTuple (Shared.heap ⟨hp,g,d,tk,os⟩) l items:=⟨_,hl,rfl,n,rfl⟩
  wp_walk using AutoSeq1.wpAny_loadPart' hl
  refine wpAny_stack_any λst=>wpAny_pure ?_
  split
  ·rename_i c _ _ _ _ _
   cases (c==Value.type "enumerate")<;>(wp_walk using AutoSeq1.wpAny_loadPart' hl,wpAny_pyIter_tuple hT;exact ⟨_,rfl,q⟩)
  ·wp_walk using AutoSeq1.wpAny_loadPart' hl,wpAny_pyIter_tuple hT
   exact ⟨_,rfl,q⟩
theorem AR{l:Addr}{items:Array Value}{Q:Value->Shared->Prop}(hL:s.heap.IsTuple l items)
  (h:∀h',IsEnum h' (s.heap.objs.size+1) s.heap.objs.size 0 .none->h'.IsTupleIter s.heap.objs.size l 0->(∀b o,s.heap.get? b=some o->h'.get? b=some o)->Q (.ref (s.heap.objs.size+1)) { s with heap:=h' }):
  wpAny (model prog w) A (call (.type "enumerate") [.ref l]) Q E s:=by
 obtain ⟨⟨c,Xw,dt,sl⟩,hl,hc,n,hd⟩:=hL
 cases (show c= .type "tuple" from hc)
 cases (show dt= .seq items n from hd)
 refine callType_new F.called_enumerate ∅ (F.typeCall_enumerate_1 _) (F.newCall_enumerate_1 _) (λob=>F.args_object_init_2 ob _) F.entry_enumerate_new (yM l items n Xw sl) ⟨hl,?_⟩
 have hz:(s.heap.push { cls:= .type "tuple_iterator",data:= .fields #[.ref l,.int 0 0] }).objs.size=s.heap.objs.size+1:=Qda ..
 show _/\_
 rw[hz]
 have he:IsEnum ((s.heap.push { cls:= .type "tuple_iterator",data:= .fields #[.ref l,.int 0 0] }).push { cls:= .type "enumerate",data:= .fields #[.none,.bool false,.ref s.heap.objs.size,rawInt 0,.none,.none] }) (s.heap.objs.size+1) s.heap.objs.size 0 .none:=by
  have:=Qaq (s.heap.push { cls:= .type "tuple_iterator",data:= .fields #[.ref l,.int 0 0] }) (o:={ cls:= .type "enumerate",data:= .fields #[.none,.bool false,.ref s.heap.objs.size,rawInt 0,.none,.none] }) rfl
  rwa [hz]at this
 exact ⟨⟨_,he,rfl⟩,h _ he ⟨_,ZG _ (Qaq _ rfl),rfl,rfl⟩ λb o x=>ZG _ (ZG _ x)⟩
end
noncomputable def GF(K:c7)(a:Addr):It:=⟨λi H=>∃xs x,de K H a xs/\xs[i]? =some x,λi H x H'=>∃T y,(∀xs,de K H a xs->xs[i]? =some y)/\x= .ref T/\H T=none/\H'=upd H T (.tup [.int i,y]),λi H=>∃xs,de K H a xs/\(xs:)=i⟩
noncomputable def GG(K:c7)(a:Addr):It:=⟨λi H=>∃xs x,bB K H a xs/\xs[i]? =some x,λi H x H'=>∃T y,(∀xs,bB K H a xs->xs[i]? =some y)/\x= .ref T/\H T=none/\H'=upd H T (.tup [.int i,y]),λi H=>∃xs,bB K H a xs/\(xs:)=i⟩
theorem AS{P:Program}{w:World}{K:c7}{elts:List Expr}{k:Nat}{pos:Pos}(e it a:Addr)(Cm:e≠it)(TN:a≠e)(TQ:a≠it):
  Turn P w K (.Tuple elts k pos) (GF K a) [e,it] e (λi h=>(∃old,IsEnum h e it i old)/\h.IsTupleIter it a i) where
 mem:=by simp
 obj:=λi h st b hb=>by
  obtain ⟨⟨old,he⟩,o,ho,hc,hd⟩:=st
  rcases Qam.mp hb with z | z
  ·rw[z];exact ⟨_,he,λv z=>by cases z⟩
  ·rw[ZI.mp z];exact ⟨o,ho,λv z=>by rw[hd]at z;cases z⟩
 keep:=λi h h' st kp=>by
  obtain ⟨⟨old,he⟩,o,ho,r⟩:=st
  exact ⟨⟨old,kp e (by simp) _ he⟩,o,kp it (by simp) o ho,r⟩
 item:=by
  walk_at"b"
  subst hP hw hK
  obtain ⟨dQ,jE⟩:=st
  obtain ⟨xs,x,hq,hx⟩:=hg
  obtain ⟨aH,rv,p,hz⟩:=I.tuple hq
  obtain ⟨u0,hu,ru⟩:=rv.get hx
  have D:=ph (prog:=X.prog) (w:=X.w) (A:=X.A.in1) (I.ok.hd hc) it a TQ aH.toArray
  walk_at"n"
  have Xy:i<aH.toArray.size:=by rw[Qag];exact (Og.mp hu).1
  refine W.item i s _ _ Xy ⟨dQ,jE,p⟩ λT vals h' tk TM hT GA yJ hk=>⟨_,rfl,?_⟩
  walk_at"F"
  obtain ⟨tt,x2,KO,rfl⟩:=TM
  have ex:x2=u0:=by
   rw[List.getElem?_toArray]at KO
   exact Qad (KO.symm.trans hu)
  subst ex
  have MP:T∉[e,it]:=W.apart i T h' yJ
  have yL:h2.IsTuple T #[.int i tt,x2]:=by
   obtain ⟨o,ho,r⟩:=GA
   exact ⟨o,nZ T o MP ho,r⟩
  refine ⟨.ref T,upd H T (.tup [.int i,x]),?_,rfl,⟨T,x,λys hy=>by rw[I.uK hy hq];exact hx,rfl,I.b8.fresh hT,rfl⟩,⟨yK.1,yK.2.1⟩,λb hb=>?_⟩
  ·refine I.q9 (t':=tk) (h':=h2) (λb o hb y=>nZ b o hb (hk b o hb y)) hf hT ?_
   exact ⟨by show 2<=sizeLine;decide,[.int i tt,x2],.cons ⟨tt,rfl⟩ (.cons ru .nil),yL⟩
  ·rw[az (λz:b=T=>MP (z▸hb))];exact (hf b hb).1
 done:=by
  walk_at"b"
  subst hP hw hK
  obtain ⟨dQ,jE⟩:=st
  obtain ⟨xs,hq,hx⟩:=hg
  obtain ⟨aH,rv,p,hz⟩:=I.tuple hq
  have hl:=(rv:)
  have D:=ph (prog:=X.prog) (w:=X.w) (A:=X.A.in1) (I.ok.hd hc) it a TQ aH.toArray
  walk_at"n"
  walk_at"Q"
  have e1:aH.toArray.size=i:=by rw[Qag];lia
  rw[e1]
  exact ⟨dQ,jE,p⟩
 self:=λ_ _ s _ _ st h=>by
  obtain ⟨⟨old,he⟩,_⟩:=st
  exact wpAny_pyIter_enum he h
theorem AU{P:Program}{w:World}{K:c7}{elts:List Expr}{k:Nat}{pos:Pos}(e it a:Addr)(Cm:e≠it)(TN:a≠e)(TQ:a≠it):
  Turn P w K (.Tuple elts k pos) (GG K a) [e,it] e (λi h=>(∃old,IsEnum h e it i old)/\h.IsListIter it a i) where
 mem:=by simp
 obj:=λi h st b hb=>by
  obtain ⟨⟨old,he⟩,o,ho,hc,hd⟩:=st
  rcases Qam.mp hb with z | z
  ·rw[z];exact ⟨_,he,λv z=>by cases z⟩
  ·rw[ZI.mp z];exact ⟨o,ho,λv z=>by rw[hd]at z;cases z⟩
 keep:=λi h h' st kp=>by
  obtain ⟨⟨old,he⟩,o,ho,r⟩:=st
  exact ⟨⟨old,kp e (by simp) _ he⟩,o,kp it (by simp) o ho,r⟩
 item:=by
  walk_at"b"
  subst hP hw hK
  obtain ⟨dQ,jE⟩:=st
  obtain ⟨xs,x,hq,hx⟩:=hg
  obtain ⟨aH,rv,p,hz⟩:=I.list hq
  obtain ⟨u0,hu,ru⟩:=rv.get hx
  have D:=Draws.list (prog:=X.prog) (w:=X.w) (A:=X.A.in1) (I.ok.hd hc) it a TQ aH.toArray
  walk_at"n"
  have Xy:i<aH.toArray.size:=by rw[Qag];exact (Og.mp hu).1
  refine W.item i s _ _ Xy ⟨dQ,jE,p.isList⟩ λT vals h' tk TM hT GA yJ hk=>⟨_,rfl,?_⟩
  walk_at"F"
  obtain ⟨tt,x2,KO,rfl⟩:=TM
  have ex:x2=u0:=by
   rw[List.getElem?_toArray]at KO
   exact Qad (KO.symm.trans hu)
  subst ex
  have MP:T∉[e,it]:=W.apart i T h' yJ
  have yL:h2.IsTuple T #[.int i tt,x2]:=by
   obtain ⟨o,ho,r⟩:=GA
   exact ⟨o,nZ T o MP ho,r⟩
  refine ⟨.ref T,upd H T (.tup [.int i,x]),?_,rfl,⟨T,x,λys hy=>by rw[I.yu hy hq];exact hx,rfl,I.b8.fresh hT,rfl⟩,⟨yK.1,yK.2.1⟩,λb hb=>?_⟩
  ·refine I.q9 (t':=tk) (h':=h2) (λb o hb y=>nZ b o hb (hk b o hb y)) hf hT ?_
   exact ⟨by show 2<=sizeLine;decide,[.int i tt,x2],.cons ⟨tt,rfl⟩ (.cons ru .nil),yL⟩
  ·rw[az (λz:b=T=>MP (z▸hb))];exact (hf b hb).1
 done:=by
  walk_at"b"
  subst hP hw hK
  obtain ⟨dQ,jE⟩:=st
  obtain ⟨xs,hq,hx⟩:=hg
  obtain ⟨aH,rv,p,hz⟩:=I.list hq
  have hl:=(rv:)
  have D:=Draws.list (prog:=X.prog) (w:=X.w) (A:=X.A.in1) (I.ok.hd hc) it a TQ aH.toArray
  walk_at"n"
  walk_at"Q"
  have e1:aH.toArray.size=i:=by rw[Qag];lia
  rw[e1]
  exact ⟨dQ,jE,p.isList⟩
 self:=λ_ _ s _ _ st h=>by
  obtain ⟨⟨old,he⟩,_⟩:=st
  exact wpAny_pyIter_enum he h
def OC(K:c7)(ta:TA):TI:=λσ H R=>ta σ H λvs H1=>∃a,vs=[.ref a]/\(∃xs,de K H1 a xs)/\R (GF K a) H1
def OD(K:c7)(ta:TA):TI:=λσ H R=>ta σ H λvs H1=>∃a,vs=[.ref a]/\(∃xs,bB K H1 a xs)/\R (GG K a) H1
theorem yN{X:Cx}(K:c7)(hK:X.K=K){elts:List Expr}{k:Nat}{pos':Pos}{a:Expr}{ta:TA}{p pos:Pos}(hg:Gl X "enumerate")(hm:X.mg "enumerate"=none)(ha:PA X [a] ta)(hs:starEach [a] X.env=[(false,eval a X.env)]:=by rfl):PI X (.Tuple elts k pos') (.Call (.Name "enumerate" p) [a] [] pos) (OC K ta):=by
 subst hK
 walk_at"W"
 walk_at"l"
 obtain ⟨b,rfl,⟨xs,hq⟩,q⟩:=q1
 obtain ⟨u,rfl,ru⟩:=vals1 r1
 cases ru
 obtain ⟨aH,rv,pl,hz⟩:=I1.tuple hq
 obtain ⟨ob,eb,_⟩:=id pl
 have cf:b<s1.heap.objs.size:=Qap eb
 refine AR pl λh' he hit hk=>wpAny_pyIter_enum he ?_
 refine ⟨s1.heap.objs.size+1,[s1.heap.objs.size+1,s1.heap.objs.size],_,_,H1,rfl,I1.kept (t':=s1.toks) hk,AS _ _ b (Qfb _) (Qaw (Qcr cf)) (Qaw cf),⟨⟨_,he⟩,hit⟩,λc hb=>?_,q⟩
 have yl:s1.heap.objs.size<=c:=by
  rcases Qam.mp hb with z | z
  ·rw[z];exact Qc6 _
  ·rw[ZI.mp z];exact ZH _
 exact I1.qI yl (I1.b8.fresh yl)
theorem GH{X:Cx}(K:c7)(hK:X.K=K){elts:List Expr}{k:Nat}{pos':Pos}{a:Expr}{ta:TA}{p pos:Pos}(hg:Gl X "enumerate")(hm:X.mg "enumerate"=none)(ha:PA X [a] ta)(hs:starEach [a] X.env=[(false,eval a X.env)]:=by rfl):PI X (.Tuple elts k pos') (.Call (.Name "enumerate" p) [a] [] pos) (OD K ta):=by
 subst hK
 walk_at"W"
 walk_at"l"
 obtain ⟨b,rfl,⟨xs,hq⟩,q⟩:=q1
 obtain ⟨u,rfl,ru⟩:=vals1 r1
 cases ru
 obtain ⟨aH,rv,pl,hz⟩:=I1.list hq
 obtain ⟨ob,eb,_⟩:=id pl.isList
 have cf:b<s1.heap.objs.size:=Qap eb
 refine call_enumerate_list pl.isList λh' he hit hsz hk=>wpAny_pyIter_enum he ?_
 refine ⟨s1.heap.objs.size+1,[s1.heap.objs.size+1,s1.heap.objs.size],_,_,H1,rfl,I1.kept (t':=s1.toks) hk,AU _ _ b (Qfb _) (Qaw (Qcr cf)) (Qaw cf),⟨⟨_,he⟩,hit⟩,λc hb=>?_,q⟩
 have yl:s1.heap.objs.size<=c:=by
  rcases Qam.mp hb with z | z
  ·rw[z];exact Qc6 _
  ·rw[ZI.mp z];exact ZH _
 exact I1.qI yl (I1.b8.fresh yl)
theorem vf{K:c7}{a:Addr}{xs:List V}{g:TG}{tb:TS}{D:Ends}{σ:St}{H:Hp}(Pv:Nat->St->Hp->Prop)(h0:Pv 0 σ H)(hl:∀i σ H,i<=(xs:)->Pv i σ H->de K H a xs)
  (hs:∀i x σ H T,xs[i]? =some x->Pv i σ H->H T=none->g (.ref T) σ (upd H T (.tup [.int i,x])) λσ2 H2=>tb { D with nx:=Pv (i+1),ct:=Pv (i+1),bk:=D.nx } σ2 H2) (hd:∀σ H,Pv (xs:) σ H->D.nx σ H):
  ∃W:Nat->Nat->St->Hp->Prop,(∃m,W 0 m σ H)/\∀i m σ H,W i m σ H->
   ((GF K a).stop i H/\D.nx σ H)\/((GF K a).go i H/\∃N:St->Hp->Prop,(∀σ' H',N σ' H'->∃m',m'<m/\W (i+1) m' σ' H')/\∀x H',(GF K a).FO i H x H'->g x σ H' λσ2 H2=>tb { D with nx:=N,ct:=N,bk:=D.nx } σ2 H2):=by
 walk_at"h"
 rintro i m σ H ⟨rfl,hi,p⟩
 have hq:=hl i σ H hi p
 by_cases cf:i<(xs:)
 ·refine .inr ⟨⟨xs,xs[i],hq,by simp[cf]⟩,Pv (i+1),λσ' H' p'=>⟨(xs:) - (i+1),(),rfl,cf,p'⟩,λx H' y=>?_⟩
  obtain ⟨T,z,hz,rfl,hn,rfl⟩:=y
  exact hs i z σ _ T (hz xs hq) p hn
 ·have e:i=(xs:):=by lia
  subst e
  exact .inl ⟨⟨xs,hq,rfl⟩,hd σ H p⟩
theorem D_{K:c7}{a:Addr}{xs:List V}{g:TG}{tb:TS}{D:Ends}{σ:St}{H:Hp}(Pv:Nat->St->Hp->Prop)(h0:Pv 0 σ H)(hl:∀i σ H,i<=(xs:)->Pv i σ H->bB K H a xs)
  (hs:∀i x σ H T,xs[i]? =some x->Pv i σ H->H T=none->g (.ref T) σ (upd H T (.tup [.int i,x])) λσ2 H2=>tb { D with nx:=Pv (i+1),ct:=Pv (i+1),bk:=D.nx } σ2 H2) (hd:∀σ H,Pv (xs:) σ H->D.nx σ H):
  ∃W:Nat->Nat->St->Hp->Prop,(∃m,W 0 m σ H)/\∀i m σ H,W i m σ H->
   ((GG K a).stop i H/\D.nx σ H)\/((GG K a).go i H/\∃N:St->Hp->Prop,(∀σ' H',N σ' H'->∃m',m'<m/\W (i+1) m' σ' H')/\∀x H',(GG K a).FO i H x H'->g x σ H' λσ2 H2=>tb { D with nx:=N,ct:=N,bk:=D.nx } σ2 H2):=by
 walk_at"h"
 rintro i m σ H ⟨rfl,hi,p⟩
 have hq:=hl i σ H hi p
 by_cases cf:i<(xs:)
 ·refine .inr ⟨⟨xs,xs[i],hq,by simp[cf]⟩,Pv (i+1),λσ' H' p'=>⟨(xs:) - (i+1),(),rfl,cf,p'⟩,λx H' y=>?_⟩
  obtain ⟨T,z,hz,rfl,hn,rfl⟩:=y
  exact hs i z σ _ T (hz xs hq) p hn
 ·have e:i=(xs:):=by lia
  subst e
  exact .inl ⟨⟨xs,hq,rfl⟩,hd σ H p⟩
section
variable{X:Cx}
theorem yO(K:c7)(h:X.K=K):di X (.builtin "isinstance") (λxs H Q=>∃p ys,xs=[.ref p,.ty "list"]/\H p=some (.lst ys)/\Q (.bl true) H):=by
 subst h
 walk_at"d"
 obtain ⟨p,ys,rfl,hq,q⟩:=h
 obtain ⟨u,w',rfl,r1,r2⟩:=vals2 r
 cases (show w'=Value.type "list" from r2)
 exact DR I r1 (.lst hq) (by unfold PySem.W.kitOne;rw[if_pos ∅]) λtk=>⟨.bl true,H,I.tok _,rfl,q⟩
def OE(K:c7):List V->Hp->VK->Prop:=λxs H Q=>∃p ys,xs=[.ref p]/\((bB K H p ys/\∀l,H l=none->Q (.ref l) (upd H l (.tup ys)))\/(de K H p ys/\Q (.ref p) H))
theorem gz(K:c7)(h:X.K=K):di X (.type "tuple") (OE K):=by subst h;exact tZ
end
theorem mR{K:c7}{a:Addr}{xs:List V}{σc:St}{g:TG}{tc:TT}{te:TE}{Q:VK}{H1:Hp}(Pv:Nat->List V->Hp->Prop)(hn:(xs:)<sizeLine)(hl:∀i acc H,Pv i acc H->de K H a xs)(h0:Pv 0 [] H1)
  (hs:∀(i:Nat) (x:V) (acc:List V) (H:Hp) (Nx:List V->Hp->Prop),i<(xs:)->xs[i]? =some x->(acc:)<=i->Pv i acc H->(∀e_ H',(e_:)<=i+1->Pv (i+1) e_ H'->Nx e_ H')->
   g x σc H λσ2 H2=>Wk σc σ2/\tc σ2 H2 λb H3=>if b=true then te σ2 H3 λv H4=>Nx (acc++[v]) H4 else Nx acc H3)
  (hd:∀acc H D,(acc:)<=(xs:)->Pv (xs:) acc H->H D=none->Q (.ref D) (upd H D (.lst acc))):u5 (WT K a) σc g tc te Q H1:=
 qq (xs:=λi x=>xs[i]? =some x) Pv hn (λi acc H h p=>⟨xs,xs[i],hl i acc H p,by simp[h]⟩) (λacc H p=>⟨xs,hl _ acc H p,ZH _⟩) (λi acc H x H' h p y=>⟨y.1,y.2 xs (hl i acc H p)⟩) h0 hs hd
def fU(H H':Hp):Prop:=∀c xs,H c=some (.tup xs)->H' c=some (.tup xs)
theorem fU.trans{H H1 H2:Hp}(a:fU H H1)(b:fU H1 H2):fU H H2:=λc xs h=>b c xs (a c xs h)
theorem fU.of{H H':Hp}(s:aq H H'):fU H H':=λc xs h=>s c _ h
theorem fU.KP{H:Hp}{p:Addr}{ys:List V}{o:HO}(h:H p=some (.lst ys)):fU H (upd H p o):=λc xs e=>by
 rw[az (λz=>by rw[z,h]at e;cases e)];exact e
section
variable{prog:Program}{w:World}{A:Around}{E:Value->Shared->Prop}{s:Shared}
noncomputable def bP:List Int->List Int->Bool
 | [],[]=>false
 | [],_::_=>true
 | _::_,[]=>false
 | a::r,b::t=>if a=b then bP r t else decide (a<b)
end
end L2
namespace HT
open PySem PySem.Spec PyProof.Rows
end HT
namespace L2
open PySem PySem.Spec PyProof.Rows
section
variable{κ:Type}[DecidableEq κ]
noncomputable def dI(aN:List (κ×V))(k:κ):Option V:=(aN.find? λkv=>decide (kv.1=k)).map (·.2)
noncomputable def putK(aN:List (κ×V))(k:κ)(v:V):List (κ×V):=
 if (aN.any λkv=>decide (kv.1=k))=true then aN.map (λkv=>if kv.1=k then (kv.1,v) else kv) else aN++[(k,v)]
theorem cW{p:κ×V}{r:List (κ×V)}{k:κ}(e:p.1=k):dI (p::r) k=some p.2:=by simp[dI,Qdj,e]
theorem cJ{p:κ×V}{r:List (κ×V)}{k:κ}(e: ¬p.1=k):dI (p::r) k=dI r k:=by simp[dI,Qdj,e]
theorem jO(k:κ):∀aN:List (κ×V),(aN.any λkv=>decide (kv.1=k))=(dI aN k).isSome
 | []=>rfl
 | p::r=>by
  rw[Qdt]
  by_cases e:p.1=k
  ·simp only[cW e,decide_eq_true e,Bool.true_or,Option.isSome_some]
  ·rw[cJ e,decide_eq_false e,Qf6];exact jO k r
theorem yP(k j:κ)(y:V):∀aN:List (κ×V),dI (aN.map λkv=>if kv.1=k then (kv.1,y) else kv) j=(dI aN j).map λx=>if j=k then y else x
 | []=>rfl
 | p::r=>by
  have ih:=yP k j y r
  rw[Qa0]
  by_cases h:p.1=k
  ·rw[if_pos h]
   by_cases e:p.1=j
   ·rw[cW (p:=(p.1,y)) e,cW e,Qfn,if_pos (e.symm.trans h)]
   ·rw[cJ (p:=(p.1,y)) e,cJ e,ih]
  ·rw[if_neg h]
   by_cases e:p.1=j
   ·rw[cW (p:=p) e,cW e,Qfn,if_neg (λz=>h (e.trans z))]
   ·rw[cJ (p:=p) e,cJ e,ih]
theorem vg(k j:κ)(y:V):∀aN:List (κ×V),dI aN k=none->dI (aN++[(k,y)]) j=if j=k then some y else dI aN j
 | [],_=>by
  by_cases e:k=j
  ·rw[if_pos e.symm];exact cW (p:=(k,y)) e
  ·rw[if_neg (λz=>e z.symm)];exact cJ (p:=(k,y)) e
 | p::r,hn=>by
  rw[Qfe]
  have hk: ¬p.1=k:=λz=>by rw[cW z]at hn;cases hn
  rw[cJ hk]at hn
  have ih:=vg k j y r hn
  by_cases e:p.1=j
  ·rw[cW e,cW e,if_neg (λz=>hk (e.trans z))]
  ·rw[cJ e,cJ e,ih]
theorem GI(aN:List (κ×V))(k j:κ)(y:V):dI (putK aN k y) j=if j=k then some y else dI aN j:=by
 unfold putK
 by_cases a:(aN.any λkv=>decide (kv.1=k))=true
 ·rw[if_pos a,yP]
  rw[jO]at a
  by_cases e:j=k
  ·obtain ⟨x,hx⟩:=Option.isSome_iff_exists.mp a
   rw[if_pos e,e,hx,Qfn,if_pos rfl]
  ·rw[if_neg e]
   cases dI aN j with
   | none=>rfl
   | some x=>rw[Qfn,if_neg e]
 ·rw[if_neg a]
  refine vg k j y aN ?_
  rw[jO]at a
  cases q:dI aN k with
  | none=>rfl
  | some x=>rw[q]at a;exact (a rfl).elim
theorem gR(aN:List (κ×V))(k:κ)(v:V):(putK aN k v:)<=(aN:)+1:=by
 unfold putK
 split
 ·rw[kb];lia
 ·rw[QD,Qa5,Qfr];lia
theorem yQ{aN:List (κ×V)}{k:κ}(v:V)(h:dI aN k=none):putK aN k v=aN++[(k,v)]:=by
 unfold putK
 rw[jO,h]
 exact if_neg ∅
theorem nQ.Ea{o:Option V}{u:Option Value}(r:nQ o u):o.isSome=u.isSome:=by
 cases o with
 | none=>cases u with
  | none=>rfl
  | some _=>exact (show False from r).elim
 | some _=>cases u with
  | none=>exact (show False from r).elim
  | some _=>rfl
theorem KV.val{aN:List (κ×V)}{vs:List (κ×Value)}(r:KV aN vs)(k:κ):nQ (dI aN k) (valueAt vs k):=by
 unfold KV at r
 induction r with
 | nil=>exact True.intro
 | @cons p q ps qs h t ih=>
  obtain ⟨h1,h2⟩:=h
  by_cases e:p.1=k
  ·have e':q.1=k:=h1.symm.trans e
   have b:valueAt (q::qs) k=some q.2:=by simp[valueAt,Qdj,e']
   rw[cW e,b];exact h2
  ·have e': ¬q.1=k:=λz=>e (h1.trans z)
   have b:valueAt (q::qs) k=valueAt qs k:=by simp[valueAt,Qdj,e']
   rw[cJ e,b];exact ih
theorem KV.any{aN:List (κ×V)}{vs:List (κ×Value)}(r:KV aN vs)(k:κ):(aN.any λkv=>decide (kv.1=k))=vs.any λkv=>decide (kv.1=k):=by
 unfold KV at r
 induction r with
 | nil=>rfl
 | cons h t ih=>rw[Qdt,Qdt,ih,h.1]
theorem KV.OF{aN:List (κ×V)}{vs:List (κ×Value)}(r:KV aN vs)(k:κ){y:V}{u:Value}(ry:RelV y u):
  KV (aN.map λkv=>if kv.1=k then (kv.1,y) else kv) (vs.map λkv=>if kv.1=k then (kv.1,u) else kv):=by
 unfold KV at r ⊢
 induction r with
 | nil=>exact .nil
 | @cons p q ps qs h t ih=>
  rw[Qa0,Qa0]
  refine .cons ?_ ih
  obtain ⟨h1,h2⟩:=h
  by_cases e:p.1=k
  ·rw[if_pos e,if_pos (h1.symm.trans e)];exact ⟨h1,ry⟩
  ·rw[if_neg e,if_neg (λz=>e (h1.trans z))];exact ⟨h1,h2⟩
theorem KV.put{aN:List (κ×V)}{vs:List (κ×Value)}(r:KV aN vs)(k:κ){y:V}{u:Value}(ry:RelV y u):KV (putK aN k y) (stored vs k u):=by
 unfold putK stored
 rw[r.any k]
 by_cases e:(vs.any λkv=>decide (kv.1=k))=true
 ·rw[if_pos e,if_pos e];exact r.OF k ry
 ·rw[if_neg e,if_neg e];exact Paired.snoc r ⟨rfl,ry⟩
theorem KV.length{aN:List (κ×V)}{vs:List (κ×Value)}(r:KV aN vs):(aN:)=(vs:):=Paired.length r
end
theorem GJ{P:Program}{w:World}{k:Key}{u:Value}(r:RelV (kV k) u):(cO P w).is k u=true:=by
 cases k with
 | inl i=>obtain ⟨t,e⟩:=(show ∃t,u=Value.int i t from r);subst e;exact yo P w i t
 | inr x=>obtain ⟨t,e⟩:=(show ∃t,u=Value.str x t from r);subst e;exact yp P w x t
theorem vh{P:Program}{w:World}:∀{ks:List Key} {us:List Value},Vals (ks.map kV) us->ItemsAre (cO P w) ks us
 | [],_,r=>by rw[List.map_nil]at r;cases r;exact .nil
 | k::ks,_,r=>by
  rw[Qa0]at r
  cases r with
  | cons h t=>exact .cons (GJ h) (vh t)
abbrev KT(H:Hp):List (List Key×V)->List (List Key×Addr×Value)->Prop:=Paired λp q=>p.1=q.1/\H q.2.1=some (.tup (p.1.map kV))/\RelV p.2 q.2.2
theorem KT.val{H:Hp}{aN:List (List Key×V)}{xs:List (List Key×Addr×Value)}(r:KT H aN xs)(k:List Key):nQ (dI aN k) ((atKey xs k).map (·.2)):=by
 induction r with
 | nil=>exact True.intro
 | @cons p q ps qs h t ih=>
  obtain ⟨h1,_,h2⟩:=h
  by_cases e:p.1=k
  ·have e':q.1=k:=h1.symm.trans e
   have b:atKey (q::qs) k=some q.2:=by simp[atKey,Qdj,e']
   rw[cW e,b];exact h2
  ·have e': ¬q.1=k:=λz=>e (h1.trans z)
   have b:atKey (q::qs) k=atKey qs k:=by simp[atKey,Qdj,e']
   rw[cJ e,b];exact ih
theorem KT.OF{H:Hp}{aN:List (List Key×V)}{xs:List (List Key×Addr×Value)}(r:KT H aN xs)(k:List Key){y:V}{u:Value}(ry:RelV y u):
  KT H (aN.map λkv=>if kv.1=k then (kv.1,y) else kv) (xs.map (putAt k u)):=by
 induction r with
 | nil=>exact .nil
 | @cons p q ps qs h t ih=>
  rw[Qa0,Qa0]
  refine .cons ?_ ih
  obtain ⟨h1,h2,h3⟩:=h
  unfold putAt
  by_cases e:p.1=k
  ·rw[if_pos e,if_pos (h1.symm.trans e)];exact ⟨h1,h2,ry⟩
  ·rw[if_neg e,if_neg (λz=>e (h1.trans z))];exact ⟨h1,h2,h3⟩
theorem KT.put{H:Hp}{aN:List (List Key×V)}{xs:List (List Key×Addr×Value)}(r:KT H aN xs)(k:List Key){b:Addr}{y:V}{u:Value}(hb:H b=some (.tup (k.map kV)))(ry:RelV y u):
  KT H (putK aN k y) (storedH xs k b u):=by
 have e:(aN.any λkv=>decide (kv.1=k))=(atKey xs k).isSome:=by
  rw[jO,(r.val k).Ea,Option.isSome_map]
 unfold putK storedH
 rw[e]
 by_cases q:(atKey xs k).isSome=true
 ·rw[if_pos q,if_pos q];exact r.OF k ry
 ·rw[if_neg q,if_neg q];exact Paired.snoc r ⟨rfl,hb,ry⟩
theorem KT.keeps{H H':Hp}{aN:List (List Key×V)}{xs:List (List Key×Addr×Value)}(r:KT H aN xs)(ht:∀b ys,H b=some (.tup ys)->H' b=some (.tup ys)):KT H' aN xs:=
 Paired.NB r λ_ _ z=>⟨z.1,ht _ _ z.2.1,z.2.2⟩
section
variable{P:Program}{w:World}{H:Hp}{h:Heap}{a:Addr}
theorem MQ{u:HO}(ok:lU P w H h)(e:Rd H a u):cg P w H h a u:=e.ok ok
theorem GK{aN:List (Key×V)}(ok:lU P w H h)(e:Rd H a (.dK aN)):(aN:)<=sizeLine/\(a==sysModules)=false/\∃vs,KV aN vs/\h.DictOf (cO P w) a vs:=
 show cg P w H h a (.dK aN) from MQ ok e
theorem TR{aN:List (Key×V)}(ok:lU P w H h)(e:H a=some (.dK aN)):(aN:)<=sizeLine/\(a==sysModules)=false/\∃vs,KV aN vs/\h.DictOf (cO P w) a vs:=GK ok (.inl e)
theorem AV{ks:List Key}(ok:lU P w H h)(e:H a=some (.tup (ks.map kV))):(tupleKind (cO P w)).is h ks a:=by
 obtain ⟨_,aH,r,o,h1,h2,n,h3⟩:=(show cg P w H h a (.tup (ks.map kV)) from ok a _ e)
 exact ⟨o,aH.toArray,n,h1,h2,h3,by simpa using vh r⟩
theorem GL{aN:List (List Key×V)}(ok:lU P w H h)(e:Rd H a (.dT aN)):(aN:)<=sizeLine/\(a==sysModules)=false/\
  ∃xs,KT H aN xs/\h.DictOfH (tupleKind (cO P w)) a xs:=by
 obtain ⟨z,y,xs,r,o,es,ep,h1,h2,h3,h4,h5⟩:=(show cg P w H h a (.dT aN) from MQ ok e)
 refine ⟨z,y,xs,r,o,es,ep,h1,h2,h3,h4,λx hx=>?_,h5⟩
 have all:∀{l:List (List Key×V)} {m:List (List Key×Addr×Value)},KT H l m->∀x∈m,(tupleKind (cO P w)).is h x.1 x.2.1:=by
  intro l m q
  induction q with
  | nil=>intro x hx;exact nomatch hx
  | @cons p q ps qs hq t ih=>
   intro x hx
   rcases Qam.mp hx with e | hx
   ·subst e
    exact AV ok (by rw[<-hq.1];exact hq.2.1)
   ·exact ih x hx
 exact all r x hx
theorem TU{aN:List (List Key×V)}(ok:lU P w H h)(e:H a=some (.dT aN)):(aN:)<=sizeLine/\(a==sysModules)=false/\
  ∃xs,KT H aN xs/\h.DictOfH (tupleKind (cO P w)) a xs:=GL ok (.inl e)
end
def q_(H:Hp)(a:Addr)(y:V)(r:Option V):Prop:=
 (∃aN k,Rd H a (.dK aN)/\y=kV k/\r=dI aN k)\/∃aN k b,Rd H a (.dT aN)/\y= .ref b/\H b=some (.tup (k.map kV))/\r=dI aN k
def wX(H:Hp)(a:Addr)(y v:V)(H':Hp):Prop:=
 (∃aN k,H a=some (.dK aN)/\y=kV k/\(aN:)<sizeLine/\H'=upd H a (.dK (putK aN k v)))\/
 ∃aN k b,H a=some (.dT aN)/\y= .ref b/\H b=some (.tup (k.map kV))/\(aN:)<sizeLine/\H'=upd H a (.dT (putK aN k v))
theorem q_.k{H:Hp}{a:Addr}{aN:List (Key×V)}{k:Key}(e:H a=some (.dK aN)):q_ H a (kV k) (dI aN k):= .inl ⟨aN,k,.inl e,rfl,rfl⟩
theorem q_.t{H:Hp}{a b:Addr}{aN:List (List Key×V)}{k:List Key}(e:H a=some (.dT aN))(eb:H b=some (.tup (k.map kV))):q_ H a (.ref b) (dI aN k):= .inr ⟨aN,k,b,.inl e,rfl,eb,rfl⟩
theorem wX.k{H:Hp}{a:Addr}{aN:List (Key×V)}{k:Key}{v:V}(e:H a=some (.dK aN))(hl:(aN:)<sizeLine):wX H a (kV k) v (upd H a (.dK (putK aN k v))):= .inl ⟨aN,k,e,rfl,hl,rfl⟩
theorem wX.t{H:Hp}{a b:Addr}{aN:List (List Key×V)}{k:List Key}{v:V}(e:H a=some (.dT aN))(eb:H b=some (.tup (k.map kV)))(hl:(aN:)<sizeLine):
  wX H a (.ref b) v (upd H a (.dT (putK aN k v))):= .inr ⟨aN,k,b,e,rfl,eb,hl,rfl⟩
section
variable{X:Cx}{pins:List (Addr×Obj)}{σ:St}{H:Hp}{s:Shared}{a:Addr}{y v:V}{u r:Value}{o:Option V}{A:Around}{E:Value->Shared->Prop}
theorem Inv.big(I:Inv X pins σ H s):sysModules<s.heap.objs.size:=by
 have h:mainGlobals<s.heap.objs.size:=(I.mod.glob.keeps I.bk).lt
 exact Qd4 ∅ h
theorem Eb{Q:Value->Shared->Prop}(hu:A.units+1<cLine)(I:Inv X pins σ H s)(g:q_ H a y (some v))(ry:RelV y u)(h:∀w' s',Inv X pins σ H s'->RelV v w'->Q w' s'):
  wpAny (model X.prog X.w) A (getItem (.ref a) u) Q E s:=by
 rcases g with ⟨aN,k,e,ey,l⟩ | ⟨aN,k,b,e,ey,eb,l⟩
 ·subst ey
  obtain ⟨z,hd,vs,rel,dd⟩:=GK I.b8 e
  obtain ⟨w',hw,tX⟩:=nQ.some_of (v:=v) (o:=valueAt vs k) (by rw[l];exact rel.val k)
  exact wpAny_getItem_of (GJ ry) dd.mapOf hw (h w' _ (I.tok _) tX)
 ·subst ey
  cases (show u=Value.ref b from ry)
  obtain ⟨z,hd,xs,rel,dd⟩:=GL I.b8 e
  obtain ⟨w',hw,tX⟩:=nQ.some_of (v:=v) (o:=(atKey xs k).map (·.2)) (by rw[l];exact rel.val k)
  obtain ⟨p,hp,rh⟩:=Option.map_eq_some_iff.mp hw
  refine wpAny_getItem_heap (tupleKind_room_in1 hu) (AV I.b8 eb) dd hp ?_
  rw[rh]
  exact h w' _ (I.tok _) tX
theorem Cn{h':Heap}{t':Nat}{ob:HO}(I:Inv X pins σ H s)(mu:Sy (H a))(hs:Heap.SameBut a s.heap h')(he:∃q,h'.get? a=some q)(new:cg X.prog X.w (upd H a ob) h' a ob):
  Inv X pins σ (upd H a ob) { s with heap:=h',toks:=t' }:=
 I.write (x:=a) (e:=a) mu (.inl rfl) (λb q hb z=>(hs.2 b hb).trans z) he new
theorem OG{P:Program}{w:World}{H':Hp}{h':Heap}{aN:List (Key×V)}{vs:List (Key×Value)}(z:(aN:)<=sizeLine)(hd:(a==sysModules)=false)(rel:KV aN vs)(dd:h'.DictOf (cO P w) a vs):
  cg P w H' h' a (.dK aN):=⟨z,hd,vs,rel,dd⟩
theorem Ec{H':Hp}{Q:Unit->Shared->Prop}(hu:A.units+1<cLine)(I:Inv X pins σ H s)(g:wX H a y v H')(ry:RelV y u)(rv:RelV v r)(h:∀s',Inv X pins σ H' s'->Q Unit.unit s'):
  wpAny (model X.prog X.w) A (setItem (.ref a) u r) Q E s:=by
 rcases g with ⟨aN,k,e,ey,l,eH⟩ | ⟨aN,k,b,e,ey,eb,l,eH⟩
 ·subst ey eH
  obtain ⟨z,hd,vs,rel,dd⟩:=TR I.b8 e
  have hz:(vs:)<=sizeLine:=by rw[<-(rel:)];exact z
  have hl:(putK aN k v:)<=sizeLine:=by have:=gR aN k v;lia
  refine wpAny_setItem_pairs (hsz:=hz) (GJ ry) dd λh' VL hs=>h _ ?_
  have he:∃q,h'.get? a=some q:=let ⟨q,_,_,hq,_⟩:=VL;⟨q,hq⟩
  exact Cn I (by rw[e];exact True.intro) hs he (OG hl hd (rel.put k rv) VL)
 ·subst ey eH
  cases (show u=Value.ref b from ry)
  obtain ⟨z,hd,xs,rel,dd⟩:=TU I.b8 e
  have hz:(xs:)<=sizeLine:=by rw[<-Paired.length rel];exact z
  have hl:(putK aN k v:)<=sizeLine:=by have:=gR aN k v;lia
  refine wpAny_setItem_heap (hsz:=hz) (tupleKind_room_in1 hu) (AV I.b8 eb) dd λh' VL hs=>h _ ?_
  obtain ⟨q,es,ep,hq,h2,h3,h4,_,h5⟩:=VL
  refine Cn I (by rw[e];exact True.intro) hs ⟨q,hq⟩ ⟨hl,hd,_,(rel.put k eb rv).keeps λc ys ec=>?_,q,es,ep,hq,h2,h3,h4,h5⟩
  rw[az (Sx ec e (λz=>nomatch z))]
  exact ec
end
def TV(i:Expr):Prop:=∀ov iv,subscripted i false ov iv=operate [ov,iv] (getItem ov iv)
theorem KQ{prog:Program}{w:World}{A:Around}{E:Value->Shared->Prop}{s:Shared}{env:Env}{value slice:Expr}{pos:Pos}{T id:String}{Q:Value->Shared->Prop}
  (hl:typeLookup (.type T) "__getitem__"=pure (some (.builtin id))) (hs:TV slice)
  (h:wpAny (model prog w) A (eval value env) (λo s₁=>wpAny (model prog w) A (eval slice env) (λi s₂=>s₂.TypeIs o T/\wpAny (model prog w) A (getItem o i) Q E s₂) E s₁) E s):
  wpAny (model prog w) A (eval (.Subscript value slice pos) env) Q E s:=by
 refine Subscript_ (wpAny_mono h (λo s₁ h₁=>wpAny_mono h₁ (λi s₂ h₂=>?_) λ_ _ x=>x) λ_ _ x=>x)
 obtain ⟨hT,h₂⟩:=h₂
 unfold subscriptTail
 refine wpAny_bind ?_
 rw[getitemInPython_of_ne hT.not_modules]
 refine wpAny_bind (wpAny_specialOf hT hl ?_)
 have fin:wpAny (model prog w) A (subscripted slice false o i) (λr s₃=>wpAny (model prog w) A (letTemporaryGo value o r >>= λ_=>pure r) Q E s₃) E s₂:=by
  rw[hs o i]
  exact wpAny_operating (wpAny_mono h₂ (λr s₃ h₃=>wpAny_bind (wpAny_letTemporaryGo (wpAny_pure h₃))) λ_ _ x=>x)
 first
  | exact wpAny_pure (wpAny_bind fin)
  | exact wpAny_bind (wpAny_pure (wpAny_bind fin))
  | exact wpAny_bind fin
theorem yR{X:Cx}{pins:List (Addr×Obj)}{σ:St}{H:Hp}{s:Shared}{a:Addr}{y:V}{o:Option V}(I:Inv X pins σ H s)(g:q_ H a y o):s.TypeIs (.ref a) "dict":=by
 rcases g with ⟨aN,k,e,_,_⟩ | ⟨aN,k,b,e,_,_,_⟩
 ·obtain ⟨_,_,vs,_,dd⟩:=GK I.b8 e
  exact dd.typeIs
 ·obtain ⟨_,_,xs,_,dd⟩:=GL I.b8 e
  exact dd.typeIs
def TX(td ty:TE):TE:=λσ H Q=>td σ H λx H1=>ty σ H1 λy H2=>∃a v,x= .ref a/\q_ H2 a y (some v)/\Q v H2
def TY(td ty tv:TE):TS:=λD σ H=>tv σ H λv H1=>td σ H1 λx H2=>ty σ H2 λy H3=>∃a H4,x= .ref a/\wX H3 a y v H4/\D.nx σ H4
section
variable{X:Cx}{o i e value:Expr}{pos pos' S6:Pos}{td ty tv:TE}
theorem qr(hu:X.A.units+1<cLine)(ho:PE X o td)(hi:PE X i ty)(hs:TV i):PE X (.Subscript o i pos) (TX td ty):=by
 walk_at"g"
 refine KQ PySem.F.slot_dict_getitem.lookup hs (cA (ho pins s σ H _ I h) λu s1 ⟨x,H1,I1,rx,q1⟩=>cA (hi pins s1 σ H1 _ I1 q1) λiv s2 ⟨y,H2,I2,ry,a,v,ex,g,q2⟩=>?_)
 subst ex
 obtain rfl:u=Value.ref a:=rx
 exact ⟨yR I2 g,Eb hu I2 g ry λw' s3 I3 tX=>⟨v,H2,I3,tX,q2⟩⟩
theorem wY(hu:X.A.units+1<cLine)(ho:PE X o td)(hi:PE X i ty)(hv:PE X value tv)(hs:swapsWith value (some (.Subscript o i pos')) pos.line X.env=pure false):
  PS X (.Assign [.Subscript o i pos'] value pos) (TY td ty tv):=by
 walk_at"p"
 refine wpAny_Assign_Subscript (cA (hv pins s σ H _ I h) λr s1 ⟨v,H1,I1,rv,q1⟩=>cA (ho pins s1 σ H1 _ I1 q1) λu s2 ⟨x,H2,I2,rx,q2⟩=>cA (hi pins s2 σ H2 _ I2 q2) λiv s3 ⟨y,H3,I3,ry,a,H4,ex,g,q3⟩=>?_) hs
 subst ex
 obtain rfl:u=Value.ref a:=rx
 exact Ec hu I3 g ry rv λs4 I4=>⟨σ,H4,I4,q3⟩
end
theorem GN{P:Program}{w:World}{H:Hp}(h:Heap)(hb:sysModules<h.objs.size):cg P w H (h.push { cls:= .type "dict",data:= .dict #[] }) h.objs.size (.dK []):=
 ⟨Qar _,beq_eq_false_iff_ne.mpr (Ne.symm (Qaw hb)),[],.nil,Heap.DictOf.new h⟩
theorem GO{P:Program}{w:World}{H:Hp}(h:Heap)(hb:sysModules<h.objs.size):cg P w H (h.push { cls:= .type "dict",data:= .dict #[] }) h.objs.size (.dT []):=
 ⟨Qar _,beq_eq_false_iff_ne.mpr (Ne.symm (Qaw hb)),[],.nil,_, #[],0,Qaq _ rfl,⟨rfl,rfl,rfl⟩,rfl,rfl,Qey⟩
def OH:TE:=λ_ H Q=>∀p,H p=none->Q (.ref p) (upd H p (.dK []))
def OI:TE:=λ_ H Q=>∀p,H p=none->Q (.ref p) (upd H p (.dT []))
section
variable{X:Cx}{pos:Pos}
theorem GP:PE X (.Dict [] [] pos) OH:=λpins s σ H Q I h=>
 wpAny_Dict_empty ⟨.ref s.heap.objs.size,_,I.laid (a:=s.heap.objs.size) (o:= .dK []) (t':=s.toks) (λ_ _ q=>ZG _ q) (ZH _) (GN s.heap I.big),rfl,h _ (I.b8.fresh (ZH _))⟩
theorem GQ:PE X (.Dict [] [] pos) OI:=λpins s σ H Q I h=>
 wpAny_Dict_empty ⟨.ref s.heap.objs.size,_,I.laid (a:=s.heap.objs.size) (o:= .dT []) (t':=s.toks) (λ_ _ q=>ZG _ q) (ZH _) (GO s.heap I.big),rfl,h _ (I.b8.fresh (ZH _))⟩
end
end L2
namespace L2.F2
open PySem PySem.Spec PyProof.Rows
end L2.F2
namespace L2
open PySem PySem.Spec PyProof.Rows
section
variable{prog:Program}{w:World}{A:Around}{E:Value->Shared->Prop}{s:Shared}
theorem rj{h h':Heap}{l b:Addr}{items:Array Value}(x:h.IsList l items)(k:Heap.ExtBut b h h')(n:l≠b):h'.IsList l items:=let ⟨o,ho,r⟩:=x;⟨o,k l o n ho,r⟩
theorem vm{it l:Addr}{items:Array Value}(dE:l≠it):∀(n i:Nat) (s:Shared) (Q:List Value->Shared->Prop),s.heap.IsListIter it l i->s.heap.IsList l items->i+n<=items.size->
  (∀h',h'.IsListIter it l (i+n)->Heap.SameBut it s.heap h'->Q ((items.toList.drop i).take n) { s with heap:=h' })->wpAny (model prog w) A (draw (.ref it) n) Q E s
 | 0,i,s,Q,hit,_,_,hQ=>by
  show wpAny _ _ (pure []) Q E s
  exact wpAny_pure (by simpa using hQ s.heap hit (Heap.SameBut.refl ..))
 | n+1,i,s,Q,hit,ht,hle,hQ=>by
  have cf:i<items.size:=by lia
  show wpAny _ _ (pyNext (.ref it) >>= _) Q E s
  refine wpAny_bind (wpAny_pyNext_list_item hit ht (x:=items[i]) (by simp[cf]) λh₁ OJ TZ=>?_)
  refine wpAny_bind (wpAny_holding (vm dE n (i+1) _ _ OJ (rj ht TZ.extBut dE) () λh₂ Xz hs₂=>wpAny_pure ?_))
  have hd:items.toList.drop i=items[i]::items.toList.drop (i+1):=by simp[Qbq,cf]
  have:=hQ h₂ (by rw[show i+(n+1)=i+1+n by lia];exact Xz) (TZ.trans hs₂)
  rw[hd,List.take_succ_cons]at this
  exact this
theorem n0{t:Addr}{items:Array Value}{Q:List Value->Shared->Prop}(hh:A.handled=none)(ht:s.heap.IsList t items)
  (hQ:∀h',Heap.ExtBut s.heap.objs.size s.heap h'->Q items.toList { s with heap:=h' }):wpAny (model prog w) A (unpackItems (.ref t) items.size none) Q E s:=by
 have cf:t≠s.heap.objs.size:=by obtain ⟨o,ho,_⟩:=ht;exact Qaw (Qap ho)
 have hT:s.TypeIs (.ref t) "list":=let ⟨o,ho,hc,_⟩:=ht;⟨o,ho,hc⟩
 unfold unpackItems
 refine wpAny_bind ?_
 unfold notIterableAtAll
 refine wpAny_bind (wpAny_specialOf hT PySem.F.slot_list_iter.lookup ?_)
 refine wpAny_pure ?_
 simp only[Qcm,if_false]
 refine wpAny_bind (wpAny_holding (wpAny_pyIter_list ht ?_))
 have ZQ:∀o:Obj,(s.heap.push o).IsList t items:=λo=>let ⟨ob,ho,r⟩:=ht;⟨ob,ZG _ ho,r⟩
 refine wpAny_bind (wpAny_holding (vm cf items.size 0 _ _ ⟨_,Qaq _ rfl,rfl,rfl⟩ (ZQ _) () λh₁ OJ TZ=>?_))
 have Ob:List.take items.size (List.drop 0 items.toList)=items.toList:=by
  rw[Qcl];exact Qae (by simp)
 rw[Ob]
 rw[if_neg (by simp)]
 have ht₁:h₁.IsList t items:=rj (ZQ _) TZ.extBut cf
 refine wpAny_bind (wpAny_holding (wpAny_pyNext_list_end hh OJ ht₁ (by simp) λh₂ he₂=>?_))
 simp only[Option.isSome_none,Qcm,if_false]
 refine wpAny_pure (hQ h₂ λb o hb e=>he₂ b o hb (TZ.extBut b o hb (ZG _ e)))
theorem mS{env:Env}{elts:List Expr}{x1}{pos:Pos}{t:Addr}{items:Array Value}{Q:Unit->Shared->Prop}(hh:A.handled=none)(ht:s.heap.IsList t items)
  (hn:(assignEach elts env:)=items.size) (T1:(assignEach elts env).findIdx? (·.1)=none)
  (h:∀h',Heap.ExtBut s.heap.objs.size s.heap h'->wpAny (model prog w) A (assignInOrder ((assignEach elts env).map (·.2)) items.toList) Q E { s with heap:=h' }):
  wpAny (model prog w) A (assign (.Tuple elts x1 pos) env (.ref t)) Q E s:=by
 rw[assign_Tuple]
 refine wpAny_bind (wpAny_standAt ?_)
 unfold unpack
 rw[hn,T1]
 exact wpAny_bind (wpAny_holding (n0 hh ht h))
end
section
variable{X:Cx}
def XA(K:c7)(n:Nat)(t:JI):TG:=λv σ H Q=>∃a xs,v= .ref a/\bB K H a xs/\(xs:)=n/\t xs σ H Q
theorem KR(K:c7)(h:X.K=K){es:List Expr}{k:Nat}{t:JI}{n:Nat}{pos:Pos}(hc:X.calm=true)(hs:QA X es t)
  (hn:(assignEach es X.env:)=n:=by rfl) (kZ:(assignEach es X.env).findIdx? (·.1)=none:=by rfl):PG X (.Tuple es k pos) (XA K n t):=by
 subst h
 intro pins s σ H v u Q I r hw
 obtain ⟨a,xs,e1,hq,hl,hw⟩:=hw
 subst e1
 cases r
 obtain ⟨aH,rv,ht,hz⟩:=I.list hq
 refine mS (I.ok.hd hc) ht.isList (by simp[hn, <-hl,(rv:)]) kZ λh' hx=>?_
 have I1:Inv X pins σ H { s with heap:=h' }:=I.kept (t':=s.toks) λb o e=>hx b o (Qaw (Qap e)) e
 exact hs pins _ σ H xs _ Q I1 (by simpa using rv) hw
end
noncomputable def JQ(a b c d:Int):Bool:=if a=c then decide (b<d) else decide (a<c)
section
variable{prog:Program}{w:World}{A:Around}{E:Value->Shared->Prop}{s:Shared}
theorem KS{p q:Addr}{ox oy:Obj}{mx my:Nat}{a b c d:Int}{t1 t2 t3 t4:Tok}{P:PySem.Fin->Shared->Prop}(VM:s.heap.get? p=some ox)(XB:ox.data= .seq #[.int a t1,.int b t2] mx)
  (T3:s.heap.get? q=some oy) (OK:oy.cls= .type "tuple") (XC:oy.data= .seq #[.int c t3,.int d t4] my) (h:P (.done (.ret (.bool (JQ a b c d)))) s):
  wpAny (model prog w) A (Builtin.«tuple.__lt__» ⟨[.ref p,.ref q],[]⟩) P E s:=by
 have hT:s.TypeIs (.ref q) "tuple":=⟨oy,T3,OK⟩
 show wpAny _ _ (isInstance (.ref q) (.type "tuple") >>= λb=>_) _ _ s
 refine wpAny_bind (wpAny_isInstance (b:=true) hT isSubtype_tuple_tuple ?_)
 simp only[Qf5,Qcm,if_false]
 refine wpAny_bind (wpAny_tupleItemsOf VM XB ?_)
 refine wpAny_bind (wpAny_tupleItemsOf T3 XC ?_)
 refine wpAny_bind ?_
 show wpAny _ _ (forIn [(Value.int a t1,Value.int c t3),(Value.int b t2,Value.int d t4)] _ _) _ _ _
 rw[Qer]
 refine wpAny_bind (wpAny_bind (wpAny_eqBool_int ?_))
 unfold JQ at h
 by_cases e:a=c
 ·rw[if_pos e]at h
  rw[show (a==c)=true by simp[e]]
  simp only[Qf5,Qcm,if_false]
  refine wpAny_pure ?_
  dsimp only
  rw[Qer]
  refine wpAny_bind (wpAny_bind (wpAny_eqBool_int ?_))
  by_cases e2:b=d
  ·rw[show (b==d)=true by simp[e2]]
   simp only[Qf5,Qcm,if_false]
   refine wpAny_pure ?_
   dsimp only
   rw[List.forIn_nil]
   refine wpAny_pure ?_
   dsimp only
   refine wpAny_pure ?_
   rw[decide_eq_false ()]at h
   exact h
  ·rw[show (b==d)=false by simp[e2]]
   simp only[Bool.not_false,if_true]
   refine wpAny_bind (wpAny_rule ?_)
   refine wpAny_bind (lt_int ?_)
   walk_at"y"
   refine wpAny_pure ?_
   dsimp only
   refine wpAny_pure ?_
   dsimp only
   exact wpAny_pure h
 ·rw[if_neg e]at h
  rw[show (a==c)=false by simp[e]]
  simp only[Bool.not_false,if_true]
  refine wpAny_bind (wpAny_rule ?_)
  refine wpAny_bind (lt_int ?_)
  walk_at"y"
  refine wpAny_pure ?_
  dsimp only
  refine wpAny_pure ?_
  dsimp only
  exact wpAny_pure h
end
section
variable{X:Cx}
inductive GR(K:c7)(x:V)(y:V)(H:Hp)(Q:VK):Prop
 | mk (p:_) (q:_) (a:_) (b:_) (c:_) (d:_) (_:x= .ref p) (_:y= .ref q) (_:de K H p [.int a,.int b]) (_:de K H q [.int c,.int d]) (_:Q (.bl (JQ a b c d)) H):GR K x y H Q
def XD(K:c7):R2:=GR K
theorem yS{a b:Int}{us:List Value}(r:Vals [.int a,.int b] us):∃t u,us=[.int a t,.int b u]:=by
 cases r with
 | cons r1 r=>
  cases r with
  | cons r2 r=>
   cases r
   walk_at"T"
   obtain ⟨u,rfl⟩:=r2
   exact ⟨t,u,rfl⟩
theorem OL{k:Nat}(K:c7)(h:X.K=K)(hr:eI k X.A):jv X (compareOp .Lt) (XD K):=by
 subst h
 walk_at"a"
 obtain ⟨p,q,a,b,c,d,rfl,rfl,hp,hq,r⟩:=h
 cases rx
 cases ry
 obtain ⟨xs,rvx,px,_⟩:=I.tuple hp
 obtain ⟨ys,rvy,py,_⟩:=I.tuple hq
 obtain ⟨ox,VM,Xv,mx,XB⟩:=px
 obtain ⟨oy,T3,OK,my,XC⟩:=py
 obtain ⟨t1,t2,rfl⟩:=yS rvx
 obtain ⟨t3,t4,rfl⟩:=yS rvy
 have hu:=hr.units
 show wpAny _ _ (richCompare .Lt (.ref p) (.ref q)) _ _ s
 have hT:s.TypeIs (.ref p) "tuple":=⟨ox,VM,Xv⟩
 refine wpAny_richCompare_same_room hT ⟨oy,T3,OK⟩ PySem.F.slot_tuple_lt (wpAny_call_entry PySem.F.slot_tuple_lt hT PySem.F.entry_tuple_lt (KS VM XB T3 OK XC ⟨_,rfl,(λz=>nomatch z),?_⟩) (PySem.F.args_tuple_lt_2 _ _)) ()
 exact ⟨.bl _,H,I,rfl,r⟩
end
noncomputable def dd{α:Type}[DecidableEq α]:List α->List α->List α
 | σ,[]=>σ
 | σ,x::l=>dd (if x∈σ then σ else σ++[x]) l
theorem AW{α:Type}[DecidableEq α]:∀(l σ:List α),(dd σ l:)<=σ.length+(l:)
 | [],σ=>ZH _
 | x::l,σ=>by
  unfold dd
  have:=AW l (if x∈σ then σ else σ++[x])
  split at this<;>rename_i z
  ·rw[if_pos z,Qa5];lia
  ·rw[if_neg z,Qa5];rw[QD]at this;simp at this ⊢; lia
theorem Co{α:Type}[DecidableEq α]:∀(l σ:List α) (x:α),dd σ (l++[x])=if x∈dd σ l then dd σ l else dd σ l++[x]
 | [],σ,x=>rfl
 | y::l,σ,x=>Co l _ x
section
variable{prog:Program}{w:World}{A:Around}{E:Value->Shared->Prop}{s:Shared}
abbrev rk(prog:Program)(w:World)(h:Heap)(a:Addr)(l:List Str):Prop:=h.SetOf (strKind prog w) a (λk=>decide (k∈dd [] l)) (dd [] l:)
theorem rk.frame{h h':Heap}{a:Addr}{l:List Str}(x:rk prog w h a l)(k:∀o,h.get? a=some o->h'.get? a=some o):rk prog w h' a l:=by
 obtain ⟨o,es,ep,t,ho,r⟩:=x
 exact ⟨o,es,ep,t,k o ho,r⟩
theorem GS{R:Result->Shared->Prop}{I S:Addr}{fp wr:List Addr}{G:Array GenState->Array GenState->Prop}{P:Nat->Value->Prop}{St:Nat->Shared->Prop}{l:List Str}
  (W:WalksS prog w A.in1 I fp wr G (l:) P St) (hS:S∉fp) (hP:∀i v,P i v->∃x t,l[i]? =some x/\v= .str x t) (hb:(l:)+1<scanBound):
  ∀(k i:Nat) (s:Shared),(l:) - i=k->i<=(l:)->St i s->rk prog w s.heap S (l.take i)->(∀s',Moved (S::wr) G s s'->rk prog w s'.heap S l->R (.ok (.ret .none)) s')->
   codeAny (model prog w) A (.builtin "set.update.loop" ⟨[.ref S,.ref I],[]⟩) R s:=by
 have ZR:S∉wr:=λh=>hS (W.sub _ h)
 have MR:∀b∈wr,b∈S::wr:=λb g=>Qaf _ g
 intro k
 induction k with
 | zero=>
  intro i s hk hi kZ ua hR
  obtain rfl:i=(l:):=by lia
  rw[Qbe]at ua
  refine codeAny_builtin PyProof.Rows.F.entry_set_update_loop ?_
  rw[Around.under_plainId Qd8 _]
  show wpAny _ A.in1 (pyNext (.ref I) >>= λr=>_) _ _ s
  refine wpAny_bind (W.done s _ _ kZ λs' hm=>?_)
  exact wpAny_pure (hR s' (hm.mono MR) (ua.frame λo ho=>hm.heap S o ZR ho))
 | succ k ih=>
  intro i s hk hi kZ ua hR
  have cf:i<(l:):=by lia
  refine codeAny_builtin PyProof.Rows.F.entry_set_update_loop ?_
  rw[Around.under_plainId Qd8 _]
  show wpAny _ A.in1 (pyNext (.ref I) >>= λr=>_) _ _ s
  refine wpAny_bind (W.item i s _ _ cf kZ λv s' hp XE hm=>?_)
  obtain ⟨x,t,hx,rfl⟩:=hP i v hp
  have T4:rk prog w s'.heap S (l.take i):=ua.frame λo ho=>hm.heap S o ZR ho
  show wpAny _ A.in1 (holding [Value.str x t] (setAdd S (.str x t)) >>= λb=>_) _ _ s'
  refine wpAny_bind (wpAny_holding ?_)
  unfold setAdd
  refine wpAny_holding (wpAny_bind ((strKind prog w).pyHash (k:=x) (by simp[PySem.strKind,Value.isStrOf]) ?_))
  have hle:=AW (l.take i) ([]:List Str)
  rw[Qaa]at hle
  refine wpAny_setAddHashed_of (knd:=strKind prog w) (s:={ s' with toks:=s'.toks+1 }) (k:=x) (by simp[PySem.strKind,Value.isStrOf]) rfl T4 (by simp at hle;lia) λh' T5 T6=>?_
  have T7:rk prog w h' S (l.take (i+1)):=by
   have e1:l.take (i+1)=l.take i++[x]:=by rw[Qei,hx];rfl
   unfold rk
   rw[e1,Co]
   refine PyProof.Rows.SetOf_congr T6 (λy=>?_) ?_
   ·by_cases z:x∈dd [] (l.take i)
    ·rw[if_pos z]
     by_cases u:y=x
     ·rw[u,decide_eq_true z,Bool.true_or]
     ·rw[decide_eq_false u,Qfa]
    ·rw[if_neg z]
     by_cases u:y=x
     ·rw[u,decide_eq_true (show x=x from rfl),Bool.or_true,decide_eq_true (by simp)]
     ·rw[decide_eq_false u,Qfa]
      exact decide_eq_decide.mpr ⟨λq=>Qck _ q,λq=>(Qao.mp q).resolve_right λq=>u (ZI.mp q)⟩
   ·by_cases z:x∈dd [] (l.take i)
    ·rw[if_pos z,if_pos (decide_eq_true z)]
    ·rw[if_neg z,if_neg (by simpa using z),QD];rfl
  refine wpAny_pure ⟨plainId_quiet Qd8 _,ih (i+1) _ () cf (W.frame _ s' _ _ XE (Qc6 _) λb g o e=>?_) T7 λNZ XF XG=>?_⟩
  ·rw[T5.2 b λz:b=S=>hS (z▸g)];exact e
  ·refine hR NZ (Moved.trans W.gtrans ((hm.mono MR).then_heap (Qc6 _) λb o g e=>?_) XF) XG
   rw[T5.2 b λz:b=S=>g (z▸Qai)];exact e
theorem vn:∀{vs:List Value} {xs:List Str},StrsAre vs xs->∀(i:Nat) (v:Value),vs[i]? =some v->∃x t,xs[i]? =some x/\v= .str x t
 | _,_,.nil,i,v,h=>by simp at h
 | _,_,.cons y t r,0,v,h=>by simp at h;exact ⟨y,t,rfl,h.symm⟩
 | _,_,.cons y t r,i+1,v,h=>by
  obtain ⟨x,u,e1,e2⟩:=vn r i v (by simpa using h)
  exact ⟨x,u,by simpa using e1,e2⟩
noncomputable def wZ(led:Bool):Obj:={ cls:= .type "set",dict:=none,data:= .set #[] 0 (.fresh 0 0 led) }
theorem GU{R:Result->Shared->Prop}{l S:Addr}{items:Array Value}{xs:List Str}{led:Bool}(hh:A.handled=none)(hS:s.heap.get? S=some (wZ led))(hl:s.heap.IsList l items)(hi:StrsAre items.toList xs)(hb:(xs:)+1<scanBound)
  (h:∀(h':Heap) (tk:Nat),rk prog w h' S xs->(∀b o,b≠S->b<s.heap.objs.size->s.heap.get? b=some o->h'.get? b=some o)->R (.ok (.ret .none)) { s with heap:=h',toks:=tk }):
  wpAny (model prog w) A.in1 (Builtin.«set.__init__» ⟨[.ref S,.ref l],[]⟩) (λfin s'=>match fin with | .done f=>R (.ok f) s' | .again c'=>c'.quiet=true/\codeAny (model prog w) A c' R s') (λe s'=>R (.error e) s') s:=by
 obtain ⟨ol,AX,OM,nl,ZS⟩:=id hl
 have cf:=Qap AX
 have hSt:=Qap hS
 have hT:s.TypeIs (.ref l) "list":=⟨ol,AX,OM⟩
 have dE:l≠S:=λz=>by rw[z,hS]at AX;cases AX;exact absurd OM (by unfold wZ;simp)
 have z1:=PySem.F.sub_list_set
 have z2:=PySem.F.sub_list_frozenset
 have z3:(Value.type "list"==Value.type "dict")=false:=by decide
 obtain ⟨aah,ZT,ZU,XH⟩:=ol
 simp only at OM ZS
 subst OM ZS
 have aai:=AX
 unfold Builtin.«set.__init__» noKeywords Builtin.Frozenset.updateFrom
 generalize hPI:pyIter=PI
 unfold wZ at hS
 wp_walk
 subst hPI
 refine wpAny_pyIter_list hl ?_
 refine wpAny_bind (wpAny_runValue ?_)
 have hlen:items.size=(xs:):=by rw[<-Qa7];exact (hi:)
 have XI:l≠s.heap.objs.size:=Qaw cf
 have hSI:S∉[s.heap.objs.size,l]:=λhm=>by
  rcases Qam.mp hm with z | z
  ·exact absurd z (Qaw hSt)
  ·exact dE (ZI.mp z).symm
 have W:=(Walks.list (prog:=prog) (w:=w) (A:=A.in1.in1) (show A.in1.in1.handled=none from hh) s.heap.objs.size l XI items).toS
 rw[hlen]at W
 have hit:(s.heap.push { cls:= .type "list_iterator",data:= .fields #[.ref l,.int 0 0] }).get? s.heap.objs.size=some { cls:= .type "list_iterator",data:= .fields #[.ref l,.int 0 0] }:=Qaq _ rfl
 refine GS (A:=A.in1) (l:=xs) W hSI (λi v hv=>?_) hb ((xs:) - 0) 0 { s with heap:=s.heap.push { cls:= .type "list_iterator",data:= .fields #[.ref l,.int 0 0] } } rfl (Qar _) ⟨⟨_,hit,rfl,rfl⟩,hl.push _⟩ ?_ λs' hm ua=>?_
 ·exact vn hi i v (by rw[Qba];exact hv)
 ·have VN:=ZG { cls:= .type "list_iterator",data:= .fields #[.ref l,.int 0 0] } hS
  exact PyProof.Rows.SetOf_congr ((PyProof.Rows.setObjOf_fresh (knd:=PySem.strKind prog w) led).setOf VN (by unfold scanBound;lia)) (λk=>by rw[List.take_zero];rfl) rfl
 ·obtain ⟨h',g',d',tk',W6⟩:=s'
  obtain rfl:g'=s.gens:=hm.gens
  obtain rfl:d'=s.drawn:=hm.drawn
  obtain rfl:W6=s.os:=hm.os
  refine wpAny_pure (wpAny_pure (h h' tk' ua λb o hb XJ e=>?_))
  exact hm.heap b o (λXM=>by
   rcases Qam.mp XM with z | z
   ·exact hb z
   ·exact absurd (ZI.mp z) (Qaw XJ)) (ZG _ e)
theorem Ed{l:Addr}{items:Array Value}{xs:List Str}{Q:Value->Shared->Prop}(hh:A.handled=none)(hl:s.heap.IsList l items)(hi:StrsAre items.toList xs)(hb:(xs:)+1<scanBound)
  (h:∀(h':Heap) (tk:Nat),rk prog w h' s.heap.objs.size xs->(∀b o,s.heap.get? b=some o->h'.get? b=some o)->Q (.ref s.heap.objs.size) { s with heap:=h',toks:=tk }):
  wpAny (model prog w) A (call (.type "set") [.ref l]) Q E s:=by
 obtain ⟨c,tl,aaj⟩:=Qc2.mro
 have ZV:=Qc2.made
 have Xx:=Qc2.sub
 have g1:=Qc2.notType
 have g2:=Qc2.canCreate
 have g3:=PySem.F.typeCall_set_1 (.ref l)
 refine wpAny_call (codeAny_of_tree ?_)
 show wpAny _ _ (callAny (.type "set") ⟨[.ref l],[]⟩) _ _ _
 refine wpAny_pure ⟨Code.quiet_builtin _ ⋯,codeAny_builtin PySem.F.entry_type_call ?_⟩
 rw[Around.under_plain (weight_type_call_type "set" [.ref l] []) rfl]
 repeat (any_goals (first | wp_step | assumption))
 refine codeAny_mono (code_set_new_1 (.ref l) (E:=E) (Q₁:=λv s₁=>∃led:Bool,v= .ref s.heap.objs.size/\s₁={ s with heap:=s.heap.push (wZ led) }) λled=>⟨led,rfl,rfl⟩) λr s₁ hr=>?_
 cases r with
 | error e=>exact hr
 | ok fl=>
  cases fl with
  | next=>exact hr.elim
  | brk=>exact hr.elim
  | cont=>exact hr.elim
  | ret v=>
   obtain ⟨led,rfl,rfl⟩:=hr
   have hS:(s.heap.push (wZ led)).get? s.heap.objs.size=some (wZ led):=Qaq _ rfl
   have hT:Shared.TypeIs { s with heap:=s.heap.push (wZ led) } (.ref s.heap.objs.size) "set":=⟨_,hS,rfl⟩
   have g4:=Qc2.init.lookup
   have g5:=Qc2.init.bind (.ref s.heap.objs.size)
   repeat (any_goals (first | wp_step | assumption))
   refine codeAny_mono (codeAny_call_builtin (R:=wants (λv s₂=>v= .none/\∃h' tk,s₂={ s with heap:=h',toks:=tk }/\rk prog w h' s.heap.objs.size xs/\∀b o,s.heap.get? b=some o->h'.get? b=some o) E) Qc2.init.plain PySem.F.entry_set_init (check_set_init_1 hT ?_)) λr₂ s₂ T8=>?_
   ·refine GU (s:={ s with heap:=s.heap.push (wZ led) }) hh hS (hl.push _) hi hb λh' tk ua hk=>⟨rfl,h',tk,rfl,ua,λb o e=>?_⟩
    have cf:=Qap e
    exact hk b o (Qaw cf) (by show b<(s.heap.push (wZ led)).objs.size;rw[Qda];exact Qcr cf) (ZG _ e)
   ·cases r₂ with
    | error e=>exact T8
    | ok fl₂=>
     cases fl₂ with
     | next=>exact T8.elim
     | brk=>exact T8.elim
     | cont=>exact T8.elim
     | ret v=>
      obtain ⟨rfl,h',tk,rfl,k1,k2⟩:=T8
      repeat (any_goals (first | wp_step | assumption))
      exact h _ _ k1 k2
end
section
variable{X:Cx}
noncomputable def AY(q:Addr)(n:Nat):HO:= .ext λh=>∃(o:Obj) (es:Array (Int×Value)) (ep:Nat) (t:SetTable),h.get? q=some o/\o.ExactSet/\o.data= .set es ep t/\t.fits es.size=true/\es.size=n
def T9(K:c7):List V->Hp->VK->Prop:=λxs H Q=>∃(p:Addr) (l:List c0),xs=[.ref p]/\bB K H p (l.map λc=>V.str (S c))/\(l:)<=20/\∀q,H q=none->Q (.ref q) (upd H q (AY q (dd [] (l.map S):)))
theorem Ee(K:c7)(h:X.K=K)(hc:X.calm=true):di X (.type "set") (T9 K):=by
 subst h
 walk_at"d"
 obtain ⟨p,l,rfl,hq,hz,q⟩:=h
 obtain ⟨u,rfl,ru⟩:=vals1 r
 cases ru
 obtain ⟨aH,rv,pl,_⟩:=I.list hq
 refine Ed (I.ok.hd hc) pl.isList (by simpa using lY rv) (by rw[kb];unfold scanBound;lia) λh' tk ua hk=>?_
 refine ⟨.ref s.heap.objs.size,upd H s.heap.objs.size (AY _ _),I.laid (t':=tk) hk (ZH _) ?_,rfl,q _ I.fresh⟩
 obtain ⟨o,es,ep,t,ho,hex,hd,_,_,_,hf,hn⟩:=ua
 exact ⟨⟨o,es,ep,t,ho,hex,hd,hf,hn⟩,⟨_,ho⟩,λh1 h2 ⟨o,es,ep,t,ho,r⟩ k=>⟨o,es,ep,t,k o ho,r⟩⟩
theorem yT:di X (.builtin "len") (λxs H Q=>∃a n,xs=[V.ref a]/\H a=some (AY a n)/\n<=1000/\Q (.int n) H):=by
 walk_at"d"
 obtain ⟨a,n,rfl,ha,hz,q⟩:=h
 obtain ⟨u,rfl,ru⟩:=vals1 r
 cases ru
 obtain ⟨hv,_,_⟩:cg X.prog X.w H s.heap a (AY a n):=I.b8 a _ ha
 obtain ⟨o,es,ep,t,ho,hex,hd,hf,hn⟩:∃(o:Obj) (es:Array (Int×Value)) (ep:Nat) (t:SetTable),s.heap.get? a=some o/\o.ExactSet/\o.data= .set es ep t/\t.fits es.size=true/\es.size=n:=hv
 refine call_len_set ho hex hd hf () ?_
 rw[hn]
 exact ⟨.int n,H,I.tok _,⟨_,rfl⟩,q⟩
end
section
variable{X:Cx}{st:Stmt}{rest:List Stmt}{t u:TS}
def XN(t u:TS):TS:=λD σ H=>∃P:St->Hp->Prop,t { D with nx:=P } σ H/\∀σ' H',P σ' H'->u D σ' H'
theorem Cp(h1:PS X st t)(h2:yt X rest u):yt X (st::rest) (XN t u):=by
 walk_at"p"
 obtain ⟨P,h,g⟩:=h
 refine wpAny_execs_cons (cA (h1 pins s σ H _ I h) λf s1 q=>?_)
 cases f with
 | ret v=>exact q
 | brk=>exact q
 | cont=>exact q
 | next=>
  obtain ⟨τ,G,J,p⟩:=q
  exact h2 pins s1 τ G D J (g τ G p)
end
end L2
namespace L2
open PySem PySem.Spec PyProof.Rows PySem.MeetsSeq PySem.SeqAt
end L2
namespace XL
open PySem PySem.Spec PySem.Calls PyProof.Rows PySem.W Builtin Builtin.ObjectAttr
end XL
namespace XL
open PySem PySem.Spec PySem.Calls PyProof.Rows PySem.W
end XL
namespace L2
open PySem PySem.Spec PyProof.Rows XL
noncomputable def ZX(s:Stmt)(j:Nat):Stmt:=match s with
 | .ClassDef _ _ _ b _ _ _ _ _ _ _=>b.getD j (.Pass ⟨0,0,0,0⟩)
 | _=> .Pass ⟨0,0,0,0⟩
def T_(_ j:Int):Prop:=0<j/\j<18446744073709551616
theorem dq{X:Cx}:jv X (binaryOp .FloorDiv) (rI T_ λi j=> .int (i / j)):=VF λi j _ _ _ _ _ hc q=>by
 have h1:(0:Int)<j:=hc.1
 have h2:j<18446744073709551616:=hc.2
 have h3:j.natAbs<2 ^ 64:=by lia
 exact floordiv_int () (by rw[Int.fdiv_eq_ediv_of_nonneg i ()];exact q) (.inl (PyProof.noPylong_of_log2 (Qd4 ((Nat.log2_lt ()).mpr h3) ∅)))
end L2
namespace PySem
end PySem
namespace L2
open PySem PySem.Spec PyProof.Rows
end L2
namespace L2.F3
open PySem PySem.Spec PyProof.Rows
end L2.F3
namespace L2
open PySem PySem.Spec PyProof.Rows
section
variable{X:Cx}
noncomputable def dg(n:Nat):c0:=((toString (n:Int):String):Str).cps.toList
theorem XO(n:Nat):((toString (n:Int):String):Str)=S (dg n):=Tt _
theorem Ef{n:Nat}(h:n<2 ^ 60):((n:Int)).natAbs.log2<1920:=by
 rw[Int.natAbs_natCast]
 by_cases z:n=0
 ·subst z;decide
 ·exact (Nat.log2_lt z).mpr (Qbc h (Nat.pow_le_pow_right ∅ ∅))
theorem Eg:di X (.type "str") (λxs H Q=>∃n:Nat,xs=[.int n]/\n<2 ^ 60/\Q (.str (S (dg n))) H):=by
 walk_at"d"
 obtain ⟨n,rfl,hz,q⟩:=h
 refine wC pins s σ H _ us Q I r ⟨n,rfl,Ef hz,?_⟩
 rw[XO]
 exact q
end
theorem yV:typeLookup (.type "dict") "__len__"=pure (some (.builtin "dict.__len__")):=PySem.F.slot_dict_len.lookup
section
variable{prog:Program}{w:World}{A:Around}{E:Value->Shared->Prop}{s:Shared}{KK:Type}[DecidableEq KK]{knd:PySem.KeyKind prog w KK}
theorem w4{Q:List Value->Shared->Prop}(hh:A.handled=none)(d:Addr)(aN:List (KK×Value))(ep:Nat)(hd:(d==sysModules)=false)(hm:s.heap.DictAt knd d aN ep)(hn:(aN:)<=sizeLine)
  (hQ:∀s' acc,(∀b o,s.heap.get? b=some o->s'.heap.get? b=some o)->s'.gens=s.gens->s'.drawn=s.drawn->s'.os=s.os->ItemsOf (λi v=>∃k x,aN[i]? =some (k,x)/\knd.is k v=true) acc (aN:)->Q acc.toList s'):
  wpAny (model prog w) A (collect (.ref d)) Q E s:=by
 have hT:s.TypeIs (.ref d) "dict":=hm.dictOf.typeIs
 obtain ⟨od,Ua,aak⟩:=id hT
 have Ub:=Qap Ua
 unfold collect
 refine wpAny_bind (wpAny_runValue (codeAny_builtin PySem.F.entry_proto_collect ?_))
 rw[Around.under_plainId PySem.F.plain_proto_collect _]
 show wpAny _ A.in1 (newList [] >>= λl=>again (.builtin "list.__iadd__" ⟨[l,.ref d],[]⟩)) _ _ s
 refine wpAny_bind (wpAny_newObj_type ?_)
 refine wpAny_pure ⟨plainId_quiet PySem.F.plain_list_iadd _,codeAny_builtin PySem.F.entry_list_iadd ?_⟩
 rw[Around.under_plainId PySem.F.plain_list_iadd _]
 show wpAny _ A.in1 (Builtin.List.listExtendWith (.ref s.heap.objs.size) (.ref d) (.ref s.heap.objs.size)) _ _ _
 generalize hH:s.heap.push { cls:= .type "list",data:= .seq ([]:List Value).toArray }=H
 have XQ:H.objs.size=s.heap.objs.size+1:=by rw[<-hH,Qda]
 have GV:H.DictAt knd d aN ep:=hm.at' λo e=>by rw[<-hH];exact ZG _ e
 have hT1:Shared.TypeIs { s with heap:=H } (.ref d) "dict":=GV.dictOf.typeIs
 have XR:s.heap.objs.size≠d:=Qfk Ub
 unfold Builtin.List.listExtendWith
 refine wpAny_bind (wpAny_typeOf hT1 ?_)
 have h1:Builtin.List.listSameRef (.ref s.heap.objs.size) (.ref d)=false:=by simp[Builtin.List.listSameRef,XR]
 rw[if_neg (by rw[h1];decide)]
 refine wpAny_bind (wpAny_pyIter_dict (s:={ s with heap:=H }) hd GV ?_)
 show wpAny _ A.in1 _ _ _ { s with heap:=H.push { cls:= .type "dict_keyiterator",data:= .fields #[.ref d,.int 0 0,.int (aN:) 0,.int ep 0] } }
 generalize MI:H.push { cls:= .type "dict_keyiterator",data:= .fields #[.ref d,.int 0 0,.int (aN:) 0,.int ep 0] }=H2
 have yW:H2.DictAt knd d aN ep:=GV.at' λo e=>by rw[<-MI];exact ZG _ e
 have XS:Shared.TypeIs { s with heap:=H2 } (.ref d) "dict":=yW.dictOf.typeIs
 refine wpAny_bind (wpAny_holding ?_)
 unfold Builtin.List.listLengthHint
 refine wpAny_bind (wpAny_specialOf XS yV ?_)
 wp_delta
 refine wpAny_bind (wpAny_isInstance (T:="dict") (b:=true) XS (by rw[isSubtype_type];kernel_rfl) ?_)
 show wpAny _ A.in1 (typeOf (Value.ref d) >>= _) _ _ _
 refine wpAny_bind (wpAny_typeOf XS ?_)
 refine wpAny_pure ?_
 rw[if_pos ⋯]
 refine wpAny_bind (wpAny_rule ?_)
 refine wpAny_bind ?_
 unfold Builtin.List.listTouch
 have hS:H2.get? s.heap.objs.size=some { cls:= .type "list",data:= .seq ([]:List Value).toArray }:=by
  rw[<-MI];exact ZG _ (by rw[<-hH];exact Qaq _ rfl)
 refine wpAny_bind (wpAny_updateSeq hS rfl ?_ (Qar _) (Qde (Qar _)))
 have VN:=Qcv (Obj.mapSeq (λl:Array Value=>l.push .none)) hS rfl
 refine wpAny_updateSeq VN rfl ?_ (by show 1<=sizeLine;decide) (Qar _)
 have hS3:=Qcv (Obj.mapSeq (λl:Array Value=>l.pop)) VN rfl
 have XT:∀b o,b≠s.heap.objs.size->H2.get? b=some o->((H2.update s.heap.objs.size (Obj.mapSeq (λl:Array Value=>l.push .none))).update s.heap.objs.size (Obj.mapSeq (λl:Array Value=>l.pop))).get? b=some o:=λb o hb e=>
  (Qb1 _ _ (Ne.symm hb)).trans ((Qb1 _ _ (Ne.symm hb)).trans e)
 have hit:H2.get? H.objs.size=some { cls:= .type "dict_keyiterator",data:= .fields #[.ref d,.int 0 0,.int (aN:) 0,.int ep 0] }:=by rw[<-MI];exact Qaq _ rfl
 have ZY:H.objs.size≠s.heap.objs.size:=by rw[XQ];exact Qfb _
 have hdI:d≠H.objs.size:=by rw[XQ];exact Qaw (Qcr Ub)
 have hSf:s.heap.objs.size∉[H.objs.size,d]:=λhmm=>by
  rcases Qam.mp hmm with z | z
  ·exact ZY z.symm
  ·exact XR (ZI.mp z)
 refine wpAny_pure ⟨plainId_quiet PySem.F.plain_extend_loop _,codeAny_extend_loopS (Walks.dictKeys (knd:=knd) (A:=A.in1) hh H.objs.size d hdI aN ep).toS hn _ hSf _ (aN:) 0 _ _ _ rfl (Qar _)
  ⟨⟨_,XT _ _ ZY hit,rfl,rfl⟩,yW.at' λo e=>XT d o (Ne.symm XR) e⟩ hS3 (ItemsOf.nil _) λs' e_ c' VO hS' AF=>?_⟩
 show wpAny _ A (load s.heap.objs.size >>= _) _ _ s'
 refine wpAny_bind (wpAny_load hS' ?_)
 refine wpAny_pure (hQ s' e_ (λb ob e=>VO.heap b ob (λhb=>?_) (XT b ob (Qaw (Qap e)) (by rw[<-MI];exact ZG _ (by rw[<-hH];exact ZG _ e)))) VO.gens VO.drawn VO.os AF)
 have cf:=Qap e
 rcases Qam.mp hb with h | h
 ·exact absurd cf (h▸Qbw _)
 ·rw[ZI.mp h,XQ]at cf;exact absurd cf (Nat.not_lt.mpr (Qc6 _))
end
section
variable{X:Cx}
theorem Cq{aN:List (Key×V)}{vs:List (Key×Value)}(h:KV aN vs):vs.map (·.1)=aN.map (·.1):=by
 induction h with
 | nil=>rfl
 | cons r _ ih=>rw[Qa0,Qa0,ih,r.1]
end
end L2
namespace XL
open PySem PySem.Spec PySem.Calls PyProof.Rows PySem.W
end XL
namespace L2
open PySem PySem.Spec PyProof.Rows XL
end L2
namespace PySem
open Sem (wp)
namespace F
end F
end PySem
namespace L2
open PySem PySem.Spec PyProof.Rows
end L2
namespace L2.F2
open PySem PySem.Spec PyProof.Rows
end L2.F2
namespace L2
open PySem PySem.Spec PyProof.Rows
section
variable{X:Cx}
theorem GW{i:Nat}(h:(i:Int)<2 ^ 63):Builtin.List.listFitsIndex (i:Int)=true:=by
 unfold Builtin.List.listFitsIndex
 rw[Qbr]
 exact ⟨decide_eq_true (),decide_eq_true ()⟩
inductive vp(x:V)(vs:List V)(H:Hp)(Q:VK):Prop
 | mk (l:Addr) (xs:List V) (i:Nat) (y:V) (_:x= .ref l) (_:vs=[.int i,y]) (_:H l=some (.lst xs)) (_:i<=(xs:)) (_:(xs:)<sizeLine) (_:Q .eX (upd H l (.lst (xs.take i++y::xs.drop i)))):vp x vs H Q
def KU:V->List V->Hp->VK->Prop:=vp
theorem Eh:QC X "list.insert" KU:=by
 walk_at"t"
 obtain ⟨l,xs,i,y,rfl,rfl,hH,hi,hz,q⟩:=h
 cases rx
 obtain ⟨a,b,rfl,⟨t,rfl⟩,rb⟩:=vals2 rv
 walk_at"o"
 have hn:=gx
 have hf: ¬(!Builtin.List.listFitsIndex (i:Int))=true:=by rw[GW ()];decide
 have hsz:aH.toArray.size<=sizeLine:=by rw[Qag];lia
 generalize hI:(i:Int)=I' at hf
 have hm:=PySem.AutoSeq1.list_insert_list_int_val_1 l aH.toArray n I' t b hf hsz
 refine call_meets F.slot_list_insert ⟨_,e,rfl⟩ F.entry_list_insert (F.args_list_insert_3 _ _ _) hm ⟨e,?_⟩
 clear hm
 refine ⟨.eX,_,I.DW (its':=aH.take i++b::aH.drop i) hH e ?_ ?_ ?_,rfl,q⟩
 ·have e1:(if I'<0 then (I'+(aH.toArray.size:Int)).toNat else min I'.toNat aH.toArray.size)=i:=by rw[<-hI,if_neg (),Qab,Qag];lia
  show ((aH.toArray.extract 0 (if I'<0 then (I'+(aH.toArray.size:Int)).toNat else min I'.toNat aH.toArray.size)).push b++aH.toArray.extract (if I'<0 then (I'+(aH.toArray.size:Int)).toNat else min I'.toNat aH.toArray.size))=_
  rw[e1]
  apply Qfg.mp
  simp
  exact Qae (by rw[Qaz];exact ZH _)
 ·have h1:Vals (xs.take i) (aH.take i):=r.take i
  exact h1.append (.cons rb (r.drop i))
 ·rw[QD,Qa5,Qaa,Qaz];lia
end
end L2
namespace L2
open PySem PySem.Spec PyProof.Rows PySem.W
end L2
namespace L2
open PySem PySem.Spec PyProof.Rows PySem.MeetsSeq PySem.SeqAt
end L2
namespace L2
open PySem PySem.Spec PyProof.Rows HT
noncomputable def gal:Bool->Keyed->Array Keyed->Nat->Nat->Nat->StateT SortSt Sem (Option Nat):=sortPriv%PySem.Builtin.gallop
noncomputable def mLo:Array Keyed->Array Keyed->StateT SortSt Sem (Array Keyed):=sortPriv%PySem.Builtin.mergeLo
noncomputable def mHi:Array Keyed->Array Keyed->StateT SortSt Sem (Array Keyed):=sortPriv%PySem.Builtin.mergeHi
section
variable{prog:Program}{w:World}{A:Around}{E:Value->Shared->Prop}{s:Shared}{κ:KeyKind}{a₀:Array Keyed}
theorem b_{st:SortSt}{arr:Array Keyed}{i:Nat}{Q:Keyed->SortSt->Prop}(hi:i<arr.size)(h:∀p,p∈arr.toList->arr[i]? =some p->Q p st):wpS (model prog w) A E s (elem' arr i) Q st:=by
 have e:arr[i]? =some arr[i]:=getElem?_pos arr i hi
 rw[elem'_eq,e]
 exact wpS_pure (h _ (by simp) e)
end
theorem aF{M:Model}{A:Around}{E:Value->Shared->Prop}{s:Shared}{σ α:Type}{c:Prop}[Decidable c]{m1 m2:StateT σ Sem α}{Q:α->σ->Prop}{st:σ}(h1:c->wpS M A E s m1 Q st)(h2: ¬c->wpS M A E s m2 Q st):wpS M A E s (if c then m1 else m2) Q st:=by
 by_cases g:c
 ·rw[if_pos g];exact h1 g
 ·rw[if_neg g];exact h2 g
noncomputable def sg(st:SortSt)(g:Nat):SortSt:=SortSt.mk' (kindOf st) (arrOf st) (pendingOf st) g (failedOf st)
def rm(st aR:SortSt):Prop:=∃g,aR=sg st g
theorem rm.refl(st:SortSt):rm st st:=⟨gallopOf st,rfl⟩
theorem rm.set{st aR:SortSt}(h:rm st aR)(g:Nat):rm st (sg aR g):=by
 obtain ⟨g0,rfl⟩:=h
 exact ⟨g,rfl⟩
def Mg(a b out:Array Keyed)(ia ib:Nat):Prop:=out.toList.Perm (a.toList.take ia++b.toList.take ib)
theorem fA{α:Type}{l:List α}{i:Nat}{p:α}(h:l[i]? =some p):l.take (i+1)=l.take i++[p]:=by
 have:=Og.mp h
 rw[Qeh this.1,this.2]
theorem gc{α:Type}{l:List α}{i:Nat}{p:α}(h:l[i]? =some p):l.drop i=p::l.drop (i+1):=by
 have:=Og.mp h
 rw[Qbq this.1,this.2]
theorem rz{α:Type}(l:List α)(i j:Nat)(h:i<=j):l.take j=l.take i++(l.drop i).take (j - i):=by
 have:j=i+(j - i):=by lia
 conv=>lhs;rw[this,List.take_add]
theorem rA{α:Type}(l:List α)(i j:Nat)(h:i<=j):l.drop i=(l.drop i).take (j - i)++l.drop j:=by
 conv=>lhs;rw[<-Qal (j - i) (l.drop i),List.drop_drop,show i+(j - i)=j by lia]
theorem aQ{α:Type}(a:Array α)(i j:Nat):(a.extract i j).toList=(a.toList.drop i).take (j - i):=by simp[List.extract]
theorem Mg.AZ{a b out:Array Keyed}{ia ib:Nat}(h:Mg a b out ia ib):(out++a.extract ia++b.extract ib).toList.Perm (a.toList++b.toList):=by
 rw[Qau,Qau,aQ,aQ,Qae (by simp),Qae (by simp)]
 refine ((h.append_right _).append_right _).trans ?_
 conv=>rhs;rw[<-Qal ia a.toList, <-Qal ib b.toList]
 rw[VI,VI,VI]
 refine Qb8 _ ?_
 rw[<-VI, <-VI]
 exact Qfm _ Qce
theorem Mg.ON{a b out:Array Keyed}{ia ib:Nat}(h:Mg a b out ia ib):(out++b.extract ib++a.extract ia).toList.Perm (a.toList++b.toList):=by
 refine List.Perm.trans ?_ h.AZ
 simp only[Qau,VI]
 exact Qb8 _ Qce
theorem Mg.lC{a b out:Array Keyed}{ia ib:Nat}{p:Keyed}(h:Mg a b out ia ib)(hp:b[ib]? =some p):Mg a b (out.push p) ia (ib+1):=by
 unfold Mg
 rw[Qb7,fA (l:=b.toList) (by simpa using hp), <-VI]
 exact h.append_right _
theorem Mg.lD{a b out:Array Keyed}{ia ib:Nat}{p:Keyed}(h:Mg a b out ia ib)(hp:a[ia]? =some p):Mg a b (out.push p) (ia+1) ib:=by
 unfold Mg
 rw[Qb7,fA (l:=a.toList) (by simpa using hp),VI]
 refine (h.append_right _).trans ?_
 rw[VI]
 exact Qb8 _ Qce
theorem Mg.ub{a b out:Array Keyed}{ia ib k:Nat}(h:Mg a b out ia ib):Mg a b (out++b.extract ib (ib+k)) ia (ib+k):=by
 unfold Mg
 rw[Qau,aQ,rz b.toList ib (ib+k) (), <-VI]
 exact h.append_right _
theorem Mg.uc{a b out:Array Keyed}{ia ib k:Nat}(h:Mg a b out ia ib):Mg a b (out++a.extract ia (ia+k)) (ia+k) ib:=by
 unfold Mg
 rw[Qau,aQ,rz a.toList ia (ia+k) (),VI]
 refine (h.append_right _).trans ?_
 rw[VI]
 exact Qb8 _ Qce
def Mh(a b out:Array Keyed)(na nb:Nat):Prop:=out.toList.Perm (a.toList.drop na++b.toList.drop nb)
theorem Mh.AZ{a b out:Array Keyed}{na nb:Nat}(h:Mh a b out na nb):(a.extract 0 na++b.extract 0 nb++out.reverse).toList.Perm (a.toList++b.toList):=by
 rw[Qau,Qau,aQ,aQ,Qcl,Qcl,Qdk,Qdk,Qcz]
 refine (Qb8 _ ((Qe3 _).trans h)).trans ?_
 conv=>rhs;rw[<-Qal na a.toList, <-Qal nb b.toList]
 rw[VI,VI]
 refine Qb8 _ ?_
 rw[<-VI, <-VI]
 exact Qfm _ Qce
theorem Mh.ON{a b out:Array Keyed}{na nb:Nat}(h:Mh a b out na nb):(b.extract 0 nb++a.extract 0 na++out.reverse).toList.Perm (a.toList++b.toList):=by
 refine List.Perm.trans ?_ h.AZ
 simp only[Qau]
 exact Qfm _ Qce
theorem Mh.lD{a b out:Array Keyed}{na nb:Nat}{p:Keyed}(h:Mh a b out na nb)(h1:1<=na)(hp:a[na - 1]? =some p):Mh a b (out.push p) (na - 1) nb:=by
 unfold Mh
 rw[Qb7,gc (l:=a.toList) (i:=na - 1) (by simpa using hp),show na - 1+1=na by lia,Qfe]
 exact (h.append_right _).trans (Qex _ _)
theorem Mh.lC{a b out:Array Keyed}{na nb:Nat}{p:Keyed}(h:Mh a b out na nb)(h1:1<=nb)(hp:b[nb - 1]? =some p):Mh a b (out.push p) na (nb - 1):=by
 unfold Mh
 rw[Qb7,gc (l:=b.toList) (i:=nb - 1) (by simpa using hp),show nb - 1+1=nb by lia]
 exact ((h.append_right _).trans (Qex _ _)).trans List.perm_middle.symm
theorem Mh.uc{a b out:Array Keyed}{na nb k:Nat}(h:Mh a b out na nb)(hk:k<=na):Mh a b (out++(a.extract k na).reverse) k nb:=by
 unfold Mh
 have e:a.toList.drop k++b.toList.drop nb=(a.toList.drop k).take (na - k)++(a.toList.drop na++b.toList.drop nb):=by rw[<-VI, <-rA a.toList k na hk]
 rw[Qau,Qcz,aQ,e]
 exact (h.append (Qe3 _)).trans Qce
theorem Mh.ub{a b out:Array Keyed}{na nb k:Nat}(h:Mh a b out na nb)(hk:k<=nb):Mh a b (out++(b.extract k nb).reverse) na k:=by
 unfold Mh
 have e:b.toList.drop k=(b.toList.drop k).take (nb - k)++b.toList.drop nb:=rA b.toList k nb hk
 rw[Qau,Qcz,aQ]
 refine (h.append (Qe3 _)).trans ?_
 conv=>rhs;rw[e]
 rw[VI]
 exact Qb8 _ Qce
theorem Ei{ia k n:Nat}(h:k<=n - ia)(h1:ia+1<n)(z1: ¬ia+k+1=n)(z2: ¬ia+k=n):ia+k+1<n:=()
theorem Ej{ib k n:Nat}(h:k<=n - (ib+1))(h1:ib<n)(z: ¬ib+1+k=n):ib+1+k<n:=()
theorem MS{i x y z:Nat}(h:i+2<=x+y)(g:y<=z):i+2<=x+1+z:=()
theorem Cr{x n:Nat}(h1:1<=x)(h2:x<=n):x - 1<n:=()
theorem Cs{x n:Nat}(h2:x<=n):x - 1<=n:=()
theorem OO{x:Nat}(h: ¬x=0):1<=x:=()
theorem GX{i x y z n:Nat}(h:x+y+i+2<=n)(g:z<=y):x - 1+z+i+2<=n:=()
theorem rB{α:Type}(sa:Nat):∀(l:List α) (n:Nat) (arr:Array α),sa+n+(l:)<=arr.size->
  ((l.zipIdx n).foldl (λa x=>match x with | (p,j)=>a.setIfInBounds (sa+j) p) arr).toList=arr.toList.take (sa+n)++l++arr.toList.drop (sa+n+(l:))
 | [],n,arr,h=>by simp
 | p::l,n,arr,h=>by
  rw[List.zipIdx_cons,Qdi]
  have h':sa+n+((l:)+1)<=arr.size:=h
  have ih:=rB sa l (n+1) (arr.setIfInBounds (sa+n) p) (by rw[Array.size_setIfInBounds];lia)
  have e0:sa+(n+1)=sa+n+1:=by lia
  rw[e0]at ih
  refine Eq.trans ih ?_
  have cf:sa+n<(arr.toList:):=by rw[Qa7];lia
  rw[Array.toList_setIfInBounds,List.take_set,List.drop_set_of_lt (),Qa5,show sa+n+1+(l:)=sa+n+((l:)+1) by lia]
  have e1:(arr.toList.take (sa+n+1)).set (sa+n) p=arr.toList.take (sa+n)++[p]:=by
   rw[Qeh cf,List.set_append_right _ _ (by rw[Qaa];lia),Qaa,Qbo (),Qdl]
   rfl
  rw[e1]
  simp
section
variable{prog:Program}{w:World}{A:Around}{E:Value->Shared->Prop}{s:Shared}{κ:KeyKind}{a₀:Array Keyed}
theorem KW{M:Model}{σ:Type}{Q:PUnit->σ->Prop}{st aR:σ}(h:Q ⟨⟩ aR):wpS M A E s (set aR:StateT σ Sem PUnit) Q st:=by
 unfold wpS;rw[StateT.run_set];exact wpAny_pure ⟨rfl,h⟩
theorem Ek{arr:Array Keyed}{merged:Array Keyed}{x y z:Nat}(h1:x<=y)(h2:y<=z)(h3:z<=arr.size)(hp:merged.toList.Perm ((arr.extract x y).toList++(arr.extract y z).toList)):
  (merged.toList.zipIdx.foldl (λa q=>match q with | (p,j)=>a.setIfInBounds (x+j) p) arr).Perm arr:=by
 rw[aQ,aQ]at hp
 have e:(arr.toList.drop x).take (y - x)++(arr.toList.drop y).take (z - y)=(arr.toList.drop x).take (z - x):=by
  have:=rz (arr.toList.drop x) (y - x) (z - x) ()
  rw[List.drop_drop,show x+(y - x)=y by lia,show z - x - (y - x)=z - y by lia]at this
  exact this.symm
 rw[e]at hp
 have hl:(merged.toList:)=z - x:=by rw[hp.length_eq,Qaa,Qaz,Qa7];lia
 rw[Qb3]
 have:=rB x merged.toList 0 arr ()
 rw[Qdd,hl,show x+(z - x)=z by lia]at this
 refine List.Perm.trans (List.Perm.of_eq this) ?_
 refine ((Qb8 _ hp).append_right _).trans ?_
 rw[VI, <-rA arr.toList x z (),Qal]
end
theorem GY(c:Prop)[Decidable c]{n:Nat}(h: ¬n<=1):(if c then n - 2 - 1 else n - 2)+1<n:=by split<;>lia
noncomputable def cp(P:Array (Nat×Nat×Nat)):List (Nat×Nat):=P.toList.map λx=>(x.1,x.2.1)
theorem OP{α:Type}{l:List α}{i:Nat}{x y:α}(h1:l[i]? =some x)(h2:l[i+1]? =some y):l=l.take i++x::y::l.drop (i+2):=by
 conv=>lhs;rw[<-Qal i l,gc h1,gc h2]
theorem KY{α:Type}{l:List α}{i:Nat}{x y v:α}(h1:l[i]? =some x)(h2:l[i+1]? =some y):(l.set i v).eraseIdx (i+1)=l.take i++v::l.drop (i+2):=by
 have hi:=(Og.mp h1).1
 rw[List.eraseIdx_eq_take_drop_succ,List.drop_set_of_lt (),List.take_set,Qeh hi,List.set_append_right _ _ (by rw[Qaa];lia),Qaa,Qbo (),Qdl]
 simp
structure g_(lt:Keyed->Keyed->Bool):Prop where
 md:∀p q,lt p q=true->lt q p=false
 tr:∀p q r,lt q p=false->lt r q=false->lt r p=false
def lE(prog:Program)(w:World)(A:Around)(E:Value->Shared->Prop)(s:Shared)(kd:SortKind)(lt:Keyed->Keyed->Bool)(a₀:Array Keyed):Prop:=
 ∀(st:SortSt) (p q:Keyed) (Q:Option Bool->SortSt->Prop),kindOf st=kd->p∈a₀.toList->q∈a₀.toList->Q (some (lt p q)) st->wpS (model prog w) A E s (lt' p q) Q st
noncomputable def XU(lt:Keyed->Keyed->Bool)(left:Bool)(key x:Keyed):Bool:=if left=true then lt x key else !lt key x
noncomputable def bY(lt:Keyed->Keyed->Bool)(left:Bool)(key:Keyed)(arr:Array Keyed)(base i:Nat):Bool:=match arr[base+i]? with
 | some p=>XU lt left key p
 | none=>false
theorem w5{lt:Keyed->Keyed->Bool}{left:Bool}{key p:Keyed}{arr:Array Keyed}{base i:Nat}(h:arr[base+i]? =some p):bY lt left key arr base i=XU lt left key p:=by unfold bY;rw[h]
section
variable{prog:Program}{w:World}{A:Around}{E:Value->Shared->Prop}{s:Shared}{kd:SortKind}{lt:Keyed->Keyed->Bool}{a₀:Array Keyed}
theorem n_{st:SortSt}{left:Bool}{key:Keyed}{arr:Array Keyed}{base n hint:Nat}{Q:Option Nat->SortSt->Prop}(C:lE prog w A E s kd lt a₀)(hk:kindOf st=kd)(Ki:key∈a₀.toList)(Uc:∀p∈arr.toList,p∈a₀.toList)(hn:base+n<=arr.size)(hh:hint<n)
  (mono:∀i j,i<=j->j<n->bY lt left key arr base j=true->bY lt left key arr base i=true)
  (h:∀k,k<=n->(∀i,i<k->bY lt left key arr base i=true)->(∀i,k<=i->i<n->bY lt left key arr base i=false)->Q (some k) st):wpS (model prog w) A E s (gal left key arr base n hint) Q st:=by
 have ask:∀(i:Nat) (R:Option Bool->SortSt->Prop),i<n->R (some (bY lt left key arr base i)) st->wpS (model prog w) A E s (elem' arr (base+i) >>= λx=>if left=true then lt' x key else lt' key x >>= λb=>pure (b.map λx=>!x)) R st:=by
  intro i R hi hR
  refine wpS_bind (b_ () λp hp ep=>?_)
  rw[w5 ep]at hR
  unfold XU at hR
  cases left with
  | true=>rw[if_pos rfl]at hR ⊢; exact C _ _ _ _ hk (Uc p hp) Ki hR
  | false=>rw[if_neg ∅]at hR ⊢; exact wpS_bind (C _ _ _ _ hk Ki (Uc p hp) (wpS_pure hR))
 have up:∀i,i<n->bY lt left key arr base i=true->∀j,j<=i->bY lt left key arr base j=true:=λi hi e j hj=>mono j i hj hi e
 have dn:∀i,bY lt left key arr base i=false->∀j,i<=j->j<n->bY lt left key arr base j=false:=λi e j Ai hj=>by
  cases z:bY lt left key arr base j with
  | false=>rfl
  | true=>rw[mono i j Ai hj z]at e;cases e
 refine wpS_bind (ask hint _ hh ?_)
 cases eb:bY lt left key arr base hint with
 | true=>
  refine wpS_bind (wpS_mono (wpS_forRange (I:=λx c aR=>aR=st/\∃l o,c=(none,l,o)/\x+1<=o/\l<n - hint/\bY lt left key arr base (hint+l)=true) (Q:=λc aR=>aR=st/\∃l o,c=(none,l,o)/\l<n - hint/\bY lt left key arr base (hint+l)=true/\(n - hint<=o\/bY lt left key arr base (hint+o)=false)) ?_ ?_ ⟨rfl,0,1,rfl,(),(),by simpa using eb⟩) ?_)
  ·rintro x c aR _ hx ⟨rfl,l,o,rfl,h1,h2,h3⟩
   refine aF (λg=>wpS_pure ⟨rfl,l,o,rfl,h2,h3,.inl g⟩) (λg=>?_)
   have g': ¬o ≥ n - hint:=g
   refine wpS_bind (ask _ _ (show hint+o<n by lia) ?_)
   cases e2:bY lt left key arr base (hint+o) with
   | true=>exact wpS_pure ⟨rfl,o,2*o+1,rfl,(),(),e2⟩
   | false=>exact wpS_pure ⟨rfl,l,o,rfl,h2,h3,.inr e2⟩
  ·rintro c aR ⟨e,l,o,rfl,h1,h2,h3⟩
   exact ⟨e,l,o,rfl,h2,h3,.inl ()⟩
  ·rintro c dQ ⟨rfl,l,o,rfl,h2,h3,h4⟩
   dsimp only
   have a1:∀i,i<hint+l+1->bY lt left key arr base i=true:=λi hi=>up _ () h3 i ()
   have a2:∀i,hint+min o (n - hint)<=i->i<n->bY lt left key arr base i=false:=λi hi ud=>by
    rcases h4 with g | g
    ·lia
    ·exact dn _ g i () ud
   have a3:hint+min o (n - hint)<=n:=by lia
   have a4:hint+l+1<=hint+min o (n - hint):=by
    rcases h4 with g | g
    ·lia
    ·by_cases z:hint+l+1<=hint+min o (n - hint)
     ·exact z
     ·have:bY lt left key arr base (hint+o)=true:=a1 _ ()
      rw[g]at this;cases this
   refine wpS_bind (wpS_mono (wpS_forRange (I:=λx c aR=>aR=dQ/\∃l r,c=(none,l,r)/\l<=r/\r<=n/\r - l+x<=n/\(∀i,i<l->bY lt left key arr base i=true)/\(∀i,r<=i->i<n->bY lt left key arr base i=false)) (Q:=λc aR=>aR=dQ/\∃l r,c=(none,l,r)/\l=r/\r<=n/\(∀i,i<l->bY lt left key arr base i=true)/\(∀i,r<=i->i<n->bY lt left key arr base i=false)) ?_ ?_ ⟨rfl,_,_,rfl,a4,a3,(),a1,a2⟩) ?_)
   ·rintro x c aR _ hx ⟨rfl,l,r,rfl,b1,b2,b3,b4,b5⟩
    refine aF (λg=>wpS_pure ⟨rfl,l,r,rfl,Qds b1 g,b2,b4,b5⟩) (λg=>?_)
    have g': ¬l ≥ r:=g
    refine wpS_bind (ask _ _ (show l+(r - l) / 2<n by lia) ?_)
    cases e2:bY lt left key arr base (l+(r - l) / 2) with
    | true=>exact wpS_pure ⟨rfl,l+(r - l) / 2+1,r,rfl,(),b2,(),λi hi=>up _ () e2 i (),b5⟩
    | false=>exact wpS_pure ⟨rfl,l,l+(r - l) / 2,rfl,(),(),(),b4,dn _ e2⟩
   ·rintro c aR ⟨e,l,r,rfl,b1,b2,b3,b4,b5⟩
    exact ⟨e,l,r,rfl,(),b2,b4,b5⟩
   ·rintro c aR ⟨rfl,l,r,rfl,rfl,b2,b4,b5⟩
    exact wpS_pure (h l b2 b4 b5)
 | false=>
  refine wpS_bind (wpS_mono (wpS_forRange (I:=λx c aR=>aR=st/\∃l o,c=(none,l,o)/\x+1<=o/\l<=hint/\bY lt left key arr base (hint - l)=false) (Q:=λc aR=>aR=st/\∃l o,c=(none,l,o)/\l<=hint/\bY lt left key arr base (hint - l)=false/\(hint+1<=o\/(o<=hint/\bY lt left key arr base (hint - o)=true))) ?_ ?_ ⟨rfl,0,1,rfl,(),(),by simpa using eb⟩) ?_)
  ·rintro x c aR _ hx ⟨rfl,l,o,rfl,h1,h2,h3⟩
   refine aF (λg=>wpS_pure ⟨rfl,l,o,rfl,h2,h3,.inl g⟩) (λg=>?_)
   have g': ¬o ≥ hint+1:=g
   refine wpS_bind (ask _ _ (show hint - o<n by lia) ?_)
   cases e2:bY lt left key arr base (hint - o) with
   | true=>exact wpS_pure ⟨rfl,l,o,rfl,h2,h3,.inr ⟨(),e2⟩⟩
   | false=>exact wpS_pure ⟨rfl,o,2*o+1,rfl,(),(),e2⟩
  ·rintro c aR ⟨e,l,o,rfl,h1,h2,h3⟩
   exact ⟨e,l,o,rfl,h2,h3,.inl ()⟩
  ·rintro c dQ ⟨rfl,l,o,rfl,h2,h3,h4⟩
   dsimp only
   have a1:∀i,i<hint+1 - min o (hint+1)->bY lt left key arr base i=true:=λi hi=>by
    rcases h4 with g | ⟨g1,g2⟩
    ·lia
    ·exact up _ () g2 i ()
   have a2:∀i,hint - l<=i->i<n->bY lt left key arr base i=false:=λi hi ud=>dn _ h3 i hi ud
   have a4:hint+1 - min o (hint+1)<=hint - l:=by
    by_cases z:hint+1 - min o (hint+1)<=hint - l
    ·exact z
    ·have:bY lt left key arr base (hint - l)=true:=a1 _ ()
     rw[h3]at this;cases this
   refine wpS_bind (wpS_mono (wpS_forRange (I:=λx c aR=>aR=dQ/\∃l r,c=(none,l,r)/\l<=r/\r<=n/\r - l+x<=n/\(∀i,i<l->bY lt left key arr base i=true)/\(∀i,r<=i->i<n->bY lt left key arr base i=false)) (Q:=λc aR=>aR=dQ/\∃l r,c=(none,l,r)/\l=r/\r<=n/\(∀i,i<l->bY lt left key arr base i=true)/\(∀i,r<=i->i<n->bY lt left key arr base i=false)) ?_ ?_ ⟨rfl,_,_,rfl,a4,(),(),a1,a2⟩) ?_)
   ·rintro x c aR _ hx ⟨rfl,l,r,rfl,b1,b2,b3,b4,b5⟩
    refine aF (λg=>wpS_pure ⟨rfl,l,r,rfl,Qds b1 g,b2,b4,b5⟩) (λg=>?_)
    have g': ¬l ≥ r:=g
    refine wpS_bind (ask _ _ (show l+(r - l) / 2<n by lia) ?_)
    cases e2:bY lt left key arr base (l+(r - l) / 2) with
    | true=>exact wpS_pure ⟨rfl,l+(r - l) / 2+1,r,rfl,(),b2,(),λi hi=>up _ () e2 i (),b5⟩
    | false=>exact wpS_pure ⟨rfl,l,l+(r - l) / 2,rfl,(),(),(),b4,dn _ e2⟩
   ·rintro c aR ⟨e,l,r,rfl,b1,b2,b3,b4,b5⟩
    exact ⟨e,l,r,rfl,(),b2,b4,b5⟩
   ·rintro c aR ⟨rfl,l,r,rfl,rfl,b2,b4,b5⟩
    exact wpS_pure (h l b2 b4 b5)
end
section
variable{lt:Keyed->Keyed->Bool}
def cZ(lt:Keyed->Keyed->Bool)(l:List Keyed):Prop:=l.Pairwise λp q=>lt q p=false
theorem gv{x c y:List Keyed}(h1:cZ lt (x++y))(h2:cZ lt (x++c))(h3:∀e∈c,∀f∈y,lt f e=false):cZ lt (x++c++y):=by
 unfold cZ at*
 rw[Qa6]at h1 h2 ⊢
 refine ⟨Qa6.mpr h2,h1.2.1,λe he f hf=>?_⟩
 rcases Qao.mp he with z | z
 ·exact h1.2.2 e z f hf
 ·exact h3 e z f hf
theorem ir{x y:List Keyed}(h:cZ lt (x++y)):cZ lt x:=(Qa6.mp h).1
theorem gw{x y:List Keyed}(h:cZ lt (x++y)):cZ lt y:=(Qa6.mp h).2.1
theorem iu(L:g_ lt){l:List Keyed}{i:Nat}{p q:Keyed}(h:cZ lt l)(hp:l[i]? =some p)(hq:lt p q=false):∀x∈l.drop i,lt x q=false:=λx hx=>by
 rw[gc hp]at hx
 rcases Qam.mp hx with z | z
 ·rw[z];exact hq
 ·have h2:cZ lt (l.take i++p::l.drop (i+1)):=by rw[<-gc hp,Qal];exact h
  exact L.tr q p x hq (Qe0 (gw h2) z)
theorem A0{l:List Keyed}{i j:Nat}{p q:Keyed}(h:cZ lt l)(Ai:i<j)(hp:l[i]? =some p)(hq:l[j]? =some q):lt q p=false:=by
 have h1:=Og.mp hp
 have h2:=Og.mp hq
 have:=(Qcq.mp h) i j h1.1 h2.1 Ai
 rwa [h1.2,h2.2]at this
theorem JR(L:g_ lt)(p:Keyed):lt p p=false:=by
 cases e:lt p p with
 | false=>rfl
 | true=>have:=L.md p p e;rw[e]at this;cases this
theorem A1(L:g_ lt){l:List Keyed}{i j:Nat}{p q:Keyed}(h:cZ lt l)(Ai:i<=j)(hp:l[i]? =some p)(hq:l[j]? =some q):lt q p=false:=by
 rcases Nat.lt_or_eq_of_le Ai with z | z
 ·exact A0 h z hp hq
 ·subst z;rw[hp]at hq;cases hq;exact JR L p
structure mD(lt:Keyed->Keyed->Bool)(a b out:Array Keyed)(ia ib:Nat):Prop where
 m:Mg a b out ia ib
 sa:cZ lt (out.toList++a.toList.drop ia)
 sb:cZ lt (out.toList++b.toList.drop ib)
variable{a b out:Array Keyed}{ia ib k:Nat}{p q:Keyed}
theorem mD.lC(h:mD lt a b out ia ib)(hp:b[ib]? =some q)(hq:∀x∈a.toList.drop ia,lt x q=false):mD lt a b (out.push q) ia (ib+1):=by
 have hd:b.toList.drop ib=q::b.toList.drop (ib+1):=gc (by simpa using hp)
 have h2:cZ lt (out.toList++[q]++b.toList.drop (ib+1)):=by
  have:=h.sb;rw[hd]at this;simpa using this
 refine ⟨h.m.lC hp,?_,?_⟩
 ·rw[Qb7];exact gv h.sa (ir h2) λe he f hf=>by rw[ZI.mp he];exact hq f hf
 ·rw[Qb7];exact h2
theorem mD.lD(h:mD lt a b out ia ib)(hp:a[ia]? =some q)(hq:∀x∈b.toList.drop ib,lt x q=false):mD lt a b (out.push q) (ia+1) ib:=by
 have hd:a.toList.drop ia=q::a.toList.drop (ia+1):=gc (by simpa using hp)
 have h2:cZ lt (out.toList++[q]++a.toList.drop (ia+1)):=by
  have:=h.sa;rw[hd]at this;simpa using this
 refine ⟨h.m.lD hp,?_,?_⟩
 ·rw[Qb7];exact h2
 ·rw[Qb7];exact gv h.sb (ir h2) λe he f hf=>by rw[ZI.mp he];exact hq f hf
theorem mD.uc(h:mD lt a b out ia ib)(hq:∀e∈(a.toList.drop ia).take k,∀x∈b.toList.drop ib,lt x e=false):mD lt a b (out++a.extract ia (ia+k)) (ia+k) ib:=by
 have hd:=rA a.toList ia (ia+k) ()
 rw[Qbl]at hd
 have h2:cZ lt (out.toList++(a.toList.drop ia).take k++a.toList.drop (ia+k)):=by
  have:=h.sa;rw[hd]at this;rw[VI];exact this
 refine ⟨h.m.uc,?_,?_⟩
 ·rw[Qau,aQ,Qbl];exact h2
 ·rw[Qau,aQ,Qbl];exact gv h.sb (ir h2) hq
theorem mD.ub(h:mD lt a b out ia ib)(hq:∀e∈(b.toList.drop ib).take k,∀x∈a.toList.drop ia,lt x e=false):mD lt a b (out++b.extract ib (ib+k)) ia (ib+k):=by
 have hd:=rA b.toList ib (ib+k) ()
 rw[Qbl]at hd
 have h2:cZ lt (out.toList++(b.toList.drop ib).take k++b.toList.drop (ib+k)):=by
  have:=h.sb;rw[hd]at this;rw[VI];exact this
 refine ⟨h.m.ub,?_,?_⟩
 ·rw[Qau,aQ,Qbl];exact gv h.sa (ir h2) hq
 ·rw[Qau,aQ,Qbl];exact h2
def iV(lt:Keyed->Keyed->Bool)(a b out:Array Keyed):Prop:=out.toList.Perm (a.toList++b.toList)/\cZ lt out.toList
theorem mD.El(h:mD lt a b out ia ib)(e:ib=b.size):iV lt a b (out++a.extract ia++b.extract ib):=by
 refine ⟨h.m.AZ,?_⟩
 rw[Qau,Qau,aQ,aQ,Qae (by simp),Qae (by simp),Qbn (l:=b.toList) (by simp[e]),Qa1]
 exact h.sa
theorem mD.Em(h:mD lt a b out ia ib)(e:ia=a.size):iV lt a b (out++a.extract ia++b.extract ib):=by
 refine ⟨h.m.AZ,?_⟩
 rw[Qau,Qau,aQ,aQ,Qae (by simp),Qae (by simp),Qbn (l:=a.toList) (by simp[e]),Qa1]
 exact h.sb
theorem mD.XW(h:mD lt a b out ia ib)(hl:∀e∈b.toList,∀x∈a.toList.drop ia,lt x e=false):iV lt a b (out++b.extract ib++a.extract ia):=by
 refine ⟨h.m.ON,?_⟩
 rw[Qau,Qau,aQ,aQ,Qae (by simp),Qae (by simp)]
 exact gv h.sa h.sb λe he f hf=>hl e (Qcy he) f hf
theorem GZ{l:List Keyed}{i:Nat}{y:Keyed}(hi:i+1=(l:))(hy:l[(l:) - 1]? =some y):l.drop i=[y]:=by
 have e:(l:) - 1=i:=by lia
 rw[e]at hy
 rw[gc hy,Qbn ()]
theorem fD{l:List Keyed}{i k:Nat}{e:Keyed}(h:e∈(l.drop i).take k):∃j,j<k/\l[i+j]? =some e:=by
 obtain ⟨j,hj⟩:=Qc7 h
 have h1:=(Og.mp hj).1
 rw[Qaa]at h1
 rw[Qay (),Qbj]at hj
 exact ⟨j,(),hj⟩
theorem mT{l:List Keyed}{i:Nat}{e:Keyed}(h:e∈l.drop i):∃j,l[i+j]? =some e:=by
 obtain ⟨j,hj⟩:=Qc7 h
 rw[Qbj]at hj
 exact ⟨j,hj⟩
theorem dZ{arr:Array Keyed}{base i:Nat}{x key:Keyed}(h:arr.toList[base+i]? =some x):bY lt false key arr base i=!lt key x:=by
 rw[w5 (p:=x) (by simpa using h)];rfl
theorem fG{arr:Array Keyed}{base i:Nat}{x key:Keyed}(h:arr.toList[base+i]? =some x):bY lt true key arr base i=lt x key:=by
 rw[w5 (p:=x) (by simpa using h)];rfl
theorem mono_right(L:g_ lt){arr:Array Keyed}{base n:Nat}(key:Keyed)(hn:base+n<=arr.size)(hs:cZ lt ((arr.toList.drop base).take n)):∀i j,i<=j->j<n->bY lt false key arr base j=true->bY lt false key arr base i=true:=λi j Ai hj e=>by
 have MT:base+j<(arr.toList:):=by rw[Qa7];lia
 have Ft:base+i<(arr.toList:):=by lia
 rw[dZ (Of MT)]at e
 rw[dZ (Of Ft)]
 walk_at"I"
 have e':lt key (arr.toList[base+j])=false:=by simpa using e
 rw[L.tr _ _ _ hle e'];rfl
theorem mono_left(L:g_ lt){arr:Array Keyed}{base n:Nat}(key:Keyed)(hn:base+n<=arr.size)(hs:cZ lt ((arr.toList.drop base).take n)):∀i j,i<=j->j<n->bY lt true key arr base j=true->bY lt true key arr base i=true:=λi j Ai hj e=>by
 have MT:base+j<(arr.toList:):=by rw[Qa7];lia
 have Ft:base+i<(arr.toList:):=by lia
 rw[fG (Of MT)]at e
 rw[fG (Of Ft)]
 walk_at"I"
 cases z:lt (arr.toList[base+i]) key with
 | true=>rfl
 | false=>rw[L.tr _ _ _ z hle]at e;cases e
theorem qt{l:List Keyed}(h:cZ lt l)(i n:Nat):cZ lt ((l.drop i).take n):=h.sublist ((Qgc _ _).trans (List.drop_sublist _ _))
theorem G0{i g ac bc:Nat}{st aR:SortSt}(hg:rm st aR)(m:mD lt a b out ia ib)(q:ia+1<a.size)(r:ib<b.size)(t:i+2<=ia+ib):rm st aR/\∃jP ue uf g' OQ OR,((none,out,ia,ib,g,ac,bc):Option (Array Keyed)×Array Keyed×Nat×Nat×Nat×Nat×Nat)=(none,jP,ue,uf,g',OQ,OR)/\mD lt a b jP ue uf/\ue+1<a.size/\uf<b.size/\i+2<=ue+uf:=
 ⟨hg,_,_,_,_,_,_,rfl,m,q,r,t⟩
theorem G1{i g ac bc:Nat}{st aR:SortSt}(hg:rm st aR)(m:mD lt a b out ia ib)(q:ia+1<a.size)(r:ib<b.size)(t:i+2<=ia+ib):rm st aR/\((∃jP z,((none,out,ia,ib,g,ac,bc):Option (Array Keyed)×Array Keyed×Nat×Nat×Nat×Nat×Nat)=(some jP,z)/\iV lt a b jP)\/∃jP ue uf g' OQ OR,((none,out,ia,ib,g,ac,bc):Option (Array Keyed)×Array Keyed×Nat×Nat×Nat×Nat×Nat)=(none,jP,ue,uf,g',OQ,OR)/\mD lt a b jP ue uf/\ue+1<a.size/\uf<b.size/\i+2<=ue+uf):=
 ⟨hg,.inr (G0 hg m q r t).2⟩
end
section
variable{prog:Program}{w:World}{A:Around}{E:Value->Shared->Prop}{s:Shared}{kd:SortKind}{lt:Keyed->Keyed->Bool}{a₀:Array Keyed}
theorem OS{st:SortSt}{a b:Array Keyed}{Q:Array Keyed->SortSt->Prop}(L:g_ lt)(C:lE prog w A E s kd lt a₀)(KZ:kindOf st=kd)(ha:∀p∈a.toList,p∈a₀.toList)(hb:∀p∈b.toList,p∈a₀.toList)(na:1<=a.size)(nb:1<=b.size)
  (sa:cZ lt a.toList) (sb:cZ lt b.toList) (hf:∀x∈a.toList,∀q,b[0]? =some q->lt x q=false) (hl:∀y,a[a.size - 1]? =some y->∀e∈b.toList,lt y e=false)
  (h:∀out aR,rm st aR->iV lt a b out->Q out aR):wpS (model prog w) A E s (mLo a b) Q st:=by
 walk_at"v"
 refine wpS_bind (b_ () λp hp ep=>?_)
 have m0:mD lt a b #[p] 0 1:=(show mD lt a b #[] 0 0 from ⟨Qez _,by simpa using sa,by simpa using sb⟩).lC ep λx hx=>hf x (Qcy hx) p ep
 have Ct:∀{out:Array Keyed} {ia ib:Nat},mD lt a b out ia ib->ia+1=a.size->iV lt a b (out++b.extract ib++a.extract ia):=λ{out ia ib} m e=>m.XW λx hx y hy=>by
  have hz:a.size - 1<a.size:=by lia
  have ey:a[a.size - 1]? =some a[a.size - 1]:=getElem?_pos a _ hz
  rw[GZ (l:=a.toList) (y:=a[a.size - 1]) (by rw[Qa7];exact e) (by rw[Qa7];simpa using ey)]at hy
  rw[ZI.mp hy]
  exact hl _ ey x hx
 walk_at"O"
 ·exact wpS_pure (h _ _ (.refl _) (m0.El (by simpa using g)))
 refine aF (λg2=>?_) (λg2=>?_)
 ·exact wpS_pure (h _ _ (.refl _) (Ct m0 (by simpa using g2)))
 have g': ¬1=b.size:=λz=>g (by simpa using z)
 have VP: ¬0+1=a.size:=λz=>g2 (by simpa using z)
 walk_at"D"
 refine wpS_bind (wpS_mono (wpS_forRange (I:=λi c aR=>rm st aR/\∃out ia ib g,c=(none,out,ia,ib,g)/\mD lt a b out ia ib/\ia+1<a.size/\ib<b.size/\i+1<=ia+ib)
  (Q:=λc aR=>rm st aR/\∃out z,c=(some out,z)/\iV lt a b out) ?_ ?_ ?_) ?_)
 ·rintro i c dQ _ hi ⟨hg,out,ia,ib,g,rfl,m1,h1,h2,h3⟩
  have tR:kindOf dQ=kd:=by obtain ⟨g0,rfl⟩:=hg;exact KZ
  refine wpS_bind (wpS_mono (wpS_forRange (I:=λx c aR=>aR=dQ/\∃out ia ib ac bc,c=(none,out,ia,ib,ac,bc)/\mD lt a b out ia ib/\ia+1<a.size/\ib<b.size/\i+1+x<=ia+ib)
   (Q:=λc aR=>aR=dQ/\((∃out z,c=(some out,z)/\iV lt a b out)\/∃out ia ib ac bc,c=(none,out,ia,ib,ac,bc)/\mD lt a b out ia ib/\ia+1<a.size/\ib<b.size/\i+2<=ia+ib)) ?_ ?_ ⟨rfl,out,ia,ib,0,0,rfl,m1,h1,h2,()⟩) ?_)
  ·rintro x c jE _ hx ⟨rfl,out,ia,ib,ac,bc,rfl,m1,h1,h2,h3⟩
   refine wpS_bind (b_ h2 λpb K0 eb=>wpS_bind (b_ (show ia<a.size by lia) λpa OT ea=>wpS_bind (C _ _ _ _ tR (hb _ K0) (ha _ OT) ?_)))
   cases Ud:lt pb pa with
   | true=>
    refine wpS_bind (b_ h2 λq hq eq=>?_)
    have m2:=m1.lC eq (iu L sa (i:=ia) (p:=pa) (by simpa using ea) (by rw[eb]at eq;cases eq;exact L.md _ _ Ud))
    refine aF (λz=>wpS_pure ⟨rfl,.inl ⟨_,_,rfl,m2.El (by simpa using z)⟩⟩) (λz=>?_)
    have z': ¬ib+1=b.size:=λy=>z (by simpa using y)
    exact aF (λ_=>wpS_pure ⟨rfl,.inr ⟨_,ia,ib+1,_,_,rfl,m2,h1,(),()⟩⟩) (λ_=>wpS_pure ⟨rfl,_,ia,ib+1,_,_,rfl,m2,h1,(),()⟩)
   | false=>
    refine wpS_bind (b_ (show ia<a.size by lia) λq hq eq=>?_)
    have m2:=m1.lD eq (iu L sb (i:=ib) (p:=pb) (by simpa using eb) (by rw[ea]at eq;cases eq;exact Ud))
    refine aF (λz=>wpS_pure ⟨rfl,.inl ⟨_,_,rfl,Ct m2 (by simpa using z)⟩⟩) (λz=>?_)
    have z': ¬ia+1+1=a.size:=λy=>z (by simpa using y)
    exact aF (λ_=>wpS_pure ⟨rfl,.inr ⟨_,ia+1,ib,_,_,rfl,m2,(),h2,()⟩⟩) (λ_=>wpS_pure ⟨rfl,_,ia+1,ib,_,_,rfl,m2,(),h2,()⟩)
  ·rintro c jE ⟨e2,out,ia,ib,ac,bc,rfl,m1,h1,h2,h3⟩
   exact ⟨e2,.inr ⟨_,_,_,_,_,rfl,m1,h1,h2,()⟩⟩
  ·rintro c jE ⟨rfl,⟨out,z,rfl,pf⟩ | ⟨out,ia,ib,ac,bc,rfl,m1,h1,h2,h3⟩⟩
   ·exact wpS_pure ⟨hg,out,_,rfl,pf⟩
   walk_at"v"
   refine wpS_bind (wpS_mono (wpS_forRange (I:=λx c aR=>rm st aR/\∃out ia ib g ac bc,c=(none,out,ia,ib,g,ac,bc)/\mD lt a b out ia ib/\ia+1<a.size/\ib<b.size/\i+2<=ia+ib)
    (Q:=λc aR=>rm st aR/\((∃out z,c=(some out,z)/\iV lt a b out)\/∃out ia ib g ac bc,c=(none,out,ia,ib,g,ac,bc)/\mD lt a b out ia ib/\ia+1<a.size/\ib<b.size/\i+2<=ia+ib)) ?_ ?_ ⟨hg,out,ia,ib,_,ac,bc,rfl,m1,h1,h2,h3⟩) ?_)
   ·rintro x c z_ _ hx ⟨oa,out,ia,ib,gg,ac,bc,rfl,m1,h1,h2,h3⟩
    have Ue:kindOf z_=kd:=by obtain ⟨g0,rfl⟩:=oa;exact KZ
    refine aF (λ_=>?_) (λ_=>?_)
    all_goals
     refine wpS_bind (wpS_modify ?_)
     refine wpS_bind (b_ h2 λpb K0 eb=>wpS_bind (n_ C Ue (hb _ K0) ha (show ia+(a.size - ia)<=a.size by lia) (show 0<a.size - ia by lia) (mono_right L pb (show ia+(a.size - ia)<=a.size by lia) (qt sa _ _)) λk hk y1 y2=>?_))
     have XX:∀x∈b.toList.drop ib,lt x pb=false:=iu L sb (i:=ib) (p:=pb) (by simpa using eb) (JR L pb)
     have c1:∀e∈(a.toList.drop ia).take k,∀x∈b.toList.drop ib,lt x e=false:=λe he x hx=>by
      obtain ⟨j,hj,ej⟩:=fD he
      have:=y1 j hj
      rw[dZ ej]at this
      exact L.tr e pb x (by simpa using this) (XX x hx)
     have c2:∀x∈a.toList.drop (ia+k),lt x pb=false:=λx hx=>by
      obtain ⟨j,ej⟩:=mT hx
      have cf:=(Og.mp ej).1
      rw[Qa7]at cf
      have:=(show ∀i,k<=i->i<a.size - ia->bY lt false pb a ia i=false from y2) (k+j) () ()
      rw[dZ (x:=x) (by rw[<-Qeo];exact ej)]at this
      exact L.md _ _ (by simpa using this)
     refine aF (λtR=>aF (λz=>wpS_pure ⟨oa.set _,.inl ⟨_,_,rfl,Ct (m1.uc c1) (by simpa using z)⟩⟩) (λz1=>aF (λz=>wpS_pure ⟨oa.set _,.inl ⟨_,_,rfl,(m1.uc c1).Em (by simpa using z)⟩⟩) (λz2=>?_))) (λtR=>?_)
     all_goals first
      |(have m2:=m1.uc c1
        have c3:=c2
        have q1:ia+k+1<a.size:=Ei hk h1 (λe=>z1 (by simpa using e)) (λe=>z2 (by simpa using e))
        have q2:i+2<=ia+k+ib:=by lia)
      |(have m2:=m1
        have XY:k=0:=Qeg tR
        have c3:∀x∈a.toList.drop ia,lt x pb=false:=by rw[XY,Qdd]at c2;exact c2
        have q1:=h1
        have q2:=h3)
     all_goals
      refine wpS_bind (b_ h2 λpc XZ ec=>?_)
      have X0:pc=pb:=by rw[eb]at ec;exact (Qad ec).symm
      subst X0
      have m3:=m2.lC ec c3
      refine aF (λz=>wpS_pure ⟨oa.set _,.inl ⟨_,_,rfl,m3.El (by simpa using z)⟩⟩) (λz3=>?_)
      have z3': ¬ib+1=b.size:=λe=>z3 (by simpa using e)
      refine wpS_bind (b_ (Nat.lt_of_succ_lt q1) λpd Ug ed=>wpS_bind (n_ C Ue (ha _ Ug) hb (show ib+1+(b.size - (ib+1))<=b.size by lia) (show 0<b.size - (ib+1) by lia) (mono_left L pd (show ib+1+(b.size - (ib+1))<=b.size by lia) (qt sb _ _)) λk2 nZ y3 y4=>?_))
      have VQ:=iu L sa (p:=pd) (by simpa using ed) (JR L pd)
      have c4:∀e∈(b.toList.drop (ib+1)).take k2,∀x∈a.toList.drop _,lt x e=false:=λe he x hx=>by
       obtain ⟨j,hj,ej⟩:=fD he
       have:=y3 j hj
       rw[fG ej]at this
       exact L.tr e pd x (L.md _ _ this) (VQ x hx)
      have c5:∀x∈b.toList.drop (ib+1+k2),lt x pd=false:=λx hx=>by
       obtain ⟨j,ej⟩:=mT hx
       have cf:=(Og.mp ej).1
       rw[Qa7]at cf
       have:=(show ∀i,k2<=i->i<b.size - (ib+1)->bY lt true pd b (ib+1) i=false from y4) (k2+j) () ()
       rw[fG (x:=x) (by rw[<-Qeo];exact ej)]at this
       exact this
      refine aF (λG2=>aF (λz=>wpS_pure ⟨oa.set _,.inl ⟨_,_,rfl,(m3.ub c4).El (by simpa using z)⟩⟩) (λz4=>?_)) (λG2=>?_)
      all_goals first
       |(have m4:=m3.ub c4
         have c6:=c5
         have r1:ib+1+k2<b.size:=Ej nZ h2 (λe=>z4 (by simpa using e))
         have r2:ib<=ib+1+k2:=by lia)
       |(have m4:=m3
         have Uh:k2=0:=Qeg G2
         have c6:∀x∈b.toList.drop (ib+1),lt x pd=false:=by rw[Uh,Qdd]at c5;exact c5
         have r1:ib+1<b.size:=by lia
         have r2:ib<=ib+1:=by lia)
      all_goals
       refine wpS_bind (b_ (Nat.lt_of_succ_lt q1) λpe qu ee=>?_)
       have X1:pe=pd:=by rw[ed]at ee;exact (Qad ee).symm
       subst X1
       have m5:=m4.lD ee c6
       refine aF (λz=>wpS_pure ⟨oa.set _,.inl ⟨_,_,rfl,Ct m5 (by simpa using z)⟩⟩) (λz5=>?_)
       have q5:=Nat.lt_of_le_of_ne q1 (λe=>z5 (by simpa using e))
       exact aF (λ_=>wpS_pure (G1 (oa.set _) m5 q5 r1 (MS q2 r2))) (λ_=>wpS_pure (G0 (oa.set _) m5 q5 r1 (MS q2 r2)))
   ·rintro c z_ ⟨oa,out,ia,ib,gg,ac,bc,rfl,m1,h1,h2,h3⟩
    exact ⟨oa,.inr ⟨_,_,_,_,_,_,rfl,m1,h1,h2,h3⟩⟩
   ·rintro c z_ ⟨oa,⟨out,z,rfl,pf⟩ | ⟨out,ia,ib,g,ac,bc,rfl,m1,h1,h2,h3⟩⟩
    ·exact wpS_pure ⟨oa,out,_,rfl,pf⟩
    ·exact wpS_bind (wpS_modify (wpS_pure ⟨oa.set _,_,_,_,_,rfl,m1,h1,h2,()⟩))
 ·rintro c dQ ⟨hg,out,ia,ib,g,rfl,m1,h1,h2,h3⟩
  exfalso
  lia
 ·exact ⟨.refl _,_,_,_,_,rfl,m0,(),(),()⟩
 ·rintro c aR ⟨hg,out,z,rfl,hp⟩
  exact wpS_pure (h _ _ hg hp)
end
section
variable{lt:Keyed->Keyed->Bool}
theorem jQ{x c y:List Keyed}(h1:cZ lt (x++y))(h2:cZ lt (c++y))(h3:∀e∈x,∀f∈c,lt f e=false):cZ lt (x++c++y):=by
 unfold cZ at*
 rw[VI]
 rw[Qa6]at h1 ⊢
 refine ⟨h1.1,h2,λe he f hf=>?_⟩
 rcases Qao.mp hf with z | z
 ·exact h3 e he f z
 ·exact h1.2.2 e he f z
theorem iw(L:g_ lt){l:List Keyed}{i:Nat}{p q:Keyed}(h:cZ lt l)(hp:l[i]? =some p)(hq:lt q p=false):∀x∈l.take (i+1),lt q x=false:=λx hx=>by
 obtain ⟨j,hj⟩:=Qc7 hx
 have h1:=(Og.mp hj).1
 rw[Qaa]at h1
 rw[Qay ()]at hj
 exact L.tr x p q (A1 L h () hj hp) hq
structure mE(lt:Keyed->Keyed->Bool)(a b out:Array Keyed)(na nb:Nat):Prop where
 m:Mh a b out na nb
 sa:cZ lt (a.toList.take na++out.toList.reverse)
 sb:cZ lt (b.toList.take nb++out.toList.reverse)
variable{a b out:Array Keyed}{na nb k:Nat}{p q:Keyed}
theorem mE.lD(h:mE lt a b out na nb)(h1:1<=na)(hp:a[na - 1]? =some q)(hq:∀x∈b.toList.take nb,lt q x=false):mE lt a b (out.push q) (na - 1) nb:=by
 have hd:a.toList.take na=a.toList.take (na - 1)++[q]:=by
  have:=fA (l:=a.toList) (i:=na - 1) (p:=q) (by simpa using hp)
  rwa [show na - 1+1=na by lia]at this
 have h2:cZ lt (a.toList.take (na - 1)++([q]++out.toList.reverse)):=by
  have:=h.sa;rw[hd,VI]at this;exact this
 refine ⟨h.m.lD h1 hp,?_,?_⟩
 ·rw[Qb7,Qdn];exact h2
 ·rw[Qb7,Qdn]
  have:=jQ h.sb (gw h2) λe he f hf=>by rw[ZI.mp hf];exact hq e he
  rw[VI]at this
  exact this
theorem mE.lC(h:mE lt a b out na nb)(h1:1<=nb)(hp:b[nb - 1]? =some q)(hq:∀x∈a.toList.take na,lt q x=false):mE lt a b (out.push q) na (nb - 1):=by
 have hd:b.toList.take nb=b.toList.take (nb - 1)++[q]:=by
  have:=fA (l:=b.toList) (i:=nb - 1) (p:=q) (by simpa using hp)
  rwa [show nb - 1+1=nb by lia]at this
 have h2:cZ lt (b.toList.take (nb - 1)++([q]++out.toList.reverse)):=by
  have:=h.sb;rw[hd,VI]at this;exact this
 refine ⟨h.m.lC h1 hp,?_,?_⟩
 ·rw[Qb7,Qdn]
  have:=jQ h.sa (gw h2) λe he f hf=>by rw[ZI.mp hf];exact hq e he
  rw[VI]at this
  exact this
 ·rw[Qb7,Qdn];exact h2
theorem mE.uc(h:mE lt a b out na nb)(hk:k<=na)(hq:∀e∈b.toList.take nb,∀f∈(a.toList.drop k).take (na - k),lt f e=false):mE lt a b (out++(a.extract k na).reverse) k nb:=by
 have hd:=rz a.toList k na hk
 have h2:cZ lt (a.toList.take k++((a.toList.drop k).take (na - k)++out.toList.reverse)):=by
  have:=h.sa;rw[hd,VI]at this;exact this
 have e:(out++(a.extract k na).reverse).toList.reverse=(a.toList.drop k).take (na - k)++out.toList.reverse:=by
  rw[Qau,Qcz,aQ,Qdn,Qfv]
 refine ⟨h.m.uc hk,?_,?_⟩
 ·rw[e];exact h2
 ·rw[e]
  have:=jQ h.sb (gw h2) hq
  rw[VI]at this
  exact this
theorem mE.ub(h:mE lt a b out na nb)(hk:k<=nb)(hq:∀e∈a.toList.take na,∀f∈(b.toList.drop k).take (nb - k),lt f e=false):mE lt a b (out++(b.extract k nb).reverse) na k:=by
 have hd:=rz b.toList k nb hk
 have h2:cZ lt (b.toList.take k++((b.toList.drop k).take (nb - k)++out.toList.reverse)):=by
  have:=h.sb;rw[hd,VI]at this;exact this
 have e:(out++(b.extract k nb).reverse).toList.reverse=(b.toList.drop k).take (nb - k)++out.toList.reverse:=by
  rw[Qau,Qcz,aQ,Qdn,Qfv]
 refine ⟨h.m.ub hk,?_,?_⟩
 ·rw[e]
  have:=jQ h.sa (gw h2) hq
  rw[VI]at this
  exact this
 ·rw[e];exact h2
theorem mE.Em(h:mE lt a b out na nb)(e:na=0):iV lt a b (a.extract 0 na++b.extract 0 nb++out.reverse):=by
 refine ⟨h.m.AZ,?_⟩
 rw[Qau,Qau,aQ,aQ,Qcl,Qcl,Qdk,Qdk,Qcz,e,List.take_zero,Qec]
 exact h.sb
theorem mE.El(h:mE lt a b out na nb)(e:nb=0):iV lt a b (a.extract 0 na++b.extract 0 nb++out.reverse):=by
 refine ⟨h.m.AZ,?_⟩
 rw[Qau,Qau,aQ,aQ,Qcl,Qcl,Qdk,Qdk,Qcz,e,List.take_zero,Qa1]
 exact h.sa
theorem mE.X2(h:mE lt a b out na nb)(hl:∀e∈b.toList.take nb,∀f∈a.toList,lt f e=false):iV lt a b (b.extract 0 nb++a.extract 0 na++out.reverse):=by
 refine ⟨h.m.ON,?_⟩
 rw[Qau,Qau,aQ,aQ,Qcl,Qcl,Qdk,Qdk,Qcz]
 exact jQ h.sb h.sa λe he f hf=>hl e he f (Qcx hf)
theorem iy{l:List Keyed}{k:Nat}{e:Keyed}(h:e∈l.take k):∃j,j<k/\l[0+j]? =some e:=by
 obtain ⟨j,hj⟩:=Qc7 h
 have h1:=(Og.mp hj).1
 rw[Qaa]at h1
 rw[Qay ()]at hj
 exact ⟨j,(),by rw[Qc1];exact hj⟩
theorem G3{i g ac bc:Nat}{st aR:SortSt}(hg:rm st aR)(m:mE lt a b out na nb)(q:1<=na)(r:2<=nb)(l1:na<=a.size)(l2:nb<=b.size)(t:na+nb+i+2<=a.size+b.size):rm st aR/\∃ue uf jP g' OQ OR,((none,na,nb,out,g,ac,bc):Option (Array Keyed)×Nat×Nat×Array Keyed×Nat×Nat×Nat)=(none,ue,uf,jP,g',OQ,OR)/\mE lt a b jP ue uf/\1<=ue/\2<=uf/\ue<=a.size/\uf<=b.size/\ue+uf+i+2<=a.size+b.size:=
 ⟨hg,_,_,_,_,_,_,rfl,m,q,r,l1,l2,t⟩
theorem G4{i g ac bc:Nat}{st aR:SortSt}(hg:rm st aR)(m:mE lt a b out na nb)(q:1<=na)(r:2<=nb)(l1:na<=a.size)(l2:nb<=b.size)(t:na+nb+i+2<=a.size+b.size):rm st aR/\((∃jP z,((none,na,nb,out,g,ac,bc):Option (Array Keyed)×Nat×Nat×Array Keyed×Nat×Nat×Nat)=(some jP,z)/\iV lt a b jP)\/∃ue uf jP g' OQ OR,((none,na,nb,out,g,ac,bc):Option (Array Keyed)×Nat×Nat×Array Keyed×Nat×Nat×Nat)=(none,ue,uf,jP,g',OQ,OR)/\mE lt a b jP ue uf/\1<=ue/\2<=uf/\ue<=a.size/\uf<=b.size/\ue+uf+i+2<=a.size+b.size):=
 ⟨hg,.inr (G3 hg m q r l1 l2 t).2⟩
end
section
variable{prog:Program}{w:World}{A:Around}{E:Value->Shared->Prop}{s:Shared}{kd:SortKind}{lt:Keyed->Keyed->Bool}{a₀:Array Keyed}
theorem OU{st:SortSt}{a b:Array Keyed}{Q:Array Keyed->SortSt->Prop}(L:g_ lt)(C:lE prog w A E s kd lt a₀)(KZ:kindOf st=kd)(ha:∀p∈a.toList,p∈a₀.toList)(hb:∀p∈b.toList,p∈a₀.toList)(na:1<=a.size)(nb:1<=b.size)
  (sa:cZ lt a.toList) (sb:cZ lt b.toList) (hf:∀x∈a.toList,∀q,b[0]? =some q->lt x q=false) (hl:∀y,a[a.size - 1]? =some y->∀e∈b.toList,lt y e=false)
  (h:∀out aR,rm st aR->iV lt a b out->Q out aR):wpS (model prog w) A E s (mHi a b) Q st:=by
 walk_at"v"
 refine wpS_bind (b_ (show a.size - 1<a.size by lia) λp hp ep=>?_)
 have m0:mE lt a b #[p] (a.size - 1) b.size:=(show mE lt a b #[] a.size b.size from ⟨by unfold Mh;simp,by rw[Qae (by simp)];simpa using sa,by rw[Qae (by simp)];simpa using sb⟩).lD na ep λx hx=>hl p ep x (Qcx hx)
 have w6:∀{out:Array Keyed} {ia ib:Nat},mE lt a b out ia ib->ib=1->iV lt a b (b.extract 0 ib++a.extract 0 ia++out.reverse):=λ{out ia ib} m e=>m.X2 λx hx f Ui=>by
  subst e
  have e0:b[0]? =some b[0]:=getElem?_pos b 0 ()
  obtain ⟨j,hj,ej⟩:=iy hx
  have hj0:j=0:=by lia
  subst hj0
  exact hf f Ui x (by simpa using ej)
 walk_at"O"
 ·exact wpS_pure (h _ _ (.refl _) (m0.Em (by simpa using g)))
 refine aF (λg2=>?_) (λg2=>?_)
 ·exact wpS_pure (h _ _ (.refl _) (w6 m0 (by simpa using g2)))
 have g': ¬a.size - 1=0:=λz=>g (by simpa using z)
 have VP: ¬b.size=1:=λz=>g2 (by simpa using z)
 walk_at"D"
 refine wpS_bind (wpS_mono (wpS_forRange (I:=λi c aR=>rm st aR/\∃ia ib out g,c=(none,ia,ib,out,g)/\mE lt a b out ia ib/\1<=ia/\2<=ib/\ia<=a.size/\ib<=b.size/\ia+ib+i+1<=a.size+b.size)
  (Q:=λc aR=>rm st aR/\∃out z,c=(some out,z)/\iV lt a b out) ?_ ?_ ?_) ?_)
 ·rintro i c dQ _ hi ⟨hg,ia,ib,out,g,rfl,m1,h1,h2,l1,l2,h3⟩
  have tR:kindOf dQ=kd:=by obtain ⟨g0,rfl⟩:=hg;exact KZ
  refine wpS_bind (wpS_mono (wpS_forRange (I:=λx c aR=>aR=dQ/\∃ia ib out ac bc,c=(none,ia,ib,out,ac,bc)/\mE lt a b out ia ib/\1<=ia/\2<=ib/\ia<=a.size/\ib<=b.size/\ia+ib+i+1+x<=a.size+b.size)
   (Q:=λc aR=>aR=dQ/\((∃out z,c=(some out,z)/\iV lt a b out)\/∃ia ib out ac bc,c=(none,ia,ib,out,ac,bc)/\mE lt a b out ia ib/\1<=ia/\2<=ib/\ia<=a.size/\ib<=b.size/\ia+ib+i+2<=a.size+b.size)) ?_ ?_ ⟨rfl,ia,ib,out,0,0,rfl,m1,h1,h2,l1,l2,()⟩) ?_)
  ·rintro x c jE _ hx ⟨rfl,ia,ib,out,ac,bc,rfl,m1,h1,h2,l1,l2,h3⟩
   refine wpS_bind (b_ (show ib - 1<b.size by lia) λpb K0 eb=>wpS_bind (b_ (show ia - 1<a.size by lia) λpa OT ea=>wpS_bind (C _ _ _ _ tR (hb _ K0) (ha _ OT) ?_)))
   have X3:ib - 1+1=ib:=by lia
   have eia:ia - 1+1=ia:=by lia
   cases Ud:lt pb pa with
   | true=>
    refine wpS_bind (b_ (show ia - 1<a.size by lia) λq hq eq=>?_)
    have X4:q=pa:=(Qad (ea.symm.trans eq)).symm
    have m2:=m1.lD h1 eq (by
     have:=iw L sb (i:=ib - 1) (p:=pb) (q:=q) (by simpa using eb) (by rw[X4];exact L.md _ _ Ud)
     rw[X3]at this;exact this)
    refine aF (λz=>wpS_pure ⟨rfl,.inl ⟨_,_,rfl,m2.Em (by simpa using z)⟩⟩) (λz=>?_)
    have z': ¬ia - 1=0:=λy=>z (by simpa using y)
    exact aF (λ_=>wpS_pure ⟨rfl,.inr ⟨ia - 1,ib,_,_,_,rfl,m2,(),h2,(),l2,()⟩⟩) (λ_=>wpS_pure ⟨rfl,ia - 1,ib,_,_,_,rfl,m2,(),h2,(),l2,()⟩)
   | false=>
    refine wpS_bind (b_ (show ib - 1<b.size by lia) λq hq eq=>?_)
    have X4:q=pb:=(Qad (eb.symm.trans eq)).symm
    have m2:=m1.lC () eq (by
     have:=iw L sa (i:=ia - 1) (p:=pa) (q:=q) (by simpa using ea) (by rw[X4];exact Ud)
     rw[eia]at this;exact this)
    refine aF (λz=>wpS_pure ⟨rfl,.inl ⟨_,_,rfl,w6 m2 (by simpa using z)⟩⟩) (λz=>?_)
    have z': ¬ib - 1=1:=λy=>z (by simpa using y)
    exact aF (λ_=>wpS_pure ⟨rfl,.inr ⟨ia,ib - 1,_,_,_,rfl,m2,h1,(),l1,(),()⟩⟩) (λ_=>wpS_pure ⟨rfl,ia,ib - 1,_,_,_,rfl,m2,h1,(),l1,(),()⟩)
  ·rintro c jE ⟨e2,ia,ib,out,ac,bc,rfl,m1,h1,h2,l1,l2,h3⟩
   exact ⟨e2,.inr ⟨_,_,_,_,_,rfl,m1,h1,h2,l1,l2,()⟩⟩
  ·rintro c jE ⟨rfl,⟨out,z,rfl,pf⟩ | ⟨ia,ib,out,ac,bc,rfl,m1,h1,h2,l1,l2,h3⟩⟩
   ·exact wpS_pure ⟨hg,out,_,rfl,pf⟩
   walk_at"v"
   refine wpS_bind (wpS_mono (wpS_forRange (I:=λx c aR=>rm st aR/\∃ia ib out g ac bc,c=(none,ia,ib,out,g,ac,bc)/\mE lt a b out ia ib/\1<=ia/\2<=ib/\ia<=a.size/\ib<=b.size/\ia+ib+i+2<=a.size+b.size)
    (Q:=λc aR=>rm st aR/\((∃out z,c=(some out,z)/\iV lt a b out)\/∃ia ib out g ac bc,c=(none,ia,ib,out,g,ac,bc)/\mE lt a b out ia ib/\1<=ia/\2<=ib/\ia<=a.size/\ib<=b.size/\ia+ib+i+2<=a.size+b.size)) ?_ ?_ ⟨hg,ia,ib,out,_,ac,bc,rfl,m1,h1,h2,l1,l2,h3⟩) ?_)
   ·rintro x c z_ _ hx ⟨oa,ia,ib,out,gg,ac,bc,rfl,m1,h1,h2,l1,l2,h3⟩
    have Ue:kindOf z_=kd:=by obtain ⟨g0,rfl⟩:=oa;exact KZ
    have X3:ib - 1+1=ib:=by lia
    refine aF (λ_=>?_) (λ_=>?_)
    all_goals
     refine wpS_bind (wpS_modify ?_)
     refine wpS_bind (b_ (show ib - 1<b.size by lia) λpb K0 eb=>wpS_bind (n_ C Ue (hb _ K0) ha (show 0+ia<=a.size by lia) (show ia - 1<ia by lia) (mono_right L pb (show 0+ia<=a.size by lia) (qt sa _ _)) λk JO y1 y2=>?_))
     have hk:k<=ia:=JO
     have y2':∀i,k<=i->i<ia->bY lt false pb a 0 i=false:=y2
     have XX:∀x∈b.toList.take ib,lt pb x=false:=by
      have:=iw L sb (i:=ib - 1) (p:=pb) (q:=pb) (by simpa using eb) (JR L pb)
      rw[X3]at this;exact this
     have c1:∀e∈b.toList.take ib,∀f∈(a.toList.drop k).take (ia - k),lt f e=false:=λe he f Ui=>by
      obtain ⟨j,hj,ej⟩:=fD Ui
      have:=y2' (k+j) () ()
      rw[dZ (x:=f) (by rw[Qc1];exact ej)]at this
      exact L.tr e pb f (XX e he) (L.md _ _ (by simpa using this))
     have c2:∀x∈a.toList.take k,lt pb x=false:=λx hx=>by
      obtain ⟨j,hj,ej⟩:=iy hx
      have:=y1 j hj
      rw[dZ ej]at this
      simpa using this
     refine aF (λtR=>aF (λz=>wpS_pure ⟨oa.set _,.inl ⟨_,_,rfl,(m1.uc hk c1).Em (by simpa using z)⟩⟩) (λz1=>?_)) (λtR=>?_)
     all_goals first
      |(have m2:=m1.uc hk c1
        have c3:=c2
        have z1': ¬k=0:=λe=>z1 (by simpa using e)
        have q1:1<=k:=by lia
        have q2:k<=a.size:=by lia
        have q3:k+ib+i+2<=a.size+b.size:=by lia)
      |(have m2:=m1
        have ek:k=ia:=Qds hk (Nat.le_of_sub_eq_zero (Qeg tR))
        have c3:∀x∈a.toList.take ia,lt pb x=false:=by rw[ek]at c2;exact c2
        have q1:=h1
        have q2:=l1
        have q3:=h3)
     all_goals
      refine wpS_bind (b_ (show ib - 1<b.size by lia) λpc XZ ec=>?_)
      have X0:pc=pb:=(Qad (eb.symm.trans ec)).symm
      subst X0
      have m3:=m2.lC () ec c3
      refine aF (λz=>wpS_pure ⟨oa.set _,.inl ⟨_,_,rfl,w6 m3 (by simpa using z)⟩⟩) (λz3=>?_)
      have z3': ¬ib - 1=1:=λe=>z3 (by simpa using e)
      refine wpS_bind (b_ (Cr q1 q2) λpd Ug ed=>wpS_bind (n_ C Ue (ha _ Ug) hb (show 0+(ib - 1)<=b.size by lia) (show ib - 1 - 1<ib - 1 by lia) (mono_left L pd (show 0+(ib - 1)<=b.size by lia) (qt sb _ _)) λk2 X5 y3 y4=>?_))
      have nZ:k2<=ib - 1:=X5
      have y4':∀i,k2<=i->i<ib - 1->bY lt true pd b 0 i=false:=y4
      have VQ:=iw L sa (p:=pd) (q:=pd) (by simpa using ed) (JR L pd)
      rw[Nat.sub_add_cancel q1]at VQ
      have c4:∀e∈a.toList.take _,∀f∈(b.toList.drop k2).take (ib - 1 - k2),lt f e=false:=λe he f Ui=>by
       obtain ⟨j,hj,ej⟩:=fD Ui
       have:=y4' (k2+j) () ()
       rw[fG (x:=f) (by rw[Qc1];exact ej)]at this
       exact L.tr e pd f (VQ e he) this
      have c5:∀x∈b.toList.take k2,lt pd x=false:=λx hx=>by
       obtain ⟨j,hj,ej⟩:=iy hx
       have:=y3 j hj
       rw[fG ej]at this
       exact L.md _ _ this
      refine aF (λG2=>aF (λz=>wpS_pure ⟨oa.set _,.inl ⟨_,_,rfl,w6 (m3.ub nZ c4) (by simpa using z)⟩⟩) (λz4=>aF (λz=>wpS_pure ⟨oa.set _,.inl ⟨_,_,rfl,(m3.ub nZ c4).El (by simpa using z)⟩⟩) (λz5=>?_))) (λG2=>?_)
      all_goals first
       |(have m4:=m3.ub nZ c4
         have c6:=c5
         have z4': ¬k2=1:=λe=>z4 (by simpa using e)
         have z5': ¬k2=0:=λe=>z5 (by simpa using e)
         have r1:2<=k2:=by lia
         have r2:k2<=b.size:=by lia
         have r3:k2<=ib:=by lia)
       |(have m4:=m3
         have ek2:k2=ib - 1:=Qds nZ (Nat.le_of_sub_eq_zero (Qeg G2))
         have c6:∀x∈b.toList.take (ib - 1),lt pd x=false:=by rw[ek2]at c5;exact c5
         have r1:2<=ib - 1:=by lia
         have r2:ib - 1<=b.size:=by lia
         have r3:ib - 1<=ib:=by lia)
      all_goals
       refine wpS_bind (b_ (Cr q1 q2) λpe qu ee=>?_)
       have X1:pe=pd:=(Qad (ed.symm.trans ee)).symm
       subst X1
       have m5:=m4.lD q1 ee c6
       refine aF (λz=>wpS_pure ⟨oa.set _,.inl ⟨_,_,rfl,m5.Em (by simpa using z)⟩⟩) (λz6=>?_)
       have q5:=OO (λe=>z6 (by simpa using e))
       exact aF (λ_=>wpS_pure (G4 (oa.set _) m5 q5 r1 (Cs q2) r2 (GX q3 r3))) (λ_=>wpS_pure (G3 (oa.set _) m5 q5 r1 (Cs q2) r2 (GX q3 r3)))
   ·rintro c z_ ⟨oa,ia,ib,out,gg,ac,bc,rfl,m1,h1,h2,l1,l2,h3⟩
    exact ⟨oa,.inr ⟨_,_,_,_,_,_,rfl,m1,h1,h2,l1,l2,h3⟩⟩
   ·rintro c z_ ⟨oa,⟨out,z,rfl,pf⟩ | ⟨ia,ib,out,g,ac,bc,rfl,m1,h1,h2,l1,l2,h3⟩⟩
    ·exact wpS_pure ⟨oa,out,_,rfl,pf⟩
    ·exact wpS_bind (wpS_modify (wpS_pure ⟨oa.set _,ia,ib,_,_,rfl,m1,h1,h2,l1,l2,()⟩))
 ·rintro c dQ ⟨hg,ia,ib,out,g,rfl,m1,h1,h2,l1,l2,h3⟩
  exfalso
  lia
 ·exact ⟨.refl _,a.size - 1,b.size,_,_,rfl,m0,(),(),(),(),()⟩
 ·rintro c aR ⟨hg,out,z,rfl,hp⟩
  exact wpS_pure (h _ _ hg hp)
end
section
variable{lt:Keyed->Keyed->Bool}
theorem kG{x y:List Keyed}(hx:cZ lt x)(hy:cZ lt y)(h:∀e∈x,∀f∈y,lt f e=false):cZ lt (x++y):=Qa6.mpr ⟨hx,hy,h⟩
theorem Cu(L:g_ lt){l:List Keyed}{q e:Keyed}(h:cZ lt l)(h0:l[0]? =some q)(he:lt q e=false):∀f∈l,lt f e=false:=by
 have:=iu L h h0 he
 rwa [Qcl]at this
theorem le_last(L:g_ lt){l:List Keyed}{y f:Keyed}(h:cZ lt l)(h0:l[(l:) - 1]? =some y)(hf:lt f y=false):∀e∈l,lt f e=false:=λe he=>by
 have hl:=(Og.mp h0).1
 have:=iw L h h0 hf
 rw[show (l:) - 1+1=(l:) by lia,Qbe]at this
 exact this e he
theorem En(L:g_ lt){x y merged:List Keyed}{k m:Nat}{q z:Keyed}(sx:cZ lt x)(sy:cZ lt y)(h0:y[0]? =some q)(hz:x[(x:) - 1]? =some z)(h1:∀e∈x.take k,lt q e=false)(h2:∀e∈y.drop m,lt e z=false)(pm:merged.Perm (x.drop k++y.take m))(sm:cZ lt merged):
  cZ lt (x.take k++merged++y.drop m):=by
 have ZZ:∀f∈y,∀e∈x.take k,lt f e=false:=λf hf e he=>Cu L sy h0 (h1 e he) f hf
 have Uj:∀f∈y.drop m,∀e∈x,lt f e=false:=λf hf e he=>le_last L sx hz (h2 f hf) e he
 have Z_:cZ lt (x.take k++x.drop k):=by rw[Qal];exact sx
 have sy':cZ lt (y.take m++y.drop m):=by rw[Qal];exact sy
 refine kG (kG (ir Z_) sm λe he f hf=>?_) (gw sy') λe he f hf=>?_
 ·rcases Qao.mp (pm.mem_iff.mp hf) with g | g
  ·exact (Qa6.mp Z_).2.2 e he f g
  ·exact ZZ f (Qcx g) e he
 ·rcases Qao.mp he with g | g
  ·exact ZZ f (Qcy hf) e g
  ·rcases Qao.mp (pm.mem_iff.mp g) with g | g
   ·exact Uj f hf e (Qcy g)
   ·exact (Qa6.mp sy').2.2 e g f hf
structure kU(kd:SortKind)(a₀:Array Keyed)(st:SortSt):Prop where
 perm:(arrOf st).Perm a₀
 kind:kindOf st=kd
 failed:failedOf st=none
theorem w9{α:Type}{pre l:List α}{i:Nat}:(pre++l)[(pre:)+i]? =l[i]?:= by rw[Qav (),Qbl]
theorem jR{α:Type}{pre x post:List α}{i:Nat}(h:i<(x:)):(pre++x++post)[(pre:)+i]? =x[i]?:= by
 rw[VI,w9,Qbg h]
theorem rC{α:Type}{pre x post:List α}{arr:Array α}(e:arr.toList=pre++x++post):(mirror arr (pre:) ((pre:)+(x:)) (((pre:)+(x:) - (pre:)) / 2)).toList=pre++x.reverse++post:=by
 have hsz:arr.size=(pre:)+(x:)+(post:):=by rw[<-Qa7,e];simp;lia
 refine Qdx λk=>?_
 rw[Qba,getElem?_mirror_all (i:=(pre:)) (j:=(pre:)+(x:)) () k]
 by_cases h:(pre:)<=k/\k<(pre:)+(x:)
 ·rw[if_pos h, <-Qba,e]
  rw[Qbg (by rw[QD];lia),Qav ()]
  rw[Qbg (by rw[QD,Qat];lia),Qav (),Qdw ()]
  congr 1
  lia
 ·rw[if_neg h, <-Qba,e]
  by_cases g:k<(pre:)
  ·rw[VI,VI,Qbg g,Qbg g]
  ·rw[Qav (by rw[QD];lia),Qav (by rw[QD,Qat];lia),QD,QD,Qat]
theorem G5{α:Type}{pre x post:List α}{q:α}{arr:Array α}{l:Nat}(e:arr.toList=pre++x++q::post)(hl:l<=(x:)):(bubble arr ((pre:)+(x:)) ((pre:)+(x:) - ((pre:)+l))).toList=pre++(x.take l++q::x.drop l)++post:=by
 have hsz:arr.size=(pre:)+(x:)+((post:)+1):=by rw[<-Qa7,e];simp;lia
 have hq:arr[(pre:)+(x:)]? =some q:=by
  rw[<-Qba,e,Qav (by rw[QD];lia),QD,Qdl];rfl
 refine Qdx λk=>?_
 rw[Qba,getElem?_bubble () _ () k,show (pre:)+(x:) - ((pre:)+(x:) - ((pre:)+l))=(pre:)+l by lia]
 by_cases h1:k=(pre:)+l
 ·rw[if_pos h1,hq,h1]
  rw[jR (by simp;lia),Qav (by rw[Qaa];lia),Qaa,Qbo hl,Qdl]
  rfl
 ·rw[if_neg h1]
  by_cases h2:(pre:)+l<k/\k<=(pre:)+(x:)
  ·rw[if_pos h2, <-Qba,e]
   obtain ⟨j,rfl⟩:∃j,k=(pre:)+(l+1+j):=⟨k - (pre:) - l - 1,()⟩
   rw[show (pre:)+(l+1+j) - 1=(pre:)+(l+j) by lia,jR (),jR (by simp;lia),Qav (by rw[Qaa];lia),Qaa,Qbo hl,show l+1+j - l=j+1 by lia,List.getElem?_cons_succ,Qbj]
  ·rw[if_neg h2, <-Qba,e]
   by_cases h3:k<(pre:)+l
   ·by_cases h4:k<(pre:)
    ·rw[VI,VI,Qbg h4,Qbg h4]
    ·obtain ⟨j,rfl⟩:∃j,k=(pre:)+j:=⟨k - (pre:),()⟩
     rw[jR (),jR (by simp;lia),Qbg (by rw[Qaa];lia),Qay ()]
   ·rw[Qav (by rw[QD];lia),Qav (by simp;lia)]
    simp only[QD,Qa5,Qaa,Qaz]
    rw[show k - ((pre:)+(x:))=k - ((pre:)+(x:)) - 1+1 by lia,List.getElem?_cons_succ]
    congr 1
    lia
end
section
variable{prog:Program}{w:World}{A:Around}{E:Value->Shared->Prop}{s:Shared}{kd:SortKind}{lt:Keyed->Keyed->Bool}{a₀:Array Keyed}
theorem kU.size{st:SortSt}(h:kU kd a₀ st):(arrOf st).size=a₀.size:=h.perm.size_eq
theorem kU.mem{st:SortSt}(h:kU kd a₀ st){p:Keyed}(hp:p∈(arrOf st).toList):p∈a₀.toList:=(Qb3.mp h.perm).mem_iff.mp hp
theorem kU.set{st:SortSt}(h:kU kd a₀ st){xs:Array Keyed}(hp:xs.toList.Perm (arrOf st).toList):kU kd a₀ (setArr st xs):=⟨(Qb3.mpr hp).trans h.perm,h.kind,h.failed⟩
theorem oe{st:SortSt}{i j:Nat}{p q:Keyed}{Q:Option Bool->SortSt->Prop}(C:lE prog w A E s kd lt a₀)(hB:kU kd a₀ st)(hi:(arrOf st).toList[i]? =some p)(hj:(arrOf st).toList[j]? =some q)(h:Q (some (lt p q)) st):wpS (model prog w) A E s (ltAt' i j) Q st:=by
 rw[ltAt'_eq]
 walk_at"D"
 have li:=(Og.mp hi).1
 have lj:=(Og.mp hj).1
 rw[Qa7]at li lj
 refine wpS_bind (b_ (show i<(arrOf st).size from li) λp' hp ep=>wpS_bind (b_ (show j<(arrOf st).size from lj) λq' hq eq=>?_))
 have e1:p'=p:=by rw[Qba,ep]at hi;exact Qad hi
 have e2:q'=q:=by rw[Qba,eq]at hj;exact Qad hj
 subst e1
 subst e2
 exact C _ _ _ _ hB.kind (hB.mem hp) (hB.mem hq) h
theorem A2{st:SortSt}{i pw X6:Nat}{pre x y post:List Keyed}{Q:Bool->SortSt->Prop}(L:g_ lt)(C:lE prog w A E s kd lt a₀)(hB:kU kd a₀ st)(hi:(pendingOf st)[i]? =some ((pre:),(x:),pw))(hj:(pendingOf st)[i+1]? =some ((pre:)+(x:),(y:),X6))
  (ea:(arrOf st).toList=pre++x++y++post) (hx:x≠[]) (hy:y≠[]) (sx:cZ lt x) (sy:cZ lt y)
  (h:∀aR z,kU kd a₀ aR->pendingOf aR=((pendingOf st).setIfInBounds i ((pre:),(x:)+(y:),pw)).eraseIdxIfInBounds (i+1)->z.Perm (x++y)->cZ lt z->(arrOf aR).toList=pre++z++post->Q true aR):wpS (model prog w) A E s (mergeAt' i) Q st:=by
 have hm:∀p∈(arrOf st).toList,p∈a₀.toList:=λp hp=>hB.mem hp
 have lx:=ZJ.mpr hx
 have ly:=ZJ.mpr hy
 have hz:(arrOf st).size=(pre:)+(x:)+(y:)+(post:):=by rw[<-Qa7,ea];simp only[QD]
 have X7:∀j,j<(x:)->(arrOf st).toList[(pre:)+j]? =x[j]?:= λj hj=>by rw[ea,VI,jR hj]
 have X8:∀j,j<(y:)->(arrOf st).toList[(pre:)+(x:)+j]? =y[j]?:= λj hj=>by
  rw[ea, <-QD,jR hj]
 have dx:((arrOf st).toList.drop (pre:)).take (x:)=x:=by rw[ea,VI,VI,Qfz,List.take_left]
 have dy:((arrOf st).toList.drop ((pre:)+(x:))).take (y:)=y:=by rw[ea, <-QD,VI (pre++x),Qfz,List.take_left]
 have VR:y[0]? =some y[0]:=Of ly
 have Eo:x[(x:) - 1]? =some x[(x:) - 1]:=Of ()
 walk_at"D"
 simp only[hi,hj]
 refine wpS_bind (KW ?_)
 refine wpS_bind (b_ (show (pre:)+(x:)<(arrOf st).size by lia) λpb K0 eb=>wpS_bind (n_ C hB.kind (hm _ K0) hm (show (pre:)+(x:)<=(arrOf st).size by lia) (show 0<(x:) by lia) (mono_right L pb (show (pre:)+(x:)<=(arrOf st).size by lia) (by rw[dx];exact sx)) λk hk y1 y2=>?_))
 have JO:k<=(x:):=hk
 have epb:pb=y[0]:=by
  have:=X8 0 ly
  rw[Qdd,Qba,eb,VR]at this
  exact Qad this
 subst epb
 have b1:∀e∈x.take k,lt y[0] e=false:=λe he=>by
  obtain ⟨j,hj,ej⟩:=iy he
  rw[Qc1]at ej
  have:=y1 j hj
  rw[dZ (x:=e) (by rw[X7 j ()];exact ej)]at this
  simpa using this
 have b2:∀e∈x.drop k,lt e y[0]=false:=λe he=>by
  obtain ⟨j,ej⟩:=mT he
  have cf:=(Og.mp ej).1
  have:=(show ∀i,k<=i->i<(x:)->bY lt false y[0] (arrOf st) (pre:) i=false from y2) (k+j) () cf
  rw[dZ (x:=e) (by rw[X7 _ cf];exact ej)]at this
  exact L.md _ _ (by simpa using this)
 walk_at"O"
 ·have g':(x:) - k=0:=by simpa using g
  have ek:k=(x:):=by lia
  rw[ek,Qbe]at b1
  exact wpS_pure (h _ (x++y) ⟨hB.perm,hB.kind,hB.failed⟩ rfl (Qez _) (kG sx sy λe he f hf=>Cu L sy VR (b1 e he) f hf) (by rw[<-VI];exact ea))
 have g': ¬(x:) - k=0:=λe=>g (by simpa using e)
 refine wpS_bind (b_ (show (pre:)+k+((x:) - k) - 1<(arrOf st).size by lia) λpa OT ep=>wpS_bind (n_ C hB.kind (hm _ OT) hm (show (pre:)+(x:)+(y:)<=(arrOf st).size by lia) (show (y:) - 1<(y:) by lia) (mono_left L pa (show (pre:)+(x:)+(y:)<=(arrOf st).size by lia) (by rw[dy];exact sy)) λm MU y3 y4=>?_))
 have yW:m<=(y:):=MU
 have epa:pa=x[(x:) - 1]:=by
  have:=X7 ((x:) - 1) ()
  rw[Qba,show (pre:)+((x:) - 1)=(pre:)+k+((x:) - k) - 1 by lia,Eo]at this
  rw[ep]at this
  exact Qad this
 subst epa
 have c1:∀e∈y.take m,lt x[(x:) - 1] e=false:=λe he=>by
  obtain ⟨j,hj,ej⟩:=iy he
  rw[Qc1]at ej
  have:=y3 j hj
  rw[fG (x:=e) (by rw[X8 j ()];exact ej)]at this
  exact L.md _ _ this
 have c2:∀e∈y.drop m,lt e x[(x:) - 1]=false:=λe he=>by
  obtain ⟨j,ej⟩:=mT he
  have cf:=(Og.mp ej).1
  have:=(show ∀i,m<=i->i<(y:)->bY lt true x[(x:) - 1] (arrOf st) ((pre:)+(x:)) i=false from y4) (m+j) () cf
  rw[fG (x:=e) (by rw[X8 _ cf];exact ej)]at this
  exact this
 refine aF (λg2=>?_) (λg2=>?_)
 ·have g3:m=0:=by simpa using g2
  rw[g3,Qcl]at c2
  exact wpS_pure (h _ (x++y) ⟨hB.perm,hB.kind,hB.failed⟩ rfl (Qez _) (kG sx sy λe he f hf=>le_last L sx Eo (c2 f hf) e he) (by rw[<-VI];exact ea))
 have g3: ¬m=0:=λe=>g2 (by simpa using e)
 have ex:((arrOf st).extract ((pre:)+k) ((pre:)+(x:))).toList=x.drop k:=by
  rw[aQ,ea,VI,VI,Qgm,Qbn (),Qec,Qbl,Qeq JO,Qbk (by rw[Qaz];lia),Qae (by rw[Qaz];lia)]
 have ey:((arrOf st).extract ((pre:)+(x:)) ((pre:)+(x:)+m)).toList=y.take m:=by
  rw[aQ,ea, <-QD,VI (pre++x),Qfz,Qbl,Qbk yW]
 have sxk:cZ lt (x.drop k):=sx.sublist (List.drop_sublist _ _)
 have sym:cZ lt (y.take m):=sy.sublist (Qgc _ _)
 have sX:((arrOf st).extract ((pre:)+k) ((pre:)+(x:))).size=(x:) - k:=by rw[<-Qa7,ex,Qaz]
 have sY:((arrOf st).extract ((pre:)+(x:)) ((pre:)+(x:)+m)).size=m:=by rw[<-Qa7,ey,Qaa];lia
 have mx:∀p∈((arrOf st).extract ((pre:)+k) ((pre:)+(x:))).toList,p∈a₀.toList:=λp hp=>hm p (by rw[aQ]at hp;exact Qcy (Qcx hp))
 have my:∀p∈((arrOf st).extract ((pre:)+(x:)) ((pre:)+(x:)+m)).toList,p∈a₀.toList:=λp hp=>hm p (by rw[aQ]at hp;exact Qcy (Qcx hp))
 have hf:∀e∈((arrOf st).extract ((pre:)+k) ((pre:)+(x:))).toList,∀q,((arrOf st).extract ((pre:)+(x:)) ((pre:)+(x:)+m))[0]? =some q->lt e q=false:=λe he q hq=>by
  rw[ex]at he
  rw[<-Qba,ey,Qay (),VR]at hq
  rw[<-Qad hq]
  exact b2 e he
 have hl:∀z,((arrOf st).extract ((pre:)+k) ((pre:)+(x:)))[((arrOf st).extract ((pre:)+k) ((pre:)+(x:))).size - 1]? =some z->∀e∈((arrOf st).extract ((pre:)+(x:)) ((pre:)+(x:)+m)).toList,lt z e=false:=λz K1 e he=>by
  rw[ey]at he
  rw[<-Qba,ex,sX,Qbj,show k+((x:) - k - 1)=(x:) - 1 by lia,Eo]at K1
  rw[<-Qad K1]
  exact c1 e he
 have ef:(failedOf st).isNone=true:=by rw[hB.failed];rfl
 have Uk:∀(out:Array Keyed) (g:Nat),iV lt ((arrOf st).extract ((pre:)+k) ((pre:)+(x:))) ((arrOf st).extract ((pre:)+(x:)) ((pre:)+(x:)+m)) out->Q true (SortSt.mk' (kindOf st) (out.toList.zipIdx.foldl (λa q=>match q with | (p,j)=>a.setIfInBounds ((pre:)+k+j) p) (arrOf st)) (((pendingOf st).setIfInBounds i ((pre:),(x:)+(y:),pw)).eraseIdxIfInBounds (i+1)) g (failedOf st)):=λout g ⟨hp,hs⟩=>by
  have vq:=hp
  rw[ex,ey]at vq
  have AX:(out.toList:)=(x:) - k+m:=by rw[vq.length_eq,QD,Qaz,Qaa];lia
  have el:=rB ((pre:)+k) out.toList 0 (arrOf st) ()
  rw[Qdd,AX,show (pre:)+k+((x:) - k+m)=(pre:)+(x:)+m by lia]at el
  have e1:(arrOf st).toList.take ((pre:)+k)=pre++x.take k:=by
   rw[ea,VI,VI,List.take_append,Qae (),Qbl,Qbk JO]
  have e2:(arrOf st).toList.drop ((pre:)+(x:)+m)=y.drop m++post:=by
   rw[ea, <-QD,VI (pre++x),Qgm,Qbn (),Qec,Qbl,Qeq yW]
  rw[e1,e2]at el
  refine h _ (x.take k++out.toList++y.drop m) ⟨(Ek (arr:=arrOf st) (x:=(pre:)+k) (y:=(pre:)+(x:)) (z:=(pre:)+(x:)+m) () () () hp).trans hB.perm,hB.kind,hB.failed⟩ rfl ?_ (En L sx sy VR Eo b1 c2 vq hs) ?_
  ·refine ((Qb8 _ vq).append_right _).trans ?_
   rw[<-VI,Qal,VI,Qal]
  ·refine el.trans ?_
   simp only[VI]
 refine aF (λ_=>?_) (λ_=>?_)
 ·refine wpS_bind (OS L C hB.kind mx my (show 1<=((arrOf st).extract ((pre:)+k) ((pre:)+(x:))).size by lia) (show 1<=((arrOf st).extract ((pre:)+(x:)) ((pre:)+(x:)+m)).size by lia) (by rw[ex];exact sxk) (by rw[ey];exact sym) hf hl λout aR hg OV=>?_)
  obtain ⟨g0,rfl⟩:=hg
  refine wpS_bind (wpS_modify (wpS_bind (wpS_get (wpS_pure ?_))))
  show Q ((failedOf st).isNone) _
  rw[ef]
  exact Uk out g0 OV
 ·refine wpS_bind (OU L C hB.kind mx my (show 1<=((arrOf st).extract ((pre:)+k) ((pre:)+(x:))).size by lia) (show 1<=((arrOf st).extract ((pre:)+(x:)) ((pre:)+(x:)+m)).size by lia) (by rw[ex];exact sxk) (by rw[ey];exact sym) hf hl λout aR hg OV=>?_)
  obtain ⟨g0,rfl⟩:=hg
  refine wpS_bind (wpS_modify (wpS_bind (wpS_get (wpS_pure ?_))))
  show Q ((failedOf st).isNone) _
  rw[ef]
  exact Uk out g0 OV
theorem OW{st:SortSt}{pre x rest:List Keyed}{n:Nat}{Q:Bool->SortSt->Prop}(L:g_ lt)(C:lE prog w A E s kd lt a₀)(hB:kU kd a₀ st)(ea:(arrOf st).toList=pre++x++rest)(hx:x≠[])(sx:cZ lt x)(hn:n<=(x:)+(rest:))(hxn:(x:)<=n)
  (h:∀aR z Ul,kU kd a₀ aR->pendingOf aR=pendingOf st->(arrOf aR).toList=pre++z++Ul->(z:)=n->cZ lt z->Q true aR):wpS (model prog w) A E s (binarySort' (pre:) n (x:)) Q st:=by
 have lx:=ZJ.mpr hx
 refine wpS_bind (wpS_mono (wpS_forRange (I:=λk c aR=>c=(none,Unit.unit)/\kU kd a₀ aR/\pendingOf aR=pendingOf st/\∃z r,(arrOf aR).toList=pre++z++r/\(z:)=k/\(z:)+(r:)=(x:)+(rest:)/\cZ lt z) (Q:=λc aR=>c=(none,Unit.unit)/\kU kd a₀ aR/\pendingOf aR=pendingOf st/\∃z r,(arrOf aR).toList=pre++z++r/\(z:)=n/\cZ lt z) ?_ ?_ ⟨rfl,hB,rfl,x,rest,ea,(),rfl,sx⟩) ?_)
 ·rintro k c dQ hak hkn ⟨rfl,Aa,e1,z,r,ez,Um,X9,sz⟩
  obtain ⟨q,r',rfl⟩:∃q r',r=q::r':=by
   cases r with
   | nil=>simp at X9;lia
   | cons q r'=>exact ⟨q,r',rfl⟩
  have atq:(arrOf dQ).toList[(pre:)+k]? =some q:=by
   rw[ez, <-Um, <-QD,Qav (ZH _),Qdl];rfl
  have atz:∀j,j<k->(arrOf dQ).toList[(pre:)+j]? =z[j]?:= λj hj=>by rw[ez,jR ()]
  refine wpS_bind (wpS_mono (wpS_forRange (I:=λy c aR=>aR=dQ/\∃l r,c=(none,l,r)/\l<=r/\r<=k/\r - l+y<=k/\(∀e∈z.take l,lt q e=false)/\(∀e∈z.drop r,lt e q=false)) (Q:=λc aR=>aR=dQ/\∃l r,c=(none,l,r)/\l<=k/\(∀e∈z.take l,lt q e=false)/\(∀e∈z.drop l,lt e q=false)) ?_ ?_ ⟨rfl,0,k,rfl,(),(),(),by simp,λe he=>by rw[Qbn ()]at he;cases he⟩) ?_)
  ·rintro y c jE _ hy ⟨rfl,l,r,rfl,b1,b2,b3,b4,b5⟩
   walk_at"O"
   ·have g':l ≥ r:=g
    have:l=r:=by lia
    subst this
    exact wpS_pure ⟨rfl,l,l,rfl,b2,b4,b5⟩
   have g': ¬l ≥ r:=g
   have hm:(l+r) / 2<(z:):=by lia
   have em:=Of hm
   refine wpS_bind (oe C Aa atq (show (arrOf jE).toList[(pre:)+(l+r) / 2]? =some z[(l+r) / 2] by rw[atz _ ()];exact em) ?_)
   cases e2:lt q z[(l+r) / 2] with
   | true=>exact wpS_pure ⟨rfl,l,(l+r) / 2,rfl,(),(),(),b4,iu L sz em (L.md _ _ e2)⟩
   | false=>exact wpS_pure ⟨rfl,(l+r) / 2+1,r,rfl,(),b2,(),iw L sz em e2,b5⟩
  ·rintro c jE ⟨e,l,r,rfl,b1,b2,b3,b4,b5⟩
   have:l=r:=by lia
   subst this
   exact ⟨e,l,l,rfl,b2,b4,b5⟩
  ·rintro c jE ⟨rfl,l,r,rfl,b2,b4,b5⟩
   have eb:=G5 (l:=l) ez ()
   rw[Um]at eb
   have hp:(bubble (arrOf jE) ((pre:)+k) ((pre:)+k - ((pre:)+l))).toList.Perm (arrOf jE).toList:=Qb3.mp (bubble_perm _ _ _)
   refine wpS_bind (wpS_modify (wpS_pure ⟨rfl,Aa.set hp,e1,z.take l++q::z.drop l,r',eb,?_,?_,?_⟩))
   ·rw[QD,Qa5,Qaa,Qaz];lia
   ·rw[QD,Qa5,Qaa,Qaz]
    rw[Qa5]at X9
    lia
   ·have s1:cZ lt (z.take l++z.drop l):=by rw[Qal];exact sz
    have:=gv (x:=z.take l) (c:=[q]) (y:=z.drop l) s1 (kG (ir s1) (Qcb _ _) λe he f hf=>by rw[ZI.mp hf];exact b4 e he) λe he f hf=>by rw[ZI.mp he];exact b5 f hf
    rw[VI]at this
    exact this
 ·rintro c dQ ⟨e,Aa,e1,z,r,ez,Um,X9,sz⟩
  exact ⟨e,Aa,e1,z,r,ez,(),sz⟩
 ·rintro c dQ ⟨rfl,Aa,e1,z,r,ez,Um,sz⟩
  exact wpS_pure (h dQ z r Aa e1 ez Um sz)
theorem yX(L:g_ lt){l:List Keyed}{n:Nat}{p q:Keyed}(hs:cZ lt (l.take n))(h1:1<=n)(hp:l[n - 1]? =some p)(hq:l[n]? =some q)(hle:lt q p=false):cZ lt (l.take (n+1)):=by
 rw[fA hq]
 have hn:=(Og.mp hq).1
 refine kG hs (Qcb _ _) λe he f hf=>?_
 rw[ZI.mp hf]
 have hlen:(l.take n:)=n:=by rw[Qaa];lia
 exact le_last L hs (by rw[hlen,Qay ()];exact hp) hle e he
def Ep(lt:Keyed->Keyed->Bool)(l:List Keyed):Prop:=l.Pairwise λp q=>lt p q=false
theorem K2{l:List Keyed}(h:Ep lt l):cZ lt l.reverse:=List.pairwise_reverse.mpr h
theorem rD(L:g_ lt){l:List Keyed}{n:Nat}{p q:Keyed}(hs:Ep lt (l.take n))(h1:1<=n)(hp:l[n - 1]? =some p)(hq:l[n]? =some q)(hle:lt p q=false):Ep lt (l.take (n+1)):=by
 rw[fA hq]
 have hn:=(Og.mp hq).1
 refine Qa6.mpr ⟨hs,Qcb _ _,λe he f hf=>?_⟩
 rw[ZI.mp hf]
 obtain ⟨j,hj⟩:=Qc7 he
 have hj1:=(Og.mp hj).1
 have hlen:(l.take n:)=n:=by rw[Qaa];lia
 rcases Nat.lt_or_ge j (n - 1) with g | g
 ·have hpp:(l.take n)[n - 1]? =some p:=by rw[Qay ()];exact hp
  have h2:=Og.mp hj
  have h3:=Og.mp hpp
  have:=(Qcq.mp hs) j (n - 1) h2.1 h3.1 g
  rw[h2.2,h3.2]at this
  exact L.tr q p e hle this
 ·have:j=n - 1:=by lia
  subst this
  rw[Qay (),hp]at hj
  cases hj
  exact hle
theorem Uo{P X:SortSt->Prop}{G:Prop}(f:(∀st,P st->X st)->G)(x:∀st,P st->X st):G:=f x
def JS(lt:Keyed->Keyed->Bool)(l:List Keyed):Prop:=∀p∈l,∀q∈l,lt p q=false
theorem JS.dsc{l:List Keyed}(h:JS lt l):Ep lt l:=Qcq.mpr λi j hi hj _=>h _ (Qb0 hi) _ (Qb0 hj)
theorem G6{u v:List Keyed}(h:Ep lt (u++v))(hv:JS lt v):Ep lt (u++v.reverse):=by
 obtain ⟨h1,_,h3⟩:=Qa6.mp h
 exact Qa6.mpr ⟨h1,JS.dsc λp hp q hq=>hv p (Qb4.mp hp) q (Qb4.mp hq),λe he f hf=>h3 e he f (Qb4.mp hf)⟩
theorem g_.JR(L:g_ lt)(p:Keyed):lt p p=false:=by
 cases h:lt p p with
 | false=>rfl
 | true=>rw[L.md _ _ h]at h;cases h
theorem rev_last{st:SortSt}{pre R:List Keyed}{x n:Nat}(ea:(arrOf st).toList=pre++R)(hx:x<=R.length)(hn:n<=x)(d:Ep lt (R.take x))(al:JS lt ((R.take x).drop (x - n))):
  ∃R',(mirror (arrOf st) ((pre:)+x - n) ((pre:)+x) (((pre:)+x - ((pre:)+x - n)) / 2)).toList=pre++R'/\R'.length=R.length/\Ep lt (R'.take x)/\(∀j,x<=j->R'[j]? =R[j]?)/\∀p∈R'.take x,p∈R.take x:=by
 have X_:(R.take x:)=x:=by rw[Qaa];lia
 have hu:((R.take x).take (x - n):)=x - n:=by rw[Qaa,X_];lia
 have hv:((R.take x).drop (x - n):)=n:=by rw[Qaz,X_];lia
 have e0:(arrOf st).toList=(pre++(R.take x).take (x - n))++(R.take x).drop (x - n)++R.drop x:=by
  rw[VI pre,Qal,VI,Qal];exact ea
 have er:=rC e0
 rw[QD,hu,hv,show (pre:)+(x - n)=(pre:)+x - n by lia,show (pre:)+x - n+n=(pre:)+x by lia]at er
 refine ⟨(R.take x).take (x - n)++((R.take x).drop (x - n)).reverse++R.drop x,by rw[er];simp only[VI],?_,?_,λj hj=>?_,λp hp=>?_⟩
 ·rw[QD,QD,Qat,hu,hv,Qaz];lia
 ·rw[Qbk (by rw[QD,Qat,hu,hv];lia),Qae (by rw[QD,Qat,hu,hv];lia)]
  exact G6 (by rw[Qal];exact d) al
 ·rw[Qav (by rw[QD,Qat,hu,hv];lia),QD,Qat,hu,hv,Qbj]
  congr 1
  lia
 ·rw[Qbk (by rw[QD,Qat,hu,hv];lia)]at hp
  have rh:=Qcx hp
  rcases Qao.mp rh with g | g
  ·exact Qcx g
  ·exact Qcy (Qb4.mp g)
theorem OX{st:SortSt}{pre rest:List Keyed}{Q:Option Nat->SortSt->Prop}(L:g_ lt)(C:lE prog w A E s kd lt a₀)(hB:kU kd a₀ st)(ea:(arrOf st).toList=pre++rest)(h1:1<=(rest:))
  (h:∀m aR x r,kU kd a₀ aR->pendingOf aR=pendingOf st->(arrOf aR).toList=pre++x++r->(x:)=m->1<=m->(x:)+(r:)=(rest:)->cZ lt x->Q (some m) aR):wpS (model prog w) A E s (countRun' (pre:) (rest:)) Q st:=by
 have at_:∀j,(arrOf st).toList[(pre:)+j]? =rest[j]?:= λj=>by rw[ea,w9]
 have fin:∀n,1<=n->n<=(rest:)->cZ lt (rest.take n)->Q (some n) st:=λn g1 g2 g3=>h n st (rest.take n) (rest.drop n) hB rfl (by rw[VI,Qal];exact ea) (by rw[Qaa];lia) g1 (by rw[Qaa,Qaz];lia) g3
 refine wpS_bind (wpS_mono (wpS_forRange (I:=λx c aR=>aR=st/\c=(none,x)/\cZ lt (rest.take x)) (Q:=λc aR=>aR=st/\∃n,c=(none,n)/\1<=n/\n<=(rest:)/\cZ lt (rest.take n)/\(n=(rest:)\/∃p q,rest[n - 1]? =some p/\rest[n]? =some q/\lt q p=true)) ?_ ?_ ⟨rfl,rfl,?_⟩) ?_)
 ·rintro x c dQ VS hx ⟨rfl,rfl,sx⟩
  have e1:rest[x - 1]? =some rest[x - 1]:=Of ()
  have e2:rest[x]? =some rest[x]:=Of hx
  refine wpS_bind (oe C hB (show (arrOf dQ).toList[(pre:)+x]? =some rest[x] by rw[at_];exact e2) (show (arrOf dQ).toList[(pre:)+x - 1]? =some rest[x - 1] by rw[show (pre:)+x - 1=(pre:)+(x - 1) by lia,at_];exact e1) ?_)
  cases e3:lt rest[x] rest[x - 1] with
  | true=>exact wpS_pure ⟨rfl,x,rfl,VS,(),sx,.inr ⟨_,_,e1,e2,e3⟩⟩
  | false=>exact wpS_pure ⟨rfl,rfl,yX L sx VS e1 e2 e3⟩
 ·rintro c dQ ⟨e,rfl,sx⟩
  have em:max 1 (rest:)=(rest:):=by lia
  rw[em]at sx
  exact ⟨e,max 1 (rest:),rfl,(),(),by rw[em];exact sx,.inl em⟩
 ·rw[show rest.take 1=[rest[0]] by
   cases rest with
   | nil=>simp at h1
   | cons a r=>rfl]
  exact Qcb _ _
 ·rintro c dQ ⟨rfl,n,rfl,QF,tY,sn,hor⟩
  refine aF (λg=>wpS_pure (fin n QF tY sn)) (λg=>?_)
  have g': ¬n=(rest:):=λe=>g (by simpa using e)
  obtain ⟨p,q,ep,eq,elt⟩:=hor.resolve_left g'
  have e0:rest[0]? =some rest[0]:=Of ()
  have D7:(rest.take n:)=n:=by rw[Qaa];lia
  apply Uo (P:=λaR=>∃R,kU kd a₀ aR/\pendingOf aR=pendingOf dQ/\(arrOf aR).toList=pre++R/\R.length=(rest:)/\Ep lt (R.take (n+1)))
  ·intro key
   refine aF (λg2=>wpS_bind (oe C hB (show (arrOf dQ).toList[(pre:)]? =some rest[0] by have:=at_ 0;rw[Qdd]at this;rw[this];exact e0) (show (arrOf dQ).toList[(pre:)+n - 1]? =some p by rw[show (pre:)+n - 1=(pre:)+(n - 1) by lia,at_];exact ep) ?_)) (λg2=>?_)
   ·have VP:n>1:=g2
    cases z:lt rest[0] p with
    | true=>exact aF (λ_=>wpS_pure (fin n QF tY sn)) (λz=>absurd rfl z)
    | false=>
     refine aF (λz=>absurd z Qan) (λ_=>?_)
     have low:∀e∈rest.take n,lt e rest[0]=false:=λe he=>by
      obtain ⟨j,hj⟩:=Qc7 he
      rcases Nat.eq_zero_or_pos j with z0 | z0
      ·subst z0
       rw[Qay (),e0]at hj
       cases hj
       exact L.JR _
      ·exact A0 sn (i:=0) (j:=j) z0 (by rw[Qay ()];exact e0) hj
     have high:∀e∈rest.take n,lt p e=false:=λe he=>by
      obtain ⟨j,hj⟩:=Qc7 he
      have hjn:=(Og.mp hj).1
      rw[D7]at hjn
      rcases Nat.lt_or_ge j (n - 1) with z1 | z1
      ·exact A0 sn (i:=j) (j:=n - 1) z1 hj (by rw[Qay ()];exact ep)
      ·have:j=n - 1:=by lia
       subst this
       rw[Qay (),ep]at hj
       cases hj
       exact L.JR _
     have al:JS lt (rest.take n):=λe he f hf=>L.tr f rest[0] e (L.tr f p rest[0] (high f hf) z) (low e he)
     have er:(mirror (arrOf dQ) (pre:) ((pre:)+n) (((pre:)+n - (pre:)) / 2)).toList=pre++(rest.take n).reverse++rest.drop n:=by
      have:=rC (arr:=arrOf dQ) (pre:=pre) (x:=rest.take n) (post:=rest.drop n) (by rw[VI,Qal];exact ea)
      rw[D7]at this
      exact this
     have hp:(mirror (arrOf dQ) (pre:) ((pre:)+n) (((pre:)+n - (pre:)) / 2)).toList.Perm (arrOf dQ).toList:=Qb3.mp (mirror_perm _ _ _ _)
     refine wpS_bind (wpS_reverse ?_)
     have OY:=hB.set hp
     generalize e7:setArr dQ (mirror (arrOf dQ) (pre:) ((pre:)+n) (((pre:)+n - (pre:)) / 2))=jE at OY
     have Ya:(arrOf jE).toList=pre++((rest.take n).reverse++rest.drop n):=by rw[<-e7, <-VI];exact er
     have Yb:pendingOf jE=pendingOf dQ:=by rw[<-e7]
     refine key jE ⟨_,OY,Yb,Ya,by rw[QD,Qat,D7,Qaz];lia,?_⟩
     have hlr:(rest.take n).reverse.length=n:=by rw[Qat];exact D7
     have t1:((rest.take n).reverse++rest.drop n).take (n+1)=(rest.take n).reverse++[q]:=by
      rw[List.take_append,Qae (),hlr,show n+1 - n=1 by lia]
      congr 1
      have:(rest.drop n)[0]? =some q:=by rw[Qbj];exact eq
      cases hd:rest.drop n with
      | nil=>rw[hd]at this;cases this
      | cons a r=>rw[hd]at this;cases this;rfl
     rw[t1]
     refine Qa6.mpr ⟨JS.dsc λe he f hf=>al e (Qb4.mp he) f (Qb4.mp hf),Qcb _ _,λe he f hf=>?_⟩
     rw[ZI.mp hf]
     exact L.tr q rest[0] e (L.tr q p rest[0] (L.md _ _ elt) z) (low e (Qb4.mp he))
   ·have VP: ¬n>1:=g2
    refine key dQ ⟨rest,hB,rfl,ea,rfl,?_⟩
    have en:n=1:=by lia
    subst en
    have d1:Ep lt (rest.take 1):=by
     rw[show rest.take 1=[rest[0]] by
      cases rest with
      | nil=>simp at h1
      | cons a r=>rfl]
     exact Qcb _ _
    exact rD L d1 (ZH _) ep eq (L.md _ _ elt)
  ·rintro jE ⟨R2,OY,Yb,Ya,l2,d2⟩
   walk_at"v"
   have one:∀{R:List Keyed} {x:Nat},x<R.length->JS lt ((R.take (x+1)).drop (x+1 - (0+1))):=λ{R x} hx p hp q hq=>by
    have e:(R.take (x+1)).drop (x+1 - (0+1))=[R[x]]:=by
     rw[fA (Of hx),show x+1 - (0+1)=(R.take x:) by rw[Qaa];lia,Qfz]
    rw[e]at hp hq
    rw[ZI.mp hp,ZI.mp hq]
    exact L.JR _
   refine wpS_bind (wpS_mono (wpS_forRange (I:=λx c aR=>∃R og,c=(none,x,og)/\kU kd a₀ aR/\pendingOf aR=pendingOf dQ/\(arrOf aR).toList=pre++R/\R.length=(rest:)/\Ep lt (R.take x)/\og+1<=x/\JS lt ((R.take x).drop (x - (og+1))))
    (Q:=λc aR=>∃R m og,c=(none,m,og)/\kU kd a₀ aR/\pendingOf aR=pendingOf dQ/\(arrOf aR).toList=pre++R/\R.length=(rest:)/\n+1<=m/\m<=(rest:)/\Ep lt (R.take m)/\og+1<=m/\JS lt ((R.take m).drop (m - (og+1)))) ?_ ?_ ⟨R2,0,rfl,OY,Yb,Ya,l2,d2,(),one ()⟩) ?_)
   ·rintro x c ui hax hx ⟨R,og,rfl,yY,G7,JT,l4,dx,dE,al⟩
    have Yc:n+1<=x:=hax
    have Eo:x<R.length:=by lia
    have at4:∀j,(arrOf ui).toList[(pre:)+j]? =R[j]?:= λj=>by rw[JT,w9]
    have e1:R[x - 1]? =some (R[x - 1]'()):=Of ()
    have e2:R[x]? =some R[x]:=Of Eo
    have a1:(arrOf ui).toList[(pre:)+x]? =some R[x]:=by rw[at4];exact e2
    have a2:(arrOf ui).toList[(pre:)+x - 1]? =some (R[x - 1]'()):=by rw[show (pre:)+x - 1=(pre:)+(x - 1) by lia,at4];exact e1
    refine wpS_bind (oe C yY a1 a2 ?_)
    cases e3:lt R[x] (R[x - 1]'()) with
    | true=>
     have dn:=rD L dx () e1 e2 (L.md _ _ e3)
     refine aF (λ_=>?_) (λz=>absurd rfl z)
     refine aF (λz=>?_) (λ_=>wpS_pure ⟨R,0,rfl,yY,G7,JT,l4,dn,(),one Eo⟩)
     obtain ⟨R',er,lr,dr,ar,mr⟩:=rev_last (st:=ui) JT () dE dx al
     have hp:(mirror (arrOf ui) ((pre:)+x - (og+1)) ((pre:)+x) (((pre:)+x - ((pre:)+x - (og+1))) / 2)).toList.Perm (arrOf ui).toList:=Qb3.mp (mirror_perm _ _ _ _)
     refine wpS_bind (wpS_reverse (wpS_pure ?_))
     have Ye:x<R'.length:=by lia
     refine ⟨R',0,rfl,yY.set hp,G7,er,(),?_,(),one Ye⟩
     rw[fA (show R'[x]? =some R[x] by rw[ar x (ZH _)];exact e2)]
     refine Qa6.mpr ⟨dr,Qcb _ _,λe he f hf=>?_⟩
     rw[ZI.mp hf]
     rw[fA e2]at dn
     exact (Qa6.mp dn).2.2 e (mr e he) _ (ZI.mpr rfl)
    | false=>
     refine aF (λz=>absurd z Qan) (λ_=>?_)
     refine wpS_bind (oe C yY a2 a1 ?_)
     cases e4:lt (R[x - 1]'()) R[x] with
     | true=>exact aF (λ_=>wpS_pure ⟨R,x,og,rfl,yY,G7,JT,l4,Yc,(),dx,dE,al⟩) (λz=>absurd rfl z)
     | false=>
      refine aF (λz=>absurd z Qan) (λ_=>wpS_pure ⟨R,og+1,rfl,yY,G7,JT,l4,rD L dx () e1 e2 e4,(),?_⟩)
      have hl:(R.take x:)=x:=by rw[Qaa];lia
      have et:(R.take (x+1)).drop (x+1 - (og+1+1))=(R.take x).drop (x - (og+1))++[R[x]]:=by
       rw[fA e2,show x+1 - (og+1+1)=x - (og+1) by lia,Qeq ()]
      have MV:(R[x - 1]'())∈(R.take x).drop (x - (og+1)):=by
       refine Qac (i:=og) ?_
       rw[Qbj,Qay (),show x - (og+1)+og=x - 1 by lia]
       exact e1
      rw[et]
      intro e he f hf
      rcases Qao.mp he with ge | ge
      ·rcases Qao.mp hf with gf | gf
       ·exact al e ge f gf
       ·rw[ZI.mp gf]
        exact L.tr _ _ _ e4 (al e ge _ MV)
      ·rw[ZI.mp ge]
       rcases Qao.mp hf with gf | gf
       ·exact L.tr _ _ _ (al _ MV f gf) e3
       ·rw[ZI.mp gf];exact L.JR _
   ·rintro c ui ⟨R,og,rfl,yY,G7,JT,l4,dx,dE,al⟩
    have em:max (n+1) (rest:)=(rest:):=by lia
    exact ⟨R,max (n+1) (rest:),og,rfl,yY,G7,JT,l4,(),(),dx,dE,al⟩
   ·rintro c ui ⟨R,m,og,rfl,yY,G7,JT,l4,GV,yW,dm,dE,al⟩
    apply Uo (P:=λaR=>∃R,kU kd a₀ aR/\pendingOf aR=pendingOf dQ/\(arrOf aR).toList=pre++R/\R.length=(rest:)/\Ep lt (R.take m))
    ·intro key
     refine aF (λz=>?_) (λ_=>key ui ⟨R,yY,G7,JT,l4,dm⟩)
     obtain ⟨R',er,lr,dr,_,_⟩:=rev_last (st:=ui) JT () dE dm al
     have hp:(mirror (arrOf ui) ((pre:)+m - (og+1)) ((pre:)+m) (((pre:)+m - ((pre:)+m - (og+1))) / 2)).toList.Perm (arrOf ui).toList:=Qb3.mp (mirror_perm _ _ _ _)
     refine wpS_bind (wpS_reverse ?_)
     have pj:=yY.set hp
     generalize e7:setArr ui (mirror (arrOf ui) ((pre:)+m - (og+1)) ((pre:)+m) (((pre:)+m - ((pre:)+m - (og+1))) / 2))=nK at pj
     exact key nK ⟨R',pj,by rw[<-e7];exact G7,by rw[<-e7];exact er,(),dr⟩
    ·rintro ui ⟨iA,hB,G7,ea,l4,dm⟩
     have Up:(iA.take m:)=m:=by rw[Qaa];lia
     have er:(mirror (arrOf ui) (pre:) ((pre:)+m) (((pre:)+m - (pre:)) / 2)).toList=pre++(iA.take m).reverse++iA.drop m:=by
      have:=rC (arr:=arrOf ui) (pre:=pre) (x:=iA.take m) (post:=iA.drop m) (by rw[VI,Qal];exact ea)
      rw[Up]at this
      exact this
     have hp:(mirror (arrOf ui) (pre:) ((pre:)+m) (((pre:)+m - (pre:)) / 2)).toList.Perm (arrOf ui).toList:=Qb3.mp (mirror_perm _ _ _ _)
     refine wpS_bind (wpS_reverse ?_)
     have Yf:=hB.set hp
     generalize e7:setArr ui (mirror (arrOf ui) (pre:) ((pre:)+m) (((pre:)+m - (pre:)) / 2))=Uq at Yf
     have Yg:(arrOf Uq).toList=pre++((iA.take m).reverse++iA.drop m):=by rw[<-e7, <-VI];exact er
     have ep7:pendingOf Uq=pendingOf dQ:=by rw[<-e7];exact G7
     have s7:cZ lt (((iA.take m).reverse++iA.drop m).take m):=by
      rw[Qbk (by rw[Qat];lia),Qae (by rw[Qat];lia)]
      exact K2 dm
     have l7:((iA.take m).reverse++iA.drop m:)=(rest:):=by rw[QD,Qat,Qaa,Qaz];lia
     generalize (iA.take m).reverse++iA.drop m=R at Yg s7 l7
     have at7:∀j,(arrOf Uq).toList[(pre:)+j]? =R[j]?:= λj=>by rw[Yg,w9]
     refine wpS_bind (wpS_mono (wpS_forRange (I:=λx c aR=>aR=Uq/\c=(none,x)/\cZ lt (R.take x)) (Q:=λc aR=>aR=Uq/\∃k,c=(none,k)/\1<=k/\k<=(rest:)/\cZ lt (R.take k)) ?_ ?_ ⟨rfl,rfl,s7⟩) ?_)
     ·rintro x c Ur VS hx ⟨rfl,rfl,sx⟩
      have aan:m<=x:=VS
      have e1:R[x - 1]? =some (R[x - 1]'()):=Of ()
      have e2:R[x]? =some (R[x]'()):=Of ()
      refine wpS_bind (oe C Yf (show (arrOf Ur).toList[(pre:)+x]? =some (R[x]'()) by rw[at7];exact e2) (show (arrOf Ur).toList[(pre:)+x - 1]? =some (R[x - 1]'()) by rw[show (pre:)+x - 1=(pre:)+(x - 1) by lia,at7];exact e1) ?_)
      cases e3:lt (R[x]'()) (R[x - 1]'()) with
      | true=>exact wpS_pure ⟨rfl,x,rfl,(),(),sx⟩
      | false=>exact wpS_pure ⟨rfl,rfl,yX L sx () e1 e2 e3⟩
     ·rintro c Ur ⟨e,rfl,sx⟩
      exact ⟨e,max m (rest:),rfl,(),(),sx⟩
     ·rintro c Ur ⟨rfl,k,rfl,tR,nZ,sk⟩
      exact wpS_pure (h k Ur (R.take k) (R.drop k) Yf ep7 (by rw[VI,Qal];exact Yg) (by rw[Qaa];lia) tR (by rw[Qaa,Qaz];lia) sk)
end
noncomputable def spans:Nat->List (List Keyed)->List (Nat×Nat)
 | _,[]=>[]
 | a,l::r=>(a,(l:))::spans (a+(l:)) r
theorem kH:∀(b1 b2:List (List Keyed)) (a:Nat),spans a (b1++b2)=spans a b1++spans (a+(b1.flatten:)) b2
 | [],b2,a=>by simp[spans]
 | l::b1,b2,a=>by
  show (a,(l:))::spans (a+(l:)) (b1++b2)=(a,(l:))::(spans (a+(l:)) b1++spans (a+(l++b1.flatten:)) b2)
  rw[kH b1 b2,QD,Qeo]
theorem oh:∀(bl:List (List Keyed)) (a:Nat),(spans a bl:)=(bl:)
 | [],a=>rfl
 | l::r,a=>by show (spans (a+(l:)) r:)+1=(r:)+1;rw[oh r]
structure ym(lt:Keyed->Keyed->Bool)(st:SortSt)(bl:List (List Keyed))(rest:List Keyed):Prop where
 arr:(arrOf st).toList=bl.flatten++rest
 K3:cp (pendingOf st)=spans 0 bl
 ok:∀l∈bl,l≠[]/\cZ lt l
theorem Cv{P:Array (Nat×Nat×Nat)}{i:Nat}(pw:Nat):cp (P.modify i λx=>match x with | (st,len,_)=>(st,len,pw))=cp P:=by
 unfold cp
 refine Qdx λj=>?_
 rw[Qas,Qas,Qba,Qba,Array.getElem?_modify]
 by_cases z:i=j
 ·rw[if_pos z]
  cases P[j]?<;> rfl
 ·rw[if_neg z]
theorem ym.MW{lt:Keyed->Keyed->Bool}{st:SortSt}{bl:List (List Keyed)}{rest:List Keyed}(h:ym lt st bl rest):(pendingOf st).size=(bl:):=by
 have:=congrArg List.length h.K3
 unfold cp at this
 rw[kb,Qa7,oh]at this
 exact this
theorem ym.jS{lt:Keyed->Keyed->Bool}{st:SortSt}{bl:List (List Keyed)}{rest:List Keyed}(h:ym lt st bl rest):(bl:)<=(bl.flatten:):=by
 have key:∀bl:List (List Keyed),(∀l∈bl,l≠[])->(bl:)<=(bl.flatten:):=by
  intro bl
  induction bl with
  | nil=>intro _;exact ZH _
  | cons l r ih=>
   intro hn
   have h1:=ZJ.mpr (hn l Qai)
   have h2:=ih λl hl=>hn l (Qaf _ hl)
   rw[Qb6,QD,Qa5]
   lia
 exact key bl λl hl=>(h.ok l hl).1
section
variable{prog:Program}{w:World}{A:Around}{E:Value->Shared->Prop}{s:Shared}{kd:SortKind}{lt:Keyed->Keyed->Bool}{a₀:Array Keyed}
theorem A3{st:SortSt}{i:Nat}{bl:List (List Keyed)}{rest:List Keyed}{Q:Bool->SortSt->Prop}(L:g_ lt)(C:lE prog w A E s kd lt a₀)(hB:kU kd a₀ st)(hb:ym lt st bl rest)(hi:i+1<(pendingOf st).size)
  (h:∀aR w_,kU kd a₀ aR->ym lt aR w_ rest->(w_.flatten:)=(bl.flatten:)->(w_:)+1=(bl:)->Q true aR):wpS (model prog w) A E s (mergeAt' i) Q st:=by
 have A4:=hb.MW
 have ex:bl[i]? =some (bl[i]'()):=Of _
 have ey:bl[i+1]? =some (bl[i+1]'()):=Of _
 generalize hx:(bl[i]'())=x at ex
 generalize hy:(bl[i+1]'())=y at ey
 have e0:=OP ex ey
 have l1:(bl.take i:)=i:=by rw[Qaa];lia
 generalize bl.take i=b1 at e0 l1
 generalize bl.drop (i+2)=b2 at e0
 subst e0
 obtain ⟨⟨sa,na,pw⟩,q1⟩:∃v,(pendingOf st)[i]? =some v:=⟨_,getElem?_pos (pendingOf st) i ()⟩
 obtain ⟨⟨sb,nb,X6⟩,q2⟩:∃v,(pendingOf st)[i+1]? =some v:=⟨_,getElem?_pos (pendingOf st) (i+1) hi⟩
 have p1:(pendingOf st).toList[i]? =some (sa,na,pw):=by simpa using q1
 have p2:(pendingOf st).toList[i+1]? =some (sb,nb,X6):=by simpa using q2
 have sp:spans 0 (b1++x::y::b2)=spans 0 b1++((b1.flatten:),(x:))::((b1.flatten:)+(x:),(y:))::spans ((b1.flatten:)+(x:)+(y:)) b2:=by rw[kH,Qc1];rfl
 have ls:(spans 0 b1:)=i:=by rw[oh];exact l1
 have c1:(cp (pendingOf st))[i]? =some (sa,na):=by unfold cp;rw[Qas,p1];rfl
 have c2:(cp (pendingOf st))[i+1]? =some (sb,nb):=by unfold cp;rw[Qas,p2];rfl
 rw[hb.K3,sp]at c1 c2
 rw[Qav (),ls,Qdl]at c1
 rw[Qav (),ls,Qbl]at c2
 have d1:(b1.flatten:)=sa/\(x:)=na:=by cases c1;exact ⟨rfl,rfl⟩
 have d2:(b1.flatten:)+(x:)=sb/\(y:)=nb:=by cases c2;exact ⟨rfl,rfl⟩
 rw[<-d1.1, <-d1.2]at q1
 rw[<-d2.1, <-d2.2]at q2
 have Yh:=hb.ok x (by simp)
 have oky:=hb.ok y (by simp)
 refine A2 (pre:=b1.flatten) (x:=x) (y:=y) (post:=b2.flatten++rest) L C hB q1 q2 (by rw[hb.arr];simp) Yh.1 oky.1 Yh.2 oky.2 λaR z hB' ep pz sz ea=>?_
 have lz:(z:)=(x:)+(y:):=by rw[pz.length_eq,QD]
 refine h aR (b1++z::b2) hB' ⟨by rw[ea];simp,?_,λl hl=>?_⟩ (by simp[lz];lia) (by simp;lia)
 ·unfold cp
  rw[ep,Array.toList_eraseIdxIfInBounds,Array.toList_setIfInBounds,KY p1 p2,Qak,Qa0]
  have t1:(cp (pendingOf st)).take i=spans 0 b1:=by rw[hb.K3,sp,Qbk (),Qae ()]
  have t2:(cp (pendingOf st)).drop (i+2)=spans ((b1.flatten:)+(x:)+(y:)) b2:=by
   rw[hb.K3,sp,Qgm,Qbn (),Qec,ls,show i+2 - i=2 by lia];rfl
  unfold cp at t1 t2
  rw[List.map_take,List.map_drop,t1,t2,kH,Qc1]
  show spans 0 b1++((b1.flatten:),(x:)+(y:))::_=spans 0 b1++((b1.flatten:),(z:))::spans ((b1.flatten:)+(z:)) b2
  rw[lz,Qeo]
 ·rcases Qao.mp hl with g | g
  ·exact hb.ok l (Qck _ g)
  ·rcases Qam.mp g with g | g
   ·rw[g]
    have X_:=ZJ.mpr Yh.1
    exact ⟨λe=>by rw[e,Qfr]at lz;lia,sz⟩
   ·exact hb.ok l (Qa2 _ (Qaf _ (Qaf _ g)))
theorem xc{st:SortSt}{bl:List (List Keyed)}{z r:List Keyed}{P:Array (Nat×Nat×Nat)}{lo n x:Nat}(hB:kU kd a₀ st)(hb:ym lt st bl (z++r))(hz:z≠[])(sz:cZ lt z)(hP:cp P=cp (pendingOf st))(ZD:lo=(bl.flatten:))(hn:(z:)=n)(hx:x<=lo):
  kU kd a₀ (setPending st (P.push (lo,n,0)))/\∃w_ rest,ym lt (setPending st (P.push (lo,n,0))) w_ rest/\((none,lo+n):Option Unit×Nat)=(none,(w_.flatten:))/\x+1<=(w_.flatten:):=by
 subst ZD
 subst hn
 have lz:=ZJ.mpr hz
 refine ⟨⟨hB.perm,hB.kind,hB.failed⟩,bl++[z],r,⟨by show (arrOf st).toList=_;rw[hb.arr];simp,?_,λl hl=>?_⟩,by rw[Qf1,QD,Qb6,Qfd,Qa1],by rw[Qf1,QD,Qb6,Qfd,Qa1];lia⟩
 ·show cp (P.push ((bl.flatten:),(z:),0))=_
  have:cp (P.push ((bl.flatten:),(z:),0))=cp P++[((bl.flatten:),(z:))]:=by unfold cp;rw[Qb7,Qak];rfl
  rw[this,hP,hb.K3,kH,Qc1]
  rfl
 ·rcases Qao.mp hl with g | g
  ·exact hb.ok l g
  ·rw[ZI.mp g];exact ⟨hz,sz⟩
theorem K4{st:SortSt}{Q:Unit->SortSt->Prop}(L:g_ lt)(C:lE prog w A E s kd lt a₀)(hB:kU kd a₀ st)(hp:pendingOf st= #[])
  (h:∀aR,(arrOf aR).Perm a₀->failedOf aR=none->cZ lt (arrOf aR).toList->Q Unit.unit aR):wpS (model prog w) A E s sortRuns' Q st:=by
 have hz:=hB.size
 rw[sortRuns'_eq]
 walk_at"D"
 refine wpS_bind (wpS_mono (wpS_forRange (I:=λx c aR=>kU kd a₀ aR/\∃bl rest,ym lt aR bl rest/\c=(none,(bl.flatten:))/\x<=(bl.flatten:)) (Q:=λc aR=>kU kd a₀ aR/\∃bl,ym lt aR bl []/\c=(none,(bl.flatten:))) ?_ ?_ ⟨hB,[],(arrOf st).toList,⟨rfl,by rw[hp];rfl,λl hl=>by cases hl⟩,rfl,Qar _⟩) ?_)
 ·rintro x c dQ _ hx ⟨Aa,bl,rest,b1,rfl,Eo⟩
  have Us:=Aa.size
  have hlen:(bl.flatten:)+(rest:)=a₀.size:=by rw[<-Us, <-Qa7,b1.arr,QD]
  walk_at"O"
  ·have g':(bl.flatten:) ≥ (arrOf st).size:=g
   have e0:rest=[]:=Qc8 ()
   subst e0
   exact wpS_pure ⟨Aa,bl,b1,rfl⟩
  have g': ¬(bl.flatten:) ≥ (arrOf st).size:=g
  have er:(arrOf st).size - (bl.flatten:)=(rest:):=by lia
  show wpS (model prog w) A E s (countRun' (bl.flatten:) ((arrOf st).size - (bl.flatten:)) >>= _) _ dQ
  rw[er]
  refine wpS_bind (OX L C Aa b1.arr () λm jE y r OY e2 a2 hm m1 hyr sy=>?_)
  refine aF (λg2=>wpS_bind (wpS_lift (wpAny_rule ⟨rfl,?_⟩))) (λg2=>wpS_bind (wpS_get ?_))
  ·have VP:m<minRun' (arrOf st).size (arrOf st).size 0:=g2
   subst hm
   refine wpS_bind (OW (pre:=bl.flatten) (x:=y) (rest:=r) (n:=min (rest:) (minRun' (arrOf st).size (arrOf st).size 0)) L C OY a2 (λe=>by rw[e]at m1;cases m1) sy () () λz_ z r3 hB3 e3 a3 hz3 sz=>aF (λz=>by cases z) (λ_=>wpS_bind (wpS_get ?_)))
   have yY:=hB3
   have b4:ym lt z_ bl (z++r3):=⟨by rw[<-VI];exact a3,by rw[e3,e2];exact b1.K3,b1.ok⟩
   have hz4:=hz3
   have s4:=sz
   have n4:z≠[]:=λe=>by rw[e,Qfr]at hz3;lia
   generalize hb:(pendingOf z_).back? =o
   cases o with
   | none=>exact wpS_bind (wpS_modify (wpS_pure (xc yY b4 n4 s4 rfl rfl hz4 Eo)))
   | some v=>
    obtain ⟨s1,l1,p1⟩:=v
    refine wpS_bind (wpS_mono (wpS_forRange (I:=λ_ c aR=>c=(none,Unit.unit)/\kU kd a₀ aR/\∃w_,ym lt aR w_ (z++r3)/\(w_.flatten:)=(bl.flatten:)) (Q:=λc aR=>c=(none,Unit.unit)/\kU kd a₀ aR/\∃w_,ym lt aR w_ (z++r3)/\(w_.flatten:)=(bl.flatten:)) ?_ (λ_ _ z=>z) ⟨rfl,yY,bl,b4,rfl⟩) ?_)
    ·rintro y' c nK _ _ ⟨rfl,pj,Er,b5,l5⟩
     walk_at"D"
     by_cases hs:(pendingOf nK).size>1
     ·obtain ⟨⟨u,v,Ut⟩,eo⟩:∃x,(pendingOf nK)[(pendingOf nK).size - 2]? =some x:=⟨_,getElem?_pos (pendingOf nK) ((pendingOf nK).size - 2) ()⟩
      simp only[if_pos hs,eo]
      walk_at"r"
     ·simp only[if_neg hs]
      exact wpS_pure ⟨rfl,pj,Er,b5,l5⟩
    ·rintro c nK ⟨rfl,pj,Er,b5,l5⟩
     exact wpS_bind (wpS_modify (wpS_bind (wpS_modify (wpS_pure (xc ⟨pj.perm,pj.kind,pj.failed⟩ ⟨b5.arr,(Cv _).trans b5.K3,b5.ok⟩ n4 s4 rfl l5.symm hz4 Eo)))))
  ·subst hm
   have yY:=OY
   have b4:ym lt jE bl (y++r):=⟨by rw[<-VI];exact a2,by rw[e2];exact b1.K3,b1.ok⟩
   have n4:y≠[]:=λe=>by rw[e]at m1;cases m1
   generalize hb:(pendingOf jE).back? =o
   cases o with
   | none=>exact wpS_bind (wpS_modify (wpS_pure (xc yY b4 n4 sy rfl rfl rfl Eo)))
   | some v=>
    obtain ⟨s1,l1,p1⟩:=v
    refine wpS_bind (wpS_mono (wpS_forRange (I:=λ_ c aR=>c=(none,Unit.unit)/\kU kd a₀ aR/\∃w_,ym lt aR w_ (y++r)/\(w_.flatten:)=(bl.flatten:)) (Q:=λc aR=>c=(none,Unit.unit)/\kU kd a₀ aR/\∃w_,ym lt aR w_ (y++r)/\(w_.flatten:)=(bl.flatten:)) ?_ (λ_ _ z=>z) ⟨rfl,yY,bl,b4,rfl⟩) ?_)
    ·rintro y' c nK _ _ ⟨rfl,pj,Er,b5,l5⟩
     walk_at"D"
     by_cases hs:(pendingOf nK).size>1
     ·obtain ⟨⟨u,v,Ut⟩,eo⟩:∃x,(pendingOf nK)[(pendingOf nK).size - 2]? =some x:=⟨_,getElem?_pos (pendingOf nK) ((pendingOf nK).size - 2) ()⟩
      simp only[if_pos hs,eo]
      walk_at"r"
     ·simp only[if_neg hs]
      exact wpS_pure ⟨rfl,pj,Er,b5,l5⟩
    ·rintro c nK ⟨rfl,pj,Er,b5,l5⟩
     exact wpS_bind (wpS_modify (wpS_bind (wpS_modify (wpS_pure (xc ⟨pj.perm,pj.kind,pj.failed⟩ ⟨b5.arr,(Cv _).trans b5.K3,b5.ok⟩ n4 sy rfl l5.symm rfl Eo)))))
 ·rintro c dQ ⟨Aa,bl,rest,b1,rfl,Eo⟩
  have Us:=Aa.size
  have hlen:(bl.flatten:)+(rest:)=a₀.size:=by rw[<-Us, <-Qa7,b1.arr,QD]
  have e0:rest=[]:=Qc8 ()
  subst e0
  exact ⟨Aa,bl,b1,rfl⟩
 ·rintro c dQ ⟨Aa,bl,b1,rfl⟩
  have Us:=Aa.size
  have hlen:(bl.flatten:)=a₀.size:=by rw[<-Us, <-Qa7,b1.arr,Qa1]
  have Kq:=b1.jS
  refine wpS_bind (wpS_mono (wpS_forRange (I:=λy c aR=>c=(none,Unit.unit)/\kU kd a₀ aR/\∃bl,ym lt aR bl []/\(bl:)+y<=a₀.size+1) (Q:=λc aR=>c=(none,Unit.unit)/\kU kd a₀ aR/\∃bl,ym lt aR bl []/\(bl:)<=1) ?_ ?_ ⟨rfl,Aa,bl,b1,()⟩) ?_)
  ·rintro y c nK _ _ ⟨rfl,pj,Er,b5,hy5⟩
   walk_at"D"
   walk_at"O"
   ·have g':(pendingOf nK).size<=1:=g
    rw[b5.MW]at g'
    exact wpS_pure ⟨rfl,pj,Er,b5,g'⟩
   have g': ¬(pendingOf nK).size<=1:=g
   refine wpS_bind (A3 L C pj b5 ?_ λst6 Uu Uv b6 l6 n6=>aF (λz=>by cases z) (λz=>wpS_pure ⟨rfl,Uv,Uu,b6,()⟩))
   exact GY _ g'
  ·rintro c nK ⟨e,pj,Er,b5,hy5⟩
   exact ⟨e,pj,Er,b5,()⟩
  ·rintro c nK ⟨rfl,pj,Er,b5,h5⟩
   refine wpS_pure (h _ pj.perm pj.failed ?_)
   rw[b5.arr,Qa1]
   match Er,h5,b5.ok with
   | [],_,_=>exact List.Pairwise.nil
   | [l],_,ok=>rw[Qb6,Qfd,Qa1];exact (ok l Qai).2
   | _::_::_,h5,_=>simp at h5
end
theorem xf:∀a b c:List Int,bP b a=false->bP c b=false->bP c a=false
 | [],[],[],_,_=>rfl
 | [],[],_::_,_,h=>h
 | [],_::_,[],_,_=>rfl
 | [],_::_,_::_,_,_=>rfl
 | _::_,[],_,h,_=>by cases h
 | _::_,_::_,[],_,h=>by cases h
 | x::a,y::b,z::c,h,g=>by
  have h':(if y=x then bP b a else decide (y<x))=false:=h
  have g':(if z=y then bP c b else decide (z<y))=false:=g
  show (if z=x then bP c a else decide (z<x))=false
  by_cases e1:y=x
  ·rw[if_pos e1]at h'
   by_cases e2:z=y
   ·rw[if_pos e2]at g'
    rw[if_pos (e2.trans e1)]
    exact xf a b c h' g'
   ·rw[if_neg e2]at g'
    rw[if_neg λw=>e2 (w.trans e1.symm), <-e1]
    exact g'
  ·rw[if_neg e1]at h'
   have q1:=of_decide_eq_false h'
   by_cases e2:z=y
   ·rw[if_neg λw=>e1 (e2.symm.trans w),e2];exact h'
   ·rw[if_neg e2]at g'
    have q2:=of_decide_eq_false g'
    rw[if_neg ()]
    exact decide_eq_false ()
section
variable{X:Cx}{e st:Expr}{te:TE}{ts:TO}{pos p2:Pos}
theorem Es(l:c0)(t tk:Tok):sliceMade (S l) t none none (some (-1,tk))= .str (S l.reverse):=by
 unfold sliceMade
 rw[if_neg (by simp)]
 have e:slicePicked (S l) none none (some (-1,tk))=(List.range (S l).cps.size).reverse:=by
  rw[<-PySem.W.krv_range, <-PySem.W.krv_sliceRange]
  rfl
 rw[e,List.filterMap_reverse,PySem.W.krv_all,dc]
 rfl
def Uw(te:TE)(ts:TO):TE:=λσ H Q=>te σ H λx H1=>ts σ H1 λo H2=>o=some (-1)/\∃l,x= .str (S l)/\(l:)<=sizeLine/\Q (.str (S l.reverse)) H2
theorem K5(he:PE X e te)(hs:PO X (some st) ts):PE X (.Subscript e (.Slice none none (some st) p2) pos) (Uw te ts):=by
 walk_at"g"
 refine Subscript_ (cA (he pins s σ H _ I h) λv s1 ⟨x,H1,I1,r1,q1⟩=>?_)
 refine wpAny_Slice ?_
 rw[evalPart_none]
 refine wpAny_pure (wpAny_pure (cA (hs pins s1 σ H1 _ I1 q1) λvk s3 ⟨o,H3,I3,pk,eo,l,ex,hz,q3⟩=>?_))
 subst eo ex
 walk_at"T"
 cases pk with
 | int i tk=>
 have I4:Inv X pins σ H3 { s3 with heap:=s3.heap.push { cls:= .type "slice",data:= .fields #[.none,.none,.int (-1) tk] } }:=I3.kept (t':=s3.toks) λb ob q=>ZG _ q
 show wpAny (model X.prog X.w) X.A (subscriptTail e (.Slice none none (some st) p2) (.str (S l) t) (.ref s3.heap.objs.size)) (EP X pins σ Q) X.xe { s3 with heap:=s3.heap.push { cls:= .type "slice",data:= .fields #[.none,.none,.int (-1) tk] } }
 refine tail_any (ops:=[.str (S l) t,.ref s3.heap.objs.size]) (typeIs_str _ _ _) F.slot_str_getitem.lookup (wpAny_getItem_str_slice (l:=none) (u:=none) (st:=some (-1,tk)) ⟨_,Qaq _ rfl,rfl,rfl⟩ rfl ?_) (by with_unfolding_all rfl)
 rw[Es]
 refine ⟨by rw[dD,Qat];exact hz,?_⟩
 exact ⟨.str (S l.reverse),H3,I4.tok _,⟨_,rfl⟩,q3⟩
end
end L2
namespace PySem
open PySem.Spec PyProof.Rows
end PySem
namespace L2
open PySem PySem.Spec PyProof.Rows
noncomputable def G8(p q:Keyed):Bool:=decide ((strOf p.1).cps.toList<(strOf q.1).cps.toList)
theorem OZ:g_ G8 where
 md p q h:=by
  unfold G8 at*
  exact decide_eq_false λz=>Qdg _ (List.lt_trans (of_decide_eq_true h) z)
 tr p q r h1 h2:=by
  unfold G8 at*
  have a:=Qfw.mp (of_decide_eq_false h1)
  have b:=Qfw.mp (of_decide_eq_false h2)
  exact decide_eq_false (Qfw.mpr (Qe8 a b))
section
variable{prog:Program}{w:World}{A:Around}{E:Value->Shared->Prop}{s:Shared}
theorem Yi{vs:List Value}{ss:List Str}(hS:StrsAre vs ss):lE prog w A E s oneType' G8 (pairsOf vs):=by
 intro st p q Q hk hp hq hQ
 have e:(pairsOf vs).toList=vs.zip vs:=pairsOf_toList vs
 rw[e]at hp hq
 obtain ⟨x,t,ex⟩:=hS.all _ (mem_zip_self hp).2
 obtain ⟨y,u,ey⟩:=hS.all _ (mem_zip_self hq).2
 rw[lt'_eq]
 walk_at"D"
 rw[hk]
 have hQ':Q (some (decide (x.cps.toList<y.cps.toList))) st:=by
  have:G8 p q=decide (x.cps.toList<y.cps.toList):=by unfold G8;rw[ex,ey];rfl
  rw[<-this];exact hQ
 refine wpS_bind (wpS_lift (wpAny_attempt ?_))
 rw[ex,ey]
 exact oneLt_str ⟨rfl,wpS_pure hQ'⟩
theorem xg{ad:Addr}{ss:List Str}{xs:List Value}{ep:Nat}{P:Fin->Shared->Prop}(O0:s.heap.get? ad=some (seqObj "list" xs.toArray ep))
  (hS:StrsAre xs ss) (hkd:∀u v r,xs=u::v::r->keyKind' (u::v::r).toArray=pure oneType') (hlen:(xs:)<=10000)
  (hP:∀JU:SortSt,(arrOf JU).Perm (pairsOf xs)->cZ G8 (arrOf JU).toList->P (.done (.ret .none)) { s with heap:=sortedHeap s.heap ad xs ((arrOf JU).map (·.2)) }):
  wpAny (model prog w) A (Builtin.«list.sort» ⟨[.ref ad],[]⟩) P E s:=by
 have lim:(10000:Nat)<sizeLine:=by decide
 have lad:ad<s.heap.objs.size:=Qap O0
 rw[list_sort_plain]
 refine wpAny_bind (listItems_at O0 rfl (wpAny_bind (listUpdate_at O0 rfl ?_)))
 obtain ⟨ep1,Ux⟩:∃q,(s.heap.update ad (Obj.mapSeq λ_=> #[])).get? ad=some (seqObj "list" #[] q):=⟨_,get?_update_seq O0 (λ_=> #[])⟩
 refine wpAny_bind (seqEpoch_at Ux rfl (wpAny_bind (wpAny_newTuple (wpAny_bind (wpAny_newList (wpAny_holding ?_))))))
 have K6:(((s.heap.update ad (Obj.mapSeq λ_=> #[])).push (seqObj "tuple" xs.toArray 0)).push (seqObj "list" #[] 0)).get? ad=some (seqObj "list" #[] ep1):=by
  have n1:ad<(s.heap.update ad (Obj.mapSeq λ_=> #[])).objs.size:=by rw[Heap.size_update];exact lad
  exact ZG _ (ZG _ Ux)
 show wpAny (model prog w) A _ P E { s with heap:=((s.heap.update ad (Obj.mapSeq λ_=> #[])).push (seqObj "tuple" xs.toArray 0)).push (seqObj "list" #[] 0) }
 dsimp only
 by_cases jS:xs.toArray.size<2
 ·rw[if_pos jS,if_pos jS]
  walk_at"y"
  rw[StateT.run_pure]
  walk_at"y"
  dsimp only
  refine wpAny_bind (seqEpoch_at K6 rfl (wpAny_bind (listUpdate_at K6 rfl ?_ (hsz2:=by rw[Array.size_map];show (pairsOf xs).size<=_;rw[pairsOf_size];lia))))
  simp only[bne_self_eq_false,Qcm,if_false]
  refine wpAny_pure (hP (SortSt.mk' general' (xs.toArray.zip xs.toArray) #[] 7 none) (Array.Perm.refl _) ?_)
  show cZ G8 (xs.toArray.zip xs.toArray).toList
  have e4:(xs.toArray.zip xs.toArray).toList=xs.zip xs:=by simp
  rw[e4]
  rcases xs with _ | ⟨u,_ | ⟨v,r⟩⟩
  ·exact List.Pairwise.nil
  ·exact Qcb _ _
  ·exact absurd jS (by simp)
 ·rw[if_neg jS,if_neg jS]
  obtain ⟨u,v,r,rfl⟩:∃u v r,xs=u::v::r:=by
   rcases xs with _ | ⟨u,_ | ⟨v,r⟩⟩
   ·exact absurd (by simp) jS
   ·exact absurd (by simp) jS
   ·exact ⟨u,v,r,rfl⟩
  rw[hkd _ _ _ rfl]
  refine wpAny_bind (wpAny_pure (wpAny_bind (wpAny_mono (K4 (lt:=G8) (kd:=oneType') (a₀:=pairsOf (u::v::r)) (st:=SortSt.mk' oneType' ((u::v::r).toArray.zip (u::v::r).toArray) #[] 7 none)
   (Q:=λ_ JU=>(arrOf JU).Perm (pairsOf (u::v::r))/\failedOf JU=none/\cZ G8 (arrOf JU).toList) OZ (Yi hS) ⟨Array.Perm.refl _,rfl,rfl⟩ rfl λJU a1 a2 a3=>⟨a1,a2,a3⟩) ?_ λ_ _ e=>e)))
  rintro ⟨⟨⟩,JU⟩ s2 ⟨rfl,hp,hf,hsr⟩
  dsimp only
  refine wpAny_bind (seqEpoch_at K6 rfl (wpAny_bind (listUpdate_at K6 rfl ?_ (hsz2:=by refine Qbh (Nat.le_of_eq ((Array.size_map ..).trans (hp.size_eq.trans (pairsOf_size _)))) ?_;lia))))
  rw[hf]
  simp only[bne_self_eq_false,Qcm,if_false]
  exact wpAny_pure (hP JU hp hsr)
theorem Uy{vs:List Value}{ss:List Str}(hS:StrsAre vs ss){xs:Array Keyed}(hp:xs.Perm (pairsOf vs))(hs:cZ G8 xs.toList):∃kT,StrsAre (xs.map (·.2)).toList kT/\kT.Perm ss/\(kT.map λx=>x.cps.toList).Pairwise λa b=> ¬b<a:=by
 have q1:xs.toList.Perm (vs.zip vs):=by rw[<-pairsOf_toList];exact Qb3.mp hp
 have q2:∀p,p∈xs.toList->p.1=p.2/\p.1∈vs:=λp h=>mem_zip_self (q1.mem_iff.mp h)
 refine ⟨xs.toList.map (λp=>strOf p.1),?_,?_,?_⟩
 ·rw[show (xs.map (·.2)).toList=xs.toList.map (·.1) by rw[Array.toList_map];exact Qdo λp h=>(q2 p h).1.symm]
  have q3:=strsAre_map (xs.toList.map (·.1)) λv hv=>by
   obtain ⟨p,h,rfl⟩:=Qa3.mp hv
   exact hS.all _ (q2 p h).2
  rwa [Qbx]at q3
 ·have q3:=q1.map (λp=>strOf p.1)
  rwa [show (vs.zip vs).map (λp=>strOf p.1)=ss by rw[show (λp:Value×Value=>strOf p.1)=strOf ∘ Prod.fst from rfl, <-Qbx,List.map_fst_zip (ZH _),hS.strs]]at q3
 ·rw[Qbx,Qch]
  exact hs.imp λ{p q} h=>of_decide_eq_false h
theorem mU{tp:Addr}{T:String}{o:Obj}{vs:List Value}{ss:List Str}{n:Nat}{Q:Value->Shared->Prop}(hT:T="list"\/T="tuple")(ho:s.heap.get? tp=some o)(hc:o.cls= .type T)(hd:o.data= .seq vs.toArray n)(hS:StrsAre vs ss)(hsz:(vs:)<=10000)
  (q:∀(h1 h':Heap) (a:Addr) (e:Nat) (out:Array Value) (kT:List Str),(∀b o,s.heap.get? b=some o->h1.get? b=some o)->(∀b o,h1.get? b=some o->h'.get? b=some o)->a=h1.objs.size->h'.get? a=some (seqObj "list" out e)->StrsAre out.toList kT->kT.Perm ss->((kT.map λx=>x.cps.toList).Pairwise λa b=> ¬b<a)->Q (.ref a) { s with heap:=h' }):
  wpAny (model prog w) A (call (.builtin "sorted") [.ref tp]) Q E s:=by
 have k_:(10000:Nat)<sizeLine:=by decide
 refine Calls.call_function_entry kind_sorted plain_sorted entry_sorted (args_sorted1 _) ?_
 unfold Builtin.«sorted»
 refine wpAny_bind (m:=checkCount "sorted" 1 1 _) (wpAny_pure (wpAny_bind (wpAny_collect_seq tp hT ho hc hd (λh1 k1=>?_) (by rw[Qag];lia))))
 refine wpAny_bind (wpAny_newList ?_ (by show (vs:)<=_;lia))
 have Kb:(h1.push (seqObj "list" vs.toArray 0)).get? h1.objs.size=some (seqObj "list" vs.toArray 0):=Qaq _ rfl
 show wpAny _ _ _ _ _ { s with heap:=h1.push (seqObj "list" vs.toArray 0) }
 refine wpAny_bind (wpAny_holding (wpAny_call_entry slot_list_sort ⟨_,Kb,rfl⟩ entry_list_sort (xg (s:={ s with heap:=h1.push (seqObj "list" vs.toArray 0) }) Kb hS (λv₁ v₂ rest e=>keyKind_strs (by rw[<-e];exact hS)) hsz λaR hp hs=>⟨_,rfl,?_⟩) (args_list_sort _)))
 obtain ⟨kT,k2,k3,k4⟩:=Uy hS hp hs
 obtain ⟨e,he⟩:=sortedHeap_at (out:=(arrOf aR).map (·.2)) Kb
 refine wpAny_pure ⟨_,rfl,q h1 _ _ e _ kT k1 (λb o hb=>?_) rfl he k2 k3 k4⟩
 have cf:=Qap hb
 rw[sortedHeap_old (Qaw cf) (by rw[size_push'];exact Qcr cf)]
 exact ZG _ hb
end
section
variable{X:Cx}
def K7(K:c7):List V->Hp->VK->Prop:=λxs H Q=>∃(p:Addr) (ls:List c0),xs=[.ref p]/\(bB K H p (ls.map λl=>V.str (S l))\/de K H p (ls.map λl=>V.str (S l)))/\(ls:)<=10000/\∀(q:Addr) (OB:List c0),H q=none->OB.Perm ls->(OB.Pairwise λa b=> ¬b<a)->Q (.ref q) (upd H q (.lst (OB.map λl=>V.str (S l))))
theorem O1{ls:List c0}{kT:List Str}(h2:kT.Perm (ls.map S)):(kT.map λx=>x.cps.toList).Perm ls:=by
 have:=h2.map λx:Str=>x.cps.toList
 rw[Qbx]at this
 have e2:ls.map ((λx:Str=>x.cps.toList) ∘ S)=ls:=by
  have:∀l∈ls,((λx:Str=>x.cps.toList) ∘ S) l=l:=λl _=>dc l
  calc ls.map _=ls.map id:=Qdo this
   _=ls:=Qfx ls
 rwa [e2]at this
theorem lF(K:c7)(h:X.K=K):di X (.builtin "sorted") (K7 K):=by
 subst h
 walk_at"d"
 obtain ⟨p,ls,rfl,hq,hn,q⟩:=h
 obtain ⟨u,rfl,ru⟩:=vals1 r
 cases ru
 have k_:(10000:Nat)<sizeLine:=by decide
 have fin:∀aH:List Value,Vals (ls.map λl=>V.str (S l)) aH->∀(h1 h':Heap) (a:Addr) (e:Nat) (out:Array Value) (kT:List Str),(∀b o,s.heap.get? b=some o->h1.get? b=some o)->(∀b o,h1.get? b=some o->h'.get? b=some o)->a=h1.objs.size->h'.get? a=some (seqObj "list" out e)->StrsAre out.toList kT->kT.Perm (ls.map S)->((kT.map λx=>x.cps.toList).Pairwise λa b=> ¬b<a)->EP X pins σ Q (.ref a) { s with heap:=h' }:=λaH rv h1 h' a e out kT k1 k2 ea he g1 g2 g3=>by
  have I1:Inv X pins σ H { s with heap:=h1 }:=I.kept (t':=s.toks) k1
  have o_:=O1 g2
  have GD:(((kT.map λx=>x.cps.toList).map λl=>V.str (S l)):)<=sizeLine:=by rw[kb,o_.length_eq];lia
  have I2:Inv X pins σ (upd H a (.lst ((kT.map λx=>x.cps.toList).map λl=>V.str (S l)))) { s with heap:=h' }:=I1.laid (t':=s.toks) (a:=a) (o:= .lst ((kT.map λx=>x.cps.toList).map λl=>V.str (S l))) k2 (by rw[ea];exact ZH _) ⟨GD,out.toList,e,wV g1,by simpa [seqObj]using he⟩
  exact ⟨.ref a,_,I2,rfl,q _ _ (I1.b8.fresh (by rw[ea];exact ZH _)) o_ g3⟩
 rcases hq with hq | hq
 ·obtain ⟨aH,rv,pl,hz⟩:=I.list hq
  obtain ⟨o,ho,hc,m,hd⟩:=pl.isList
  exact mU (.inl rfl) ho hc hd (wU rv) (by rw[<-(rv:),kb];exact hn) (fin aH rv)
 ·obtain ⟨aH,rv,pl,hz⟩:=I.tuple hq
  obtain ⟨o,ho,hc,m,hd⟩:=pl
  exact mU (.inr rfl) ho hc hd (wU rv) (by rw[<-(rv:),kb];exact hn) (fin aH rv)
end
section
variable{X:Cx}{K:c7}{CX:DS}{k1 k2:Nat}{f1 f2:Addr}{fd1 fd2:FuncData}{ps1 ps2:List Str}{VT VU:Sp}{E:XK}{x f:Str}{p pos pos':Pos}{e o value:Expr}{es:List Expr}{ta tv:TE}{t:TA}
theorem bO(K:c7)(hK:X.K=K)(he:PE X e ta)(hb:attributeBase e f X.env (eval e X.env)=eval e X.env):PE X (.Attribute e f pos) (S5 K ta f):=by subst hK;exact NV he hb
def G9(f1 f2:Addr)(VT VU:Sp)(E:XK)(ta:TE)(t:TA):TE:=λσ H Q=>ta σ H λv H1=>(v= .ref f1/\t σ H1 λvs H2=>VT vs H2 Q E)\/(v= .ref f2/\t σ H1 λvs H2=>VU vs H2 Q E)
theorem mV(hf:PE X (.Name x p) ta)(F1:bo X.prog X.w X.K X.mg X.base CX k1 f1 fd1 ps1 VT)(JV:eI k1 X.A)(tR:PySem.W.keepIn X.K (.ref f1)=true)(Fu:Binds X.K fd1 ps1 [])(F2:bo X.prog X.w X.K X.mg X.base CX k2 f2 fd2 ps2 VU)(Uz:eI k2 X.A)(nZ:PySem.W.keepIn X.K (.ref f2)=true)(yl:Binds X.K fd2 ps2 [])(hx:Passes CX X E)
  (ha:PA X (e::es) t) (he:starEach (e::es) X.env=(false,eval e X.env)::starEach es X.env:=by rfl) (iU:(backTo pos (starEach es X.env)).any (·.1)=false:=by rfl):
  PE X (.Call (.Name x p) (e::es) [] pos) (G9 f1 f2 VT VU E ta t):=by
 walk_at"g"
 refine wpAny_Call_Name_kw (cA (hf pins s σ H _ I h) λu s1 ⟨v,H1,I1,r,q⟩=>?_)
 rcases q with ⟨rfl,q⟩ | ⟨rfl,q⟩
 ·obtain rfl:u=Value.ref f1:=r
  refine Qew (h₀:=X.base) I1.ok.mod.Qy tR (cA (ha pos pins s1 σ H1 _ I1 q) λus s2 ⟨vs,H2,I2,r2,q2⟩=>⟨I2.ql,?_⟩) he iU
  exact As (dvs:=[]) (ds:=[]) F1 JV Fu .nil hx I2 r2 (by rw[Qa1];exact q2)
 ·obtain rfl:u=Value.ref f2:=r
  refine Qew (h₀:=X.base) I1.ok.mod.Qy nZ (cA (ha pos pins s1 σ H1 _ I1 q) λus s2 ⟨vs,H2,I2,r2,q2⟩=>⟨I2.ql,?_⟩) he iU
  exact As (dvs:=[]) (ds:=[]) F2 Uz yl .nil hx I2 r2 (by rw[Qa1];exact q2)
end
section
variable{prog:Program}{w:World}{A:Around}{E:Value->Shared->Prop}{R:Result->Shared->Prop}{I S:Addr}{fp wr:List Addr}{n:Nat}{P:Nat->Value->Prop}{St:Nat->Heap->Prop}{kw:List (Str×Value)}{bt:Nat->Nat->Bool}
theorem Cw:(toString "max"++toString ".loop":String)="max.loop":=∅
theorem UA(W:Walks prog w A.in1 I fp wr n P St)(cm:CmpOf prog w A.in1 .Gt P bt)(sf:S∉fp):∀(m j:Nat) (s:Shared) (b:Value) (c:Nat),n=j+1+m->St (j+1) s.heap->P (argBest bt j) b->s.heap.get? S=some { cls:= .type "list",dict:=none,data:= .seq #[b,b] c,slots:= #[] }->
  (∀v h' tk,P (argBest bt (n - 1)) v->(∀a o,a∉wr->a≠S->s.heap.get? a=some o->h'.get? a=some o)->R (.ok (.ret v)) { s with heap:=h',toks:=tk })->
  codeAny (model prog w) A (.builtin "max.loop" ⟨[.ref I,.none,.ref S],kw⟩) R s:=by
 have sw:S∉wr:=λz=>sf (W.sub _ z)
 intro m
 induction m with
 | zero=>
  intro j s b c en kZ hb hS hR
  have e1:n=j+1:=en
  subst e1
  refine codeAny_builtin Qfj ?_
  rw[Around.under_plainId Qc0 _]
  refine wpAny_bind (m:=seqItems? (.ref S)) (wpAny_seqItems hS rfl ?_)
  refine wpAny_bind (m:=tryCatch (pyNext (.ref I)) _) (wpAny_tryCatch (W.done s _ _ kZ λh1 tk k1=>?_))
  refine wpAny_bind (m:=updateSeq S λ_=> #[]) (wpAny_updateSeq (k1 S _ sw hS) rfl (wpAny_bind (wpAny_letGo (wpAny_pure ?_))))
  exact hR b _ tk hb λa o aw aS ea=>(Qb1 _ _ (Ne.symm aS)).trans (k1 a o aw ea)
 | succ m ih=>
  intro j s b c en kZ hb hS hR
  refine codeAny_builtin Qfj ?_
  rw[Around.under_plainId Qc0 _]
  refine wpAny_bind (m:=seqItems? (.ref S)) (wpAny_seqItems hS rfl ?_)
  refine wpAny_bind (m:=tryCatch (pyNext (.ref I)) _) (wpAny_tryCatch (W.item (j+1) s _ _ () kZ λv h1 tk pv dQ k1=>?_))
  have QG:=k1 S _ sw hS
  refine wpAny_bind (m:=tryCatch (holding [v,v] (richCompare .Gt v b >>= _)) _) (wpAny_tryCatch (wpAny_holding (wpAny_bind (cm (j+1) (argBest bt j) v b _ _ _ pv hb (wpAny_bind (wpAny_holding (wpAny_truthy_bool (wpAny_bind (wpAny_letGo (wpAny_pure ?_))))))))))
  cases q:bt (j+1) (argBest bt j)
  ·rw[if_neg ∅]
   refine wpAny_bind (wpAny_letGo ?_)
   rw[Cw]
   refine wpAny_pure ⟨plainId_quiet Qc0 _,ih (j+1) _ b c () dQ (by rw[argBest,q];exact hb) QG λv' h2 UB p2 k2=>?_⟩
   exact hR v' h2 UB p2 λa o aw aS ea=>k2 a o aw aS (k1 a o aw ea)
  ·rw[if_pos rfl]
   refine wpAny_bind (wpAny_updateSeq QG rfl (wpAny_bind (wpAny_letGo ?_)))
   rw[Cw]
   refine wpAny_pure ⟨plainId_quiet Qc0 _,ih (j+1) _ v _ () (W.frame _ _ _ dQ λa af o ea=>?_) (by rw[argBest,q];exact pv) (Qcv _ QG rfl) λv' h2 UB p2 k2=>?_⟩
   ·exact (Qb1 _ _ (λz:S=a=>sf (z▸af))).trans ea
   ·exact hR v' h2 UB p2 λa o aw aS ea=>k2 a o aw aS ((Qb1 _ _ (Ne.symm aS)).trans (k1 a o aw ea))
theorem UC(a d:Value):argsOk "max" ⟨[a],[(Str.ofString "default",d)]⟩:=by unfold argsOk;kernel_rfl
theorem K8{s:Shared}{x d:Value}{Q:Value->Shared->Prop}
  (h:wpAny (model prog w) A.in1 (pyIter x) (λit s₂=>∃I fp wr n P St bt,it= .ref I/\Walks prog w A.in1 I fp wr n P St/\St 0 s₂.heap/\(∀b∈fp,b<s₂.heap.objs.size)/\CmpOf prog w A.in1 .Gt P bt/\
   ∀v h' tk,(n=0->v=d)->(0<n->P (argBest bt (n - 1)) v)->(∀b o,b∉wr->s₂.heap.get? b=some o->h'.get? b=some o)->Q v { s₂ with heap:=h',toks:=tk }) E s):
  wpAny (model prog w) A (call (.builtin "max") [x] [(Str.ofString "default",d)]) Q E s:=by
 refine kmk_tree PySem.F.kind_max PySem.F.plain_max PySem.F.entry_max (UC x d) ?_
 refine wpAny_bind (m:=Builtin.Builtins.bindParams "max" ["key","default"] 0 ⟨[],[(Str.ofString "default",d)]⟩) (wpAny_of_eq (a:=[none,some d]) rfl ?_)
 refine wpAny_bind (wpAny_pure (wpAny_bind (wpAny_mono h (λit s2 h2=>?_) λ_ _ e=>e)))
 obtain ⟨I,fp,wr,n,P,St,bt,rfl,W,kZ,hfp,cm,hQ⟩:=h2
 refine wpAny_bind (wpAny_newObj_type ?_)
 have sf:s2.heap.objs.size∉fp:=λz=>Qbw _ (hfp _ z)
 have sw:s2.heap.objs.size∉wr:=λz=>sf (W.sub _ z)
 have hS:(s2.heap.push { cls:= .type "list",data:= .seq #[] }).get? s2.heap.objs.size=some { cls:= .type "list",dict:=none,data:= .seq #[] 0,slots:= #[] }:=Qaq _ rfl
 have UD:=W.frame _ _ (s2.heap.push { cls:= .type "list",data:= .seq #[] }) kZ λb _ o e=>ZG _ e
 have lo:∀{b o},s2.heap.get? b=some o->b≠s2.heap.objs.size:=λe=>Qaw (Qap e)
 rw[Cw]
 refine wpAny_pure ⟨plainId_quiet Qc0 _,codeAny_builtin Qfj ?_⟩
 rw[Around.under_plainId Qc0 _]
 refine wpAny_bind (m:=seqItems? (.ref s2.heap.objs.size)) (wpAny_seqItems hS rfl ?_)
 cases n with
 | zero=>
  refine wpAny_bind (m:=tryCatch (pyNext (.ref I)) _) (wpAny_tryCatch (W.done _ _ _ UD λh1 tk k1=>?_))
  refine wpAny_bind (wpAny_rule ?_)
  refine wpAny_pure (hQ d h1 tk (λ_=>rfl) (λz=>absurd z (Qbw _)) λb o bw e=>k1 b o bw (ZG _ e))
 | succ m=>
  refine wpAny_bind (m:=tryCatch (pyNext (.ref I)) _) (wpAny_tryCatch (W.item 0 _ _ _ (Nat.succ_pos _) UD λv h1 tk pv dQ k1=>?_))
  have QG:=k1 _ _ sw hS
  refine wpAny_bind (m:=updateSeq s2.heap.objs.size λ_=> #[v,v]) (wpAny_updateSeq QG rfl ?_)
  rw[Cw]
  refine wpAny_pure ⟨plainId_quiet Qc0 _,UA W cm sf m 0 _ v _ () (W.frame _ _ _ dQ λa af o ea=>?_) pv (Qcv _ QG rfl) λv' h2 UB p2 k2=>?_⟩
  ·exact (Qb1 _ _ (λz:s2.heap.objs.size=a=>sf (z▸af))).trans ea
  ·exact hQ v' h2 UB (λz=>by lia) (λ_=>p2) λb o bw e=>k2 b o bw (lo e) ((Qb1 _ _ (Ne.symm (lo e))).trans (k1 b o bw (ZG _ e)))
end
noncomputable def O2(d:Int):List Int->Int
 | []=>d
 | a::r=>r.foldl (λx y=>if y>x then y else x) a
noncomputable def fH(l:List Int)(i j:Nat):Bool:=decide (l.getD i 0>l.getD j 0)
theorem mW(l:List Int):∀n:Nat,n<(l:)->l.getD (argBest (fH l) n) 0=((l.drop 1).take n).foldl (λx y=>if y>x then y else x) (l.getD 0 0)
 | 0,_=>by simp[argBest]
 | n+1,h=>by
  have ih:=mW l n ()
  have e:(l.drop 1).take (n+1)=(l.drop 1).take n++[l.getD (n+1) 0]:=by
   rw[Qei,Qbj,show 1+n=n+1 by lia,Qaj,Of h]
   rfl
  rw[e,List.foldl_append, <-ih]
  show l.getD (if fH l (n+1) (argBest (fH l) n)=true then n+1 else argBest (fH l) n) 0=if l.getD (n+1) 0>l.getD (argBest (fH l) n) 0 then l.getD (n+1) 0 else l.getD (argBest (fH l) n) 0
  by_cases z:l.getD (n+1) 0>l.getD (argBest (fH l) n) 0
  ·rw[if_pos (show fH l (n+1) (argBest (fH l) n)=true from decide_eq_true z),if_pos z]
  ·rw[if_neg (show ¬fH l (n+1) (argBest (fH l) n)=true from λw=>z (of_decide_eq_true w)),if_neg z]
section
variable{X:Cx}
theorem G_{prog:Program}{w:World}{A:Around}{l:List Int}{aH:List Value}(r:Vals (l.map V.int) aH):CmpOf prog w A .Gt (λi v=>aH.toArray[i]? =some v) (fH l):=by
 intro i j vi vj s Q E hi hj hQ
 have get:∀{i:Nat} {v:Value},aH.toArray[i]? =some v->∃t,v= .int (l.getD i 0) t:=by
  intro i v h
  have h':aH[i]? =some v:=by simpa using h
  have hl:i<(l:):=by have:=(Og.mp h').1;rw[<-(r:),kb]at this;exact this
  obtain ⟨u,hu,ru⟩:=r.get (i:=i) (x:=V.int (l.getD i 0)) (by rw[Qas,Qaj,Of hl];rfl)
  rw[h']at hu;cases hu
  exact ru
 obtain ⟨t,rfl⟩:=get hi
 obtain ⟨u,rfl⟩:=get hj
 exact gt_int hQ
def UE(K:c7)(d:Int)(t:TA):TE:=λσ H Q=>t σ H λvs H1=>∃(p:Addr) (l:List Int),vs=[.ref p]/\bB K H1 p (l.map V.int)/\Q (.int (O2 d l)) H1
theorem K9{e:Expr}{t:TA}{d:Int}{j:Nat}{kp cp p pos:Pos}(K:c7)(hK:X.K=K)(hc:X.calm=true)(hg:Gl X "max")(hm:X.mg "max"=none)(ha:PA X [e] t)
  (he:backTo pos (starEach [e] X.env)=[(false,eval e X.env)]:=by rfl):PE X (.Call (.Name "max" p) [e] [⟨some "default", .Constant (.int d) j cp,kp⟩] pos) (UE K d t):=by
 subst hK
 walk_at"g"
 refine wpAny_Call_Name_kw (g8 I hg hm boot_max ?_)
 refine callWith_kw (cA (ha pos pins s σ H _ I h) λus s1 ⟨vs,H1,I1,r1,q1⟩=>?_) he (by rw[he];rfl)
 obtain ⟨a,l,rfl,hq,q⟩:=q1
 obtain ⟨u,rfl,ru⟩:=vals1 r1
 cases ru
 refine kws_cons (wpAny_Constant_int (kws_nil ?_))
 obtain ⟨aH,rv,pl,hz⟩:=I1.list hq
 have hlen:(aH:)=(l:):=by rw[<-(rv:),kb]
 have hp:a<s1.heap.objs.size:=by
  obtain ⟨o,n,e,_⟩:=pl
  exact Qap e
 refine K8 (wpAny_pyIter_list pl.isList ?_)
 refine ⟨_,_,_,_,_,_,fH l,rfl,Walks.list (A:=X.A.in1) (I1.ok.hd hc) s1.heap.objs.size a (Qaw hp) aH.toArray,⟨⟨_,Qaq _ rfl,rfl,rfl⟩,?_⟩,λb hb=>?_,G_ rv,λv h' tk h0 h1 hk=>?_⟩
 ·obtain ⟨o,ho,hr⟩:=pl.isList
  exact ⟨o,ZG _ ho,hr⟩
 ·show b<(s1.heap.push _).objs.size
  rw[Qda]
  exact (Qam.mp hb).elim (λz=>z▸Qcp _) λz=>(ZI.mp z)▸Qcr hp
 ·have ru:RelV (.int (O2 d l)) v:=by
   cases l with
   | nil=>
    have:=h0 (by rw[Qag,hlen];rfl)
    subst this
    exact ⟨_,rfl⟩
   | cons b l=>
    have hn:aH.toArray.size - 1=(l:):=by rw[Qag,hlen];rfl
    have hP:=h1 (by rw[Qag,hlen];exact Nat.succ_pos _)
    rw[hn]at hP
    have VJ:aH[argBest (fH (b::l)) (l:)]? =some v:=by simpa using hP
    have hl:argBest (fH (b::l)) (l:)<((b::l):):=Nat.lt_succ_of_le (argBest_lt _ _)
    have e:=mW (b::l) (l:) (Qcp _)
    rw[show ((b::l).drop 1).take (l:)=l from Qae (ZH _),Qaj,Of hl]at e
    have e':(b::l)[argBest (fH (b::l)) (l:)]=O2 d (b::l):=e
    obtain ⟨u,hu,ru⟩:=rv.get (i:=argBest (fH (b::l)) (l:)) (x:=V.int (O2 d (b::l))) (by rw[Qas,Of hl,e'];rfl)
    rw[VJ]at hu;cases hu
    exact ru
  refine ⟨.int (O2 d l),H1,?_,ru,q⟩
  have I2:Inv X pins σ H1 { s1 with heap:=s1.heap.push { cls:= .type "list_iterator",data:= .fields #[.ref a,.int 0 0] },toks:=s1.toks+1 }:=I1.kept (t':=s1.toks+1) λb o e=>ZG _ e
  have f:=I1.qI (H':=H1) (b:=s1.heap.objs.size) (ZH _) I1.fresh
  exact I2.turned (h':=h') (t':=tk) (it:=s1.heap.objs.size) (λb o hb e=>hk b o (by simpa using hb) e) f.1 f.2.1 f.2.2.2.1 f.2.2.2.2.1 f.2.2.2.2.2
theorem O3:SM X .Mult (λx y H Q=>∃i j,x= .int i/\y= .int j/\Kh i j/\Q (.int (i*j)) H):=by
 intro pins s σ H x y v u Q I r1 r2 h
 obtain ⟨i,j,rfl,rfl,c,q⟩:=h
 walk_at"T"
 obtain ⟨t',rfl⟩:=r2
 exact imul_int ⟨.int _,H,I.tok _,⟨_,rfl⟩,q⟩ c.ok
theorem K_:SM X .FloorDiv (λx y H Q=>∃i j,x= .int i/\y= .int j/\WZ i j/\Q (.int (i / j)) H):=by
 intro pins s σ H x y v u Q I r1 r2 h
 obtain ⟨i,j,rfl,rfl,hc,q⟩:=h
 walk_at"T"
 obtain ⟨t',rfl⟩:=r2
 have h1:(0:Int)<j:=hc.1
 have h2:j<1073741824:=hc.2
 exact ifloordiv_int () (by rw[Int.fdiv_eq_ediv_of_nonneg i ()];exact ⟨.int _,H,I.tok _,⟨_,rfl⟩,q⟩) (.inl (PyProof.noPylong_small ()))
end
theorem yZ:∀{ls:List Int} {aH:List Value},Vals (ls.map V.int) aH->IntsAre aH ls
 | [],_,.nil=> .nil
 | _::_,_,.cons ⟨t,e⟩ h=>e▸ .cons _ t (yZ h)
theorem y0:∀{ls:List Int} {aH:List Value},IntsAre aH ls->Vals (ls.map V.int) aH
 | _,_,.nil=> .nil
 | _,_,.cons n t h=> .cons ⟨t,rfl⟩ (y0 h)
section
variable{prog:Program}{w:World}{A:Around}{E:Value->Shared->Prop}{s:Shared}
theorem xh{Q:Value->Shared->Prop}(hh:A.handled=none)(d:Addr)(aN:List (Key×Value))(ep:Nat)(ls:List Int)(hk:aN.map (·.1)=ls.map λl=>Sum.inl l)(hd:(d==sysModules)=false)(hm:s.heap.DictAt (cO prog w) d aN ep)(h64:(aN:)<64)
  (h:∀(h1 h':Heap) (tk:Nat) (a:Addr) (out:Array Value) (kT:List Int) (e:Nat),(∀b o,s.heap.get? b=some o->h1.get? b=some o)->(∀b o,h1.get? b=some o->h'.get? b=some o)->a=h1.objs.size->h'.get? a=some (seqObj "list" out e)->IntsAre out.toList kT->kT.Perm ls->(kT.Pairwise λa b=> ¬b<a)->Q (.ref a) { s with heap:=h',toks:=tk }):
  wpAny (model prog w) A (call (.builtin "sorted") [.ref d]) Q E s:=by
 refine Calls.call_function_entry kind_sorted plain_sorted entry_sorted (args_sorted1 _) ?_
 unfold Builtin.«sorted»
 refine wpAny_bind (m:=checkCount "sorted" 1 1 _) (wpAny_pure ?_)
 have k_:(10000:Nat)<sizeLine:=by decide
 refine wpAny_bind (w4 (A:=A.in1) (show A.in1.handled=none from hh) d aN ep hd hm () (λs' acc hkk hg VV ho AF=>?_))
 obtain ⟨h1,h2⟩:=AF
 have hlen:(aN:)=(ls:):=by have:=congrArg List.length hk;simpa using this
 have rv:Vals (ls.map V.int) acc.toList:=by
  have key:∀(ls:List Int) (vs:List Value),(vs:)=(ls:)->(∀(j:Nat) (v:Value),vs[j]? =some v->∃l t,ls[j]? =some l/\v=Value.int l t)->Vals (ls.map V.int) vs:=by
   intro ls
   induction ls with
   | nil=>intro vs hl _;have:vs=[]:=Qc8 hl;subst this;exact .nil
   | cons l ls ih=>
    intro vs hl hv
    cases vs with
    | nil=>simp at hl
    | cons v vs=>
     obtain ⟨l',t,e1,e2⟩:=hv 0 v rfl
     have D1:l=l':=by simpa using e1
     subst D1
     refine .cons ⟨t,e2⟩ (ih vs (by simpa using hl) λj v' e=>?_)
     obtain ⟨l',t',g1,g2⟩:=hv (j+1) v' (by simpa using e)
     exact ⟨l',t',by simpa using g1,g2⟩
  refine key ls acc.toList (by simpa [<-hlen]using h1) λj v e=>?_
  obtain ⟨k,x,e1,e2⟩:=h2 j v (by simpa using e)
  have e3:(aN.map (·.1))[j]? =some k:=by rw[Qas,e1];rfl
  rw[hk,Qas]at e3
  cases e4:ls[j]? with
  | none=>rw[e4]at e3;cases e3
  | some l=>
   rw[e4]at e3
   have e5:k=Sum.inl l:=(Qad e3).symm
   subst e5
   obtain ⟨t,e6⟩:=Value.isInt_shape (k:=l) (v:=v) e2
   exact ⟨l,t,rfl,e6⟩
 have hS:=yZ rv
 have hn:(acc.toList:)=(ls:):=by rw[<-(rv:),kb]
 refine wpAny_bind (wpAny_newList ?_)
 have Kb:(s'.heap.push (seqObj "list" acc.toList.toArray 0)).get? s'.heap.objs.size=some (seqObj "list" acc.toList.toArray 0):=Qaq _ rfl
 show wpAny _ _ _ _ _ { s' with heap:=s'.heap.push (seqObj "list" acc.toList.toArray 0) }
 refine wpAny_bind (wpAny_holding (wpAny_call_entry slot_list_sort ⟨_,Kb,rfl⟩ entry_list_sort (list_sort_tree Kb hS () λout kT k1 k2 k3=>⟨_,rfl,?_⟩) (args_list_sort _)))
 obtain ⟨e,he⟩:=sortedHeap_at (out:=out) Kb
 refine wpAny_pure ⟨_,rfl,?_⟩
 have es:∀hh:Heap,({ s' with heap:=hh }:Shared)={ s with heap:=hh,toks:=s'.toks }:=λhh=>by
  cases s;cases s'
  simp only at hg VV ho
  subst hg VV ho
  rfl
 show Q (.ref s'.heap.objs.size) { s' with heap:=sortedHeap (s'.heap.push (seqObj "list" acc.toList.toArray 0)) s'.heap.objs.size acc.toList (out) }
 rw[es]
 refine h s'.heap _ _ _ _ kT e hkk (λb o hb=>?_) rfl he k1 k2 (k3.imp λh=>Int.not_lt.mpr h)
 have cf:=Qap hb
 rw[sortedHeap_old (Qaw cf) (by rw[size_push'];exact Qcr cf)]
 exact ZG _ hb
end
section
variable{X:Cx}
def La:List V->Hp->VK->Prop:=λxs H Q=>∃(d:Addr) (aN:List (Key×V)) (ls:List Int),xs=[.ref d]/\H d=some (.dK aN)/\aN.map (·.1)=(ls.map λl=>Sum.inl l)/\(ls:)<64/\∀(q:Addr) (ms:List Int),H q=none->ms.Perm ls->(ms.Pairwise λa b=> ¬b<a)->Q (.ref q) (upd H q (.lst (ms.map V.int)))
theorem uj(hc:X.calm=true):di X (.builtin "sorted") La:=by
 walk_at"d"
 obtain ⟨d,aN,ls,rfl,hd,hk,hn,q⟩:=h
 obtain ⟨u,rfl,ru⟩:=vals1 r
 cases ru
 obtain ⟨hz,Yj,vs,kv,o,es,ep,e1,e2,e3,e4,e5,e6⟩:=I.b8 d _ hd
 have hlen:(vs:)=(ls:):=by
  have a1:=congrArg List.length (Cq kv)
  have a2:=congrArg List.length hk
  simp only[kb]at a1 a2
  lia
 refine xh (s:=s) (I.ok.hd hc) d vs ep ls ((Cq kv).trans hk) Yj ⟨o,es,e1,e2,e3,e4,e5,e6⟩ () λh1 h' tk a out kT e k1 k2 ea he g1 g2 g3=>?_
 have o_:=g2
 have hv:=y0 g1
 have pw:=g3
 have I1:Inv X pins σ H { s with heap:=h1,toks:=tk }:=I.kept k1
 have hsz:(10000:Nat)<sizeLine:=by decide
 have I2:Inv X pins σ (upd H a (.lst (kT.map V.int))) { s with heap:=h',toks:=tk }:=
  I1.laid (t':=tk) (a:=a) (o:= .lst (kT.map V.int)) k2 (by rw[ea];exact ZH _) ⟨by rw[kb,o_.length_eq];lia,out.toList,e,hv,by simpa [seqObj]using he⟩
 exact ⟨.ref a,_,I2,rfl,q _ _ (I1.b8.fresh (by rw[ea];exact ZH _)) o_ pw⟩
theorem Ha:∀{l:List Bool} {us:List Value},Vals (l.map V.bl) us->us.countP (F_ (.bl true))=l.countP id
 | [],_,.nil=>rfl
 | b::t,_,.cons r1 r2=>by
  rw[List.countP_cons,List.countP_cons,Ha r2,Av r1 rfl]
  cases b<;>rfl
inductive vv(K:c7)(x:V)(vs:List V)(H:Hp)(Q:VK):Prop
 | mk (p:Addr) (l:List Bool) (_:x= .ref p) (_:vs=[.bl true]) (_:H p=some (.lst (l.map V.bl))) (_:Q (.int (l.countP id:Nat)) H):vv K x vs H Q
def Lb(K:c7):V->List V->Hp->VK->Prop:=vv K
theorem Et(K:c7)(h:X.K=K):Ce X "list.count" (Lb K):=by
 subst h
 walk_at"t"
 obtain ⟨p,l,rfl,rfl,hH,q⟩:=h
 cases rx
 obtain ⟨u,rfl,ru⟩:=vals1 rv
 cases (show u=Value.bool true from ru)
 walk_at"o"
 have hc:=Ha r
 refine call_meets F.slot_list_count ⟨_,e,rfl⟩ F.entry_list_count (F.args_list_count_2 _ _) (SeqAt.list_countAt p aH.toArray n none #[] (.bool true) (F_ (.bl true))) ⟨e,?_,?_⟩
 ·intro w hw
  have fs:(l.map V.bl).all mI=true:=by
   rw[Qff];intro v hv
   obtain ⟨d,_,rfl⟩:=Qa3.mp hv
   rfl
  exact mJ (x:= .bl true) (show RelV (.bl true) _ from rfl) rfl r fs w (by simpa using hw)
 ·rw[show aH.toArray.toList=aH from rfl,hc]
  exact ⟨.int (l.countP id:Nat),H,I.tok _,⟨_,rfl⟩,q⟩
end
section
variable{X:Cx}{pos:Pos}
def UG(i j k:Nat)(ta:TA):TS:=λD σ H=>ta σ H λvs H1=>∃v w z,vs=[v,w,z]/\D.nx (((σ.set i (some v)).set j (some w)).set k (some z)) H1
theorem xi{i j k:Nat}{x y z:Str}{a b c:Expr}{ta:TA}{px py pz pt:Pos}{kt k2 NO}(hc:X.calm=true)(hN:X.N.Nodup)(hi:X.N[i]? =some x)(hj:X.N[j]? =some y)(hk:X.N[k]? =some z)(Ai:i≠j/\i≠k/\j≠k)
  (hx:X.env.scope.names.lookup x=some .local) (hy:X.env.scope.names.lookup y=some .local) (hz:X.env.scope.names.lookup z=some .local) (ha:PA X [a,b,c] ta)
  (hw:swappedStores [.Tuple [.Name x px, .Name y py, .Name z pz] kt pt] (.Tuple [a,b,c] k2 NO) X.env=pure (some [x,y,z]))
  (hs:swapsWithSole [.Tuple [.Name x px, .Name y py, .Name z pz] kt pt] (.Tuple [a,b,c] k2 NO) pos.line X.env=pure false:=by rfl):
  PS X (.Assign [.Tuple [.Name x px, .Name y py, .Name z pz] kt pt] (.Tuple [a,b,c] k2 NO) pos) (UG i j k ta):=by
 walk_at"p"
 rw[exec_Assign_arm]
 refine wpAny_bind (wpAny_standAt ?_)
 rw[hs]
 walk_at"y"
 rw[if_neg ∅]
 refine wpAny_bind (Tuple_ (cA (ha _ pins s σ H _ I h) λus s1 ⟨vs,H1,I1,r1,q1⟩=>?_))
 obtain ⟨v,w,q,e1,q1⟩:=q1
 subst e1
 obtain ⟨u1,u2,u3,rfl,rv,tX,rq⟩:∃u1 u2 u3,us=[u1,u2,u3]/\RelV v u1/\RelV w u2/\RelV q u3:=by
  cases r1 with
  | cons p q=>
   cases q with
   | cons p' q'=>
    cases q' with
    | cons p'' q''=>
     cases q''
     exact ⟨_,_,_,rfl,p,p',p''⟩
 refine wpAny_newObj_type ?_ (by show 3<=sizeLine;decide)
 have I2:Inv X pins σ H1 { s1 with heap:=s1.heap.push { cls:= .type "tuple",data:= .seq [u1,u2,u3].toArray } }:=I1.kept (t':=s1.toks) λb o e=>ZG _ e
 rw[hw]
 walk_at"y"
 show wpAny (model X.prog X.w) X.A (do rule "assign.swapped-stores";let items <-unpackItems (.ref s1.heap.objs.size) 3 none;assignInOrder [λv=>bindName X.env z v,λv=>bindName X.env y v,λv=>bindName X.env x v] items.reverse;pure Flow.next) _ _ _
 refine wpAny_bind (wpAny_rule (wpAny_bind (unpackItems_tuple (items:= #[u1,u2,u3]) (I.ok.hd hc) (IsTup.new s1.heap _) λh' JJ=>?_)))
 have I3:=I2.kept (h':=h') (t':=s1.toks) λb o e=>JJ b o (Qaw (Qap e)) e
 show wpAny _ _ (assignInOrder [λv=>bindName X.env z v,λv=>bindName X.env y v,λv=>bindName X.env x v] [u3,u2,u1] >>= λ_=>pure Flow.next) _ _ _
 refine wpAny_bind (assignInOrder_cons (wpAny_bindName (eE I3 hN hk (.inl hz) rq (λs2 I4=>?_) (.inr hz))))
 refine assignInOrder_cons (wpAny_bindName (eE I4 hN hj (.inl hy) tX (λs3 I5=>?_) (.inr hy)))
 refine assignInOrder_cons (wpAny_bindName (eE I5 hN hi (.inl hx) rv (λs4 I6=>assignInOrder_nil (wpAny_pure ?_)) (.inr hx)))
 rw[Qf4 _ _ (Ne.symm Ai.1),Qf4 _ _ (Ne.symm Ai.2.1),Qf4 _ _ (Ne.symm Ai.2.2)]at I6
 exact ⟨_,H1,I6,q1⟩
end
section
variable{X:Cx}
theorem O4:jv X (compareOp .LtE) (TF λa b=>!decide (b<a)):=by
 walk_at"a"
 obtain ⟨a,b,rfl,rfl,q⟩:=h
 walk_at"f"
 walk_at"J"
 exact P.le_str (bz I (by rw[dc,dc];exact q) rfl)
end
end L2
namespace My
open PySem PySem.Spec PyProof.Rows L2 XL
theorem Zs1:(100000:Nat)<sizeLine:=∅
noncomputable def br:c0:=[97,98,99,100,101,102,103,104,105,106,107,108,109,110,111,112,113,114,115,116,117,118,119,120,121,122]
noncomputable def me:c0:=[65,66,67,68,69,70,71,72,73,74,75,76,77,78,79,80,81,82,83,84,85,86,87,88,89,90]
def Lt(c:Nat):Prop:=c∈br\/c∈me
noncomputable instance (c:Nat):Decidable (Lt c):=by unfold Lt;infer_instance
noncomputable def aA(c:Nat):Nat:=if aC c=true then PyProof.Rows.up1 c else PyProof.Rows.lo1 c
theorem xj:∀c∈br++me,c<128/\aA c∈br++me/\aA (aA c)=c/\aA c≠c:=⋯
theorem Lt.mem{c:Nat}(h:Lt c):c∈br++me:=Qao.mpr h
theorem Lt.lt{c:Nat}(h:Lt c):c<128:=(xj c h.mem).1
theorem Lt.aA{c:Nat}(h:Lt c):Lt (aA c):=Qao.mp (xj c h.mem).2.1
theorem aO{c:Nat}(h:Lt c):aA (aA c)=c:=(xj c h.mem).2.2.1
theorem oj{c:Nat}(h:Lt c):aA c≠c:=(xj c h.mem).2.2.2
theorem gi{a b:Nat}(ha:Lt a)(hb:Lt b)(e:My.aA a=My.aA b):a=b:=by rw[<-aO ha,e,aO hb]
theorem y6:∀c∈br,qp me ((br.idxOf c:Nat):Int)=some (aA c):=⋯
theorem Eu:∀c∈me,qp br ((me.idxOf c:Nat):Int)=some (aA c):=⋯
noncomputable def dU(l:c0):c0:=(l.map aA).reverse
def bj(b:Addr)(H H':Hp):Prop:=∀c o,H c=some o->c≠b->H' c=some o
theorem bj.refl(b:Addr)(H:Hp):bj b H H:=λ_ _ h _=>h
theorem bj.trans{b:Addr}{H H1 H2:Hp}(x:bj b H H1)(y:bj b H1 H2):bj b H H2:=λc o h n=>y c o (x c o h n) n
theorem bj.of{b:Addr}{H H':Hp}(x:aq H H'):bj b H H':=λc o h _=>x c o h
theorem bj.upd(b:Addr)(H:Hp)(o:HO):bj b H (upd H b o):=λc o h n=>by rw[az n];exact h
theorem aq.upd{H:Hp}{p:Addr}{o:HO}(h:H p=none):aq H (L2.upd H p o):=λc u e=>by rw[az (ay e h)];exact e
def gA(H:Hp)(b:Addr):Prop:=∃x y:Int,H b=some (.lst [.int x,.int y])
theorem gA.same{H H':Hp}{b:Addr}(h:gA H b)(s:aq H H'):gA H' b:=let ⟨x,y,e⟩:=h;⟨x,y,s _ _ e⟩
structure Yd(y:c0):Prop where
 nd:y.Nodup
 lt:∀c∈y,Lt c
 cl:∀c∈y,aA c∈y
def pq(_:c7):Sp:=λvs H Q _=>∃c,vs=[.str (S [c])]/\c<128/\Q (.str (S [aA c])) H
theorem xk{K:c7}{vs:List V}{H:Hp}{Q:VK}{E:XK}(h:pq K vs H Q E):(vs:)=1:=by obtain ⟨c,rfl,_⟩:=h;rfl
def vw(_:c7):Sp:=λvs H Q _=>∃c,vs=[.str (S [c])]/\Lt c/\Q (.str (S [aA c])) H
theorem A5{K:c7}{vs:List V}{H:Hp}{Q:VK}{E:XK}(h:vw K vs H Q E):(vs:)=1:=by obtain ⟨c,rfl,_⟩:=h;rfl
def vx(_:c7):Sp:=λvs H Q _=>∃l:c0,vs=[.str (S l)]/\(∀c∈l,c<128)/\(l:)<=1000/\∀H',aq H H'->Q (.str (S (dU l))) H'
theorem A6{K:c7}{vs:List V}{H:Hp}{Q:VK}{E:XK}(h:vx K vs H Q E):(vs:)=1:=by obtain ⟨c,rfl,_⟩:=h;rfl
inductive vy(K:c7)(vs:List V)(H:Hp)(Q:VK)(cK:XK):Prop
 | mk (a:Addr) (ns:List Int) (k:Nat) (_:vs=[.ref a,.int k]) (_:bB K H a (ns.map V.int)) (_:k<=1000) (_:∀b H',H b=none->gA H' b->aq H H'->Q (.ref b) H'):vy K vs H Q cK
def Cy(K:c7):Sp:=vy K
theorem Hb{K:c7}{vs:List V}{H:Hp}{Q:VK}{E:XK}(h:Cy K vs H Q E):(vs:)=2:=by obtain ⟨a,ns,k,rfl,_⟩:=h;rfl
inductive rF(p_:c7)(vs:List V)(H:Hp)(Q:VK)(cK:XK):Prop
 | mk (b:Addr) (m:Int) (_:vs=[.ref b,.int m]) (_:gA H b) (_:1<=m) (_:m<1000000) (_:∀(r:Nat) H',(r:Int)<m->gA H' b->bj b H H'->Q (.int r) H'):rF p_ vs H Q cK
def y7(p_:c7):Sp:=rF p_
theorem Ew{K:c7}{vs:List V}{H:Hp}{Q:VK}{E:XK}(h:y7 K vs H Q E):(vs:)=2:=by obtain ⟨b,m,rfl,_⟩:=h;rfl
inductive rG(p_:c7)(vs:List V)(H:Hp)(Q:VK)(cK:XK):Prop
 | mk (b:Addr) (jS top:Nat) (_:vs=[.ref b,.int jS,.int top]) (_:gA H b) (_:1<=jS) (_:jS<=top) (_:top<=8) (_:∀(y:c0) H',Yd y->2*jS<=(y:)->(y:)<=2*top->gA H' b->bj b H H'->Q (.str (S y)) H'):rG p_ vs H Q cK
def y8(p_:c7):Sp:=rG p_
theorem Ex{K:c7}{vs:List V}{H:Hp}{Q:VK}{E:XK}(h:y8 K vs H Q E):(vs:)=3:=by obtain ⟨b,m,t,rfl,_⟩:=h;rfl
inductive y9(K:c7)(vs:List V)(H:Hp)(Q:VK)(cK:XK):Prop
 | mk (a:Addr) (ns:List Int) (_:vs=[.ref a]) (_:bB K H a (ns.map V.int)) (_:(ns:)<=63) (_:∀H',Q (.bl true) H'):y9 K vs H Q cK
def nV(K:c7):Sp:=y9 K
theorem Lc{K:c7}{vs:List V}{H:Hp}{Q:VK}{E:XK}(h:nV K vs H Q E):(vs:)=1:=by obtain ⟨b,m,rfl,_⟩:=h;rfl
theorem vz:∀l:c0,(l.map λc=>[c]).flatten=l
 | []=>rfl
 | c::l=>by rw[Qa0,Qb6,vz l];rfl
theorem Ey:∀l:c0,((l.map λc=>[c]).map List.length).sum=(l:)
 | []=>rfl
 | c::l=>by
  rw[Qa0,Qa0,Qdm,Ey l]
  show 1+(l:)=(l:)+1
  lia
theorem iB(l:c0):cx l=(l.map λc=>[c]).map λl=>V.str (S l):=by unfold cx;rw[Qbx];rfl
theorem Cz(l:c0):(cx l).reverse=cx l.reverse:=by unfold cx;rw[Qd5]
theorem fI(l:c0)(c:Nat):cx l++[V.str (S [c])]=cx (l++[c]):=by unfold cx;rw[Qak];rfl
theorem take_snoc{α:Type}{l:List α}{i:Nat}{x:α}(h:l[i]? =some x):l.take i++[x]=l.take (i+1):=by rw[Qei,h];rfl
theorem CA{ns:List Int}{i:Nat}(h:i<(ns:)):∃z,(ns.map V.int)[i]? =some (V.int z):=⟨ns[i],by rw[Qas,Of h];rfl⟩
theorem eL{σ:L2.St}{H:Hp}{A B:Hp->Prop}(h:A H):To σ H λb H3=>if b=true then A H3 else B H3:=by
 show (if true=true then A H else B H)
 rw[if_pos rfl]
 exact h
theorem A7(b:Bool)(z:Int):∃y,qp [V.int 0,V.int z] (if b=true then 1 else 0)=some (V.int y):=by
 cases b
 ·exact ⟨0,rfl⟩
 ·exact ⟨z,rfl⟩
theorem mf{α:Type}:∀{l:List α} {i:Nat} {x:α},l[i]? =some x->(x::l.eraseIdx i).Perm l
 | [],i,x,h=>by simp at h
 | a::l,0,x,h=>by
  have:a=x:=by simpa using h
  subst this
  exact Qez _
 | a::l,i+1,x,h=>by
  have ih:=mf (l:=l) (i:=i) (x:=x) (by simpa using h)
  rw[Qef]
  exact (List.Perm.swap a x _).trans (List.Perm.cons a ih)
theorem vA(l:c0)(i:Nat):(cx l).eraseIdx i=cx (l.eraseIdx i):=by
 unfold cx
 induction l generalizing i with
 | nil=>rfl
 | cons a l ih=>
  cases i with
  | zero=>rfl
  | succ i=>rw[Qa0,Qef,ih,Qef,Qa0]
theorem Hc{l:c0}{i:Nat}(h:i<(l:)):(cx l)[i]? =some (V.str (S [l[i]])):=by unfold cx;rw[Qas,Of h];rfl
theorem Ld(a b:c0):cx a++cx b=cx (a++b):=by unfold cx;rw[Qak]
theorem Ez:∀c∈br,aA c∉br:=⋯
theorem EA:br.Nodup:=⋯
theorem Yd.perm{a b:c0}(h:Yd a)(p:a.Perm b):Yd b:=
 ⟨p.nodup_iff.mp h.nd,λc hc=>h.lt c (p.mem_iff.mpr hc),λc hc=>p.mem_iff.mp (h.cl c (p.mem_iff.mpr hc))⟩
structure O5(i:Nat)(L E:c0):Prop where
 yd:Yd E
 nd:L.Nodup
 sm:∀c∈L,c∈br
 ap:∀c∈L,c∉E
 ll:L.length=26 - i
 el:E.length=2*i
theorem O5.start:O5 0 br []:=⟨⟨Qey,λ_ h=>absurd h Qbb,λ_ h=>absurd h Qbb⟩,EA,λ_ h=>h,λ_ _ h=>absurd h Qbb,rfl,rfl⟩
theorem O5.turn{i r:Nat}{L E:c0}(w:O5 i L E)(hi:i<26)(hr:r<L.length):O5 (i+1) (L.eraseIdx r) (E++[L[r],aA L[r]]):=by
 have hp:=mf (l:=L) (Of hr)
 have hm:L[r]∈L:=Qb0 hr
 have hs:=w.sm _ hm
 have hl:Lt L[r]:= .inl hs
 have VW:=hp.nodup_iff.mpr w.nd
 have sub:∀c∈L.eraseIdx r,c∈L:=λc hc=>hp.mem_iff.mp (Qaf _ hc)
 have ap1:=w.ap _ hm
 have ap2:aA L[r]∉E:=λz=>ap1 (by have:=w.yd.cl _ z;rwa [aO hl]at this)
 refine ⟨⟨?_,λc hc=>?_,λc hc=>?_⟩,(Qbp.mp VW).2,λc hc=>w.sm c (sub c hc),λc hc hE=>?_,?_,?_⟩
 ·rw[Qcs]
  refine ⟨w.yd.nd,?_,λa ha b hb z=>?_⟩
  ·rw[Qbp]
   refine ⟨λz=>(oj hl) (ZI.mp z).symm,Qbp.mpr ⟨Qbb,Qey⟩⟩
  ·subst z
   rcases Qam.mp hb with z | z
   ·exact ap1 (z▸ha)
   ·exact ap2 (ZI.mp z▸ha)
 ·rcases Qao.mp hc with z | z
  ·exact w.yd.lt c z
  ·rcases Qam.mp z with z | z
   ·rw[z];exact hl
   ·rw[ZI.mp z];exact hl.aA
 ·rcases Qao.mp hc with z | z
  ·exact Qck _ (w.yd.cl c z)
  ·refine Qa2 _ ?_
   rcases Qam.mp z with z | z
   ·rw[z];exact Qaf _ (ZI.mpr rfl)
   ·rw[ZI.mp z,aO hl];exact Qai
 ·rcases Qao.mp hE with z | z
  ·exact w.ap c (sub c hc) z
  ·rcases Qam.mp z with z | z
   ·exact (Qbp.mp VW).1 (z▸hc)
   ·have e:c=aA L[r]:=ZI.mp z
    exact Ez _ hs (e▸w.sm c (sub c hc))
 ·have:=hp.length_eq
  rw[Qa5,w.ll]at this
  lia
 ·rw[QD,w.el]
  show 2*i+2=_
  lia
theorem bj.rH{b p:Addr}{H H':Hp}{o:HO}(h:bj b H H')(n:H p=none):bj b H (L2.upd H' p o):=λc u e z=>by rw[az (ay e n)];exact h c u e z
theorem gA.rH{b p:Addr}{H:Hp}{o:HO}(h:gA H b)(n:p≠b):gA (L2.upd H p o) b:=let ⟨x,y,e⟩:=h;⟨x,y,by rw[az (Ne.symm n)];exact e⟩
theorem bj.none{b p:Addr}{H H':Hp}(h:bj b H H')(n:H' p=none)(z:p≠b):H p=none:=by
 cases q:H p with
 | none=>rfl
 | some o=>rw[h p o q z]at n;cases n
theorem gA.ne{b p:Addr}{H:Hp}(h:gA H b)(n:H p=none):p≠b:=λz=>by obtain ⟨x,y,e⟩:=h;rw[<-z,n]at e;cases e
theorem jB{c:Bool}{A B:Prop}(h:c=false)(hB:B):if c=true then A else B:=by rw[h];exact Kv hB
theorem uk{c:Bool}{A B:Prop}(h:c=true)(hA:A):if c=true then A else B:=by rw[h];exact Xj hA
theorem bZ(l:c0):(dU l:)=(l:):=by unfold dU;rw[Qat,kb]
theorem Le{l:c0}{c:Nat}(h:c∈l):aA c∈dU l:=Qb4.mpr (Qa3.mpr ⟨c,h,rfl⟩)
theorem Hd{l:c0}(h:∀c∈l,Lt c):∀c∈dU l,Lt c:=λc hc=>by
 obtain ⟨d,hd,rfl⟩:=Qa3.mp (Qb4.mp hc)
 exact (h d hd).aA
theorem CB{l:c0}(h:∀c∈l,Lt c):dU (dU l)=l:=by
 unfold dU
 rw[Qd5,Qfv,Qbx]
 have:∀c∈l,(aA ∘ aA) c=c:=λc hc=>aO (h c hc)
 calc l.map (aA ∘ aA)=l.map id:=Qdo this
  _=l:=Qfx l
theorem y_{l:c0}(h:∀c∈l,Lt c):∀c∈l,c<128:=λc hc=>(h c hc).lt
theorem rJ(a:c0):a.take (cx a:)=a:=by rw[aX];exact Qae (ZH _)
noncomputable def bV(ws:List c0):List V:=ws.map λl=>V.str (S l)
theorem aY(ws:List c0):(bV ws:)=(ws:):=by unfold bV;rw[kb]
theorem fJ(ws:List c0)(l:c0):bV ws++[V.str (S l)]=bV (ws++[l]):=by unfold bV;rw[Qak];rfl
theorem rK{ws:List c0}{i:Nat}(h:i<(ws:)):(bV ws)[i]? =some (V.str (S ws[i])):=by unfold bV;rw[Qas,Of h];rfl
theorem He{s:TS}{D:Ends}{σ:L2.St}{H:Hp}(h:∀D':Ends,(∀σ' H',D.nx σ' H'->D'.nx σ' H')->s D' σ H):s D σ H:=h D λ_ _ z=>z
noncomputable def cB(st:c0)(c:Nat):c0:=if st.getLast? =some (aA c) then st.dropLast else st++[c]
noncomputable def red(l:c0):c0:=l.foldl cB []
def kI:c0->Prop
 | []=>True
 | [_]=>True
 | a::b::r=>a≠aA b/\kI (b::r)
theorem kI.tail:∀{a:Nat} {r:c0},kI (a::r)->kI r
 | _,[],_=>trivial
 | _,_::_,h=>h.2
theorem kI.snoc:∀{l:c0} {c:Nat},kI l->l.getLast?≠ some (aA c)->kI (l++[c])
 | [],_,_,_=>trivial
 | [a],c,_,h=>⟨λz=>h (by rw[z];rfl),trivial⟩
 | a::b::r,c,h,k=>⟨h.1,kI.snoc (l:=b::r) h.2 (by simpa using k)⟩
theorem kI.init:∀{l:c0} {c:Nat},kI (l++[c])->kI l/\l.getLast?≠ some (aA c)
 | [],_,_=>⟨trivial,by simp⟩
 | [a],c,h=>⟨trivial,λz=>h.1 (by simpa using z)⟩
 | a::b::r,c,h=>by
  have ih:=kI.init (l:=b::r) (c:=c) h.2
  exact ⟨⟨h.1,ih.1⟩,by simpa using ih.2⟩
theorem snoc_cases(l:c0):l=[]\/∃m a,l=m++[a]:=by
 by_cases h:l=[]
 ·exact .inl h
 ·exact .inr ⟨l.dropLast,l.getLast h,(List.dropLast_concat_getLast h).symm⟩
theorem kI.left:∀{m l:c0},kI (m++l)->kI m
 | [],_,_=>trivial
 | [_],_,_=>trivial
 | a::b::r,l,h=>⟨h.1,kI.left (m:=b::r) (l:=l) h.2⟩
theorem EB{l:c0}{c:Nat}(h:l.getLast? =some c):∃m,l=m++[c]:=by
 rcases snoc_cases l with rfl | ⟨m,a,rfl⟩
 ·simp at h
 ·refine ⟨m,?_⟩
  have:a=c:=by simpa using h
  rw[this]
theorem EC{st:c0}{c:Nat}(h:kI st):kI (cB st c):=by
 unfold cB
 by_cases e:st.getLast? =some (aA c)
 ·rw[if_pos e]
  obtain ⟨m,rfl⟩:=EB e
  rw[Qd0]
  exact h.init.1
 ·rw[if_neg e]
  exact h.snoc e
theorem vB{st:c0}{c d:Nat}(h:d∈cB st c):d∈st\/d=c:=by
 unfold cB at h
 by_cases e:st.getLast? =some (aA c)
 ·rw[if_pos e]at h
  exact .inl (List.dropLast_subset _ h)
 ·rw[if_neg e]at h
  rcases Qao.mp h with z | z
  ·exact .inl z
  ·exact .inr (ZI.mp z)
theorem za:∀(l st:c0),kI st->kI (l.foldl cB st)
 | [],_,h=>h
 | _::l,_,h=>za l _ (EC h)
theorem Lf(l:c0):kI (red l):=za l [] trivial
theorem fold_same:∀(l st:c0),kI (st++l)->l.foldl cB st=st++l
 | [],st,_=>by simp
 | c::l,st,h=>by
  have h':kI ((st++[c])++l):=by rw[VI];exact h
  have h2:=(kI.left h').init.2
  rw[Qdi]
  have:cB st c=st++[c]:=by unfold cB;rw[if_neg h2]
  rw[this,fold_same l (st++[c]) h',VI]
  rfl
theorem Hf{l:c0}(h:kI l):red l=l:=by
 exact fold_same l [] h
theorem fold_lt:∀(l st:c0),(∀c∈l,Lt c)->(∀c∈st,Lt c)->∀c∈l.foldl cB st,Lt c
 | [],_,_,h=>h
 | a::l,st,h1,h2=>fold_lt l _ (λc hc=>h1 c (Qaf _ hc)) λc hc=>(vB hc).elim (h2 c) λz=>z▸h1 a Qai
theorem Hg{l:c0}(h:∀c∈l,Lt c):∀c∈red l,Lt c:=fold_lt l [] h λ_ h=>absurd h Qbb
theorem ED(st:c0)(c:Nat):(cB st c:)<=(st:)+1:=by
 unfold cB
 by_cases e:st.getLast? =some (aA c)
 ·rw[if_pos e,Qfy];lia
 ·rw[if_neg e,QD];exact ZH _
theorem rL:∀(l st:c0),(l.foldl cB st:)<=(st:)+(l:)
 | [],_=>ZH _
 | c::l,st=>by
  have:=rL l (cB st c)
  have h2:=ED st c
  rw[Qdi,Qa5]
  lia
theorem gj(l:c0):(red l:)<=(l:):=by
 have:=rL l []
 rw[Qfr,Qc1]at this
 exact this
theorem zc{l:c0}{i c:Nat}(h:l[i]? =some c):red (l.take (i+1))=cB (red (l.take i)) c:=by
 unfold red
 rw[<-take_snoc h,List.foldl_append]
 rfl
theorem Hh:∀{l:c0},(∀k a b,l[k]? =some a->l[k+1]? =some b->a≠aA b)->kI l
 | [],_=>trivial
 | [_],_=>trivial
 | a::b::r,h=>⟨h 0 a b rfl rfl,Hh (l:=b::r) λk x y h1 h2=>h (k+1) x y (by simpa using h1) (by simpa using h2)⟩
noncomputable def Fv(l:c0)(s e:Nat):c0:=(l.drop s).take (e - s)
noncomputable def strip:Nat->c0->c0
 | 0,l=>l
 | n+1,l=>match l with
  | []=>[]
  | [a]=>[a]
  | a::b::r=>if a=aA ((b::r).getLast (by simp)) then strip n (b::r).dropLast else a::b::r
theorem fK:∀(n:Nat) {l:c0},(l:)<2->strip n l=l
 | 0,_,_=>rfl
 | _+1,[],_=>rfl
 | _+1,[_],_=>rfl
 | _+1,_::_::_,h=>by simp at h;lia
theorem mX(l:c0)(y:Nat):(l++[y]).getLast (by simp)=y:=by simp
theorem strip_go(n:Nat){a y:Nat}{m:c0}(h:a=aA y):strip (n+1) (a::(m++[y]))=strip n m:=by
 cases m with
 | nil=>
  show (if a=aA (([y]:c0).getLast (by simp)) then strip n ([y]:c0).dropLast else _)=strip n []
  rw[if_pos (by simpa using h)]
  rfl
 | cons b r=>
  show (if a=aA ((b::(r++[y])).getLast (by simp)) then strip n (b::(r++[y])).dropLast else _)=strip n (b::r)
  have e1:(b::(r++[y])).getLast (by simp)=y:=mX (b::r) y
  have e2:(b::(r++[y])).dropLast=b::r:=by
   have:b::(r++[y])=(b::r)++[y]:=rfl
   rw[this,Qd0]
  rw[if_pos (by rw[e1];exact h),e2]
theorem strip_stop(n:Nat){a y:Nat}{m:c0}(h:a≠aA y):strip n (a::(m++[y]))=a::(m++[y]):=by
 cases n with
 | zero=>rfl
 | succ n=>
  cases m with
  | nil=>
   show (if a=aA (([y]:c0).getLast (by simp)) then _ else _)=_
   rw[if_neg (by simpa using h)]
   rfl
  | cons b r=>
   show (if a=aA ((b::(r++[y])).getLast (by simp)) then _ else _)=_
   have e1:(b::(r++[y])).getLast (by simp)=y:=mX (b::r) y
   rw[if_neg (by rw[e1];exact h)]
   rfl
theorem CC{l:c0}(h:2<=(l:)):∃a m y,l=a::(m++[y]):=by
 cases l with
 | nil=>simp at h
 | cons a r=>
  rcases snoc_cases r with rfl | ⟨m,y,rfl⟩
  ·simp at h
  ·exact ⟨a,m,y,rfl⟩
theorem rM:∀(n:Nat) (l:c0) (k:Nat),(l:)<=n->strip (n+k) l=strip n l
 | 0,l,k,h=>by rw[fK _ (),fK _ ()]
 | n+1,l,k,h=>by
  by_cases h2:(l:)<2
  ·rw[fK _ h2,fK _ h2]
  ·obtain ⟨a,m,y,rfl⟩:=CC (l:=l) ()
   have hm:(m:)<=n:=by simp at h;lia
   by_cases e:a=aA y
   ·have:n+1+k=(n+k)+1:=by lia
    rw[this,strip_go _ e,strip_go _ e,rM n m k hm]
   ·rw[strip_stop _ e,strip_stop _ e]
noncomputable def core(l:c0):c0:=strip (l:) l
theorem qv{a y:Nat}{m:c0}(h:a=aA y):core (a::(m++[y]))=core m:=by
 unfold core
 have:((a::(m++[y])):)=((m:)+1)+1:=by simp
 rw[this,strip_go _ h,rM _ _ _ (ZH _)]
theorem iC{a y:Nat}{m:c0}(h:a≠aA y):core (a::(m++[y]))=a::(m++[y]):=strip_stop _ h
theorem fg{l:c0}(h:(l:)<2):core l=l:=fK _ h
theorem iD{P:c0->c0->Prop}(h1:∀l,(l:)<2->P l l)(h2:∀a m y,a≠aA y->P (a::(m++[y])) (a::(m++[y])))(h3:∀a m y r,a=aA y->P m r->P (a::(m++[y])) r):∀(n:Nat) (l:c0),(l:)<=n->P l (core l)
 | 0,l,h=>by rw[fg ()];exact h1 l ()
 | n+1,l,h=>by
  by_cases hl:(l:)<2
  ·rw[fg hl];exact h1 l hl
  ·obtain ⟨a,m,y,rfl⟩:=CC (l:=l) ()
   by_cases e:a=aA y
   ·rw[qv e]
    exact h3 a m y _ e (iD h1 h2 h3 n m (by simp at h;lia))
   ·rw[iC e];exact h2 a m y e
theorem EE(l:c0):core (core l)=core l:=
 iD (P:=λ_ r=>core r=r) (λl h=>fg h) (λa m y h=>iC h) (λ_ _ _ _ _ h=>h) (l:) l (ZH _)
theorem Hi{l:c0}(h:kI l):kI (core l):=
 iD (P:=λl r=>kI l->kI r) (λ_ _ h=>h) (λ_ _ _ _ h=>h) (λa m y r _ k h=>k (by
  have h':kI (a::m++[y]):=h
  exact h'.init.1.tail)) (l:) l (ZH _) h
theorem rN{l:c0}{c:Nat}:c∈core l->c∈l:=
 iD (P:=λl r=>c∈r->c∈l) (λ_ _ h=>h) (λ_ _ _ _ h=>h) (λa m y r _ k h=>Qaf _ (Qck _ (k h))) (l:) l (ZH _)
theorem jT(l:c0):(core l:)<=(l:):=
 iD (P:=λl r=>(r:)<=(l:)) (λ_ _=>ZH _) (λ_ _ _ _=>ZH _) (λa m y r _ k=>by simp;lia) (l:) l (ZH _)
theorem O6{l:c0}{s e:Nat}(h1:s+2<=e)(h2:e<=(l:)):Fv l s e=l[s]::(Fv l (s+1) (e - 1)++[l[e - 1]]):=by
 unfold Fv
 rw[Qbq ()]
 have e1:e - s=(e - 1 - (s+1))+1+1:=by lia
 rw[e1,List.take_succ_cons,Qei,Qbj]
 have e2:s+1+(e - 1 - (s+1))=e - 1:=by lia
 rw[e2,Of ()]
 rfl
theorem Lg{l:c0}{s e:Nat}(h2:e<=(l:)):(Fv l s e:)=e - s:=by unfold Fv;rw[Qaa,Qaz];lia
theorem Lh(l:c0):Fv l 0 (l:)=l:=by unfold Fv;simp
def mY(_:c7):Sp:=λvs H Q _=>∃l:c0,vs=[.str (S l)]/\(∀c∈l,Lt c)/\(l:)<=1000/\∀H',aq H H'->Q (.str (S (red l))) H'
theorem um{K:c7}{vs:List V}{H:Hp}{Q:VK}{E:XK}(h:mY K vs H Q E):(vs:)=1:=by obtain ⟨c,rfl,_⟩:=h;rfl
def pA(_:c7):Sp:=λvs H Q _=>∃l:c0,vs=[.str (S l)]/\(∀c∈l,Lt c)/\(l:)<=1000/\∀H',aq H H'->Q (.str (S (core (red l)))) H'
theorem xl{K:c7}{vs:List V}{H:Hp}{Q:VK}{E:XK}(h:pA K vs H Q E):(vs:)=1:=by obtain ⟨c,rfl,_⟩:=h;rfl
theorem fi{α:Type}(l:List α)(k:Nat):cut l none (some (k:Int))=l.take k:=by
 unfold cut
 rw[HT.qL,HT.eJ,Qcl,Qdk]
 by_cases h:k<=(l:)
 ·rw[Qbo h]
 ·rw[Qco (),Qae (ZH _),Qae ()]
theorem eM{α:Type}(l:List α)(k:Nat):cut l (some (k:Int)) none=l.drop k:=by
 unfold cut
 rw[HT.qL,HT.eJ]
 by_cases h:k<=(l:)
 ·rw[Qbo h,Qae (by rw[Qaz];exact ZH _)]
 ·rw[Qco (),Qbn (ZH _),Qbn ()]
  simp
noncomputable def CD(ws:List c0):List PyData:=ws.map λl=>PyData.str (S l)
theorem fL{K:c7}{H:Hp}:∀ws:List c0,q8 K H (bV ws) (CD ws)
 | []=> .nil
 | w::ws=> .cons (.str _) (fL ws)
theorem O7{l:c0}(h:∀c∈l,c<128):PyData.strOk (S l)=true:=by
 unfold PyData.strOk
 rw[Array.all_eq_true_iff_forall_mem]
 intro c hc
 have:c∈l:=by simpa [S]using hc
 have:=h c this
 simp;lia
theorem CF:∀{ws:List c0},(∀l∈ws,∀c∈l,c<128)->PyData.canLayAll0 (CD ws)=true
 | [],_=>rfl
 | w::ws,h=>by
  show (PyData.strOk (S w)&&PyData.canLayAll0 (CD ws))=true
  rw[O7 (h w Qai),CF λl hl=>h l (Qaf _ hl)]
  rfl
theorem vC:∀ws:List c0,PyData.depthAll (CD ws)=0
 | []=>rfl
 | k::ks=>by show max (PyData.depth (.str _)) (PyData.depthAll (CD ks))=0;rw[vC ks];rfl
mutual
theorem eqv_refl:∀d:PyData,d.hasDict=false->PyData.eqv d d=true
 | .none,_=>rfl
 | .bool b,_=>by simp[PyData.eqv]
 | .int i,_=>by simp[PyData.eqv]
 | .str x,_=>by simp[PyData.eqv]
 | .list xs,h=>by show PyData.eqvAll xs xs=true;exact eqvAll_refl xs (by simpa [PyData.hasDict]using h)
 | .tuple xs,h=>by show PyData.eqvAll xs xs=true;exact eqvAll_refl xs (by simpa [PyData.hasDict]using h)
 | .dict aN,h=>by simp[PyData.hasDict]at h
theorem eqvAll_refl:∀ds:List PyData,PyData.hasDictAll ds=false->PyData.eqvAll ds ds=true
 | [],_=>rfl
 | d::ds,h=>by
  simp[PyData.hasDictAll]at h
  show (PyData.eqv d d&&PyData.eqvAll ds ds)=true
  rw[eqv_refl d h.1,eqvAll_refl ds h.2]
  rfl
end
theorem Li(a y:Nat)(m:c0):cut (a::(m++[y])) (some 1) (some ((((a::(m++[y])):):Int) - 1))=m:=by
 have hl:((a::(m++[y])):)=(m:)+2:=by simp
 have e:((((a::(m++[y])):):Int) - 1)=(((m:)+1:Nat):Int):=by rw[hl];lia
 rw[e]
 unfold cut
 have e1:HT.yk ((a::(m++[y])):) 0 (some 1)=1:=by
  have:=HT.eJ ((a::(m++[y])):) 0 1
  rw[hl]at this ⊢
  rw[show ((1:Nat):Int)=1 from rfl]at this
  rw[this];lia
 rw[e1,HT.eJ,hl]
 have e2:min ((m:)+1) ((m:)+2) - 1=(m:):=by lia
 rw[e2]
 show (m++[y]).take (m:)=m
 simp
noncomputable def eV(c:c0)(k:Nat):c0:=c.drop k++c.take k
noncomputable def jU(c:c0)(n:Nat):List c0:=(List.range n).map λk=>eV c (k+1)
noncomputable def cN(c:c0):c0:=bC c (jU c ((c:) - 1))
@[irreducible] noncomputable def bQ (w:c0):c0:=cN (core (red w))
theorem vD(c:c0)(n:Nat):jU c (n+1)=jU c n++[eV c (n+1)]:=by unfold jU;rw[Qca,Qak];rfl
theorem iW:∀(r:List c0) (a b:c0),bC a (r++[b])=bp (bC a r) b
 | [],_,_=>rfl
 | _::r,_,_=>iW r _ _
theorem cF(c:c0)(k:Nat):(eV c k:)=(c:):=by unfold eV;rw[QD,Qaz,Qaa];lia
theorem mh:∀(r:List c0) (a:c0),bC a r=a\/bC a r∈r
 | [],a=> .inl rfl
 | b::r,a=>by
  rcases mh r (bp a b) with h | h
  ·have hl:bp a b=a\/bp a b=b:=by unfold bp;split<;>simp
   rcases hl with e | e
   ·left;show bC (bp a b) r=a;rw[h,e]
   ·right;show bC (bp a b) r∈b::r;rw[h,e];exact Qai
  ·right;exact Qaf _ h
theorem om(c:c0):∃k,cN c=eV c k:=by
 rcases mh (jU c ((c:) - 1)) c with h | h
 ·exact ⟨0,by show bC _ _=_;rw[h];unfold eV;simp⟩
 ·unfold jU at h
  obtain ⟨k,_,e⟩:=Qa3.mp h
  exact ⟨k+1,e.symm⟩
theorem EF(w:c0):(bQ w:)<=(w:):=by
 obtain ⟨k,e⟩:=om (core (red w))
 unfold bQ
 rw[e,cF]
 exact Qbh (jT _) (gj w)
def CG(_:c7):Sp:=λvs H Q _=>∃l:c0,vs=[.str (S l)]/\(∀c∈l,Lt c)/\(l:)<=1000/\∀H',aq H H'->Q (.str (S (bQ l))) H'
theorem Hj{K:c7}{vs:List V}{H:Hp}{Q:VK}{E:XK}(h:CG K vs H Q E):(vs:)=1:=by obtain ⟨c,rfl,_⟩:=h;rfl
def CH(_:c7):Sp:=λvs H Q _=>∃l:c0,vs=[.str (S l)]/\(∀c∈l,Lt c)/\(l:)<=1000/\∀H',aq H H'->Q (.str (S (bp (bQ l) (bQ (dU l))))) H'
theorem Hk{K:c7}{vs:List V}{H:Hp}{Q:VK}{E:XK}(h:CH K vs H Q E):(vs:)=1:=by obtain ⟨c,rfl,_⟩:=h;rfl
def zd(_:c7):Sp:=λvs H Q _=>∃l:c0,vs=[.str (S l)]/\(∀c∈l,Lt c)/\(l:)<=1000/\∀H',aq H H'->Q (.str (S (bQ l))) H'
theorem EG{K:c7}{vs:List V}{H:Hp}{Q:VK}{E:XK}(h:zd K vs H Q E):(vs:)=1:=by obtain ⟨c,rfl,_⟩:=h;rfl
def vE(_:c7):Sp:=λvs H Q _=>∃l:c0,vs=[.str (S l)]/\(∀c∈l,Lt c)/\(l:)<=1000/\∀H',aq H H'->Q (.str (S (dU l))) H'
theorem A8{K:c7}{vs:List V}{H:Hp}{Q:VK}{E:XK}(h:vE K vs H Q E):(vs:)=1:=by obtain ⟨c,rfl,_⟩:=h;rfl
theorem Hl(n d:Nat):HT.yk n d (some (-1))=n - 1:=by
 have e:HT.yk n d (some (-1))=(if (-1:Int)<0 then ((-1:Int)+(n:Int)).toNat else min (-1:Int).toNat n):=rfl
 rw[e,if_pos ∅]
 lia
theorem Hm{α:Type}(m:List α)(a:α):cut (m++[a]) none (some (-1))=m:=by
 have hl:(m++[a]:)=(m:)+1:=by simp
 unfold cut
 rw[HT.qL,Hl,hl]
 simp
theorem Hn(a y:Nat)(m:c0):cut (a::(m++[y])) (some 1) (some (-1))=m:=by
 have h:=Li a y m
 have hl:((a::(m++[y])):)=(m:)+2:=by simp
 have e1:((((a::(m++[y])):):Int) - 1)=(((m:)+1:Nat):Int):=by rw[hl];lia
 unfold cut at h ⊢
 rw[e1,HT.eJ]at h
 rw[Hl]
 have e2:min ((m:)+1) ((a::(m++[y])):)=((a::(m++[y])):) - 1:=by rw[hl];lia
 rw[e2]at h
 exact h
theorem Ho{c:c0}{n:Nat}(h1:1<=n):(List.range n).map (eV c)=c::jU c (n - 1):=by
 obtain ⟨k,rfl⟩:∃k,n=k+1:=⟨n - 1,()⟩
 rw[List.range_succ_eq_map,Qa0,Qbx]
 have e:eV c 0=c:=by unfold eV;simp
 rw[e]
 rfl
def AllLt(l:c0):Prop:=∀c∈l,Lt c
theorem rO(a b:c0): ¬a<bp a b:=by
 unfold bp
 split
 ·rename_i h;exact λg=>Qdg a (List.lt_trans g h)
 ·exact Qdg a
theorem pY(a b:c0): ¬b<bp a b:=by
 unfold bp
 split
 ·exact Qdg b
 ·rename_i h;exact h
theorem MX{a b c:c0}(h: ¬b<a)(g: ¬c<b): ¬c<a:=Qe8 (show a<=b from h) (show b<=c from g)
theorem iX:∀(r:List c0) (a:c0),∀x∈a::r, ¬x<bC a r
 | [],a,x,hx=>by rw[ZI.mp hx];exact Qdg a
 | b::r,a,x,hx=>by
  show ¬x<bC (bp a b) r
  have h0:=iX r (bp a b) (bp a b) Qai
  rcases Qam.mp hx with e | hx
  ·rw[e];exact MX h0 (rO a b)
  ·rcases Qam.mp hx with e | hx
   ·rw[e];exact MX h0 (pY a b)
   ·exact iX r (bp a b) x (Qaf _ hx)
theorem rP(c:c0):eV c 0=c:=by unfold eV;simp
theorem CI(c:c0):eV c (c:)=c:=by unfold eV;simp
theorem ze(c:c0)(k:Nat)(hk:k<=(c:)): ¬eV c k<cN c:=by
 have h:=iX (jU c ((c:) - 1)) c
 by_cases z:k=0
 ·rw[z,rP];exact h c Qai
 ·by_cases z2:k=(c:)
  ·rw[z2,CI];exact h c Qai
  ·refine h _ (Qaf _ ?_)
   unfold jU
   exact Qa3.mpr ⟨k - 1,Qcd.mpr (),by rw[show k - 1+1=k by lia]⟩
theorem mZ(u:c0):∀(m i:Nat),i<m*(u:)->(eK m u)[i]? =u[i%(u:)]?
 | 0,i,h=>by simp at h
 | m+1,i,h=>by
  rw[ff,List.getElem?_append]
  by_cases z:i<(u:)
  ·rw[if_pos z,Qcw z]
  ·rw[if_neg z,mZ u m (i - (u:)) (by rw[Qd2]at h;lia), <-Nat.mod_eq_sub_mod ()]
def iE(w:c0)(s:Nat):Prop:=eK ((w:) / s) (w.take s)=w
def gC(w:c0)(k:Nat):Prop:=eV w k=w
noncomputable instance (w:c0)(s:Nat):Decidable (iE w s):=by unfold iE;infer_instance
noncomputable instance (w:c0)(s:Nat):Decidable (gC w s):=by unfold gC;infer_instance
def bS(w:c0)(s:Nat):Prop:=(w=[]/\s=0)\/(1<=s/\s<=(w:)/\iE w s/\∀j,1<=j->j<s-> ¬iE w j)
def jV(w:c0)(s:Nat):Prop:=(w=[]/\s=0)\/(1<=s/\s<=(w:)/\gC w s/\∀j,1<=j->j<s-> ¬gC w j)
theorem xm{w:c0}{s:Nat}(h1:1<=s)(h2:s<=(w:))(h:iE w s):gC w s:=by
 unfold iE at h
 have hm:1<=(w:) / s:=Qgq h2 h1
 obtain ⟨m,e⟩:∃m,(w:) / s=m+1:=⟨(w:) / s - 1,()⟩
 rw[e]at h
 have hu:(w.take s:)=s:=by rw[Qaa];lia
 generalize w.take s=u at h hu
 unfold gC eV
 rw[<-h,ff,List.drop_left' hu,List.take_left' hu, <-AN,ff]
noncomputable def Fw(w:c0)(i:Nat):Option Nat:=w[i%(w:)]?
theorem qw{w:c0}{k i:Nat}(hk:k<=(w:))(hi:i<(w:)):(eV w k)[i]? =Fw w (i+k):=by
 unfold eV Fw
 rw[List.getElem?_append,Qaz]
 by_cases z:i<(w:) - k
 ·rw[if_pos z,Qbj,Qcw (),Nat.add_comm]
 ·rw[if_neg z,Qf8,if_pos (),Nat.mod_eq_sub_mod (),Qcw ()]
  congr 1
  lia
def Ab(w:c0)(k:Nat):Prop:=∀i,Fw w (i+k)=Fw w i
theorem Hq(w:c0)(i k:Nat):Fw w (i%(w:)+k)=Fw w (i+k):=by unfold Fw;rw[Nat.mod_add_mod]
theorem gS{w:c0}{k:Nat}(hn:w≠[])(hk:k<=(w:)):gC w k↔Ab w k:=by
 have hl:0<(w:):=ZJ.mpr hn
 constructor
 ·intro h i
  have hi:=Qdz i hl
  rw[<-Hq, <-qw hk hi,h]
  rfl
 ·intro h
  refine Qdx λi=>?_
  by_cases hi:i<(w:)
  ·rw[qw hk hi,h i]
   unfold Fw
   rw[Qcw hi]
  ·have hr:(eV w k:)=(w:):=cF w k
   rw[Qdh (),Qdh ()]
theorem Ab.mul{w:c0}{k:Nat}(h:Ab w k):∀j i,Fw w (i+k*j)=Fw w i
 | 0,i=>rfl
 | j+1,i=>by rw[Nat.mul_succ, <-Qeo,h,Ab.mul h j]
theorem Ab.whole(w:c0):Ab w (w:):=λi=>by unfold Fw;rw[Nat.add_mod_right]
theorem Ab.rest{w:c0}{k:Nat}(h:Ab w k):Ab w ((w:)%k):=λi=>by
 rw[<-h.mul ((w:) / k) (i+(w:)%k),Qeo,Qfq]
 exact Ab.whole w i
theorem vF{w:c0}{k:Nat}(hn:w≠[])(h1:1<=k)(h2:k<=(w:))(h:gC w k)(hl:∀j,1<=j->j<k-> ¬gC w j):iE w k:=by
 have hp:=(gS hn h2).mp h
 have hr:(w:)%k=0:=by
  by_cases z:(w:)%k=0
  ·exact z
  ·have cf:=Qdz (w:) (show k>0 by lia)
   exact absurd ((gS hn ()).mpr hp.rest) (hl _ () cf)
 have hm:(w:) / k*k=(w:):=by
  have:=Qfq (w:) k
  rw[hr,Qc1,Qb5]at this
  exact this
 have hu:(w.take k:)=k:=by rw[Qaa];lia
 unfold iE
 refine Qdx λi=>?_
 by_cases hi:i<(w:)
 ·rw[mZ _ _ _ (by rw[hu,hm];exact hi),hu,Qf8]
  have hik:=Qdz i (show k>0 by lia)
  rw[if_pos hik]
  have e:=hp.mul (i / k) (i%k)
  rw[Qfq]at e
  unfold Fw at e
  rw[Qcw hi,Qcw ()]at e
  exact e.symm
 ·rw[Qdh (by rw[yI,hu,hm];lia),Qdh ()]
theorem iF{w:c0}{s k:Nat}(h:bS w s)(g:jV w k):s=k:=by
 rcases h with ⟨e,e2⟩ | ⟨h1,h2,h3,h4⟩
 ·rcases g with ⟨_,g2⟩ | ⟨g1,g2,_,_⟩
  ·rw[e2,g2]
  ·rw[e]at g2;simp at g2;lia
 ·rcases g with ⟨e,_⟩ | ⟨g1,g2,g3,g4⟩
  ·rw[e]at h2;simp at h2;lia
  ·have hn:w≠[]:=λz=>by rw[z]at h2;simp at h2;lia
   by_cases z:s<k
   ·exact absurd (xm h1 h2 h3) (g4 s h1 z)
   ·by_cases z2:k<s
    ·exact absurd (vF hn g1 g2 g3 g4) (h4 k g1 z2)
    ·lia
theorem EH(w:c0)(h:w≠[]):iE w (w:):=by
 have hl:0<(w:):=ZJ.mpr h
 unfold iE
 rw[Nat.div_self hl,Qae (ZH _)]
 show eK (0+1) w=w
 rw[ff]
 simp[eK]
theorem EI(w:c0):gC w (w:):=by
 unfold gC eV
 rw[Qbn (ZH _),Qae (ZH _)]
 rfl
noncomputable def Lj(c:c0)(n:Nat):c0:=((List.range n).map (· +1)).filter λk=>decide (gC c k)
theorem xn{c:c0}{n k:Nat}:k∈Lj c n↔(1<=k/\k<=n)/\gC c k:=by
 unfold Lj
 rw[Qa4,Qa3]
 constructor
 ·rintro ⟨⟨j,hj,rfl⟩,h⟩
  have:=Qcd.mp hj
  exact ⟨(),of_decide_eq_true h⟩
 ·rintro ⟨h1,h2⟩
  exact ⟨⟨k - 1,Qcd.mpr (),()⟩,decide_eq_true h2⟩
theorem A9(c:c0)(n:Nat):(Lj c n).Pairwise (· < ·):=by
 unfold Lj
 refine List.Pairwise.filter _ ?_
 rw[Qch]
 exact (List.pairwise_lt_range (n:=n)).imp λh=>Nat.succ_lt_succ h
theorem rQ{c:c0}(h:c≠[]):∃k r,Lj c (c:)=k::r/\jV c k:=by
 have hl:0<(c:):=ZJ.mpr h
 have hm:(c:)∈Lj c (c:):=xn.mpr ⟨(),EI c⟩
 rcases e:Lj c (c:) with _ | ⟨k,r⟩
 ·rw[e]at hm;exact absurd hm Qbb
 ·refine ⟨k,r,rfl,.inr ?_⟩
  have hk:k∈Lj c (c:):=by rw[e];exact Qai
  obtain ⟨⟨h1,h2⟩,h3⟩:=xn.mp hk
  refine ⟨h1,h2,h3,λj j1 j2 z=>?_⟩
  have hj:j∈Lj c (c:):=xn.mpr ⟨(),z⟩
  have hs:=A9 c (c:)
  rw[e]at hj hs
  rcases Qam.mp hj with w | w
  ·lia
  ·have:=Qe0 hs w
   lia
noncomputable def MY(w:c0)(s:Nat):List V:=[.str (S (w.take s)),.int (((w:) / s:Nat):Int)]
def CJ(_:c7):Sp:=λvs H Q _=>∃l:c0,vs=[.str (S l)]/\(∀c∈l,Lt c)/\(l:)<=1000/\∀p s H',H p=none->H' p=some (.tup (MY (bQ l) s))->bS (bQ l) s->aq H H'->Q (.ref p) H'
theorem Hr{K:c7}{vs:List V}{H:Hp}{Q:VK}{E:XK}(h:CJ K vs H Q E):(vs:)=1:=by obtain ⟨c,rfl,_⟩:=h;rfl
theorem bu:∀c∈br,aC c=true/\PyProof.Rows.lo1 c=c/\aA c∈me:=⋯
theorem bT:∀c∈me,aC c=false/\PyProof.Rows.lo1 c=aA c/\c∉br/\aA c∈br:=⋯
theorem vG:∀c∈me,c∉br:=⋯
theorem kJ{c:Nat}(h:Lt c):aC c=decide (c∈br):=by
 rcases h with h | h
 ·rw[(bu c h).1,decide_eq_true h]
 ·rw[(bT c h).1,decide_eq_false (bT c h).2.2.1]
noncomputable def gr(y:c0)(a b c:Nat):Bool:=decide ((((y.idxOf b:Nat):Int) - ((y.idxOf a:Nat):Int))%((y:):Int)<(((y.idxOf c:Nat):Int) - ((y.idxOf a:Nat):Int))%((y:):Int))
def kW(i j k:Nat):Prop:=(i<j/\j<k)\/(j<k/\k<i)\/(k<i/\i<j)
noncomputable instance (i j k:Nat):Decidable (kW i j k):=by unfold kW;infer_instance
theorem jW{i j n:Nat}(hi:i<n)(hj:j<n):((j:Int) - (i:Int))%(n:Int)=if i<=j then (j:Int) - i else (j:Int) - i+n:=by
 split
 ·exact Qbd () ()
 ·rw[<-Qee]
  exact Qbd () ()
theorem hJ{y:c0}{a b c:Nat}(hn:y.Nodup)(ha:a∈y)(hb:b∈y)(hc:c∈y)(Ac:a≠b)(MZ:a≠c)(M0:b≠c):gr y a b c=decide (kW (y.idxOf a) (y.idxOf b) (y.idxOf c)):=by
 have ia:=Qah ha
 have ib:=Qah hb
 have ic:=Qah hc
 have inj:∀{u v:Nat},u∈y->v∈y->u≠v->y.idxOf u≠y.idxOf v:=λ{u v} hu hv h z=>h (by
  have e1:=Qcu (Qah hu)
  have e2:=Qcu (Qah hv)
  rw[<-e1, <-e2]
  congr 1)
 have n1:=inj ha hb Ac
 have n2:=inj ha hc MZ
 have n3:=inj hb hc M0
 unfold gr
 rw[jW ia ib,jW ia ic]
 generalize y.idxOf a=i at*
 generalize y.idxOf b=j at*
 generalize y.idxOf c=k at*
 refine decide_eq_decide.mpr ?_
 unfold kW
 split<;>split<;>lia
theorem Hs{i j k:Nat}:kW j k i↔kW i j k:=by unfold kW;lia
theorem Lk{i j k:Nat}(h1:i≠j)(h2:i≠k)(h3:j≠k):kW i k j↔ ¬kW i j k:=by unfold kW;lia
theorem CK{y:c0}{a b c:Nat}(hn:y.Nodup)(ha:a∈y)(hb:b∈y)(hc:c∈y)(Ac:a≠b)(MZ:a≠c)(M0:b≠c):gr y b c a=gr y a b c:=by
 rw[hJ hn ha hb hc Ac MZ M0,hJ hn hb hc ha M0 (Ne.symm Ac) (Ne.symm MZ)]
 exact decide_eq_decide.mpr Hs
theorem cj{y:c0}{u v:Nat}(hu:u∈y)(hv:v∈y)(h:u≠v):y.idxOf u≠y.idxOf v:=λz=>h (by
 have e1:=Qcu (Qah hu)
 have e2:=Qcu (Qah hv)
 rw[<-e1, <-e2]
 congr 1)
theorem Ht{y:c0}{a b c:Nat}(hn:y.Nodup)(ha:a∈y)(hb:b∈y)(hc:c∈y)(Ac:a≠b)(MZ:a≠c)(M0:b≠c):gr y a c b=!gr y a b c:=by
 rw[hJ hn ha hb hc Ac MZ M0,hJ hn ha hc hb MZ Ac (Ne.symm M0)]
 rw[<-decide_not]
 exact decide_eq_decide.mpr (Lk (cj ha hb Ac) (cj ha hc MZ) (cj hb hc M0))
theorem O8(d:Nat)(t:c0)(a:Nat):(d::t).idxOf a=if d=a then 0 else t.idxOf a+1:=by
 by_cases h:d=a
 ·subst h;rw[if_pos rfl,List.idxOf_cons_self]
 ·rw[if_neg h,List.idxOf_cons,show (d==a)=false by simp[h]];rfl
theorem EJ{a b:c0}(h:a.Perm b)(ha:a.Pairwise (· <= ·))(hb:b.Pairwise (· <= ·)):a=b:=
 List.Perm.eq_of_pairwise (le:=λx y=>x<=y) (λ_ _ _ _ h1 h2=>Qds h1 h2) ha hb h
def zf(_:c7):Sp:=λvs H Q _=>∃l:c0,vs=[.str (S l)]/\(∀c∈l,c<128)/\(l:)<64/\∀l' H',l'.Perm (l.filter aC)->l'.Pairwise (· <= ·)->aq H H'->Q (.str (S l')) H'
theorem EK{K:c7}{vs:List V}{H:Hp}{Q:VK}{E:XK}(h:zf K vs H Q E):(vs:)=1:=by obtain ⟨c,rfl,_⟩:=h;rfl
inductive iG(p_:c7)(vs:List V)(H:Hp)(Q:VK)(cK:XK):Prop
 | mk (y:c0) (a b:Nat) (_:vs=[.str (S y),.str (S [a]),.str (S [b])]) (_:a∈y) (_:b∈y) (_:(y:)<=1000) (_:Q (.int ((((y.idxOf b:Nat):Int) - ((y.idxOf a:Nat):Int))%((y:):Int))) H):iG p_ vs H Q cK
def jX(p_:c7):Sp:=iG p_
theorem pZ{K:c7}{vs:List V}{H:Hp}{Q:VK}{E:XK}(h:jX K vs H Q E):(vs:)=3:=by obtain ⟨c,_,_,rfl,_⟩:=h;rfl
theorem zg{p:Nat->Bool}{l:c0}{i c:Nat}(h:l[i]? =some c):(l.take (i+1)).filter p=(l.take i).filter p++if p c=true then [c] else []:=by
 rw[<-take_snoc h,Qa9]
 congr 1
 by_cases z:p c=true
 ·rw[if_pos z,Qbv z];rfl
 ·rw[if_neg z,Qbi z];rfl
theorem zh:∀ws:List c0,PyData.hasDictAll (CD ws)=false
 | []=>rfl
 | w::ws=>by show (PyData.hasDict (.str (S w))||PyData.hasDictAll (CD ws))=false;rw[zh ws];rfl
theorem Hu{y:c0}(h:Yd y):2*(y.filter aC:)=(y:):=by
 have key:∀p q:Nat->Bool,(∀c∈y,p c=true->q (aA c)=true)->(y.filter p:)<=(y.filter q:):=λp q UH=>by
  have hn:((y.filter p).map aA).Nodup:=by
   show ((y.filter p).map aA).Pairwise (· ≠ ·)
   rw[Qch]
   refine (h.nd.filter p).imp_of_mem λ{a b} ha hb z e=>z ?_
   exact gi (h.lt a (Qa4.mp ha).1) (h.lt b (Qa4.mp hb).1) e
  have:=hn.length_le_of_subset (l₂:=y.filter q) λc hc=>by
   obtain ⟨d,hd,rfl⟩:=Qa3.mp hc
   obtain ⟨d1,d2⟩:=Qa4.mp hd
   exact Qa4.mpr ⟨h.cl d d1,UH d d1 d2⟩
  rwa [kb]at this
 have k1:=key aC (λc=>!aC c) λc hc z=>by
  rw[kJ (h.lt c hc)]at z
  have hs:=of_decide_eq_true z
  rw[(bT _ (bu c hs).2.2).1];rfl
 have k2:=key (λc=>!aC c) aC λc hc z=>by
  rcases h.lt c hc with q | q
  ·rw[(bu c q).1]at z;cases z
  ·exact (bu _ (bT c q).2.2.2).1
 have k3:(y.filter aC:)+((y.filter λc=>!aC c):)=(y:):=by
  clear k1 k2 key h
  induction y with
  | nil=>rfl
  | cons a r ih=>
   cases hq:aC a
   ·rw[Qbi (by simp[hq]),Qbv (by simp[hq]),Qa5,Qa5];lia
   ·rw[Qbv hq,Qbi (by simp[hq]),Qa5,Qa5];lia
 lia
noncomputable def rd(w:c0)(k:Int):Nat:=w.getD (k%((w:):Int)).toNat 0
theorem UI{w:c0}(h:w≠[])(k:Int):(k%((w:):Int)).toNat<(w:):=by
 have:0<(w:):=ZJ.mpr h
 have h1:=Qcn k (b:=((w:):Int)) ()
 have h2:=Qcc k (b:=((w:):Int)) ()
 lia
theorem hU{w:c0}(h:w≠[])(k:Int):w[(k%((w:):Int)).toNat]? =some (rd w k):=by
 unfold rd
 rw[Qaj,Of (UI h k)]
 rfl
theorem rR{w:c0}(h:w≠[])(k:Int):rd w k∈w:=Qac (hU h k)
theorem jY(w:c0)(k:Int):rd w (k+(w:))=rd w k:=by unfold rd;rw[Qee]
theorem gD(w:c0)(k:Int):rd w (k%(w:))=rd w k:=by unfold rd;rw[Qf0 _ (Int.dvd_refl _)]
theorem oq{w:c0}{k:Nat}(h:k<(w:)):w[k]? =some (rd w k):=by
 have dE:w≠[]:=λz=>by rw[z]at h;exact absurd h (Qfo _)
 have:=hU dE (k:Int)
 rwa [Qbd () (),Qab]at this
theorem M1{w:c0}{k:Int}{n:Nat}{c:Nat}(hn:n<(w:))(e:k%((w:):Int)=n)(h:w[n]? =some c):rd w k=c:=by
 have:=oq hn
 rw[h]at this
 rw[<-gD,e]
 exact (Qad this).symm
theorem CL{w:c0}{k:Int}(h1: -((w:):Int)<=k)(h2:k<(w:)):qp w k=some (rd w k):=by
 have dE:w≠[]:=λz=>by rw[z]at h1 h2;simp at h1 h2;lia
 unfold qp JM
 by_cases h0:0<=k
 ·rw[if_pos h0,if_pos h2]
  have:=hU dE k
  rw[Qbd h0 h2]at this
  exact this
 ·rw[if_neg h0,if_pos h1]
  have:=hU dE (k+(w:))
  rw[jY,Qbd () ()]at this
  exact this
theorem iY{f:Int->Nat}{p:Nat}(P:∀k,f (k+p)=f k)(k:Int):∀t:Nat,f (k+t*p)=f k
 | 0=>by simp
 | t+1=>by
  have:k+((t+1:Nat):Int)*p=k+t*p+p:=by rw[Qbs,Int.add_mul];simp;lia
  rw[this,P,iY P k t]
theorem fw{f g:Int->Nat}{p q:Nat}(hp:0<p)(hq:0<q)(Pf:∀k,f (k+p)=f k)(Pg:∀k,g (k+q)=g k)(h:∀n:Nat,n<p+q->f n=g n)(k:Int):f k=g k:=by
 have up:∀N n:Nat,n<N->f n=g n:=by
  intro N
  induction N with
  | zero=>intro n hn;lia
  | succ N ih=>
   intro n hn
   by_cases z:n<p+q
   ·exact h n z
   ·have e1:f n=f ((n - p:Nat):Int):=by have:=Pf ((n - p:Nat):Int);rwa [show ((n - p:Nat):Int)+p=n by lia]at this
    have e2:g ((n - p:Nat):Int)=g ((n - p - q:Nat):Int):=by have:=Pg ((n - p - q:Nat):Int);rwa [show ((n - p - q:Nat):Int)+q=((n - p:Nat):Int) by lia]at this
    have e3:f ((n - q:Nat):Int)=f ((n - p - q:Nat):Int):=by have:=Pf ((n - p - q:Nat):Int);rwa [show ((n - p - q:Nat):Int)+p=((n - q:Nat):Int) by lia]at this
    have e4:g n=g ((n - q:Nat):Int):=by have:=Pg ((n - q:Nat):Int);rwa [show ((n - q:Nat):Int)+q=n by lia]at this
    rw[e1,ih (n - p) (),e2, <-ih (n - p - q) (), <-e3,ih (n - q) (), <-e4]
 have yU:∃m:Nat,k+((k.natAbs*q:Nat):Int)*p=m/\k+((k.natAbs*p:Nat):Int)*q=m:=by
  have e1:((k.natAbs*q:Nat):Int)*p=((k.natAbs*(q*p):Nat):Int):=by rw[Nat.mul_assoc k.natAbs q p |>.symm];simp
  have e2:((k.natAbs*p:Nat):Int)*q=((k.natAbs*(q*p):Nat):Int):=by rw[Qb5 q p,Nat.mul_assoc k.natAbs p q |>.symm];simp
  have hle:k.natAbs<=k.natAbs*(q*p):=Nat.le_mul_of_pos_right _ (Nat.mul_pos hq hp)
  generalize k.natAbs*(q*p)=M at e1 e2 hle
  exact ⟨(k+M).toNat,(),()⟩
 obtain ⟨m,h1,h2⟩:=yU
 rw[<-iY Pf k (k.natAbs*q),h1, <-iY Pg k (k.natAbs*p),h2]
 exact up (m+1) m (Qcp m)
noncomputable def gM(f g:Int->Nat):Nat->Nat->Nat
 | 0,i=>i
 | n+1,i=>if f i=g i then gM f g n (i+1) else i
theorem iH(f g:Int->Nat):∀n i:Nat,i<=gM f g n i/\gM f g n i<=i+n/\(∀j:Nat,i<=j->j<gM f g n i->f j=g j)/\(gM f g n i<i+n->f (gM f g n i)≠g (gM f g n i))
 | 0,i=>⟨ZH _,ZH _,λj h1 h2=>absurd (Qbm h1 h2) (Qbw _),λh=>absurd h (Qbw _)⟩
 | n+1,i=>by
  unfold gM
  by_cases z:f i=g i
  ·rw[if_pos z]
   obtain ⟨h1,h2,h3,h4⟩:=iH f g n (i+1)
   refine ⟨(),(),λj g1 g2=>?_,λg1=>h4 ()⟩
   by_cases e:j=i
   ·rw[e];exact z
   ·exact h3 j () g2
  ·rw[if_neg z]
   exact ⟨ZH _,(),λj g1 g2=>absurd (Qbm g1 g2) (Qbw _),λ_=>z⟩
noncomputable def al(y:c0)(f g:Int->Nat)(n:Nat):Nat:=
 if f 0≠g 0\/f (-1)=g (-1) then 0 else
 if gr y (aA (f (-1))) (aA (g (-1))) (f 0)=gr y (f (gM f g n 0)) (g (gM f g n 0)) (aA (f ((gM f g n 0:Nat) - 1))) then gM f g n 0 else 0
noncomputable def ac(y:c0)(a b p q:Nat):Bool:=if p=a\/p=b\/q=a\/q=b then false else (gr y a p b != gr y a q b)
noncomputable def sq(w:c0)(i:Int):Int->Nat:=λn=>rd w (i+n)
noncomputable def bq(v:c0)(j:Int):Int->Nat:=λn=>aA (rd v (j - n))
theorem cb(w:c0)(i k:Int):sq w i (k+(w:))=sq w i k:=by unfold sq;rw[<-Int.add_assoc,jY]
theorem A_(w:c0)(k:Int):rd w (k - (w:))=rd w k:=by rw[<-jY w (k - (w:))];congr 1;lia
theorem mi(w:c0)(i k:Int):bq w i (k+(w:))=bq w i k:=by unfold bq;rw[show i - (k+((w:):Int))=i - k - (w:) by lia,A_]
theorem ou{v:c0}(h:v≠[])(k:Int):rd (dU v) k=aA (rd v (-1 - k)):=by
 have yU:0<(v:):=ZJ.mpr h
 have h1:=Qcn k (b:=((v:):Int)) ()
 have h2:=Qcc k (b:=((v:):Int)) ()
 have e:(-1 - k)%((v:):Int)=(v:) - 1 - k%(v:):=by
  have e1:=Qfu k (v:)
  have: -1 - k=((v:) - 1 - k%(v:))+(v:)*(-(k / (v:)) - 1):=by rw[Int.mul_sub,Int.mul_neg];lia
  rw[this,Qd1,Qbd () ()]
 generalize hr:k%((v:):Int)=r at h1 h2 e
 obtain ⟨n,rfl⟩:∃n:Nat,r=n:=⟨r.toNat,()⟩
 have hn:n<(v:):=by lia
 have e2:rd v (-1 - k)=v[(v:) - 1 - n]'():=M1 (n:=(v:) - 1 - n) () (by rw[e];lia) (Of ())
 rw[e2]
 refine M1 (n:=n) (by rw[bZ];exact hn) (by rw[bZ];exact hr) ?_
 unfold dU
 rw[Qdw (by rw[kb];exact hn),kb,Qas,Of ()]
 rfl
theorem O9{v:c0}(h:v≠[])(j:Nat):sq (dU v) (((v:):Int) - 1 - j)=bq v j:=by
 funext n
 unfold sq bq
 rw[ou h,show -1 - (((v:):Int) - 1 - j+n)=j - n - (v:) by lia,A_]
structure SW(y w:c0):Prop where
 ne:w≠[]
 cu:∀c∈w,c∈y
 red:∀k:Int,rd w k≠aA (rd w (k - 1))
theorem SW.rd{y w:c0}(h:SW y w)(k:Int):rd w k∈y:=h.cu _ (rR h.ne k)
theorem d_{w v:c0}{f g:Int->Nat}(hw:w≠[])(hv:v≠[])(pf:∀k,f (k+(w:))=f k)(pg:∀k,g (k+(v:))=g k)(h:f (-1)≠g (-1)):gM f g ((w:)+(v:)) 0<(w:)+(v:)/\f (gM f g ((w:)+(v:)) 0)≠g (gM f g ((w:)+(v:)) 0):=by
 obtain ⟨_,b,c,d⟩:=iH f g ((w:)+(v:)) 0
 by_cases z:gM f g ((w:)+(v:)) 0<(w:)+(v:)
 ·exact ⟨z,d ()⟩
 ·exact absurd (fw (ZJ.mpr hw) (ZJ.mpr hv) pf pg (λn hn=>c n (Qar _) ()) (-1)) h
noncomputable def zi(ws:List c0):Nat->List (Nat×Nat)
 | 0=>[]
 | n+1=>zi ws n++(List.range ((ws|||n):)).map λi=>(n,i)
noncomputable def places(ws:List c0):List (Nat×Nat):=zi ws (ws:)
theorem xo{ws:List c0}:∀{n:Nat} {o:Nat×Nat},o∈zi ws n↔o.1<n/\o.2<(ws.getD o.1 []:)
 | 0,o=>by simp[zi]
 | n+1,o=>by
  unfold zi
  rw[Qao,xo (n:=n),Qa3]
  constructor
  ·rintro (⟨h1,h2⟩ | ⟨i,hi,rfl⟩)
   ·exact ⟨(),h2⟩
   ·exact ⟨by simp,Qcd.mp hi⟩
  ·rintro ⟨h1,h2⟩
   by_cases z:o.1<n
   ·exact .inl ⟨z,h2⟩
   ·have e:o.1=n:=by lia
    exact .inr ⟨o.2,Qcd.mpr (by rw[<-e];exact h2),by rw[<-e]⟩
theorem CM{ws:List c0}:∀n:Nat,(zi ws n).Pairwise λa b=>JQ a.1 a.2 b.1 b.2=true
 | 0=>List.Pairwise.nil
 | n+1=>by
  unfold zi
  rw[Qa6]
  refine ⟨CM n,?_,λa ha b hb=>?_⟩
  ·rw[Qch]
   refine List.pairwise_lt_range.imp λ{a b} h=>?_
   unfold JQ
   rw[if_pos rfl]
   exact decide_eq_true (by show (a:Int)<b;lia)
  ·obtain ⟨i,hi,rfl⟩:=Qa3.mp hb
   have:=(xo.mp ha).1
   unfold JQ
   rw[if_neg (by show ¬((a.1:Nat):Int)=(n:Nat);lia)]
   exact decide_eq_true (by show ((a.1:Nat):Int)<(n:Nat);lia)
theorem ow:∀{a b:List Int},bP a b=true->bP b a=false/\a≠b
 | [],[],h=>by simp[bP]at h
 | [],_::_,h=>⟨rfl,by simp⟩
 | _::_,[],h=>by simp[bP]at h
 | x::r,z::t,h=>by
  simp only[bP]at h ⊢
  split at h
  ·rename_i e
   obtain ⟨h1,h2⟩:=ow h
   rw[if_pos e.symm]
   exact ⟨h1,λq=>h2 (List.cons.inj q).2⟩
  ·rename_i e
   have h':=of_decide_eq_true h
   rw[if_neg (λq=>e q.symm)]
   exact ⟨decide_eq_false (),λq=>e (List.cons.inj q).1⟩
def Adj(w:c0):Prop:=∀(k a b:Nat),w[k]? =some a->w[k+1]? =some b->b≠aA a
theorem SW.of{y w:c0}(ne:w≠[])(cu:∀c∈w,c∈y)(VX:Adj w)(hd:∀a b,w.head? =some a->w.getLast? =some b->a≠aA b):SW y w:=by
 refine ⟨ne,cu,λk=>?_⟩
 have yU:0<(w:):=ZJ.mpr ne
 have h1:=Qcn k (b:=((w:):Int)) ()
 have h2:=Qcc k (b:=((w:):Int)) ()
 have hk:=hU ne k
 have tR:=hU ne (k - 1)
 by_cases z:k%((w:):Int)=0
 ·have e:(k - 1)%((w:):Int)=(w:) - 1:=by
   rw[<-Int.emod_sub_emod,z]
   have:(0:Int) - 1=((w:) - 1)+(w:)*(-1):=by lia
   rw[this,Qd1,Qbd () ()]
  rw[z]at hk
  rw[e]at tR
  refine hd _ _ ?_ ?_
  ·rw[Qfl];exact hk
  ·rw[Qe2, show (w:) - 1=(((w:):Int) - 1).toNat by lia];exact tR
 ·have e:(k - 1)%((w:):Int)=k%(w:) - 1:=by
   rw[<-Int.emod_sub_emod,Qbd () ()]
  rw[e]at tR
  refine VX _ _ _ tR ?_
  rw[show (k%((w:):Int) - 1).toNat+1=(k%((w:):Int)).toNat by lia]
  exact hk
theorem SW.VX{y w:c0}(h:SW y w):Adj w:=λk a b h1 h2=>by
 have hk:=(Og.mp h2).1
 have e1:=oq (w:=w) (k:=k) ()
 have e2:=oq (w:=w) (k:=k+1) hk
 rw[h1]at e1
 rw[h2]at e2
 rw[Qad e1,Qad e2]
 have:=h.red ((k+1:Nat):Int)
 rwa [show (((k+1:Nat):Int) - 1)=(k:Int) by lia]at this
theorem SW.dU{y w:c0}(hy:Yd y)(h:SW y w):SW y (dU w):=by
 refine ⟨λz=>h.ne ?_,λc hc=>?_,λk=>?_⟩
 ·have:=bZ w
  rw[z]at this
  exact Qcj.mp this.symm
 ·obtain ⟨d,hd,rfl⟩:=Qa3.mp (Qb4.mp hc)
  exact hy.cl d (h.cu d hd)
 ·rw[ou h.ne,ou h.ne,show -1 - (k - 1)= -1 - k+1 by lia]
  intro q
  have l1:=hy.lt _ (h.rd (-1 - k))
  have l2:=hy.lt _ (h.rd (-1 - k+1))
  rw[aO l2]at q
  have:=h.red (-1 - k+1)
  rw[show -1 - k+1 - 1= -1 - k by lia]at this
  exact this q.symm
theorem Ll{w:c0}(h:w≠[]):w.getLast? =some (rd w (-1)):=by
 have yU:0<(w:):=ZJ.mpr h
 have:=hU h (-1)
 have e:(-1:Int)%((w:):Int)=(w:) - 1:=by
  have e2:(-1:Int)=(((w:):Int) - 1)+(w:)*(-1):=by lia
  rw[e2,Qd1,Qbd () ()]
 rw[e]at this
 rw[Qe2, show (w:) - 1=(((w:):Int) - 1).toNat by lia]
 exact this
theorem Lm{w:c0}(h:w≠[]):w.head? =some (rd w 0):=by
 have:=hU h 0
 rw[Qfl]
 simpa using this
theorem EL(w:c0):∃k,jV w k:=by
 by_cases h:w=[]
 ·exact ⟨0,.inl ⟨h,rfl⟩⟩
 ·obtain ⟨k,_,_,t⟩:=rQ h
  exact ⟨k,t⟩
theorem bS.turn{w:c0}{s:Nat}(h:bS w s):jV w s:=by
 obtain ⟨k,t⟩:=EL w
 rw[iF h t];exact t
theorem bS.least{w:c0}{s j:Nat}(h:bS w s)(j1:1<=j)(j2:j<s)(hp:Ab w j):False:=by
 rcases h.turn with ⟨_,e⟩ | ⟨h1,h2,h3,h4⟩
 ·lia
 ·have hn:w≠[]:=λz=>by rw[z]at h2;simp at h2;lia
  exact h4 j j1 j2 ((gS hn ()).mpr hp)
theorem SW.rdd{y w:c0}(hy:Yd y)(h:SW y w):kI w:=Hh λk a b ha hb e=>by
 have M3:b∈y:=h.cu b (Qac hb)
 have:=h.VX k a b ha hb
 rw[e,aO (hy.lt b M3)]at this
 exact this rfl
theorem SW.core{y w:c0}(hy:Yd y)(h:SW y w):My.core (My.red w)=w:=by
 rw[Hf (h.rdd hy)]
 by_cases z:(w:)<2
 ·exact fg z
 ·obtain ⟨a,m,e,hw⟩:=CC (l:=w) ()
  have h0:=Lm h.ne
  have h1:=Ll h.ne
  have hr:=h.red 0
  rw[show (0:Int) - 1= -1 by lia]at hr
  rw[hw]at h0 h1 hr ⊢
  have e0:a=My.rd (a::(m++[e])) 0:=Qad h0
  have e1:e=My.rd (a::(m++[e])) (-1):=by
   have:(a::(m++[e])).getLast? =some e:=by rw[<-Qfe,List.getLast?_append];rfl
   exact Qad (this.symm.trans h1)
  exact iC (by rw[<-e0, <-e1]at hr;exact hr)
theorem xp{w:c0}{k:Nat}(hk:k<=(w:))(i:Nat):Fw (eV w k) i=Fw w (i+k):=by
 by_cases z:w=[]
 ·subst z
  unfold Fw eV
  simp
 ·have hp:0<(w:):=ZJ.mpr z
  have e:Fw (eV w k) i=(eV w k)[i%(w:)]?:= by unfold Fw;rw[cF]
  rw[e,qw hk (Qdz _ hp),Hq]
theorem CN{w:c0}{k s:Nat}(hk:k<=(w:))(hn:w≠[]):Ab (eV w k) s↔Ab w s:=by
 constructor
 ·intro h i
  have h1:=h (i+((w:) - k))
  rw[xp hk,xp hk]at h1
  have e1:i+((w:) - k)+s+k=i+s+(w:):=by lia
  have e2:i+((w:) - k)+k=i+(w:):=by lia
  rw[e1,e2,Ab.whole w,Ab.whole w]at h1
  exact h1
 ·intro h i
  rw[xp hk,xp hk,show i+s+k=i+k+s by lia]
  exact h _
theorem vH{w:c0}(hn:w≠[]){s:Nat}(h:bS w s):jV w s:=by
 obtain ⟨k,r,_,g⟩:=rQ hn
 rw[iF h g]
 exact g
theorem Hv{w:c0}{k s:Nat}(hk:k<=(w:))(hn:w≠[])(h:jV (eV w k) s):jV w s:=by
 have tY:eV w k≠[]:=λz=>hn (Qcj.mp (by have:=cF w k;rw[z]at this;exact this.symm))
 rcases h with ⟨z,_⟩ | ⟨h1,h2,h3,h4⟩
 ·exact absurd z tY
 ·rw[cF]at h2
  refine .inr ⟨h1,h2,(gS hn h2).mpr ((CN hk hn).mp ((gS tY (by rw[cF];exact h2)).mp h3)),λj j1 j2 j3=>h4 j j1 j2 ?_⟩
  exact (gS tY (by rw[cF];lia)).mpr ((CN hk hn).mpr ((gS hn ()).mp j3))
theorem EM{y w:c0}{s t:Nat}(hy:Yd y)(h:SW y w)(hr:bS (bQ w) s)(hw:bS w t):s=t/\(bQ w:)=(w:):=by
 have e:bQ w=cN w:=by unfold bQ;rw[h.core hy]
 obtain ⟨k,ek⟩:=om w
 have nZ:∃k,k<=(w:)/\cN w=eV w k:=by
  by_cases z:k<=(w:)
  ·exact ⟨k,z,ek⟩
  ·refine ⟨(w:),ZH _,?_⟩
   rw[ek]
   unfold eV
   rw[Qbn (),Qae (),List.drop_length,Qbe]
 obtain ⟨k,hk,ek⟩:=nZ
 rw[e,ek]at hr ⊢
 have tY:eV w k≠[]:=λz=>h.ne (Qcj.mp (by have:=cF w k;rw[z]at this;exact this.symm))
 refine ⟨?_,cF w k⟩
 exact (iF hw (Hv hk h.ne (vH tY hr))).symm
theorem CO{w:c0}(hn:w≠[]):∃s,bS w s:=by
 obtain ⟨k,r,_,g⟩:=rQ hn
 rcases g with ⟨z,_⟩ | ⟨h1,h2,h3,h4⟩
 ·exact absurd z hn
 ·exact ⟨k,.inr ⟨h1,h2,vF hn h1 h2 h3 h4,λj j1 j2 j3=>h4 j j1 j2 (xm j1 () j3)⟩⟩
theorem Hw{w:c0}{s t:Nat}(hn:w≠[])(h:bS w s)(g:bS w t):s=t:=iF h (vH hn g)
theorem Ln{a b:c0}{e:Nat}(hn:(a++b).Nodup)(he:e∈a++b):(b++a).idxOf e=if (a++b).idxOf e<(a:) then (a++b).idxOf e+(b:) else (a++b).idxOf e - (a:):=by
 rw[Qcs]at hn
 obtain ⟨na,nb,dis⟩:=hn
 by_cases z:e∈a
 ·have zb:e∉b:=λq=>dis e z e q rfl
  rw[Qe5,Qe5,if_pos z,if_neg zb,if_pos (Qah z)]
 ·have zb:e∈b:=(Qao.mp he).resolve_left z
  rw[Qe5,Qe5,if_pos zb,if_neg z,if_neg ()]
  lia
theorem vI{y:c0}{k e:Nat}(hn:y.Nodup)(hk:k<=(y:))(he:e∈y):(((y.drop k++y.take k).idxOf e:Nat):Int)=((y.idxOf e:Int) - k)%(y:):=by
 have h1:=Ln (a:=y.take k) (b:=y.drop k) (e:=e) (by rw[Qal];exact hn) (by rw[Qal];exact he)
 rw[Qal,Qaa,Qaz,Qbo hk]at h1
 have hi:=Qah he
 rw[h1]
 by_cases z:y.idxOf e<k
 ·rw[if_pos z]
  have:(y.idxOf e:Int) - k=((y.idxOf e+((y:) - k):Nat):Int)+(y:)*(-1):=by lia
  rw[this,Qd1,Qbd () ()]
 ·rw[if_neg z,Qbd () ()]
  lia
theorem Hx{y:c0}{a b c:Nat}(hn:y.Nodup)(ha:a∈y)(hb:b∈y)(hc:c∈y):decide ((((y.drop (y.idxOf a)++y.take (y.idxOf a)).idxOf b:Nat):Int)<(((y.drop (y.idxOf a)++y.take (y.idxOf a)).idxOf c:Nat):Int))=gr y a b c:=by
 have hk:=Qbt (Qah ha)
 rw[vI hn hk hb,vI hn hk hc]
 rfl
structure UJ(y:c0)(ws:List c0):Prop where
 sw:∀w∈ws,SW y w/\(w:)<=12
 jS:(ws:)<=4
 all:(places ws:)<=24
theorem getD_in{ws:List c0}{c:Nat}(h:c<(ws:)):(ws|||c)∈ws:=by
 rw[Qaj,Of h];exact Qb0 h
inductive iI(p_:c7)(vs:List V)(H:Hp)(Q:VK)(cK:XK):Prop
 | mk (w:c0) (i:Nat) (_:vs=[.str (S w),.int i]) (_:(∀c∈w,Lt c)) (_:(w:)<=1000) (_:i<(w:)) (_:∀q H',H q=none->H' q=some (.tup [.str (S [aA (rd w ((i:Int) - 1))]),.str (S [rd w i])])->aq H H'->Q (.ref q) H'):iI p_ vs H Q cK
def jZ(p_:c7):Sp:=iI p_
theorem p7{K:c7}{vs:List V}{H:Hp}{Q:VK}{E:XK}(h:jZ K vs H Q E):(vs:)=2:=by obtain ⟨_,_,rfl,_⟩:=h;rfl
inductive pB(p_:c7)(vs:List V)(H:Hp)(Q:VK)(cK:XK):Prop
 | mk (y:c0) (a b c:Nat) (_:vs=[.str (S y),.str (S [a]),.str (S [b]),.str (S [c])]) (_:y.Nodup) (_:a∈y) (_:b∈y) (_:c∈y) (_:(y:)<=1000) (_:Q (.bl (gr y a b c)) H):pB p_ vs H Q cK
def vJ(p_:c7):Sp:=pB p_
theorem Ba{K:c7}{vs:List V}{H:Hp}{Q:VK}{E:XK}(h:vJ K vs H Q E):(vs:)=4:=by obtain ⟨c,_,_,_,rfl,_⟩:=h;rfl
theorem CP{ws:List c0}{m:Nat}(h:∀w∈ws,(w:)<=m):∀n:Nat,n<=(ws:)->(zi ws n:)<=n*m
 | 0,_=>Qar _
 | n+1,hn=>by
  unfold zi
  have:=CP h n ()
  have h2:=h _ (getD_in (ws:=ws) (c:=n) ())
  rw[QD,kb,Qe4,Qd2]
  lia
noncomputable def zj(y:c0)(a b:Nat):Int:=((y.idxOf b:Int) - (y.idxOf a:Int))%((y:):Int)
noncomputable def eB(y:c0)(f:Int->Nat)(k:Int):Int:=zj y (aA (f (k - 1))) (f k)
structure jg(y:c0)(f:Int->Nat):Prop where
 cu:∀k,f k∈y
 red:∀k,f k≠aA (f (k - 1))
structure Run(f g:Int->Nat)(a b:Nat):Prop where
 pE:∀k:Int, -(b:Int)<=k->k<=a->f k=g k
 hi:f (a+1)≠g (a+1)
 lo:f (-(b:Int) - 1)≠g (-(b:Int) - 1)
noncomputable def kX(f:Int->Nat):Int->Nat:=λk=>aA (f (-k))
noncomputable def fj(f:Int->Nat):Int->Nat:=λk=>f (k - 1)
noncomputable def jC(y:c0)(f g:Int->Nat)(a:Nat):Bool:=decide (eB y f (a+1)<eB y g (a+1))
noncomputable def jF(y:c0)(f g:Int->Nat)(b:Nat):Bool:=decide (eB y f (-(b:Int))<eB y g (-(b:Int)))
noncomputable def yn(x a b:Nat):Bool:=decide (b<a\/(a=b/\aC x=false))
noncomputable def Bb(y:c0)(f g:Int->Nat)(a b:Nat):Bool:=if yn (f 0) a b=true then jF y f g b else jC y f g a
theorem Run.one{f g:Int->Nat}{a b a' b':Nat}(h:Run f g a b)(h':Run f g a' b'):a=a'/\b=b':=by
 constructor
 ·by_cases z:a<a'
  ·exact absurd (h'.pE (a+1) () ()) h.hi
  ·by_cases z2:a'<a
   ·exact absurd (h.pE (a'+1) () ()) h'.hi
   ·lia
 ·by_cases z:b<b'
  ·exact absurd (h'.pE (-(b:Int) - 1) () ()) h.lo
  ·by_cases z2:b'<b
   ·exact absurd (h.pE (-(b':Int) - 1) () ()) h'.lo
   ·lia
theorem Run.bk{f g:Int->Nat}{a b:Nat}(h:Run f g a (b+1)):Run (fj f) (fj g) (a+1) b:=
 ⟨λk h1 h2=>h.pE (k - 1) () (),λz=>h.hi (by
  unfold fj at z
  rwa [show ((a+1:Nat):Int)+1 - 1=a+1 by lia]at z),λz=>h.lo (by
  unfold fj at z
  rwa [show -(b:Int) - 1 - 1= -((b+1:Nat):Int) - 1 by lia]at z)⟩
theorem Run.fd{f g:Int->Nat}{a b:Nat}(h:Run (fj f) (fj g) (a+1) b):Run f g a (b+1):=
 ⟨λk h1 h2=>by
  have:=h.pE (k+1) () ()
  unfold fj at this
  rwa [show k+1 - 1=k by lia]at this,λz=>h.hi (by
  unfold fj
  rwa [show ((a+1:Nat):Int)+1 - 1=a+1 by lia]),λz=>h.lo (by
  unfold fj
  rwa [show -(b:Int) - 1 - 1= -((b+1:Nat):Int) - 1 by lia])⟩
theorem qx(y:c0)(f:Int->Nat)(k:Int):eB y (fj f) k=eB y f (k - 1):=rfl
theorem xq(y:c0)(f g:Int->Nat)(a:Nat):jC y (fj f) (fj g) (a+1)=jC y f g a:=by
 unfold jC
 rw[qx,qx,show ((a+1:Nat):Int)+1 - 1=a+1 by lia]
theorem xr(y:c0)(f g:Int->Nat)(b:Nat):jF y (fj f) (fj g) b=jF y f g (b+1):=by
 unfold jF
 rw[qx,qx,show -(b:Int) - 1= -((b+1:Nat):Int) by lia]
theorem Hy{x z a b:Nat}(h:yn x a (b+1)=true):yn z (a+1) b=true:=by
 unfold yn at h ⊢
 have:=of_decide_eq_true h
 exact decide_eq_true ()
theorem fk{y:c0}{a b:Nat}(ha:a∈y)(hb:b∈y)(h:a≠b):0<zj y a b/\zj y a b<(y:)/\zj y b a=(y:) - zj y a b:=by
 have ia:=Qah ha
 have ib:=Qah hb
 have n:=cj ha hb h
 unfold zj
 rw[jW ia ib,jW ib ia]
 generalize y.idxOf a=i at*
 generalize y.idxOf b=j at*
 split<;>split<;>lia
theorem m6{y:c0}{a b c:Nat}(ha:a∈y)(hb:b∈y)(hc:c∈y)(h:zj y a b=zj y a c):b=c:=by
 have ia:=Qah ha
 have ib:=Qah hb
 have ic:=Qah hc
 refine Classical.byContradiction λz=>cj hb hc z ?_
 unfold zj at h
 rw[jW ia ib,jW ia ic]at h
 split at h<;>split at h<;>lia
theorem jg.rv{y:c0}{f:Int->Nat}(hy:Yd y)(h:jg y f):jg y (kX f):=⟨λk=>hy.cl _ (h.cu _),λk z=>by
 unfold kX at z
 have e:=aO (hy.lt _ (h.cu (-(k - 1))))
 rw[e]at z
 have:=h.red (-(k - 1))
 rw[show -(k - 1) - 1= -k by lia]at this
 exact this z.symm⟩
theorem pF{y:c0}{f:Int->Nat}(hy:Yd y)(h:jg y f):kX (kX f)=f:=by
 funext k
 unfold kX
 rw[aO (hy.lt _ (h.cu _)),Int.neg_neg]
theorem j4{y:c0}{f:Int->Nat}(hy:Yd y)(h:jg y f)(k:Int):eB y (kX f) (k+1)=(y:) - eB y f (-k):=by
 unfold eB kX
 rw[show k+1 - 1=k by lia,aO (hy.lt _ (h.cu _)),show -(k+1)= -k - 1 by lia]
 exact (fk (hy.cl _ (h.cu _)) (h.cu _) (Ne.symm (h.red _))).2.2
theorem Run.rv{y:c0}{f g:Int->Nat}{a b:Nat}(hy:Yd y)(hf:jg y f)(hg:jg y g)(h:Run f g a b):Run (kX f) (kX g) b a:=
 ⟨λk h1 h2=>by unfold kX;rw[h.pE _ () ()],λz=>h.lo (by
  unfold kX at z
  have:=gi (hy.lt _ (hf.cu _)) (hy.lt _ (hg.cu _)) z
  rwa [show -((b:Int)+1)= -(b:Int) - 1 by lia]at this),λz=>h.hi (by
  unfold kX at z
  have:=gi (hy.lt _ (hf.cu _)) (hy.lt _ (hg.cu _)) z
  rwa [show -(-(a:Int) - 1)=a+1 by lia]at this)⟩
theorem gk:∀c∈br++me,aC (aA c)=!aC c:=⋯
theorem O_{y:c0}{f g:Int->Nat}{a b:Nat}(hy:Yd y)(hf:jg y f)(hg:jg y g)(h0:f 0=g 0):Bb y (kX g) (kX f) b a=Bb y f g a b:=by
 have e1:jF y (kX g) (kX f) a=jC y f g a:=by
  unfold jF jC
  have h1:=j4 hy hf (-(a:Int) - 1)
  have h2:=j4 hy hg (-(a:Int) - 1)
  rw[show -(a:Int) - 1+1= -a by lia,show -(-(a:Int) - 1)=a+1 by lia]at h1 h2
  rw[h1,h2]
  exact decide_eq_decide.mpr ()
 have e2:jC y (kX g) (kX f) b=jF y f g b:=by
  unfold jF jC
  rw[j4 hy hf,j4 hy hg]
  exact decide_eq_decide.mpr ()
 unfold Bb
 rw[e1,e2]
 have e3:yn (kX g 0) b a=!yn (f 0) a b:=by
  unfold yn kX
  rw[show (-0:Int)=0 from rfl, <-h0,gk _ (hy.lt _ (hf.cu 0)).mem]
  rw[<-decide_not]
  refine decide_eq_decide.mpr ?_
  cases aC (f 0)
  ·simp;lia
  ·simp;lia
 rw[e3]
 cases yn (f 0) a b<;>rfl
def uB(y:c0)(f g:Int->Nat):Prop:=∃a b,Run f g a b/\yn (f 0) a b=true/\jC y f g a≠jF y f g b
def gm(y:c0)(f g:Int->Nat):Prop:=∃a,Run f g a 0/\jC y f g a≠jF y f g 0
open Classical in
noncomputable def one(p:Prop):Int:=if p then 1 else 0
theorem gE{p:Prop}(h:p):one p=1:=by unfold one;rw[if_pos h]
theorem bf{p:Prop}(h: ¬p):one p=0:=by unfold one;rw[if_neg h]
theorem bg{p q:Prop}(h:p↔q):one p=one q:=by rw[propext h]
theorem Run.zero{f g:Int->Nat}{a b:Nat}(h:Run f g a b):f 0=g 0:=h.pE 0 () ()
theorem Hz{y:c0}{f g:Int->Nat}{e0 e1:Bool}{m:Prop}
  (r0:f 0=g 0->∃a b,Run f g a b) (r1:f (-1)=g (-1)->∃a b,Run (fj f) (fj g) a b)
  (h0:∀a b,Run f g a b->e0=Bb y f g a b) (h1:∀a b,Run (fj f) (fj g) a b->e1=Bb y (fj f) (fj g) a b)
  (ma:f 0=g 0->f (-1)≠g (-1)->(m↔e0≠jF y f g 0)) (mb:f (-1)=g (-1)->f 0≠g 0->(m↔e1≠jC y (fj f) (fj g) 0)) (mc:f (-1)=g (-1)->f 0=g 0->(m↔e1≠e0))
  (t:f 0=g 0\/f (-1)=g (-1)):one m=one (gm y f g)+one (uB y (fj f) (fj g)) - one (uB y f g):=by
 have hb:∀{a b},Run (fj f) (fj g) a b->f (-1)=g (-1):=λh=>h.zero
 by_cases z0:f 0=g 0
 ·obtain ⟨a,b,r⟩:=r0 z0
  have e:=h0 a b r
  unfold Bb at e
  have hu:uB y f g↔(yn (f 0) a b=true/\jC y f g a≠jF y f g b):=⟨λ⟨a',b',r',x⟩=>by obtain ⟨rfl,rfl⟩:=r.one r';exact x,λx=>⟨a,b,r,x⟩⟩
  by_cases z1:f (-1)=g (-1)
  ·cases b with
   | zero=>exact absurd z1 r.lo
   | succ b=>
    have r2:=r.bk
    have e2:=h1 _ _ r2
    unfold Bb at e2
    have UK:uB y (fj f) (fj g)↔(yn (fj f 0) (a+1) b=true/\jC y f g a≠jF y f g (b+1)):=⟨λ⟨a',b',r',x⟩=>by
     obtain ⟨rfl,rfl⟩:=r2.one r'
     rw[xq,xr]at x;exact x,λx=>⟨_,_,r2,by rw[xq,xr];exact x⟩⟩
    rw[xq,xr]at e2
    have UL: ¬gm y f g:=λ⟨a',r',_⟩=>absurd (r.one r').2 (Nat.succ_ne_zero b)
    rw[bf UL,bg hu,bg UK,bg (mc z1 z0),e,e2]
    have mono:= @Hy (f 0) (fj f 0) a b
    generalize yn (f 0) a (b+1)=B0 at*
    generalize yn (fj f 0) (a+1) b=B1 at*
    generalize jC y f g a=A at*
    generalize jF y f g (b+1)=C at*
    revert mono
    cases B0<;>cases B1<;>cases A<;>cases C<;>simp[one]
  ·have b0:b=0:=by
    cases b with
    | zero=>rfl
    | succ b=>exact absurd (r.pE (-1) () ()) z1
   subst b0
   have UK: ¬uB y (fj f) (fj g):=λ⟨_,_,r',_⟩=>z1 (hb r')
   have UL:gm y f g↔jC y f g a≠jF y f g 0:=⟨λ⟨a',r',x⟩=>by obtain ⟨rfl,_⟩:=r.one r';exact x,λx=>⟨a,r,x⟩⟩
   rw[bf UK,bg UL,bg hu,bg (ma z0 z1),e]
   generalize yn (f 0) a 0=B0 at*
   generalize jC y f g a=A at*
   generalize jF y f g 0=C at*
   cases B0<;>cases A<;>cases C<;>simp[one]
 ·have z1:=t.resolve_left z0
  obtain ⟨a,b,r⟩:=r1 z1
  have a0:a=0:=by
   cases a with
   | zero=>rfl
   | succ a=>exact absurd (r.fd.zero) z0
  subst a0
  have e:=h1 _ _ r
  unfold Bb at e
  have hu0: ¬uB y f g:=λ⟨_,_,r',_⟩=>z0 r'.zero
  have UL: ¬gm y f g:=λ⟨_,r',_⟩=>z0 r'.zero
  have UK:uB y (fj f) (fj g)↔(yn (fj f 0) 0 b=true/\jC y (fj f) (fj g) 0≠jF y (fj f) (fj g) b):=⟨λ⟨a',b',r',x⟩=>by
   obtain ⟨rfl,rfl⟩:=r.one r';exact x,λx=>⟨_,_,r,x⟩⟩
  rw[bf hu0,bf UL,bg UK,bg (mb z1 z0),e]
  generalize yn (fj f 0) 0 b=B0 at*
  generalize jC y (fj f) (fj g) 0=A at*
  generalize jF y (fj f) (fj g) b=C at*
  cases B0<;>cases A<;>cases C<;>simp[one]
theorem dJ{f g:Int->Nat}{p q:Nat}(hp:0<p)(hq:0<q)(Pf:∀k,f (k+p)=f k)(Pg:∀k,g (k+q)=g k)(h0:f 0=g 0)(hn:∃k,f k≠g k):∃a b,Run f g a b/\a<p+q/\b<p+q:=by
 obtain ⟨k0,KZ⟩:=hn
 have up:∃a:Nat,a<p+q/\(∀j:Nat,j<a->f (j+1)=g (j+1))/\f (a+1)≠g (a+1):=by
  obtain ⟨_,b,c,d⟩:=iH (λk=>f (k+1)) (λk=>g (k+1)) (p+q) 0
  by_cases z:gM (λk=>f (k+1)) (λk=>g (k+1)) (p+q) 0<p+q
  ·exact ⟨_,z,λj hj=>c j (Qar _) hj,d ()⟩
  ·refine absurd ?_ KZ
   have:=fw (f:=λk=>f (k+1)) (g:=λk=>g (k+1)) hp hq (λk=>by rw[show k+(p:Int)+1=k+1+p by lia];exact Pf _) (λk=>by rw[show k+(q:Int)+1=k+1+q by lia];exact Pg _) (λn hn=>c n (Qar _) ()) (k0 - 1)
   rwa [show k0 - 1+1=k0 by lia]at this
 have Pf':∀k,f (-(k+p))=f (-k):=λk=>by have:=Pf (-(k+p));rw[<-this];congr 1;lia
 have Pg':∀k,g (-(k+q))=g (-k):=λk=>by have:=Pg (-(k+q));rw[<-this];congr 1;lia
 have dn:∃a:Nat,a<p+q/\(∀j:Nat,j<a->f (-(j:Int) - 1)=g (-(j:Int) - 1))/\f (-(a:Int) - 1)≠g (-(a:Int) - 1):=by
  obtain ⟨_,b,c,d⟩:=iH (λk=>f (-k - 1)) (λk=>g (-k - 1)) (p+q) 0
  by_cases z:gM (λk=>f (-k - 1)) (λk=>g (-k - 1)) (p+q) 0<p+q
  ·exact ⟨_,z,λj hj=>c j (Qar _) hj,d ()⟩
  ·refine absurd ?_ KZ
   have:=fw (f:=λk=>f (-k - 1)) (g:=λk=>g (-k - 1)) hp hq (λk=>by have:=Pf' (k+1);rw[show -(k+(p:Int)) - 1= -(k+1+p) by lia,this];congr 1;lia) (λk=>by have:=Pg' (k+1);rw[show -(k+(q:Int)) - 1= -(k+1+q) by lia,this];congr 1;lia) (λn hn=>c n (Qar _) ()) (-k0 - 1)
   rwa [show -(-k0 - 1) - 1=k0 by lia]at this
 obtain ⟨a,ha,a1,a2⟩:=up
 obtain ⟨b,hb,b1,b2⟩:=dn
 refine ⟨a,b,⟨λk h1 h2=>?_,a2,b2⟩,ha,hb⟩
 by_cases z:k=0
 ·rw[z];exact h0
 ·by_cases z2:0<k
  ·obtain ⟨j,rfl⟩:∃j:Nat,k=j+1:=⟨(k - 1).toNat,()⟩
   exact a1 j ()
  ·obtain ⟨j,rfl⟩:∃j:Nat,k= -(j:Int) - 1:=⟨(-k - 1).toNat,()⟩
   exact b1 j ()
theorem HA{y:c0}{p p' x:Nat}(hy:Yd y)(hp:p∈y)(vq:p'∈y)(hx:x∈y)(h1:p≠p')(h2:p≠x)(h3:p'≠x):decide (zj y p x<zj y p' x)=!gr y p p' x:=by
 have ip:=Qah hp
 have ip':=Qah vq
 have ix:=Qah hx
 have n1:=cj hp vq h1
 have n2:=cj hp hx h2
 have n3:=cj vq hx h3
 rw[hJ hy.nd hp vq hx h1 h2 h3]
 unfold zj
 rw[jW ip ix,jW ip' ix, <-decide_not]
 refine decide_eq_decide.mpr ?_
 unfold kW
 split<;>split<;>lia
theorem HB{y:c0}{f g:Int->Nat}(hy:Yd y)(hf:jg y f)(hg:jg y g)(h0:f 0=g 0)(h1:f (-1)≠g (-1)):jF y f g 0=!gr y (aA (f (-1))) (aA (g (-1))) (f 0):=by
 have e:jF y f g 0=decide (zj y (aA (f (-1))) (f 0)<zj y (aA (g (-1))) (g 0)):=rfl
 rw[e, <-h0]
 have r1:=hf.red 0
 have r2:=hg.red 0
 rw[show (0:Int) - 1= -1 by lia]at r1 r2
 exact HA hy (hy.cl _ (hf.cu _)) (hy.cl _ (hg.cu _)) (hf.cu 0) (λz=>h1 (gi (hy.lt _ (hf.cu _)) (hy.lt _ (hg.cu _)) z)) (Ne.symm r1) (by rw[h0];exact Ne.symm r2)
theorem HC{y:c0}{f g:Int->Nat}{a:Nat}(h:f a=g a):jC y f g a=gr y (aA (f a)) (f (a+1)) (g (a+1)):=by
 unfold jC eB
 rw[show (a:Int)+1 - 1=a by lia, <-h]
 rfl
theorem vK{y:c0}{f g:Int->Nat}{n:Nat}(hy:Yd y)(hf:jg y f)(hg:jg y g)(hd:f (-1)≠g (-1)->gM f g n 0<n/\f (gM f g n 0)≠g (gM f g n 0)):gm y f g↔0<al y f g n:=by
 unfold al
 by_cases z:f 0≠g 0\/f (-1)=g (-1)
 ·rw[if_pos z]
  refine ⟨λ⟨a,r,_⟩=>?_,λh=>absurd h (Qbw _)⟩
  rcases z with z | z
  ·exact absurd r.zero z
  ·exact absurd z r.lo
 ·rw[if_neg z]
  have z0:f 0=g 0:=Classical.byContradiction λq=>z (.inl q)
  have z1:f (-1)≠g (-1):=λq=>z (.inr q)
  obtain ⟨d1,d2⟩:=hd z1
  obtain ⟨_,_,d3,_⟩:=iH f g n 0
  generalize gM f g n 0=D at*
  cases D with
  | zero=>exact absurd z0 d2
  | succ a=>
   have r:Run f g a 0:=⟨λk h1 h2=>by
    obtain ⟨j,rfl⟩:∃j:Nat,k=j:=⟨k.toNat,()⟩
    exact d3 j (Qar _) (),d2,z1⟩
   have e1:((a+1:Nat):Int)=(a:Int)+1:=by lia
   rw[e1,show (a:Int)+1 - 1=a by lia]
   have VY:=d3 a (Qar _) (Qcp a)
   have rf:=hf.red (a+1)
   have rg:=hg.red (a+1)
   rw[show (a:Int)+1 - 1=a by lia]at rf rg
   have d2':f (a+1)≠g (a+1):=d2
   have eg:=CK hy.nd (hy.cl _ (hf.cu a)) (hf.cu (a+1)) (hg.cu (a+1)) (Ne.symm rf) (by rw[VY];exact Ne.symm rg) d2'
   rw[eg, <-HC VY]
   have eb:=HB hy hf hg z0 z1
   have key:gm y f g↔jC y f g a≠jF y f g 0:=⟨λ⟨a',r',x⟩=>by obtain ⟨rfl,_⟩:=r.one r';exact x,λx=>⟨a,r,x⟩⟩
   rw[key,eb]
   generalize gr y (aA (f (-1))) (aA (g (-1))) (f 0)=G
   generalize jC y f g a=A
   cases G<;>cases A<;>simp
noncomputable def p8(a b a' b':Nat):Bool:=decide (kW a a' b) != decide (kW a b' b)
theorem j5(a b a' b':Nat):p8 a b a' b'=p8 a b b' a':=by unfold p8;generalize decide (kW a a' b)=p;generalize decide (kW a b' b)=q;cases p<;>cases q<;>rfl
theorem zk(a b:Nat):p8 a b a b=false:=by
 unfold p8
 have h1: ¬kW a a b:=by unfold kW;lia
 have h2: ¬kW a b b:=by unfold kW;lia
 rw[decide_eq_false h1,decide_eq_false h2]
 rfl
theorem kK{a b:Nat}(h:a≠b):decide (b<a)=!decide (a<b):=by
 rcases Qdq h with q | q
 ·rw[decide_eq_true q,decide_eq_false (Qeu q)];rfl
 ·rw[decide_eq_true q,decide_eq_false (Qeu q)];rfl
theorem M4{a b c:Nat}(h1:a≠b)(h2:b≠c)(h3:a≠c):decide (kW a b c)=!(decide (a<b) ^^ (decide (b<c) ^^ decide (c<a))):=by
 have e:decide (kW a b c)=((decide (a<b)&&decide (b<c))||((decide (b<c)&&decide (c<a))||(decide (c<a)&&decide (a<b)))):=by
  rw[<-Qgt, <-Qgt, <-Qgt, <-Bool.decide_or, <-Bool.decide_or]
  exact decide_eq_decide.mpr Iff.rfl
 rw[e]
 have k1:decide (a<b)=true->decide (b<c)=true->decide (c<a)=true->False:=λp q r=>Qeu (Qd4 (of_decide_eq_true p) (of_decide_eq_true q)) (of_decide_eq_true r)
 have k2:decide (b<a)=true->decide (c<b)=true->decide (a<c)=true->False:=λp q r=>Qeu (Qd4 (of_decide_eq_true q) (of_decide_eq_true p)) (of_decide_eq_true r)
 rw[kK h1,kK h2,kK (Ne.symm h3)]at k2
 revert k1 k2
 generalize decide (a<b)=p
 generalize decide (b<c)=q
 generalize decide (c<a)=r
 revert p q r
 decide
theorem HD{a b a' b':Nat}(h1:a≠b)(h3:a≠a')(h4:a≠b')(h5:b≠a')(h6:b≠b'):p8 a b a' b'=((decide (a<a') ^^ decide (a'<b)) ^^ (decide (a<b') ^^ decide (b'<b))):=by
 unfold p8
 rw[M4 h3 (Ne.symm h5) h1,M4 h4 (Ne.symm h6) h1]
 generalize decide (a<a')=p
 generalize decide (a'<b)=q
 generalize decide (a<b')=r
 generalize decide (b'<b)=s
 generalize decide (b<a)=t
 revert p q r s t
 decide
theorem m7{a b a' b':Nat}(h1:a≠b)(h2:a'≠b')(h3:a≠a')(h4:a≠b')(h5:b≠a')(h6:b≠b'):p8 a b a' b'=p8 a' b' a b:=by
 rw[HD h1 h3 h4 h5 h6,HD h2 (Ne.symm h3) (Ne.symm h5) (Ne.symm h4) (Ne.symm h6),kK h3,kK (Ne.symm h6)]
 generalize decide (a<a')=p
 generalize decide (a'<b)=q
 generalize decide (a<b')=r
 generalize decide (b'<b)=s
 revert p q r s
 decide
theorem zl{a b a' b':Nat}(h1:a≠b)(h2:a'≠b')(h3:a≠a')(h4:a≠b')(h5:b≠a')(h6:b≠b'):p8 b a a' b'=p8 a b a' b':=by
 rw[m7 (Ne.symm h1) h2 h5 h6 h3 h4,j5,m7 h2 h1 (Ne.symm h3) (Ne.symm h5) (Ne.symm h4) (Ne.symm h6)]
theorem Lo{a b c i j k:Nat}(n1:i≠j)(n2:i≠k)(n3:j≠k)(h1:i<j->a<b)(h2:j<i->b<a)(h3:i<k->a<c)(h4:k<i->c<a)(h5:j<k->b<c)(h6:k<j->c<b):kW a b c↔kW i j k:=by
 have e:∀{i j a b:Nat},i≠j->(i<j->a<b)->(j<i->b<a)->(i<j↔a<b):=λ{i j a b} n f g=>⟨f,λq=>(Qdq n).elim id λr=>absurd (g r) (Qeu q)⟩
 unfold kW
 rw[e n1 h1 h2,e n3 h5 h6,e (Ne.symm n2) h4 h3]
def Sep(y:c0)(ps:List (Nat×Nat)):Prop:=∀p∈ps,∀q∈ps,y.idxOf p.1<y.idxOf q.1->p.2<q.2
theorem Sep.kW{y:c0}{ps:List (Nat×Nat)}(h:Sep y ps){a b c:Nat×Nat}(ha:a∈ps)(hb:b∈ps)(hc:c∈ps)(n1:y.idxOf a.1≠y.idxOf b.1)(n2:y.idxOf a.1≠y.idxOf c.1)(n3:y.idxOf b.1≠y.idxOf c.1):My.kW a.2 b.2 c.2↔My.kW (y.idxOf a.1) (y.idxOf b.1) (y.idxOf c.1):=Lo n1 n2 n3 (h a ha b hb) (h b hb a ha) (h a ha c hc) (h c hc a ha) (h b hb c hc) (h c hc b hb)
theorem Sep.gr{y:c0}{ps:List (Nat×Nat)}(h:Sep y ps)(hn:y.Nodup){a b c:Nat×Nat}(ha:a∈ps)(hb:b∈ps)(hc:c∈ps)(ya:a.1∈y)(yb:b.1∈y)(yc:c.1∈y)(n1:a.1≠b.1)(n2:a.1≠c.1)(n3:b.1≠c.1):decide (My.kW a.2 b.2 c.2)=My.gr y a.1 b.1 c.1:=by
 rw[hJ hn ya yb yc n1 n2 n3]
 exact decide_eq_decide.mpr (h.kW ha hb hc (cj ya yb n1) (cj ya yc n2) (cj yb yc n3))
theorem Sep.same{y:c0}{ps:List (Nat×Nat)}(h:Sep y ps){a b c:Nat×Nat}(ha:a∈ps)(hb:b∈ps)(hc:c∈ps)(e:b.1=c.1)(n:y.idxOf a.1≠y.idxOf c.1):My.kW a.2 b.2 c.2↔b.2<c.2:=by
 have h1:=h a ha b hb
 have h2:=h b hb a ha
 have h3:=h a ha c hc
 have h4:=h c hc a ha
 rw[e]at h1 h2
 unfold My.kW
 lia
theorem Sep.M5{y:c0}{ps:List (Nat×Nat)}(h:Sep y ps){a b c:Nat×Nat}(ha:a∈ps)(hb:b∈ps)(hc:c∈ps)(e:a.1=b.1)(n:y.idxOf a.1≠y.idxOf c.1):My.kW a.2 b.2 c.2↔a.2<b.2:=by
 have h1:=h b hb c hc
 have h2:=h c hc b hb
 have h3:=h a ha c hc
 have h4:=h c hc a ha
 rw[<-e]at h1 h2
 unfold My.kW
 lia
section
variable{y:c0}{f g:Int->Nat}{a b a' b':Nat}
theorem Pa(hy:Yd y)(hf:jg y f)(hg:jg y g)(h:Sep y [(aA (f (-1)),a),(f 0,b),(aA (g (-1)),a'),(g 0,b')])(hb:b≠b')(z0:f 0=g 0)(z1:f (-1)≠g (-1)):p8 a b a' b'=true↔decide (b<b')≠jF y f g 0:=by
 have r1:=hf.red 0
 have r2:=hg.red 0
 rw[show (0:Int) - 1= -1 by lia]at r1 r2
 have ya:=hy.cl _ (hf.cu (-1))
 have VZ:=hy.cl _ (hg.cu (-1))
 have n1:aA (f (-1))≠aA (g (-1)):=λz=>z1 (gi (hy.lt _ (hf.cu _)) (hy.lt _ (hg.cu _)) z)
 have e1:=h.gr hy.nd (a:=(aA (f (-1)),a)) (b:=(aA (g (-1)),a')) (c:=(f 0,b)) (by simp) (by simp) (by simp) ya VZ (hf.cu 0) n1 (Ne.symm r1) (by rw[z0];exact Ne.symm r2)
 walk_at"L"
 unfold p8
 rw[HB hy hf hg z0 z1]
 simp only at e1 e2
 rw[e1]
 generalize gr y (aA (f (-1))) (aA (g (-1))) (f 0)=G
 by_cases q:b<b'
 ·rw[decide_eq_true q,decide_eq_false (by rw[e2];lia)]
  cases G<;>simp
 ·rw[decide_eq_false q,decide_eq_true (by rw[e2];lia)]
  cases G<;>simp
theorem Pb(hy:Yd y)(hf:jg y f)(hg:jg y g)(h:Sep y [(aA (f (-1)),a),(f 0,b),(aA (g (-1)),a'),(g 0,b')])(ha:a≠a')(z1:f (-1)=g (-1))(z0:f 0≠g 0):p8 a b a' b'=true↔decide (a'<a)≠jC y (fj f) (fj g) 0:=by
 have r1:=hf.red 0
 have r2:=hg.red 0
 rw[show (0:Int) - 1= -1 by lia]at r1 r2
 have ya:=hy.cl _ (hf.cu (-1))
 have VZ:=hy.cl _ (hg.cu (-1))
 walk_at"C"
 have e2:=h.gr hy.nd (a:=(aA (f (-1)),a)) (b:=(g 0,b')) (c:=(f 0,b)) (by simp) (by simp) (by simp) ya (hg.cu 0) (hf.cu 0) (by show aA _≠_;rw[z1];exact Ne.symm r2) (Ne.symm r1) (Ne.symm z0)
 have e3:jC y (fj f) (fj g) 0=gr y (aA (f (-1))) (f 0) (g 0):=HC (f:=fj f) (g:=fj g) (a:=0) z1
 have e4:=Ht hy.nd ya (hf.cu 0) (hg.cu 0) (Ne.symm r1) (by rw[z1];exact Ne.symm r2) z0
 unfold p8
 simp only at e1 e2
 rw[e3,e2,e4]
 generalize gr y (aA (f (-1))) (f 0) (g 0)=G
 by_cases q:a'<a
 ·rw[decide_eq_true q,decide_eq_false (by rw[e1];lia)]
  cases G<;>simp
 ·rw[decide_eq_false q,decide_eq_true (by rw[e1];lia)]
  cases G<;>simp
theorem xt(hy:Yd y)(hf:jg y f)(hg:jg y g)(h:Sep y [(aA (f (-1)),a),(f 0,b),(aA (g (-1)),a'),(g 0,b')])(ha:a≠a')(hb:b≠b')(z1:f (-1)=g (-1))(z0:f 0=g 0):p8 a b a' b'=true↔decide (a'<a)≠decide (b<b'):=by
 have r1:=hf.red 0
 rw[show (0:Int) - 1= -1 by lia]at r1
 have ya:=hy.cl _ (hf.cu (-1))
 walk_at"C"
 walk_at"L"
 unfold p8
 simp only at e1 e2
 rw[decide_eq_decide.mpr e1,decide_eq_decide.mpr e2]
 by_cases q:a'<a<;>by_cases q2:b<b'
 ·rw[decide_eq_true q,decide_eq_true q2,decide_eq_false (show ¬a<a' by lia),decide_eq_false (show ¬b'<b by lia)];simp
 ·rw[decide_eq_true q,decide_eq_false q2,decide_eq_false (show ¬a<a' by lia),decide_eq_true (show b'<b by lia)];simp
 ·rw[decide_eq_false q,decide_eq_true q2,decide_eq_true (show a<a' by lia),decide_eq_false (show ¬b'<b by lia)];simp
 ·rw[decide_eq_false q,decide_eq_false q2,decide_eq_true (show a<a' by lia),decide_eq_true (show b'<b by lia)];simp
theorem Pc(hy:Yd y)(hf:jg y f)(hg:jg y g)(h:Sep y [(aA (f (-1)),a),(f 0,b),(aA (g (-1)),a'),(g 0,b')])(z0:f 0≠g 0)(z1:f (-1)≠g (-1))(z2:aA (f (-1))≠g 0)(z3:aA (g (-1))≠f 0):p8 a b a' b'=ac y (aA (f (-1))) (f 0) (aA (g (-1))) (g 0):=by
 have r1:=hf.red 0
 have r2:=hg.red 0
 rw[show (0:Int) - 1= -1 by lia]at r1 r2
 have ya:=hy.cl _ (hf.cu (-1))
 have VZ:=hy.cl _ (hg.cu (-1))
 have n1:aA (f (-1))≠aA (g (-1)):=λz=>z1 (gi (hy.lt _ (hf.cu _)) (hy.lt _ (hg.cu _)) z)
 have e1:=h.gr hy.nd (a:=(aA (f (-1)),a)) (b:=(aA (g (-1)),a')) (c:=(f 0,b)) (by simp) (by simp) (by simp) ya VZ (hf.cu 0) n1 (Ne.symm r1) z3
 have e2:=h.gr hy.nd (a:=(aA (f (-1)),a)) (b:=(g 0,b')) (c:=(f 0,b)) (by simp) (by simp) (by simp) ya (hg.cu 0) (hf.cu 0) z2 (Ne.symm r1) (Ne.symm z0)
 unfold p8 ac
 simp only at e1 e2
 rw[e1,e2,if_neg (λq=>q.elim (λq=>n1 q.symm) λq=>q.elim z3 λq=>q.elim (λq=>z2 q.symm) λq=>z0 q.symm)]
end
noncomputable def sm:Nat->(Int->Int)->Int
 | 0,_=>0
 | n+1,h=>sm n h+h n
theorem aW{h g:Int->Int}:∀{n:Nat},(∀i:Nat,i<n->h i=g i)->sm n h=sm n g
 | 0,_=>rfl
 | n+1,e=>by
  show sm n h+h n=sm n g+g n
  rw[aW λi hi=>e i (),e n ()]
theorem rS(h g:Int->Int):∀n:Nat,sm n (λi=>h i+g i)=sm n h+sm n g
 | 0=>rfl
 | n+1=>by
  show sm n _+(h n+g n)=(sm n h+h n)+(sm n g+g n)
  rw[rS h g n];lia
theorem Bc(h g:Int->Int):∀n:Nat,sm n (λi=>h i - g i)=sm n h - sm n g
 | 0=>rfl
 | n+1=>by
  show sm n _+(h n - g n)=(sm n h+h n) - (sm n g+g n)
  rw[Bc h g n];lia
theorem gT:∀n:Nat,sm n (λ_=>0)=0
 | 0=>rfl
 | n+1=>by show sm n _+0=0;rw[gT n];rfl
theorem CQ(h:Int->Int):∀n:Nat,sm n (λi=>h (i - 1))+h ((n:Int) - 1)=sm n h+h (-1)
 | 0=>rfl
 | n+1=>by
  have:=CQ h n
  show sm n _+h ((n:Int) - 1)+h (((n+1:Nat):Int) - 1)=(sm n h+h n)+h (-1)
  rw[show ((n+1:Nat):Int) - 1=n by lia]
  lia
theorem m8{h:Int->Int}{n:Nat}(P:∀k,h (k+n)=h k):sm n (λi=>h (i - 1))=sm n h:=by
 have h1:=CQ h n
 have h2:=P (-1)
 rw[show (-1:Int)+n=(n:Int) - 1 by lia]at h2
 lia
theorem CT(h:Int->Int):∀n:Nat,sm n (λi=>h ((n:Int) - 1 - i))=sm n h
 | 0=>rfl
 | n+1=>by
  have e:∀(m:Nat) (g:Int->Int),sm (m+1) g=g 0+sm m (λi=>g (i+1)):=λm=>by
   induction m with
   | zero=>intro g;show (0:Int)+g 0=g 0+0;lia
   | succ m ih=>intro g;show sm (m+1) g+g ((m+1:Nat):Int)=g 0+(sm m (λi=>g (i+1))+g ((m:Int)+1));rw[ih];rw[show ((m+1:Nat):Int)=(m:Int)+1 by lia];lia
  rw[e]
  have:=CT h n
  show h (((n+1:Nat):Int) - 1 - 0)+sm n (λi=>h (((n+1:Nat):Int) - 1 - (i+1)))=sm n h+h n
  rw[show ((n+1:Nat):Int) - 1 - 0=n by lia, <-this,Int.add_comm]
  congr 1
  exact aW λi _=>by congr 1;lia
theorem CU{h:Int->Int}{n:Nat}(P:∀k,h (k+n)=h k):sm n (λi=>h (i+1))=sm n h:=by
 have:=m8 (h:=λi=>h (i+1)) (n:=n) (λk=>by show h (k+n+1)=h (k+1);rw[<-P (k+1)];congr 1;lia)
 rw[<-this]
 exact aW λi _=>by show h ((i:Int) - 1+1)=h i;congr 1;lia
theorem HE{h:Int->Int}{n:Nat}(P:∀k,h (k+n)=h k):sm n (λi=>h (-i))=sm n h:=by
 rw[<-CT (λi=>h (-i)) n, <-CU P]
 exact aW λi _=>by
  show h (-((n:Int) - 1 - i))=h (i+1)
  rw[<-P (-((n:Int) - 1 - i))];congr 1;lia
theorem Pd{h:Int->Int}{n:Nat}(P:∀k,h (k+n)=h k):sm n (λi=>h (1 - i))=sm n h:=by
 rw[<-CU P, <-HE (h:=λi=>h (i+1)) (λk=>by show h (k+n+1)=h (k+1);rw[<-P (k+1)];congr 1;lia)]
 exact aW λi _=>by show h (1 - (i:Int))=h (-(i:Int)+1);congr 1;lia
noncomputable def cC(n m:Nat)(h:Int->Int->Int):Int:=sm n λi=>sm m λj=>h i j
theorem ck{n m:Nat}{h g:Int->Int->Int}(e:∀i j:Nat,i<n->j<m->h i j=g i j):cC n m h=cC n m g:=aW λi hi=>aW λj hj=>e i j hi hj
theorem dk(n m:Nat)(h g:Int->Int->Int):cC n m (λi j=>h i j+g i j)=cC n m h+cC n m g:=by
 unfold cC
 rw[<-rS]
 exact aW λi _=>rS _ _ _
theorem Lp(n m:Nat)(h g:Int->Int->Int):cC n m (λi j=>h i j - g i j)=cC n m h - cC n m g:=by
 unfold cC
 rw[<-Bc]
 exact aW λi _=>Bc _ _ _
theorem EN{n m:Nat}{h:Int->Int->Int}(P:∀i j,h (i+n) j=h i j)(Q:∀i j,h i (j+m)=h i j):cC n m (λi j=>h (i - 1) (j - 1))=cC n m h:=by
 unfold cC
 have e:∀i:Int,sm m (λj=>h i (j - 1))=sm m (h i):=λi=>m8 (Q i)
 rw[<-m8 (h:=λi=>sm m λj=>h i j) (n:=n) (λk=>aW λj _=>P k j)]
 exact aW λi _=>e _
structure QH(y:c0)(n:Nat)(F:Int->Int->Nat)(o i:Int->Nat):Prop where
 pos:0<n
 Bd:∀k,jg y (F k)
 bk:∀k,fj (F k)=F (k - 1)
 UM:∀k,F (k+n)=F k
 own:∀k x,F k (x+n)=F k x
 op:∀k,o (k+n)=o k
 ip:∀k,i (k+n)=i k
structure M6(y:c0)(F:Int->Int->Nat)(o i:Int->Nat)(G:Int->Int->Nat)(o' i':Int->Nat):Prop where
 sep:∀s t,Sep y [(aA (F s (-1)),i (s - 1)),(F s 0,o s),(aA (G t (-1)),i' (t - 1)),(G t 0,o' t)]
 on:∀s t a b,Run (F s) (G t) a b->o s≠o' t/\i s≠i' t/\decide (o s<o' t)=Bb y (F s) (G t) a b/\decide (i' t<i s)=Bb y (F s) (G t) a b
def Fx(F G:Int->Int->Nat)(s t:Int):Prop:=F s 0=G t 0\/F s (-1)=G t (-1)
def par(F G:Int->Int->Nat)(s t:Int):Prop:=∀k,F s k=G t k
noncomputable def JW(o i o' i':Int->Nat)(s t:Int):Bool:=p8 (i (s - 1)) (o s) (i' (t - 1)) (o' t)
theorem HF{y:c0}{n m:Nat}{F G:Int->Int->Nat}{o i o' i':Int->Nat}(hF:QH y n F o i)(hG:QH y m G o' i'){s t:Int}:par F G (s - 1) (t - 1)↔par F G s t:=by
 unfold par
 rw[<-hF.bk, <-hG.bk]
 unfold fj
 exact ⟨λh k=>by have:=h (k+1);rwa [show k+1 - 1=k by lia]at this,λh k=>h _⟩
theorem CV{y:c0}{n m:Nat}{F G:Int->Int->Nat}{o i o' i':Int->Nat}(hy:Yd y)(hF:QH y n F o i)(hG:QH y m G o' i')(h:M6 y F o i G o' i'):
  cC n m (λs t=>one (Fx F G s t/\JW o i o' i' s t=true/\ ¬par F G s t))=cC n m λs t=>one (gm y (F s) (G t)):=by
 have pt:∀s t:Int,one (Fx F G s t/\JW o i o' i' s t=true/\ ¬par F G s t)=one (gm y (F s) (G t))+one (uB y (F (s - 1)) (G (t - 1))) - one (uB y (F s) (G t)):=λs t=>by
  by_cases hp:par F G s t
  ·have nr:∀{a b}, ¬Run (F s) (G t) a b:=λr=>r.hi (hp _)
   have vq:=(HF hF hG).mpr hp
   have nr':∀{a b}, ¬Run (F (s - 1)) (G (t - 1)) a b:=λr=>r.hi (vq _)
   rw[bf (λz=>z.2.2 hp),bf (λ⟨_,r,_⟩=>nr r),bf (λ⟨_,_,r,_⟩=>nr' r),bf (λ⟨_,_,r,_⟩=>nr r)]
   rfl
  ·by_cases ht:Fx F G s t
   ·have dE:∃k,F s k≠G t k:=Classical.byContradiction λz=>hp λk=>Classical.byContradiction λq=>z ⟨k,q⟩
    have Pe:∃k,F (s - 1) k≠G (t - 1) k:=Classical.byContradiction λz=>hp ((HF hF hG).mp λk=>Classical.byContradiction λq=>z ⟨k,q⟩)
    have e1:∀s,F (s - 1) 0=F s (-1):=λs=>by rw[<-hF.bk];rfl
    have e2:∀t,G (t - 1) 0=G t (-1):=λs=>by rw[<-hG.bk];rfl
    have ei:one (Fx F G s t/\JW o i o' i' s t=true/\ ¬par F G s t)=one (JW o i o' i' s t=true):=bg ⟨λz=>z.2.1,λz=>⟨ht,z,hp⟩⟩
    rw[ei, <-hF.bk, <-hG.bk]
    refine Hz (e0:=decide (o s<o' t)) (e1:=decide (i' (t - 1)<i (s - 1))) (λz=>?_) (λz=>?_) (λa b r=>(h.on s t a b r).2.2.1) (λa b r=>?_) (λz0 z1=>?_) (λz1 z0=>?_) (λz1 z0=>?_) ht
    ·obtain ⟨a,b,r,_⟩:=dJ hF.pos hG.pos (hF.own s) (hG.own t) z dE
     exact ⟨a,b,r⟩
    ·obtain ⟨a,b,r,_⟩:=dJ hF.pos hG.pos (hF.own (s - 1)) (hG.own (t - 1)) (by rw[e1,e2];exact z) Pe
     rw[hF.bk,hG.bk]
     exact ⟨a,b,r⟩
    ·rw[hF.bk,hG.bk]at r ⊢
     exact (h.on _ _ a b r).2.2.2
    ·obtain ⟨a,b,r,_⟩:=dJ hF.pos hG.pos (hF.own s) (hG.own t) z0 dE
     exact Pa hy (hF.Bd s) (hG.Bd t) (h.sep s t) (h.on s t a b r).1 z0 z1
    ·obtain ⟨a,b,r,_⟩:=dJ hF.pos hG.pos (hF.own (s - 1)) (hG.own (t - 1)) (by rw[e1,e2];exact z1) Pe
     exact Pb hy (hF.Bd s) (hG.Bd t) (h.sep s t) (h.on _ _ a b r).2.1 z1 z0
    ·obtain ⟨a,b,r,_⟩:=dJ hF.pos hG.pos (hF.own s) (hG.own t) z0 dE
     obtain ⟨a2,b2,r2,_⟩:=dJ hF.pos hG.pos (hF.own (s - 1)) (hG.own (t - 1)) (by rw[e1,e2];exact z1) Pe
     exact xt hy (hF.Bd s) (hG.Bd t) (h.sep s t) (h.on _ _ a2 b2 r2).2.1 (h.on s t a b r).1 z1 z0
   ·have t0:F s 0≠G t 0:=λz=>ht (.inl z)
    have t1:F (s - 1) 0≠G (t - 1) 0:=by
     rw[<-hF.bk, <-hG.bk]
     exact λz=>ht (.inr z)
    rw[bf (λz=>ht z.1),bf (λ⟨_,r,_⟩=>t0 r.zero),bf (λ⟨_,_,r,_⟩=>t1 r.zero),bf (λ⟨_,_,r,_⟩=>t0 r.zero)]
    rfl
 have e:cC n m (λs t=>one (Fx F G s t/\JW o i o' i' s t=true/\ ¬par F G s t))=cC n m (λs t=>(one (gm y (F s) (G t))+one (uB y (F (s - 1)) (G (t - 1)))) - one (uB y (F s) (G t))):=ck λs t _ _=>pt s t
 rw[e,Lp,dk,EN (h:=λs t=>one (uB y (F s) (G t))) (λs t=>by rw[hF.UM]) (λs t=>by rw[hG.UM])]
 lia
theorem bD{y w:c0}(h:SW y w)(i:Int):jg y (sq w i):=⟨λk=>h.rd _,λk=>by
 unfold sq
 have:=h.red (i+k)
 rwa [show i+k - 1=i+(k - 1) by lia]at this⟩
theorem eW(w:c0)(i:Int):kX (sq w i)=bq w i:=by
 funext k
 unfold kX sq bq
 rw[show i+ -k=i - k by lia]
theorem j6{y w:c0}(hy:Yd y)(h:SW y w)(i:Int):jg y (bq w i):=by rw[<-eW];exact (bD h i).rv hy
theorem Be(w:c0)(i:Int):sq w (i+(w:))=sq w i:=by
 funext k
 unfold sq
 rw[show i+((w:):Int)+k=i+k+(w:) by lia,jY]
theorem xu(w:c0)(i:Int):bq w (i+(w:))=bq w i:=by rw[<-eW, <-eW,Be]
theorem Bf{y w:c0}{po pi:Int->Nat}(h:SW y w)(P:∀k,po (k+(w:))=po k)(Q:∀k,pi (k+(w:))=pi k):QH y (w:) (sq w) po pi:=
 ⟨ZJ.mpr h.ne,bD h,λk=>by funext x;unfold fj sq;congr 1;lia,Be w,λk x=>cb w k x,P,Q⟩
theorem CY{n:Nat}{h:Int->Nat}(P:∀k,h (k+n)=h k)(k:Int):h (-(k+n))=h (-k):=by rw[<-P (-(k+n))];congr 1;lia
theorem Ph{y w:c0}{po pi:Int->Nat}(hy:Yd y)(h:SW y w)(P:∀k,po (k+(w:))=po k)(Q:∀k,pi (k+(w:))=pi k):QH y (w:) (λk=>bq w (-k)) (λk=>pi (-k)) (λk=>po (-k)):=
 ⟨ZJ.mpr h.ne,λk=>j6 hy h _,λk=>by funext x;unfold fj bq;congr 2;lia,λk=>by
  show bq w (-(k+(w:)))=bq w (-k)
  rw[<-xu w (-(k+(w:)))];congr 1;lia,λk x=>mi w _ x,CY Q,CY P⟩
section
variable{y w v:c0}{po pi qo qi:Int->Nat}
noncomputable def iS(po pi qo qi:Int->Nat)(i j:Int):Bool:=p8 (pi (i - 1)) (po i) (qi (j - 1)) (qo j)
def cD(w v:c0)(i j:Int):Prop:=∀k,sq w i k=sq v j k
def j7(w v:c0)(i j:Int):Prop:=∀k,sq w i k=bq v (j - 1) k
def QI(w v:c0)(i j:Int):Prop:=rd w i=rd v j\/rd w (i - 1)=rd v (j - 1)
def Bg(w v:c0)(i j:Int):Prop:=rd w i=aA (rd v (j - 1))\/rd w (i - 1)=aA (rd v j)
theorem Lq(w v:c0)(i j:Int):Fx (sq w) (sq v) i j↔QI w v i j:=by
 unfold Fx QI sq
 rw[show i+0=i by lia,show j+0=j by lia]
 rfl
theorem Lr(w v:c0)(i k:Int):Fx (sq w) (λk=>bq v (-k)) i k↔Bg w v i (1 - k):=by
 unfold Fx Bg sq bq
 show rd w (i+0)=aA (rd v (-k - 0))\/rd w (i+ -1)=aA (rd v (-k - -1))↔_
 rw[show i+0=i by lia,show -k - 0=1 - k - 1 by lia,show -k - -1=1 - k by lia]
 rfl
theorem Yk(hy:Yd y)(hw:SW y w)(hv:SW y v){i j:Int}(h:QI w v i j)(g:Bg w v i j):False:=by
 have tX:=hw.red i
 have rv':=hv.red j
 have l1:=hy.lt _ (hw.rd (i - 1))
 have l2:=hy.lt _ (hv.rd (j - 1))
 have l3:=hy.lt _ (hv.rd j)
 rcases h with h | h<;>rcases g with g | g
 ·exact rv' (h.symm.trans g)
 ·rw[<-h]at g;exact tX (by rw[g,aO (hy.lt _ (hw.rd i))])
 ·rw[<-h]at g;exact tX g
 ·rw[h]at g;exact rv' (by rw[g,aO l3])
theorem Ls(hy:Yd y)(hw:SW y w)(hv:SW y v):cC (w:) (v:) (λs t=>one (gm y (sq w s) (sq v t)))=cC (w:) (v:) (λi j=>one (0<al y (sq w i) (sq v j) ((w:)+(v:)))):=ck λi j _ _=>bg (vK hy (bD hw _) (bD hv _) λz=>d_ hw.ne hv.ne (λk=>cb w i k) (λk=>cb v j k) z)
theorem Lu(hy:Yd y)(hw:SW y w)(hv:SW y v):cC (w:) (v:) (λs t=>one (gm y (sq w s) (bq v (-t))))=cC (w:) (v:) (λi j=>one (0<al y (sq w i) (bq v j) ((w:)+(v:)))):=by
 have:cC (w:) (v:) (λs t=>one (gm y (sq w s) (bq v (-t))))=cC (w:) (v:) (λs t=>one (gm y (sq w s) (bq v t))):=aW λi _=>HE (h:=λt=>one (gm y (sq w i) (bq v t))) λk=>by rw[xu]
 rw[this]
 exact ck λi j _ _=>bg (vK hy (bD hw _) (j6 hy hv _) λz=>d_ hw.ne hv.ne (λk=>cb w i k) (λk=>mi v j k) z)
theorem Lv(Q1:∀k,qo (k+(v:))=qo k)(Q2:∀k,qi (k+(v:))=qi k):cC (w:) (v:) (λs t=>one (Fx (sq w) (λk=>bq v (-k)) s t/\JW po pi (λk=>qi (-k)) (λk=>qo (-k)) s t=true/\ ¬par (sq w) (λk=>bq v (-k)) s t))=cC (w:) (v:) (λi j=>one (Bg w v i j/\iS po pi qo qi i j=true/\ ¬j7 w v i j)):=by
 have P:∀i:Int,∀k:Int,(λj=>one (Bg w v i j/\iS po pi qo qi i j=true/\ ¬j7 w v i j)) (k+(v:))=(λj=>one (Bg w v i j/\iS po pi qo qi i j=true/\ ¬j7 w v i j)) k:=λi k=>by
  show one (Bg w v i (k+(v:))/\iS po pi qo qi i (k+(v:))=true/\ ¬j7 w v i (k+(v:)))=_
  unfold Bg iS j7
  rw[show k+((v:):Int) - 1=k - 1+(v:) by lia,jY,jY,Q1,Q2,xu]
 refine aW λi _=>(aW λk _=>?_).trans (Pd (P i))
 refine bg ?_
 rw[Lr]
 have ec:JW po pi (λk=>qi (-k)) (λk=>qo (-k)) i k=iS po pi qo qi i (1 - k):=by
  unfold JW iS
  rw[j5]
  show p8 (pi ((i:Int) - 1)) (po i) (qi (-(k:Int))) (qo (-((k:Int) - 1)))=_
  rw[show -((k:Int) - 1)=1 - k by lia,show (1:Int) - k - 1= -k by lia]
 have ep:par (sq w) (λk=>bq v (-k)) i k↔j7 w v i (1 - k):=by
  unfold par j7
  rw[show (1:Int) - k - 1= -k by lia]
 rw[ec,ep]
theorem Bh(hy:Yd y)(hw:SW y w)(hv:SW y v)(sep:∀s t,Sep y [(aA (sq w s (-1)),pi (s - 1)),(sq w s 0,po s),(aA (sq v t (-1)),qi (t - 1)),(sq v t 0,qo t)]):
  cC (w:) (v:) (λi j=>one (iS po pi qo qi i j=true))=
   cC (w:) (v:) (λi j=>one (ac y (aA (rd w (i - 1))) (rd w i) (aA (rd v (j - 1))) (rd v j)=true))+cC (w:) (v:) (λi j=>one (Fx (sq w) (sq v) i j/\JW po pi qo qi i j=true/\ ¬par (sq w) (sq v) i j))+cC (w:) (v:) (λi j=>one (Bg w v i j/\iS po pi qo qi i j=true/\ ¬j7 w v i j))
   +cC (w:) (v:) (λi j=>one (cD w v i j/\iS po pi qo qi i j=true))+cC (w:) (v:) (λi j=>one (j7 w v i j/\iS po pi qo qi i j=true)):=by
 rw[<-dk, <-dk, <-dk, <-dk]
 refine ck λi j _ _=>?_
 have hc:JW po pi qo qi i j=iS po pi qo qi i j:=rfl
 have et:=Lq w v i j
 have pS:cD w v i j->QI w v i j:=λz=> .inl (by have:=z 0;unfold sq at this;rwa [show (i:Int)+0=i by lia,show (j:Int)+0=j by lia]at this)
 have pO:j7 w v i j->Bg w v i j:=λz=> .inl (by have:=z 0;unfold sq bq at this;rwa [show (i:Int)+0=i by lia,show (j:Int) - 1 - 0=j - 1 by lia]at this)
 have acS:QI w v i j-> ¬ac y (aA (rd w (i - 1))) (rd w i) (aA (rd v (j - 1))) (rd v j)=true:=λz=>by
  unfold ac
  rw[if_pos (z.elim (λz=> .inr (.inr (.inr z.symm))) λz=> .inl (by rw[z]))]
  decide
 have acO:Bg w v i j-> ¬ac y (aA (rd w (i - 1))) (rd w i) (aA (rd v (j - 1))) (rd v j)=true:=λz=>by
  unfold ac
  rw[if_pos (z.elim (λz=> .inr (.inl z.symm)) λz=> .inr (.inr (.inl (by rw[z,aO (hy.lt _ (hv.rd _))]))))]
  decide
 have ep:par (sq w) (sq v) i j↔cD w v i j:=Iff.rfl
 by_cases tS:QI w v i j
 ·have nO: ¬Bg w v i j:=λz=>Yk hy hw hv tS z
  rw[bf (acS tS),bf (p:=Bg w v i j/\_) (λz=>nO z.1),bf (p:=j7 w v i j/\_) (λz=>nO (pO z.1))]
  by_cases c:iS po pi qo qi i j=true
  ·by_cases q:cD w v i j
   ·rw[gE c,bf (λz=>z.2.2 q),gE ⟨q,c⟩];rfl
   ·rw[gE c,gE ⟨et.mpr tS,c,q⟩,bf (λz=>q z.1)];rfl
  ·rw[bf c,bf (λz=>c z.2.1),bf (λz=>c z.2)];rfl
 ·rw[bf (p:=Fx _ _ _ _/\_) (λz=>tS (et.mp z.1)),bf (p:=cD w v i j/\_) (λz=>tS (pS z.1))]
  by_cases tO:Bg w v i j
  ·rw[bf (acO tO)]
   by_cases c:iS po pi qo qi i j=true
   ·by_cases q:j7 w v i j
    ·rw[gE c,bf (λz=>z.2.2 q),gE ⟨q,c⟩];rfl
    ·rw[gE c,gE ⟨tO,c,q⟩,bf (λz=>q z.1)];rfl
   ·rw[bf c,bf (λz=>c z.2.1),bf (λz=>c z.2)];rfl
  ·rw[bf (p:=Bg w v i j/\_) (λz=>tO z.1),bf (p:=j7 w v i j/\_) (λz=>tO (pO z.1))]
   have l2:=hy.lt _ (hv.rd (j - 1))
   have l3:=hy.lt _ (hv.rd j)
   have l1:=hy.lt _ (hw.rd (i - 1))
   have f0:∀(u:c0) (i:Int),sq u i 0=rd u i:=λu i=>by unfold sq;rw[show i+0=i by lia]
   have f1:∀(u:c0) (i:Int),sq u i (-1)=rd u (i - 1):=λu i=>rfl
   have e:=Pc hy (bD hw i) (bD hv j) (sep i j) (λz=>tS (.inl (by rw[f0,f0]at z;exact z))) (λz=>tS (.inr z)) (λz=>tO (.inr (by rw[f0,f1]at z;rw[<-z,aO l1]))) (λz=>tO (.inl (by rw[f0,f1]at z;exact z.symm)))
   rw[f0,f0,f1,f1]at e
   have e':iS po pi qo qi i j=ac y (aA (rd w (i - 1))) (rd w i) (aA (rd v (j - 1))) (rd v j):=e
   rw[e']
   lia
theorem zm(hy:Yd y)(hw:SW y w)(hv:SW y v)(P1:∀k,po (k+(w:))=po k)(P2:∀k,pi (k+(w:))=pi k)(Q1:∀k,qo (k+(v:))=qo k)(Q2:∀k,qi (k+(v:))=qi k)
  (hS:M6 y (sq w) po pi (sq v) qo qi) (hO:M6 y (sq w) po pi (λk=>bq v (-k)) (λk=>qi (-k)) (λk=>qo (-k))):
  cC (w:) (v:) (λi j=>one (iS po pi qo qi i j=true))=
   cC (w:) (v:) (λi j=>one (ac y (aA (rd w (i - 1))) (rd w i) (aA (rd v (j - 1))) (rd v j)=true))+cC (w:) (v:) (λi j=>one (0<al y (sq w i) (sq v j) ((w:)+(v:))))+cC (w:) (v:) (λi j=>one (0<al y (sq w i) (bq v j) ((w:)+(v:))))
   +cC (w:) (v:) (λi j=>one (cD w v i j/\iS po pi qo qi i j=true))+cC (w:) (v:) (λi j=>one (j7 w v i j/\iS po pi qo qi i j=true)):=by
 have s1:=CV hy (Bf hw P1 P2) (Bf hv Q1 Q2) hS
 have s2:=CV hy (Bf hw P1 P2) (Ph hy hv Q1 Q2) hO
 rw[Ls hy hw hv]at s1
 rw[Lu hy hw hv,Lv Q1 Q2]at s2
 rw[Bh hy hw hv hS.sep,s1,s2]
theorem Lw(hy:Yd y)(hw:SW y w)(hv:SW y v)(hS:M6 y (sq w) po pi (sq v) qo qi)(D:Bool)
  (h:∀i j,cD w v i j->po i≠qo j/\pi i≠qi j/\decide (po i<qo j)=D/\decide (qi j<pi i)=D):cC (w:) (v:) (λi j=>one (cD w v i j/\iS po pi qo qi i j=true))=0:=by
 have:∀i j:Int, ¬(cD w v i j/\iS po pi qo qi i j=true):=λi j ⟨p,c⟩=>by
  have p1:cD w v (i - 1) (j - 1):=λk=>by
   have:=p (k - 1)
   unfold sq at this ⊢
   rw[show i - 1+k=i+(k - 1) by lia,show j - 1+k=j+(k - 1) by lia]
   exact this
  have h0:=h i j p
  have h1:=h _ _ p1
  have:=(xt hy (bD hw i) (bD hv j) (hS.sep i j) h1.2.1 h0.1 (p (-1)) (p 0)).mp c
  exact this (h1.2.2.2.trans h0.2.2.1.symm)
 walk_at"H"
 exact ck λi j _ _=>bf (this i j)
theorem Ly(hy:Yd y)(hw:SW y w)(hv:SW y v)(hO:M6 y (sq w) po pi (λk=>bq v (-k)) (λk=>qi (-k)) (λk=>qo (-k)))(D:Bool)
  (h:∀i j,(∀k,sq w i k=bq v j k)->po i≠qi j/\pi i≠qo j/\decide (po i<qi j)=D/\decide (qo j<pi i)=D):cC (w:) (v:) (λi j=>one (j7 w v i j/\iS po pi qo qi i j=true))=0:=by
 have:∀i j:Int, ¬(j7 w v i j/\iS po pi qo qi i j=true):=λi j ⟨p,c⟩=>by
  have p1:∀k,sq w (i - 1) k=bq v j k:=λk=>by
   have:=p (k - 1)
   unfold sq bq at this ⊢
   rw[show i - 1+k=i+(k - 1) by lia,this]
   congr 2;lia
  have h0:=h i (j - 1) p
  have h1:=h _ _ p1
  have s:=hO.sep i (1 - j)
  simp only[show -(1 - j)=j - 1 by lia,show -(1 - j - 1)=j by lia]at s
  unfold iS at c
  rw[j5]at c
  have:=(xt hy (bD hw i) (j6 hy hv (j - 1)) s h1.2.1 h0.1 (p (-1)) (p 0)).mp c
  exact this (h1.2.2.2.trans h0.2.2.1.symm)
 walk_at"H"
 exact ck λi j _ _=>bf (this i j)
theorem xv(hy:Yd y)(hw:SW y w)(i j:Int): ¬ ∀k,sq w i k=bq w j k:=λh=>by
 unfold sq bq at h
 rcases (show (j - i)%2=0\/(j - i)%2=1 by lia) with z | z
 ·have:=h ((j - i) / 2)
  rw[show i+(j - i) / 2=j - (j - i) / 2 by lia]at this
  exact oj (hy.lt _ (hw.rd _)) this.symm
 ·have:=h ((j - i) / 2+1)
  rw[show j - ((j - i) / 2+1)=i+((j - i) / 2+1) - 1 by lia]at this
  exact hw.red _ this
theorem zo(h:Int->Int)(n:Nat):∀m:Nat,sm (n+m) h=sm n h+sm m (λi=>h (n+i))
 | 0=>by show sm n h=sm n h+0;lia
 | m+1=>by
  show sm (n+m) h+h ((n+m:Nat):Int)=sm n h+(sm m (λi=>h (n+i))+h (n+m))
  rw[zo h n m,show ((n+m:Nat):Int)=(n:Int)+m by lia]
  lia
theorem j8{h:Int->Int}:∀{s:Nat},0<s->(∀i:Nat,0<i->i<s->h i=0)->sm s h=h 0
 | 0,h0,_=>absurd h0 (Qbw _)
 | 1,_,_=>by show (0:Int)+h 0=h 0;lia
 | s+2,_,g=>by
  show sm (s+1) h+h ((s+1:Nat):Int)=h 0
  rw[j8 (s:=s+1) () (λi h1 h2=>g i h1 ()),g (s+1) () ()]
  lia
theorem CZ{h:Int->Int}{s:Nat}(hs:0<s)(g:∀i:Nat,h i=if i%s=0 then 1 else 0):∀k:Nat,sm (k*s) h=k
 | 0=>by rw[Qga];rfl
 | k+1=>by
  rw[Qd2,zo,CZ hs g k,j8 hs]
  ·have:=g (k*s)
   rw[if_pos (Nat.mul_mod_left k s)]at this
   show (k:Int)+h (((k*s:Nat):Int)+0)=((k+1:Nat):Int)
   rw[Qci,this]
   lia
  ·intro i h1 h2
   have:=g (k*s+i)
   rw[if_neg (by rw[Qb5,Qfp,Qcw h2];lia)]at this
   rw[<-this]
   congr 1
theorem HG(hy:Yd y)(hw:SW y w)(hS:M6 y (sq w) po pi (sq w) po pi){s k:Nat}(hs:0<s)(hn:(w:)=k*s)(hk:0<k)(hr:∀j:Nat,j<(w:)->(cD w w 0 j↔j%s=0))
  (h:∀i j:Int,cD w w i j->i%(w:)≠j%(w:)->po i≠po j/\pi i≠pi j/\decide (po i<po j)=decide (i%(w:)<j%(w:))/\decide (pi j<pi i)=decide (i%(w:)<j%(w:))):
  cC (w:) (w:) (λi j=>one (cD w w i j/\iS po pi po pi i j=true))=2*((k:Int) - 1):=by
 have pt:∀i j:Nat,i<(w:)->j<(w:)->one (cD w w i j/\iS po pi po pi i j=true)=(if i=0 then one (j≠0/\cD w w 0 j) else 0)+(if j=0 then one (i≠0/\cD w w 0 i) else 0):=λi j hi hj=>by
  have sym:cD w w 0 i↔cD w w i 0:=⟨λq k=>(q k).symm,λq k=>(q k).symm⟩
  by_cases e:i=j
  ·subst e
   rw[bf (λq=>by have:=q.2;unfold iS at this;rw[zk]at this;cases this)]
   by_cases z:i=0
   ·rw[if_pos z,bf (λq=>q.1 z)];rfl
   ·rw[if_neg z];rfl
  ·have key:cD w w i j->(iS po pi po pi i j=true↔(i=0\/j=0)):=λp=>by
    have p1:cD w w ((i:Int) - 1) ((j:Int) - 1):=λk=>by
     have:=p (k - 1)
     unfold sq at this ⊢
     rw[show (i:Int) - 1+k=i+(k - 1) by lia,show (j:Int) - 1+k=j+(k - 1) by lia]
     exact this
    have m0:∀i:Nat,i<(w:)->(i:Int)%(w:)=i:=λi hi=>Qbd () ()
    have m1:∀i:Nat,i<(w:)->((i:Int) - 1)%(w:)=if i=0 then ((w:):Int) - 1 else i - 1:=λi hi=>by
     split
     ·rename_i z
      rw[<-Qee,Qbd () ()];lia
     ·exact Qbd () ()
    have h0:=h i j p (by rw[m0 i hi,m0 j hj];lia)
    have h1:=h _ _ p1 (by rw[m1 i hi,m1 j hj];split<;>split<;>lia)
    have c:=xt hy (bD hw i) (bD hw j) (hS.sep i j) h1.2.1 h0.1 (p (-1)) (p 0)
    rw[h0.2.2.1,h1.2.2.2,m0 i hi,m0 j hj,m1 i hi,m1 j hj]at c
    have c':iS po pi po pi i j=true↔_:=c
    rw[c',Ne,decide_eq_decide]
    split<;>split<;>lia
   by_cases z:i=0
   ·have j0:j≠0:=λq=>e (z.trans q.symm)
    rw[if_pos z,if_neg j0]
    rw[z]at key ⊢
    have:one (cD w w ((0:Nat):Int) j/\iS po pi po pi ((0:Nat):Int) j=true)=one (j≠0/\cD w w 0 j):=bg ⟨λq=>⟨j0,q.1⟩,λq=>⟨q.2,(key q.2).mpr (.inl rfl)⟩⟩
    rw[this];lia
   ·rw[if_neg z]
    by_cases j0:j=0
    ·rw[if_pos j0]
     rw[j0]at key ⊢
     have:one (cD w w i ((0:Nat):Int)/\iS po pi po pi i ((0:Nat):Int)=true)=one (i≠0/\cD w w 0 i):=bg ⟨λq=>⟨z,sym.mpr q.1⟩,λq=>⟨sym.mp q.2,(key (sym.mp q.2)).mpr (.inr rfl)⟩⟩
     rw[this];lia
    ·rw[if_neg j0,bf (λq=>by rcases (key q.1).mp q.2 with q | q<;>contradiction)];rfl
 have cnt:sm (w:) (λj=>one (j≠0/\cD w w 0 j))=(k:Int) - 1:=by
  have e1:sm (w:) (λj=>one (cD w w 0 j))=k:=by
   have:sm (w:) (λj=>one (cD w w 0 j))=sm (w:) (λj=>if j.toNat%s=0 then 1 else 0):=aW λj hj=>by
    rw[bg (hr j hj),Qab]
    by_cases z:j%s=0
    ·rw[gE z,if_pos z]
    ·rw[bf z,if_neg z]
   rw[this,hn]
   exact CZ hs (λi=>by rw[Qab]) k
  have e2:sm (w:) (λj=>one (cD w w 0 j))=sm (w:) (λj=>one (j≠0/\cD w w 0 j))+sm (w:) (λj=>if j=0 then 1 else 0):=by
   rw[<-rS]
   refine aW λj hj=>?_
   by_cases z:j=0
   ·subst z
    rw[gE (show cD w w 0 ((0:Nat):Int) from λk=>rfl),bf (λq=>q.1 rfl)];rfl
   ·rw[if_neg (),Qci]
    exact bg ⟨λq=>⟨(),q⟩,λq=>q.2⟩
  have e3:sm (w:) (λj=>if j=0 then (1:Int) else 0)=1:=by
   rw[j8 (ZJ.mpr hw.ne) (λi h1 _=>by rw[if_neg ()]),if_pos rfl]
  lia
 have lp:0<(w:):=ZJ.mpr hw.ne
 have e:cC (w:) (w:) (λi j=>one (cD w w i j/\iS po pi po pi i j=true))=cC (w:) (w:) (λi j=>(if i=0 then one (j≠0/\cD w w 0 j) else 0)+(if j=0 then one (i≠0/\cD w w 0 i) else 0)):=ck λi j hi hj=>by
  rw[pt i j hi hj]
  congr 1
  ·by_cases z:i=0
   ·rw[if_pos z,if_pos ()]
    exact bg ⟨λq=>⟨(),q.2⟩,λq=>⟨(),q.2⟩⟩
   ·rw[if_neg z,if_neg ()]
  ·by_cases z:j=0
   ·rw[if_pos z,if_pos ()]
    exact bg ⟨λq=>⟨(),q.2⟩,λq=>⟨(),q.2⟩⟩
   ·rw[if_neg z,if_neg ()]
 rw[e,dk]
 have a1:cC (w:) (w:) (λi j=>if i=0 then one (j≠0/\cD w w 0 j) else 0)=(k:Int) - 1:=by
  unfold cC
  rw[j8 lp]
  ·rw[<-cnt]
   exact aW λj _=>if_pos rfl
  ·intro i h1 _
   refine Eq.trans (aW (g:=λ_=>0) λj _=>?_) (gT _)
   have: ¬((i:Int)=0):=by lia
   exact if_neg this
 have a2:cC (w:) (w:) (λi j=>if j=0 then one (i≠0/\cD w w 0 i) else 0)=(k:Int) - 1:=by
  unfold cC
  rw[<-cnt]
  refine aW λi _=>?_
  have:∀j:Nat,0<j-> ¬((j:Int)=0):=λj h=>by lia
  rw[j8 lp (λj h1 _=>if_neg (this j h1))]
  exact if_pos rfl
 lia
end
noncomputable def kk(y:c0)(f:Int->Nat):Nat->Nat->List Int
 | _,0=>[]
 | k,n+1=>eB y f (k+1)::eB y f (-(k:Int))::kk y f (k+1) n
theorem fM:∀(l r t:List Int),bP (l++r) (l++t)=bP r t
 | [],_,_=>rfl
 | a::l,r,t=>by
  show (if a=a then bP (l++r) (l++t) else _)=_
  rw[if_pos rfl,fM l r t]
theorem oz{y:c0}{f g:Int->Nat}{a b:Nat}(hy:Yd y)(hf:jg y f)(hg:jg y g)(h:Run f g a b)(r t:List Int):∀(n k:Nat),k<=a->k<=b->a<k+n->b<k+n->bP (kk y f k n++r) (kk y g k n++t)=if a<=b then jC y f g a else jF y f g b
 | 0,k,h1,_,h3,_=>by lia
 | n+1,k,h1,h2,h3,h4=>by
  show (if eB y f (k+1)=eB y g (k+1) then (if eB y f (-(k:Int))=eB y g (-(k:Int)) then bP (kk y f (k+1) n++r) (kk y g (k+1) n++t) else decide (eB y f (-(k:Int))<eB y g (-(k:Int)))) else decide (eB y f (k+1)<eB y g (k+1)))=_
  have e0:=h.pE k () ()
  have e1:=h.pE (-(k:Int)) () ()
  by_cases z:k=a
  ·subst z
   rw[if_neg (λq=>h.hi (by
    unfold eB at q
    rw[show (k:Int)+1 - 1=k by lia, <-e0]at q
    exact m6 (hy.cl _ (hf.cu _)) (hf.cu _) (hg.cu _) q)),if_pos h2]
   rfl
  ·have e2:=h.pE (k+1) () ()
   rw[if_pos (by unfold eB;rw[show (k:Int)+1 - 1=k by lia,e0,e2])]
   by_cases z2:k=b
   ·subst z2
    rw[if_neg (λq=>h.lo (by
     unfold eB at q
     rw[<-e1]at q
     have r1:=hf.red (-(k:Int))
     have r2:=hg.red (-(k:Int))
     have c1:=(fk (hy.cl _ (hf.cu (-(k:Int) - 1))) (hf.cu (-(k:Int))) (Ne.symm r1)).2.2
     have c2:=(fk (hy.cl _ (hg.cu (-(k:Int) - 1))) (hf.cu (-(k:Int))) (by rw[e1];exact Ne.symm r2)).2.2
     have:=m6 (hf.cu (-(k:Int))) (hy.cl _ (hf.cu (-(k:Int) - 1))) (hy.cl _ (hg.cu (-(k:Int) - 1))) (by rw[c1,c2,q])
     exact gi (hy.lt _ (hf.cu _)) (hy.lt _ (hg.cu _)) this)),if_neg ()]
    rfl
   ·have e3:=h.pE (-(k:Int) - 1) () ()
    rw[if_pos (by unfold eB;rw[e1,e3])]
    exact oz hy hf hg h r t n (k+1) () () () ()
noncomputable def nM(w:c0)(i:Int):Int->Nat:=if aC (rd w i)=true then sq w i else bq w i
noncomputable def JX(n r:Nat)(l low:Bool)(c i:Nat):List Int:=if low=l then [(c:Int),(((if low=true then i else n - 1 - i) / r:Nat):Int)] else [-(c:Int), -(((if low=true then n - 1 - i else i) / r:Nat):Int)]
noncomputable def eO(y:c0)(ws:List c0)(L:Nat->Bool)(r:Nat->Nat)(M c i:Nat):List Int:=kk y (nM (ws|||c) i) 0 M++JX ((ws|||c):) (r c) (L c) (aC (rd (ws|||c) i)) c i
def Dl(w:c0)(i:Int)(f:Int->Nat):Prop:=f=sq w i\/f=bq w i
theorem xw{y w:c0}{i:Int}{f:Int->Nat}(hy:Yd y)(hw:SW y w)(h:Dl w i f):nM w i=if aC (f 0)=true then f else kX f:=by
 have s0:sq w i 0=rd w i:=by unfold sq;rw[show i+0=i by lia]
 have b0:bq w i 0=aA (rd w i):=by unfold bq;rw[show i - 0=i by lia]
 have lc:=gk _ (hy.lt _ (hw.rd i)).mem
 unfold nM
 rcases h with rfl | rfl
 ·rw[s0,eW]
 ·rw[b0,lc, <-eW,pF hy (bD hw i)]
  cases aC (rd w i)<;>rfl
theorem Dl.Bd{y w:c0}{i:Int}{f:Int->Nat}(hy:Yd y)(hw:SW y w)(h:Dl w i f):jg y f:=by
 rcases h with rfl | rfl
 ·exact bD hw i
 ·exact j6 hy hw i
theorem Run.sy{f g:Int->Nat}{a b:Nat}(h:Run f g a b):Run g f a b:=⟨λk h1 h2=>(h.pE k h1 h2).symm,Ne.symm h.hi,Ne.symm h.lo⟩
section
variable{y:c0}{ws:List c0}{L:Nat->Bool}{r:Nat->Nat}{M:Nat}{N:Nat->Nat->Nat->Nat}
structure gF(y:c0)(ws:List c0)(R:Nat->Nat->Nat->Nat->Bool)(N:Nat->Nat->Nat->Nat):Prop where
 sep:∀c i d j e e',c<(ws:)->d<(ws:)->i<((ws|||c):)->j<((ws|||d):)->(e=rd (ws|||c) i\/e=aA (rd (ws|||c) i))->(e'=rd (ws|||d) j\/e'=aA (rd (ws|||d) j))->y.idxOf e<y.idxOf e'->N c i e<N d j e'
 low:∀c i d j x,c<(ws:)->d<(ws:)->i<((ws|||c):)->j<((ws|||d):)->(c,i)≠(d,j)->aC x=true->(rd (ws|||c) i=x\/rd (ws|||c) i=aA x)->(rd (ws|||d) j=x\/rd (ws|||d) j=aA x)->
  N c i x≠N d j x/\N c i (aA x)≠N d j (aA x)/\decide (N c i x<N d j x)=R c i d j/\decide (N d j (aA x)<N c i (aA x))=R c i d j
abbrev Lies(y:c0)(ws:List c0)(L:Nat->Bool)(r:Nat->Nat)(M:Nat)(N:Nat->Nat->Nat->Nat):Prop:=gF y ws (λc i d j=>bP (eO y ws L r M c i) (eO y ws L r M d j)) N
theorem gF.at{R:Nat->Nat->Nat->Nat->Bool}(hy:Yd y)(hN:gF y ws R N){c i d j:Nat}{f g:Int->Nat}(hc:c<(ws:))(hd:d<(ws:))(hi:i<((ws|||c):))(hj:j<((ws|||d):))(hw:SW y (ws|||c))(hv:SW y (ws|||d))
  (hf:Dl (ws|||c) i f) (hg:Dl (ws|||d) j g) (h0:f 0=g 0) (dE:(c,i)≠(d,j)):
  N c i (f 0)≠N d j (f 0)/\N c i (aA (f 0))≠N d j (aA (f 0))/\decide (N c i (f 0)<N d j (f 0))=(if aC (f 0)=true then R c i d j else R d j c i)/\decide (N d j (aA (f 0))<N c i (aA (f 0)))=(if aC (f 0)=true then R c i d j else R d j c i):=by
 walk_at"c"
 walk_at"i"
 have ly:Lt (f 0):=hy.lt _ ((hf.Bd hy hw).cu 0)
 have Qz:=aO ly
 have ef:rd (ws|||c) i=f 0\/rd (ws|||c) i=aA (f 0):=by
  rcases hf with rfl | rfl
  ·exact .inl (s0 _ _).symm
  ·exact .inr (by rw[b0,aO (hy.lt _ (hw.rd _))])
 have eg:rd (ws|||d) j=f 0\/rd (ws|||d) j=aA (f 0):=by
  rw[h0]
  rcases hg with rfl | rfl
  ·exact .inl (s0 _ _).symm
  ·exact .inr (by rw[b0,aO (hy.lt _ (hv.rd _))])
 by_cases z:aC (f 0)=true
 ·rw[if_pos z]
  exact hN.low c i d j (f 0) hc hd hi hj dE z ef eg
 ·rw[if_neg z]
  have z':aC (aA (f 0))=true:=by rw[gk _ ly.mem];simpa using z
  have:=hN.low d j c i (aA (f 0)) hd hc hj hi (Ne.symm dE) z' (by rw[Qz];exact eg.symm) (by rw[Qz];exact ef.symm)
  rw[Qz]at this
  exact ⟨Ne.symm this.2.1,Ne.symm this.1,this.2.2.2,this.2.2.1⟩
theorem Lies.run(hy:Yd y)(hN:Lies y ws L r M N){c i d j:Nat}{f g:Int->Nat}{a b:Nat}(hc:c<(ws:))(hd:d<(ws:))(hi:i<((ws|||c):))(hj:j<((ws|||d):))(hw:SW y (ws|||c))(hv:SW y (ws|||d))
  (hf:Dl (ws|||c) i f) (hg:Dl (ws|||d) j g) (hr:Run f g a b) (ha:a<M) (hb:b<M) (dE:(c,i)≠(d,j)):
  N c i (f 0)≠N d j (g 0)/\N c i (aA (f 0))≠N d j (aA (g 0))/\decide (N c i (f 0)<N d j (g 0))=Bb y f g a b/\decide (N d j (aA (g 0))<N c i (aA (f 0)))=Bb y f g a b:=by
 have h0:=hr.zero
 have lf:=hf.Bd hy hw
 have lg:=hg.Bd hy hv
 have e:(if aC (f 0)=true then bP (eO y ws L r M c i) (eO y ws L r M d j) else bP (eO y ws L r M d j) (eO y ws L r M c i))=Bb y f g a b:=by
  unfold eO
  rw[xw hy hw hf,xw hy hv hg, <-h0]
  by_cases z:aC (f 0)=true
  ·rw[if_pos z,if_pos z,if_pos z,oz hy lf lg hr _ _ M 0 (Qar _) (Qar _) () ()]
   unfold Bb yn
   by_cases q:a<=b
   ·rw[if_pos q,if_neg (by simp[z];lia)]
   ·rw[if_neg q,if_pos (by simp;lia)]
  ·rw[if_neg z,if_neg z,if_neg z,oz hy (lg.rv hy) (lf.rv hy) (hr.rv hy lf lg).sy _ _ M 0 (Qar _) (Qar _) () (), <-O_ hy lf lg h0]
   unfold Bb yn
   have z':aC (kX g 0)=true:=by
    show aC (aA (g 0))=true
    rw[<-h0,gk _ (hy.lt _ (lf.cu 0)).mem];simpa using z
   by_cases q:b<=a
   ·rw[if_pos q,if_neg (by simp[z'];lia)]
   ·rw[if_neg q,if_pos (by simp;lia)]
 have:=hN.at hy hc hd hi hj hw hv hf hg h0 dE
 rw[e]at this
 rw[<-h0]
 exact this
end
noncomputable def j9(n:Nat)(k:Int):Nat:=(k%(n:Int)).toNat
theorem bI{n:Nat}(h:0<n)(k:Int):j9 n k<n:=by
 unfold j9
 have h1:=Qcn k (b:=(n:Int)) ()
 have h2:=Qcc k (b:=(n:Int)) ()
 lia
theorem eQ{n:Nat}(h:0<n)(k:Int):((j9 n k:Nat):Int)=k%n:=by
 unfold j9
 have h1:=Qcn k (b:=(n:Int)) ()
 lia
theorem C0{n:Nat}(k:Int):j9 n (k+n)=j9 n k:=by unfold j9;rw[Qee]
theorem b7{w:c0}(h:w≠[])(k:Int):rd w (j9 (w:) k:Nat)=rd w k:=by rw[eQ (ZJ.mpr h),gD]
theorem cQ{w:c0}(h:w≠[])(k:Int):sq w (j9 (w:) k:Nat)=sq w k:=by
 funext x
 unfold sq
 rw[eQ (ZJ.mpr h), <-gD w (k%(w:)+x),Qdy,gD]
theorem xx{w:c0}(h:w≠[])(k:Int):bq w (j9 (w:) k:Nat)=bq w k:=by rw[<-eW, <-eW,cQ h]
noncomputable def pO(ws:List c0)(N:Nat->Nat->Nat->Nat)(c:Nat)(k:Int):Nat:=N c (j9 ((ws|||c):) k) (rd (ws|||c) k)
noncomputable def pI(ws:List c0)(N:Nat->Nat->Nat->Nat)(c:Nat)(k:Int):Nat:=N c (j9 ((ws|||c):) k) (aA (rd (ws|||c) k))
theorem Pj{x x' p p':Int}(h:x≠x'):bP [x,p] [x',p']=decide (x<x'):=by
 show (if x=x' then _ else decide (x<x'))=_
 rw[if_neg h]
theorem xA{x p p':Int}(h:p≠p'):bP [x,p] [x,p']=decide (p<p'):=by
 show (if x=x then (if p=p' then bP [] [] else decide (p<p')) else _)=_
 rw[if_pos rfl,if_neg h]
section
variable{y:c0}{ws:List c0}{L:Nat->Bool}{r:Nat->Nat}{M:Nat}{N:Nat->Nat->Nat->Nat}
structure dM(y:c0)(ws:List c0)(L:Nat->Bool)(r:Nat->Nat)(M:Nat):Prop where
 yd:Yd y
 sw:∀c,c<(ws:)->SW y (ws|||c)
 big:∀c d,c<(ws:)->d<(ws:)->((ws|||c):)+((ws|||d):)<=M
 l1:∀c d i j,c<(ws:)->d<(ws:)->cD (ws|||c) (ws|||d) i j->L c=L d
 l2:∀c d i j,c<(ws:)->d<(ws:)->(∀k,sq (ws|||c) i k=bq (ws|||d) j k)->L d=!L c
 rp:∀c,c<(ws:)->0<r c
 rr:∀c,c<(ws:)->∀i j:Int,(cD (ws|||c) (ws|||c) i j↔(i - j)%(r c:Int)=0)
theorem gF.Yl{R:Nat->Nat->Nat->Nat->Bool}(h:dM y ws L r M)(hN:gF y ws R N){c d:Nat}(hc:c<(ws:))(hd:d<(ws:))(s t:Int):Sep y [(aA (sq (ws|||c) s (-1)),pI ws N c (s - 1)),(sq (ws|||c) s 0,pO ws N c s),(aA (sq (ws|||d) t (-1)),pI ws N d (t - 1)),(sq (ws|||d) t 0,pO ws N d t)]:=by
 have hw:=h.sw c hc
 have hv:=h.sw d hd
 have lw:=ZJ.mpr hw.ne
 have lv:=ZJ.mpr hv.ne
 walk_at"c"
 have key:∀p∈[(aA (sq (ws|||c) s (-1)),pI ws N c (s - 1)),(sq (ws|||c) s 0,pO ws N c s),(aA (sq (ws|||d) t (-1)),pI ws N d (t - 1)),(sq (ws|||d) t 0,pO ws N d t)],∃e i:Nat,e<(ws:)/\i<((ws|||e):)/\(p.1=rd (ws|||e) i\/p.1=aA (rd (ws|||e) i))/\p.2=N e i p.1:=by
  intro p hp
  simp only[Qam,Qbb,or_false]at hp
  rcases hp with rfl | rfl | rfl | rfl
  ·exact ⟨c,_,hc,bI lw (s - 1),.inr (by rw[b7 hw.ne];rfl),rfl⟩
  ·exact ⟨c,_,hc,bI lw s,.inl (by rw[b7 hw.ne,s0]),by rw[s0];rfl⟩
  ·exact ⟨d,_,hd,bI lv (t - 1),.inr (by rw[b7 hv.ne];rfl),rfl⟩
  ·exact ⟨d,_,hd,bI lv t,.inl (by rw[b7 hv.ne,s0]),by rw[s0];rfl⟩
 intro p hp q hq cf
 obtain ⟨e,i,he,hi,h1,h2⟩:=key p hp
 obtain ⟨e',j,Fy,hj,h3,h4⟩:=key q hq
 rw[h2,h4]
 exact hN.sep e i e' j _ _ he Fy hi hj h1 h3 cf
theorem gF.Ym{R:Nat->Nat->Nat->Nat->Bool}(h:dM y ws L r M)(hN:gF y ws R N){c d:Nat}(hc:c<(ws:))(hd:d<(ws:))(s t:Int):Sep y [(aA (sq (ws|||c) s (-1)),pI ws N c (s - 1)),(sq (ws|||c) s 0,pO ws N c s),(aA (bq (ws|||d) (-t) (-1)),pO ws N d (-(t - 1))),(bq (ws|||d) (-t) 0,pI ws N d (-t))]:=by
 have hw:=h.sw c hc
 have hv:=h.sw d hd
 have lw:=ZJ.mpr hw.ne
 have lv:=ZJ.mpr hv.ne
 walk_at"c"
 walk_at"i"
 have bb:∀t:Int,aA (bq (ws|||d) (-t) (-1))=rd (ws|||d) (-(t - 1)):=λt=>by
  unfold bq
  rw[aO (h.yd.lt _ (hv.rd _))]
  congr 1;lia
 have key:∀p∈[(aA (sq (ws|||c) s (-1)),pI ws N c (s - 1)),(sq (ws|||c) s 0,pO ws N c s),(aA (bq (ws|||d) (-t) (-1)),pO ws N d (-(t - 1))),(bq (ws|||d) (-t) 0,pI ws N d (-t))],∃e i:Nat,e<(ws:)/\i<((ws|||e):)/\(p.1=rd (ws|||e) i\/p.1=aA (rd (ws|||e) i))/\p.2=N e i p.1:=by
  intro p hp
  simp only[Qam,Qbb,or_false]at hp
  rcases hp with rfl | rfl | rfl | rfl
  ·exact ⟨c,_,hc,bI lw (s - 1),.inr (by rw[b7 hw.ne];rfl),rfl⟩
  ·exact ⟨c,_,hc,bI lw s,.inl (by rw[b7 hw.ne,s0]),by rw[s0];rfl⟩
  ·exact ⟨d,_,hd,bI lv (-(t - 1)),.inl (by rw[b7 hv.ne];exact bb t),by rw[bb t];rfl⟩
  ·exact ⟨d,_,hd,bI lv (-t),.inr (by rw[b7 hv.ne,b0]),by rw[b0];rfl⟩
 intro p hp q hq cf
 obtain ⟨e,i,he,hi,h1,h2⟩:=key p hp
 obtain ⟨e',j,Fy,hj,h3,h4⟩:=key q hq
 rw[h2,h4]
 exact hN.sep e i e' j _ _ he Fy hi hj h1 h3 cf
theorem Lies.two(h:dM y ws L r M)(hN:Lies y ws L r M N){c d:Nat}(hc:c<(ws:))(hd:d<(ws:)):M6 y (sq (ws|||c)) (pO ws N c) (pI ws N c) (sq (ws|||d)) (pO ws N d) (pI ws N d):=by
 have hw:=h.sw c hc
 have hv:=h.sw d hd
 have lw:=ZJ.mpr hw.ne
 have lv:=ZJ.mpr hv.ne
 walk_at"c"
 refine ⟨gF.Yl h hN hc hd,λs t a b rn=>?_⟩
 obtain ⟨a',b',Yn,ha,hb⟩:=dJ lw lv (λk=>cb _ s k) (λk=>cb _ t k) rn.zero ⟨_,rn.hi⟩
 obtain ⟨rfl,rfl⟩:=rn.one Yn
 have:=h.big c d hc hd
 have key:=hN.run h.yd hc hd (bI lw s) (bI lv t) hw hv (.inl (cQ hw.ne s).symm) (.inl (cQ hv.ne t).symm) rn () () (λz=>rn.hi (by
  obtain ⟨z1,z2⟩:=Prod.mk.inj z
  subst z1
  rw[<-cQ hw.ne s, <-cQ hw.ne t,z2]))
 rw[s0,s0]at key
 exact key
theorem Lies.opp(h:dM y ws L r M)(hN:Lies y ws L r M N){c d:Nat}(hc:c<(ws:))(hd:d<(ws:)):M6 y (sq (ws|||c)) (pO ws N c) (pI ws N c) (λk=>bq (ws|||d) (-k)) (λk=>pI ws N d (-k)) (λk=>pO ws N d (-k)):=by
 have hw:=h.sw c hc
 have hv:=h.sw d hd
 have lw:=ZJ.mpr hw.ne
 have lv:=ZJ.mpr hv.ne
 walk_at"c"
 walk_at"i"
 have bb:∀t:Int,aA (bq (ws|||d) (-t) (-1))=rd (ws|||d) (-(t - 1)):=λt=>by
  unfold bq
  rw[aO (h.yd.lt _ (hv.rd _))]
  congr 1;lia
 refine ⟨gF.Ym h hN hc hd,λs t a b rn=>?_⟩
 obtain ⟨a',b',Yn,ha,hb⟩:=dJ lw lv (λk=>cb _ s k) (λk=>mi _ (-t) k) rn.zero ⟨_,rn.hi⟩
 obtain ⟨rfl,rfl⟩:=rn.one Yn
 have:=h.big c d hc hd
 have key:=hN.run h.yd hc hd (bI lw s) (bI lv (-t)) hw hv (.inl (cQ hw.ne s).symm) (.inr (xx hv.ne (-t)).symm) rn () () (λz=>by
  obtain ⟨z1,z2⟩:=Prod.mk.inj z
  subst z1
  have z0:=rn.zero
  rw[s0,b0, <-b7 hw.ne s, <-b7 hw.ne (-t),z2]at z0
  exact oj (h.yd.lt _ (hw.rd _)) z0.symm)
 rw[s0,b0,aO (h.yd.lt _ (hv.rd _))]at key
 exact key
theorem xB{n n' r r' c d i j:Nat}{l low Pk:Bool}(h:c≠d):bP (JX n r l low c i) (JX n' r' (if Pk=low then l else !l) Pk d j)=if low=l then decide (c<d) else decide (d<c):=by
 unfold JX
 cases low<;>cases Pk<;>cases l<;>simp only[Qf5,Bool.not_false,if_true,if_false,Bool.true_eq_false,Qcm]<;>rw[Pj ()]<;>exact decide_eq_decide.mpr ()
theorem Lies.HH(h:dM y ws L r M)(hN:Lies y ws L r M N){c d:Nat}(hc:c<(ws:))(hd:d<(ws:))(pR:c≠d){i j:Nat}{f g:Int->Nat}(hi:i<((ws|||c):))(hj:j<((ws|||d):))(hf:Dl (ws|||c) i f)(hg:Dl (ws|||d) j g)(hp:∀k,f k=g k)
  (hl:L d=if aC (rd (ws|||d) j)=aC (rd (ws|||c) i) then L c else !L c) (hs:f=sq (ws|||c) i):
  N c i (f 0)≠N d j (g 0)/\N c i (aA (f 0))≠N d j (aA (g 0))/\decide (N c i (f 0)<N d j (g 0))=(if L c=true then decide (c<d) else decide (d<c))/\decide (N d j (aA (g 0))<N c i (aA (f 0)))=(if L c=true then decide (c<d) else decide (d<c)):=by
 have hw:=h.sw c hc
 have hv:=h.sw d hd
 have e:(if aC (f 0)=true then bP (eO y ws L r M c i) (eO y ws L r M d j) else bP (eO y ws L r M d j) (eO y ws L r M c i))=if L c=true then decide (c<d) else decide (d<c):=by
  have es:nM (ws|||c) i=nM (ws|||d) j:=by
   rw[xw h.yd hw hf,xw h.yd hv hg,show f=g from funext hp]
  have f0:f 0=rd (ws|||c) i:=by rw[hs];unfold sq;rw[show (i:Int)+0=i by lia]
  unfold eO
  rw[es,fM,fM,f0]
  have B7:L c=if aC (rd (ws|||c) i)=aC (rd (ws|||d) j) then L d else !L d:=by
   rw[hl]
   cases aC (rd (ws|||d) j)<;>cases aC (rd (ws|||c) i)<;>cases L c<;>rfl
  have e1:= @xB ((ws|||c):) ((ws|||d):) (r c) (r d) c d i j (L c) (aC (rd (ws|||c) i)) (aC (rd (ws|||d) j)) pR
  have e2:= @xB ((ws|||d):) ((ws|||c):) (r d) (r c) d c j i (L d) (aC (rd (ws|||d) j)) (aC (rd (ws|||c) i)) (Ne.symm pR)
  rw[<-hl]at e1
  rw[<-B7]at e2
  rw[e1,e2,hl]
  cases aC (rd (ws|||d) j)<;>cases aC (rd (ws|||c) i)<;>cases L c<;>rfl
 have:=hN.at h.yd hc hd hi hj hw hv hf hg (hp 0) (λz=>pR (Prod.mk.inj z).1)
 rw[e]at this
 rw[<-hp 0]
 exact this
end
theorem zp{n k r i:Nat}(hr:0<r)(hn:n=k*r)(hi:i<n):(n - 1 - i) / r=k - 1 - i / r:=by
 have h1:=Qeb i r
 have h2:=Qdz i hr
 have h3:i / r<k:=by
  rw[Qfs hr];lia
 rw[Nat.div_eq_iff hr]
 obtain ⟨t,rfl⟩:∃t,k=i / r+1+t:=⟨k - 1 - i / r,()⟩
 generalize hq:i / r=q at*
 rw[Nat.add_mul,Nat.add_mul,Nat.one_mul,Qb5 q r]at hn
 have e:q+1+t - 1 - q=t:=by lia
 rw[e]
 generalize r*q=A at*
 generalize t*r=B at*
 lia
theorem EO{r i j:Nat}(hr:0<r)(h:i%r=j%r)(dE:i≠j):(i / r<j / r↔i<j)/\i / r≠j / r:=by
 have h1:=Qeb i r
 have h2:=Qeb j r
 have xC:i / r≠j / r:=λz=>dE (by rw[<-h1, <-h2,z,h])
 refine ⟨⟨λq=>?_,λq=>?_⟩,xC⟩
 ·have:r*(i / r+1)<=r*(j / r):=Nat.mul_le_mul_left r q
  rw[Qgp,Nat.mul_one]at this
  lia
 ·refine Classical.byContradiction λz=>?_
  have h3:j / r+1<=i / r:=by lia
  have:r*(j / r+1)<=r*(i / r):=Nat.mul_le_mul_left r h3
  rw[Qgp,Nat.mul_one]at this
  lia
theorem Bi{n k r c i j:Nat}{l low:Bool}(hr:0<r)(hn:n=k*r)(hi:i<n)(hj:j<n)(h:i%r=j%r)(dE:i≠j):(if low=true then bP (JX n r l low c i) (JX n r l low c j) else bP (JX n r l low c j) (JX n r l low c i))=decide (i<j):=by
 obtain ⟨d1,d2⟩:=EO hr h dE
 have e1:=zp hr hn hi
 have e2:=zp hr hn hj
 have b1:i / r<k:=by rw[Qfs hr];lia
 have b2:j / r<k:=by rw[Qfs hr];lia
 unfold JX
 cases low<;>cases l<;>simp only[if_true,if_false,Bool.true_eq_false,Qcm]
 ·rw[e1,e2,xA ()];exact decide_eq_decide.mpr ()
 ·rw[xA ()];exact decide_eq_decide.mpr ()
 ·rw[e1,e2,xA ()];exact decide_eq_decide.mpr ()
 ·rw[xA ()];exact decide_eq_decide.mpr ()
noncomputable def fc(y w v:c0)(i j:Int):Int:=one (ac y (aA (rd w (i - 1))) (rd w i) (aA (rd v (j - 1))) (rd v j)=true)+one (0<al y (sq w i) (sq v j) ((w:)+(v:)))+one (0<al y (sq w i) (bq v j) ((w:)+(v:)))
section
variable{y:c0}{ws:List c0}{L:Nat->Bool}{r:Nat->Nat}{M:Nat}{N:Nat->Nat->Nat->Nat}
theorem xD(ws:List c0)(N:Nat->Nat->Nat->Nat)(c:Nat)(k:Int):pO ws N c (k+((ws|||c):))=pO ws N c k:=by unfold pO;rw[C0,jY]
theorem xE(ws:List c0)(N:Nat->Nat->Nat->Nat)(c:Nat)(k:Int):pI ws N c (k+((ws|||c):))=pI ws N c k:=by unfold pI;rw[C0,jY]
theorem dM.root(h:dM y ws L r M){c:Nat}(hc:c<(ws:)):((ws|||c):)=((ws|||c):) / r c*r c/\0<((ws|||c):) / r c:=by
 have hp:=h.rp c hc
 have hl:=ZJ.mpr (h.sw c hc).ne
 have h1:=(h.rr c hc ((ws|||c):) 0).mp (λk=>by
  have:=congrFun (Be (ws|||c) 0) k
  rwa [Qc5]at this)
 rw[Qd6]at h1
 have h2:((ws|||c):)%r c=0:=by
  have:(((((ws|||c):)%r c:Nat)):Int)=0:=by rw[<-h1];rfl
  lia
 have h3:=Qeb ((ws|||c):) (r c)
 rw[h2,Qdd,Qb5]at h3
 refine ⟨h3.symm,Qf7 λz=>?_⟩
 rw[z,Qga]at h3
 lia
theorem ER(h:dM y ws L r M)(hN:Lies y ws L r M N){c d:Nat}(hc:c<(ws:))(hd:d<(ws:))(pR:c≠d):
  cC ((ws|||c):) ((ws|||d):) (λi j=>one (iS (pO ws N c) (pI ws N c) (pO ws N d) (pI ws N d) i j=true))=cC ((ws|||c):) ((ws|||d):) (fc y (ws|||c) (ws|||d)):=by
 have hw:=h.sw c hc
 have hv:=h.sw d hd
 have lw:=ZJ.mpr hw.ne
 have lv:=ZJ.mpr hv.ne
 walk_at"c"
 walk_at"i"
 have hS:=hN.two h hc hd
 have hO:=hN.opp h hc hd
 rw[zm h.yd hw hv (xD ws N c) (xE ws N c) (xD ws N d) (xE ws N d) hS hO,Lw h.yd hw hv hS (if L c=true then decide (c<d) else decide (d<c)),Ly h.yd hw hv hO (if L c=true then decide (c<d) else decide (d<c)), <-dk, <-dk]
 ·unfold fc
  lia
 ·intro i j p
  have p0:=p 0
  rw[s0,b0]at p0
  have lo:=gk _ (h.yd.lt _ (hv.rd j)).mem
  have:=hN.HH h hc hd pR (bI lw i) (bI lv j) (f:=sq (ws|||c) i) (g:=bq (ws|||d) j) (.inl (cQ hw.ne i).symm) (.inr (xx hv.ne j).symm) p (by
   rw[b7 hw.ne,b7 hv.ne,p0,lo,h.l2 c d i j hc hd p]
   cases aC (rd (ws|||d) j)<;>rfl) (cQ hw.ne i).symm
  rw[s0,b0,aO (h.yd.lt _ (hv.rd _))]at this
  exact this
 ·intro i j p
  have p0:=p 0
  rw[s0,s0]at p0
  have:=hN.HH h hc hd pR (bI lw i) (bI lv j) (f:=sq (ws|||c) i) (g:=sq (ws|||d) j) (.inl (cQ hw.ne i).symm) (.inl (cQ hv.ne j).symm) p (by
   rw[b7 hw.ne,b7 hv.ne,p0,if_pos rfl]
   exact (h.l1 c d i j hc hd p).symm) (cQ hw.ne i).symm
  rw[s0,s0]at this
  exact this
theorem Bj(h:dM y ws L r M)(hN:Lies y ws L r M N){c:Nat}(hc:c<(ws:)):
  cC ((ws|||c):) ((ws|||c):) (λi j=>one (iS (pO ws N c) (pI ws N c) (pO ws N c) (pI ws N c) i j=true))=cC ((ws|||c):) ((ws|||c):) (fc y (ws|||c) (ws|||c))+2*((((ws|||c):) / r c:Nat) - 1):=by
 have hw:=h.sw c hc
 have lw:=ZJ.mpr hw.ne
 walk_at"c"
 have hS:=hN.two h hc hc
 have hO:=hN.opp h hc hc
 obtain ⟨JV,Uz⟩:=h.root hc
 have hrp:=h.rp c hc
 have e0:cC ((ws|||c):) ((ws|||c):) (λi j=>one (j7 (ws|||c) (ws|||c) i j/\iS (pO ws N c) (pI ws N c) (pO ws N c) (pI ws N c) i j=true))=0:=by
  rw[show (0:Int)=cC ((ws|||c):) ((ws|||c):) (λ_ _=>0) by unfold cC;rw[show (λ_:Int=>sm ((ws|||c):) λ_=>0)=λ_=>0 from funext λ_=>gT _,gT]]
  exact ck λi j _ _=>bf λz=>xv h.yd hw _ _ z.1
 rw[zm h.yd hw hw (xD ws N c) (xE ws N c) (xD ws N c) (xE ws N c) hS hO,e0,HG h.yd hw hS hrp JV Uz, <-dk, <-dk]
 ·unfold fc
  lia
 ·intro j hj
  rw[h.rr c hc]
  constructor
  ·intro q
   have:(j:Int)%(r c:Int)=0:=by
    rw[Int.zero_sub]at q
    exact Int.emod_eq_zero_of_dvd (Int.dvd_neg.mp (Int.dvd_of_emod_eq_zero q))
   have h2:((j%r c:Nat):Int)=0:=by rw[<-this];rfl
   lia
  ·intro q
   have:(j:Int)%(r c:Int)=0:=by
    have h2:((j%r c:Nat):Int)=(j:Int)%(r c:Int):=rfl
    rw[<-h2,q];rfl
   rw[Int.zero_sub]
   exact Int.emod_eq_zero_of_dvd (Int.dvd_neg.mpr (Int.dvd_of_emod_eq_zero this))
 ·intro i j p dE
  have p0:=p 0
  rw[s0,s0]at p0
  have xC:j9 ((ws|||c):) i≠j9 ((ws|||c):) j:=λz=>dE (by rw[<-eQ lw, <-eQ lw,z])
  have:=hN.at h.yd hc hc (bI lw i) (bI lw j) hw hw (f:=sq (ws|||c) i) (g:=sq (ws|||c) j) (.inl (cQ hw.ne i).symm) (.inl (cQ hw.ne j).symm) (p 0) (λz=>xC (Prod.mk.inj z).2)
  have Lz:j9 ((ws|||c):) i%r c=j9 ((ws|||c):) j%r c:=by
   have p':cD (ws|||c) (ws|||c) (j9 ((ws|||c):) i:Nat) (j9 ((ws|||c):) j:Nat):=λk=>by rw[cQ hw.ne,cQ hw.ne];exact p k
   have q:=(h.rr c hc _ _).mp p'
   have q2:=Int.emod_eq_emod_iff_emod_sub_eq_zero.mpr q
   have q3:((j9 ((ws|||c):) i%r c:Nat):Int)=((j9 ((ws|||c):) j%r c:Nat):Int):=q2
   lia
  have es:nM (ws|||c) (j9 ((ws|||c):) i:Nat)=nM (ws|||c) (j9 ((ws|||c):) j:Nat):=by
   unfold nM
   rw[b7 hw.ne,b7 hw.ne,p0,cQ hw.ne,cQ hw.ne,xx hw.ne,xx hw.ne,show sq (ws|||c) i=sq (ws|||c) j from funext p, <-eW, <-eW,show sq (ws|||c) i=sq (ws|||c) j from funext p]
  have e:= @Bi ((ws|||c):) _ (r c) c _ _ (L c) (aC (rd (ws|||c) j)) hrp JV (bI lw i) (bI lw j) Lz xC
  unfold eO at this
  rw[es,fM,fM,s0,b7 hw.ne,b7 hw.ne,p0,e,decide_eq_decide.mpr (show j9 ((ws|||c):) i<j9 ((ws|||c):) j↔i%(((ws|||c):):Int)<j%(((ws|||c):):Int) by rw[<-eQ lw, <-eQ lw];lia)]at this
  unfold pO pI
  rw[p0]
  exact this
end
noncomputable def vL:Nat->(Int->Int->Int)->Int
 | 0,_=>0
 | n+1,h=>vL n h+sm n (λj=>h j n)
theorem xF(n m:Nat)(h:Int->Int->Int):cC (n+1) m h=cC n m h+sm m (λj=>h n j):=rfl
theorem C1(m:Nat)(h:Int->Int->Int):∀n:Nat,cC n (m+1) h=cC n m h+sm n (λi=>h i m)
 | 0=>rfl
 | n+1=>by
  rw[xF,xF,C1 m h n]
  show cC n m h+sm n (λi=>h i m)+(sm m (λj=>h n j)+h n m)=cC n m h+sm m (λj=>h n j)+(sm n (λi=>h i m)+h n m)
  lia
theorem qy{h:Int->Int->Int}:∀{n:Nat},(∀i j:Nat,i<n->j<n->h i j=h j i)->(∀i:Nat,i<n->h i i=0)->cC n n h=2*vL n h
 | 0,_,_=>rfl
 | n+1,sy,dg=>by
  rw[C1,xF,qy (n:=n) (λi j hi hj=>sy i j () ()) (λi hi=>dg i ())]
  show 2*vL n h+sm n (λj=>h n j)+(sm n (λi=>h i n)+h n n)=2*(vL n h+sm n (λj=>h j n))
  rw[dg n (),aW (h:=λj=>h n j) (g:=λj=>h j n) (λj hj=>sy n j () ())]
  lia
theorem oA{h g:Int->Int->Int}:∀{n:Nat},(∀i j:Nat,i<j->j<n->h i j=g i j)->vL n h=vL n g
 | 0,_=>rfl
 | n+1,e=>by
  show vL n h+_=vL n g+_
  rw[oA (n:=n) λi j h1 h2=>e i j h1 (),aW (g:=λj=>g j n) λj hj=>e j n hj ()]
section
variable{y:c0}{ws:List c0}{L:Nat->Bool}{r:Nat->Nat}{M:Nat}{N:Nat->Nat->Nat->Nat}
theorem gF.inj{R:Nat->Nat->Nat->Nat->Bool}(h:dM y ws L r M)(hN:gF y ws R N){c i d j e e':Nat}(hc:c<(ws:))(hd:d<(ws:))(hi:i<((ws|||c):))(hj:j<((ws|||d):))(he:e=rd (ws|||c) i\/e=aA (rd (ws|||c) i))(Fy:e'=rd (ws|||d) j\/e'=aA (rd (ws|||d) j))
  (dE:(c,i,e)≠(d,j,e')):N c i e≠N d j e':=by
 have ly:∀{c i e:Nat},c<(ws:)->(e=rd (ws|||c) i\/e=aA (rd (ws|||c) i))->e∈y:=λhc he=>he.elim (λz=>z▸(h.sw _ hc).rd _) λz=>z▸h.yd.cl _ ((h.sw _ hc).rd _)
 have ye:=ly hc he
 have ye':=ly hd Fy
 by_cases z:e=e'
 ·subst z
  have xC:(c,i)≠(d,j):=λq=>dE (by rw[(Prod.mk.inj q).1,(Prod.mk.inj q).2])
  have le:=h.yd.lt _ ye
  have lc:=h.yd.lt _ ((h.sw c hc).rd i)
  have ld:=h.yd.lt _ ((h.sw d hd).rd j)
  by_cases l:aC e=true
  ·exact (hN.low c i d j e hc hd hi hj xC l (he.elim (λz=> .inl z.symm) λz=> .inr (by rw[z,aO lc])) (Fy.elim (λz=> .inl z.symm) λz=> .inr (by rw[z,aO ld]))).1
  ·have:=(hN.low c i d j (aA e) hc hd hi hj xC (by rw[gk _ le.mem];simpa using l) (by rw[aO le];exact he.elim (λz=> .inr z.symm) λz=> .inl (by rw[z,aO lc])) (by rw[aO le];exact Fy.elim (λz=> .inr z.symm) λz=> .inl (by rw[z,aO ld]))).2.1
   rwa [aO le]at this
 ·have n:=cj ye ye' z
  rcases Qdq n with q | q
  ·exact Qaw (hN.sep c i d j e e' hc hd hi hj he Fy q)
  ·exact Qfk (hN.sep d j c i e' e hd hc hj hi Fy he q)
theorem C2{n i j:Nat}{k:Int}(hi:i<n)(hj:j<n)(q:j9 n ((i:Int) - k)=j9 n ((j:Int) - k)):i=j:=by
 have lw:0<n:=Qbm (Qar _) hi
 have q2:((i:Int) - k)%n=((j:Int) - k)%n:=by rw[<-eQ lw, <-eQ lw,q]
 have q3:=(Int.emod_sub_cancel_right k).mp q2
 rw[Qbd (Qed _) (Qgh.mpr hi),Qbd (Qed _) (Qgh.mpr hj)]at q3
 exact Int.ofNat.inj q3
theorem eR{R:Nat->Nat->Nat->Nat->Bool}(h:dM y ws L r M)(hN:gF y ws R N){c d i j:Nat}(hc:c<(ws:))(hd:d<(ws:))(hi:i<((ws|||c):))(hj:j<((ws|||d):)):
  pI ws N c ((i:Int) - 1)≠pO ws N d j/\((c,i)≠(d,j)->pI ws N c ((i:Int) - 1)≠pI ws N d ((j:Int) - 1)/\pO ws N c i≠pO ws N d j):=by
 have hw:=h.sw c hc
 have hv:=h.sw d hd
 have lw:=ZJ.mpr hw.ne
 have lv:=ZJ.mpr hv.ne
 have vo:∀{c:Nat} (hw:SW y (ws|||c)) (k:Int),rd (ws|||c) k=rd (ws|||c) (j9 ((ws|||c):) k:Nat)\/rd (ws|||c) k=aA (rd (ws|||c) (j9 ((ws|||c):) k:Nat)):=λhw k=> .inl (b7 hw.ne k).symm
 have vi:∀{c:Nat} (hw:SW y (ws|||c)) (k:Int),aA (rd (ws|||c) k)=rd (ws|||c) (j9 ((ws|||c):) k:Nat)\/aA (rd (ws|||c) k)=aA (rd (ws|||c) (j9 ((ws|||c):) k:Nat)):=λhw k=> .inr (by rw[b7 hw.ne k])
 refine ⟨hN.inj h hc hd (bI lw _) (bI lv _) (vi hw _) (vo hv _) λq=>?_,λdE=>⟨hN.inj h hc hd (bI lw _) (bI lv _) (vi hw _) (vi hv _) λq=>?_,hN.inj h hc hd (bI lw _) (bI lv _) (vo hw _) (vo hv _) λq=>?_⟩⟩
 ·obtain ⟨q1,q⟩:=Prod.mk.inj q
  obtain ⟨q2,q3⟩:=Prod.mk.inj q
  subst q1
  rw[<-b7 hw.ne ((i:Int) - 1), <-b7 hw.ne (j:Int),q2]at q3
  exact oj (h.yd.lt _ (hw.rd _)) q3
 ·obtain ⟨q1,q⟩:=Prod.mk.inj q
  subst q1
  exact dE (by rw[C2 hi hj (Prod.mk.inj q).1])
 ·obtain ⟨q1,q⟩:=Prod.mk.inj q
  subst q1
  exact dE (by rw[C2 (k:=0) hi hj (by rw[Qd6,Qd6];exact (Prod.mk.inj q).1)])
theorem LA{R:Nat->Nat->Nat->Nat->Bool}(h:dM y ws L r M)(hN:gF y ws R N){c d:Nat}(hc:c<(ws:))(hd:d<(ws:)){i j:Nat}(hi:i<((ws|||c):))(hj:j<((ws|||d):)):iS (pO ws N c) (pI ws N c) (pO ws N d) (pI ws N d) i j=iS (pO ws N d) (pI ws N d) (pO ws N c) (pI ws N c) j i:=by
 by_cases z:(c,i)=(d,j)
 ·obtain ⟨rfl,rfl⟩:=Prod.mk.inj z
  rfl
 have n:=eR h hN hc hd hi hj
 exact m7 (eR h hN hc hc hi hi).1 (eR h hN hd hd hj hj).1 (n.2 z).1 n.1 (Ne.symm (eR h hN hd hc hj hi).1) (n.2 z).2
theorem HI(h:dM y ws L r M)(hN:Lies y ws L r M N){c:Nat}(hc:c<(ws:)):
  2*vL ((ws|||c):) (λi j=>one (iS (pO ws N c) (pI ws N c) (pO ws N c) (pI ws N c) i j=true))=cC ((ws|||c):) ((ws|||c):) (fc y (ws|||c) (ws|||c))+2*((((ws|||c):) / r c:Nat) - 1):=by
 rw[<-Bj h hN hc]
 exact (qy (λi j hi hj=>by rw[LA h hN hc hc hi hj]) (λi hi=>bf (by unfold iS;rw[zk];decide))).symm
end
theorem HJ{y:c0}{f g:Int->Nat}{a:Nat}(hy:Yd y)(hf:jg y f)(hg:jg y g)(h:f a=g a)(hn:f (a+1)≠g (a+1)):jC y g f a=!jC y f g a:=by
 have:eB y f (a+1)≠eB y g (a+1):=λq=>hn (by
  unfold eB at q
  rw[show (a:Int)+1 - 1=a by lia, <-h]at q
  exact m6 (hy.cl _ (hf.cu _)) (hf.cu _) (hg.cu _) q)
 unfold jC
 rw[<-decide_not]
 exact decide_eq_decide.mpr ()
theorem Bk{y:c0}{f g:Int->Nat}{b:Nat}(hy:Yd y)(hf:jg y f)(hg:jg y g)(h:f (-(b:Int))=g (-(b:Int)))(hn:f (-(b:Int) - 1)≠g (-(b:Int) - 1)):jF y g f b=!jF y f g b:=by
 have:eB y f (-(b:Int))≠eB y g (-(b:Int)):=λq=>hn (by
  unfold eB at q
  rw[<-h]at q
  have r1:=hf.red (-(b:Int))
  have r2:=hg.red (-(b:Int))
  have c1:=(fk (hy.cl _ (hf.cu (-(b:Int) - 1))) (hf.cu (-(b:Int))) (Ne.symm r1)).2.2
  have c2:=(fk (hy.cl _ (hg.cu (-(b:Int) - 1))) (hf.cu (-(b:Int))) (by rw[h];exact Ne.symm r2)).2.2
  have:=m6 (hf.cu (-(b:Int))) (hy.cl _ (hf.cu (-(b:Int) - 1))) (hy.cl _ (hg.cu (-(b:Int) - 1))) (by rw[c1,c2,q])
  exact gi (hy.lt _ (hf.cu _)) (hy.lt _ (hg.cu _)) this)
 unfold jF
 rw[<-decide_not]
 exact decide_eq_decide.mpr ()
theorem M7{y:c0}{f g:Int->Nat}(hy:Yd y)(hf:jg y f)(hg:jg y g):gm y f g->gm y g f:=λ⟨a,r,x⟩=>⟨a,r.sy,by
 rw[HJ hy hf hg (r.pE a () ()) r.hi,Bk hy hf hg (r.pE _ () ()) r.lo]
 exact λq=>x (by simpa using q)⟩
theorem Pl{y:c0}{a b p q:Nat}(hy:Yd y)(ha:a∈y)(hb:b∈y)(hp:p∈y)(hq:q∈y)(Ac:a≠b)(UH:p≠q):ac y a b p q=ac y p q a b:=by
 unfold ac
 by_cases z:p=a\/p=b\/q=a\/q=b
 ·rw[if_pos z,if_pos (z.elim (λz=> .inl z.symm) λz=>z.elim (λz=> .inr (.inr (.inl z.symm))) λz=>z.elim (λz=> .inr (.inl z.symm)) λz=> .inr (.inr (.inr z.symm)))]
 ·have n1:a≠p:=λq=>z (.inl q.symm)
  have n2:b≠p:=λq=>z (.inr (.inl q.symm))
  have n3:a≠q:=λq=>z (.inr (.inr (.inl q.symm)))
  have n4:b≠q:=λq=>z (.inr (.inr (.inr q.symm)))
  rw[if_neg z,if_neg (λz=>z.elim n1 λz=>z.elim n3 λz=>z.elim n2 n4)]
  rw[hJ hy.nd ha hp hb n1 Ac (Ne.symm n2),hJ hy.nd ha hq hb n3 Ac (Ne.symm n4),hJ hy.nd hp ha hq (Ne.symm n1) UH n3,hJ hy.nd hp hb hq (Ne.symm n2) UH n4]
  exact m7 (cj ha hb Ac) (cj hp hq UH) (cj ha hp n1) (cj ha hq n3) (cj hb hp n2) (cj hb hq n4)
theorem HK{Q:Int->Prop}{P:Nat->Bool}:∀{m:Nat},(∀j:Nat,j<m->(Q j↔P j=true))->sm m (λj=>one (Q j))=((List.range m).filter P:)
 | 0,_=>rfl
 | m+1,h=>by
  show sm m _+one (Q m)=_
  rw[HK (m:=m) λj hj=>h j (),Qca,Qa9,QD,bg (h m ())]
  cases e:P m
  ·rw[Qbi (by rw[e];decide),bf ∅];simp
  ·rw[Qbv e,gE rfl];simp
theorem oB(h:Nat->Int):∀n:Nat,((List.range n).map h).sum=sm n (λi=>h i.toNat)
 | 0=>rfl
 | n+1=>by
  rw[Qca,Qak,List.sum_append,oB h n]
  show _=sm n _+h (((n:Nat):Int).toNat)
  rw[Qab]
  simp
theorem C3(ws:List c0)(h:Nat×Nat->Int):∀n:Nat,((zi ws n).map h).sum=sm n λc=>sm (ws.getD c.toNat []:) λi=>h (c.toNat,i.toNat)
 | 0=>rfl
 | n+1=>by
  unfold zi
  rw[Qak,List.sum_append,C3 ws h n,Qbx]
  show _+((List.range _).map λi=>h (n,i)).sum=_
  rw[oB]
  rfl
noncomputable def cl{α:Type}(p:α->α->Bool):List α->Nat
 | []=>0
 | x::r=>(r.filter (p x):)+cl p r
theorem Bl{α:Type}(p:α->α->Bool)(m:List α):∀l:List α,(cl p (l++m):Int)=cl p l+cl p m+(l.map λx=>((m.filter (p x):):Int)).sum
 | []=>by show (cl p m:Int)=((0:Nat):Int)+cl p m+0;lia
 | a::l=>by
  show ((((l++m).filter (p a):)+cl p (l++m):Nat):Int)=(((l.filter (p a):)+cl p l:Nat):Int)+cl p m+(((a::l).map λx=>((m.filter (p x):):Int)).sum)
  rw[Qa9,QD,Qa0,Qdm,Qbs,Qbs,Bl p m l,Qbs]
  lia
theorem HL(p:Nat×Nat->Nat×Nat->Bool)(c:Nat):∀n:Nat,(cl p ((List.range n).map λi=>(c,i)):Int)=vL n (λi j=>one (p (c,i.toNat) (c,j.toNat)=true))
 | 0=>rfl
 | n+1=>by
  rw[Qca,Qak,Bl,HL p c n,Qbx]
  show _+((0:Nat):Int)+((List.range n).map λi=>((([(c,n)]:List (Nat×Nat)).filter (p (c,i)):):Int)).sum=vL n _+sm n _
  rw[oB,Int.add_assoc]
  congr 1
  rw[show ((0:Nat):Int)=0 from rfl,Qc5]
  refine aW λi _=>?_
  show (((([(c,n)]:List (Nat×Nat)).filter (p (c,i)):):Int))=one (p (c,((i:Nat):Int).toNat) (c,((n:Nat):Int).toNat)=true)
  rw[Qab,Qab]
  cases e:p (c,i) (c,n)
  ·rw[Qbi (by rw[e];decide),bf ∅];rfl
  ·rw[Qbv e,gE rfl];rfl
theorem LB(P:Nat×Nat->Bool)(c n:Nat):((((List.range n).map λi=>(c,i)).filter P:):Int)=sm n (λj=>one (P (c,j.toNat)=true)):=by
 rw[List.filter_map,kb,HK (P:=λj=>P (c,j)) λj _=>by rw[Qab]]
 rfl
theorem HM(ws:List c0)(p:Nat×Nat->Nat×Nat->Bool):∀n:Nat,(cl p (zi ws n):Int)=sm n (λc=>vL (ws.getD c.toNat []:) (λi j=>one (p (c.toNat,i.toNat) (c.toNat,j.toNat)=true)))+vL n (λc d=>cC (ws.getD c.toNat []:) (ws.getD d.toNat []:) λi j=>one (p (c.toNat,i.toNat) (d.toNat,j.toNat)=true))
 | 0=>rfl
 | n+1=>by
  unfold zi
  rw[Bl,HM ws p n,HL,C3]
  have u:((n:Nat):Int).toNat=n:=Qab n
  show _+_+sm n _=(sm n _+vL (ws.getD ((n:Nat):Int).toNat []:) (λi j=>one (p (((n:Nat):Int).toNat,i.toNat) (((n:Nat):Int).toNat,j.toNat)=true)))+(vL n _+sm n (λc=>cC (ws.getD c.toNat []:) (ws.getD ((n:Nat):Int).toNat []:) λi j=>one (p (c.toNat,i.toNat) (((n:Nat):Int).toNat,j.toNat)=true)))
  rw[u]
  have:sm n (λc=>sm (ws.getD c.toNat []:) λi=>(((((List.range ((ws|||n):)).map λi=>(n,i)).filter (p (c.toNat,i.toNat)):):Nat):Int))=sm n (λc=>cC (ws.getD c.toNat []:) ((ws|||n):) λi j=>one (p (c.toNat,i.toNat) (n,j.toNat)=true)):=aW λc _=>aW λi _=>LB _ _ _
  rw[this]
  lia
section
variable{y:c0}{ws:List c0}{L:Nat->Bool}{r:Nat->Nat}{M:Nat}{N:Nat->Nat->Nat->Nat}
noncomputable def QJ(ws:List c0)(N:Nat->Nat->Nat->Nat)(o p:Nat×Nat):Bool:=iS (pO ws N o.1) (pI ws N o.1) (pO ws N p.1) (pI ws N p.1) o.2 p.2
end
def Lx(f g:Int->Nat):Prop:=∃m:Nat,f m<g m/\∀l:Nat,l<m->f l=g l
theorem xG{w:c0}(hw:w≠[]){i k:Nat}(hi:i<=(w:))(hk:k<(w:)):(eV w i)[k]? =some (rd w ((i:Int)+k)):=by
 rw[qw hi hk]
 unfold Fw
 have:=hU hw ((i:Int)+k)
 rw[<-this]
 congr 1
 have e:(((k+i)%(w:):Nat):Int)=((i:Int)+k)%(w:):=by rw[Qgn,Qbs,Int.add_comm]
 lia
theorem HN{w u:c0}(hw:w≠[])(hl:(u:)=(w:)){i j:Nat}(hi:i<=(w:))(hj:j<=(w:)):eV w i<eV u j↔Lx (sq w i) (sq u j):=by
 have hu:u≠[]:=λz=>hw (by rw[z]at hl;exact Qcj.mp hl.symm)
 have g1:∀{k:Nat} (hk:k<(eV w i:)),(eV w i)[k]=sq w i k:=λ{k} hk=>by
  have:=xG hw hi (k:=k) (by rw[cF]at hk;exact hk)
  rw[Of hk]at this
  exact Qad this
 have g2:∀{k:Nat} (hk:k<(eV u j:)),(eV u j)[k]=sq u j k:=λ{k} hk=>by
  have:=xG hu (i:=j) (k:=k) () (by rw[cF]at hk;exact hk)
  rw[Of hk]at this
  exact Qad this
 rw[List.lt_iff_exists]
 constructor
 ·rintro (⟨_,h⟩ | ⟨m,h1,h2,h3,h4⟩)
  ·rw[cF,cF,hl]at h;lia
  ·refine ⟨m,by rw[<-g1 h1, <-g2 h2];exact h4,λl B7=>?_⟩
   rw[<-g1 (), <-g2 ()]
   exact h3 l B7
 ·rintro ⟨m,h1,h2⟩
  have hp:=ZJ.mpr hw
  have hm:m<(w:):=by
   refine Classical.byContradiction λz=>?_
   have d:=Qfq m (w:)
   have c1:=iY (f:=sq w i) (p:=(w:)) (λk=>cb w i k) (m%(w:):Nat) (m / (w:))
   have c2:=iY (f:=sq u j) (p:=(w:)) (λk=>by rw[<-hl];exact cb u j k) (m%(w:):Nat) (m / (w:))
   have e:((m%(w:):Nat):Int)+((m / (w:):Nat):Int)*((w:):Nat)=m:=by
    rw[Int.mul_comm];exact_mod_cast d
   rw[e]at c1 c2
   rw[c1,c2,h2 (m%(w:)) (by have:=Qdz m hp;lia)]at h1
   lia
  refine .inr ⟨m,by rw[cF];exact hm,by rw[cF,hl];exact hm,λl B7=>?_,?_⟩
  ·rw[g1,g2];exact h2 l B7
  ·rw[g1,g2];exact h1
theorem m9{w:c0}(hw:w≠[]):∃i:Nat,i<(w:)/\cN w=eV w i:=by
 have hp:=ZJ.mpr hw
 rcases mh (jU w ((w:) - 1)) w with h | h
 ·exact ⟨0,hp,by unfold cN;rw[h,rP]⟩
 ·unfold jU at h
  obtain ⟨k,hk,e⟩:=Qa3.mp h
  have:=Qcd.mp hk
  exact ⟨k+1,(),by unfold cN;exact e.symm⟩
theorem pG{w:c0}{i:Nat}(hi:i<(w:)): ¬eV w i<cN w:=by
 unfold cN
 refine iX _ _ _ ?_
 cases i with
 | zero=>rw[rP];exact Qai
 | succ i=>exact Qaf _ (Qa3.mpr ⟨i,Qcd.mpr (),rfl⟩)
noncomputable def leads(w:c0):Bool:=decide (cN w<cN (dU w))
theorem kL{v:c0}(h:v≠[])(k:Int):sq (dU v) k=bq v (-1 - k):=by
 funext x
 unfold sq bq
 rw[ou h]
 congr 2;lia
theorem rT{v:c0}(h:v≠[]):dU v≠[]:=λz=>h (Qcj.mp (by rw[<-bZ v,z];rfl))
theorem vM{w:c0}(hw:w≠[]):leads w=true↔ ∃i:Int,∀j:Int,Lx (sq w i) (bq w j):=by
 have hp:=ZJ.mpr hw
 have hl:=bZ w
 have ht:=rT hw
 unfold leads
 rw[decide_eq_true_iff]
 constructor
 ·intro h
  obtain ⟨i,hi,ei⟩:=m9 hw
  refine ⟨i,λj=>?_⟩
  have hj:=bI (n:=(dU w:)) (by rw[hl];exact hp) (-1 - j)
  have h2:cN w<eV (dU w) (j9 (dU w:) (-1 - j)):=List.not_le.mp λz=>by
   have:=List.lt_of_le_of_lt z h
   exact pG hj this
  rw[ei]at h2
  have h3:=(HN hw hl () ()).mp h2
  rw[cQ ht,kL hw,show -1 - (-1 - j)=j by lia]at h3
  exact h3
 ·rintro ⟨i,h⟩
  obtain ⟨j,hj,ej⟩:=m9 ht
  have h2:=h (-1 - j)
  rw[show (-1:Int) - (j:Int)= -1 - j by lia, <-kL hw, <-cQ hw]at h2
  have hi:=bI hp i
  have h3:=(HN hw hl () ()).mpr h2
  rw[<-ej]at h3
  exact List.lt_of_le_of_lt (Qfw.mp (pG hi)) h3
theorem vN{w v:c0}(hw:w≠[])(hv:v≠[]){i j:Int}(h:cD w v i j):leads w=leads v:=by
 have e1:∀k,sq w k=sq v (k - i+j):=λk=>by
  funext x
  have:=h (k - i+x)
  unfold sq at this ⊢
  rw[show k+x=i+(k - i+x) by lia,this]
  congr 1;lia
 have e2:∀k,bq w k=bq v (k - i+j):=λk=>by rw[<-eW, <-eW,e1]
 rw[Qes,vM hw,vM hv]
 constructor
 ·rintro ⟨a,h⟩
  refine ⟨a - i+j,λb=>?_⟩
  have:=h (b - j+i)
  rwa [e1,e2,show b - j+i - i+j=b by lia]at this
 ·rintro ⟨a,h⟩
  refine ⟨a - j+i,λb=>?_⟩
  rw[e1,e2,show a - j+i - i+j=a by lia]
  exact h _
theorem vO{y w:c0}(hy:Yd y)(hw:SW y w):leads (dU w)=!leads w:=by
 have hl:AllLt w:=λc hc=>hy.lt c (hw.cu c hc)
 have ne:cN w≠cN (dU w):=λz=>by
  obtain ⟨i,hi,ei⟩:=m9 hw.ne
  obtain ⟨j,hj,ej⟩:=m9 (rT hw.ne)
  rw[bZ]at hj
  have:∀k:Nat,k<(w:)->sq w i k=sq (dU w) j k:=λk hk=>by
   have h1:=xG hw.ne (i:=i) (k:=k) () hk
   have h2:=xG (rT hw.ne) (i:=j) (k:=k) (by rw[bZ];lia) (by rw[bZ];exact hk)
   rw[<-ei,z,ej,h2]at h1
   exact (Qad h1).symm
  refine xv hy hw i (-1 - j) ?_
  rw[<-kL hw.ne]
  have hp:=ZJ.mpr hw.ne
  refine fw (p:=(w:)) (q:=(w:)) hp hp (λk=>cb w i k) (λk=>by rw[<-bZ w];exact cb (dU w) j k) λn hn=>?_
  by_cases q:n<(w:)
  ·exact this n q
  ·have c1:=cb w i ((n - (w:):Nat):Int)
   have c2:=cb (dU w) j ((n - (w:):Nat):Int)
   rw[show ((n - (w:):Nat):Int)+(w:)=n by lia]at c1
   rw[bZ,show ((n - (w:):Nat):Int)+(w:)=n by lia]at c2
   rw[c1,c2]
   exact this _ ()
 unfold leads
 rw[CB hl, <-decide_not]
 refine decide_eq_decide.mpr ⟨λh z=>?_,λh=>?_⟩
 ·exact Qdg _ (List.lt_trans h z)
 ·exact List.not_le.mp λz=>ne (List.le_antisymm z (Qfw.mp h))
theorem ES{y w v:c0}(hy:Yd y)(hw:SW y w)(hv:SW y v){i j:Int}(h:∀k,sq w i k=bq v j k):leads v=!leads w:=by
 have:cD w (dU v) i (-1 - j):=λk=>by rw[kL hv.ne,show -1 - (-1 - j)=j by lia];exact h k
 rw[vN hw.ne (rT hv.ne) this,vO hy hv,Bool.not_not]
theorem HP{w:c0}(hw:w≠[]){d:Nat}:Ab w d↔ ∀k:Int,rd w (k+d)=rd w k:=by
 have hp:=ZJ.mpr hw
 have fr:∀i:Nat,Fw w i=some (rd w i):=λi=>by
  unfold Fw
  rw[<-hU hw (i:Int)]
  congr 1
 constructor
 ·intro h k
  have:=h (j9 (w:) k)
  rw[fr,fr]at this
  have:=Qad this
  rw[b7 hw]at this
  rw[<-this, <-gD w (k+d), <-gD w (((j9 (w:) k+d:Nat)):Int),Qbs,eQ hp,Qdy]
 ·intro h i
  rw[fr,fr,Qbs,h]
theorem j_{w:c0}(hw:w≠[]){s:Nat}(h:bS w s):0<s/\∀i j:Int,cD w w i j↔(i - j)%(s:Int)=0:=by
 rcases h with ⟨z,_⟩ | h'
 ·exact absurd z hw
 have h:bS w s:= .inr h'
 obtain ⟨h1,h2,h3,_⟩:=h'
 have ps:∀k:Int,rd w (k+s)=rd w k:=(HP hw).mp ((gS hw h2).mp (xm h1 h2 h3))
 have pm:∀(k t:Int),rd w (k+t*s)=rd w k:=λk t=>by
  rcases Int.le_total 0 t with q | q
  ·obtain ⟨n,rfl⟩:∃n:Nat,t=n:=⟨t.toNat,()⟩
   exact iY ps k n
  ·obtain ⟨n,rfl⟩:∃n:Nat,t= -(n:Int):=⟨(-t).toNat,()⟩
   have:=iY ps (k+ -(n:Int)*s) n
   rw[<-this]
   congr 1
   rw[Int.neg_mul];lia
 refine ⟨h1,λi j=>⟨λp=>?_,λp k=>?_⟩⟩
 ·have pd:∀k:Int,rd w (k+(i - j))=rd w k:=λk=>by
   have:=p (k - j)
   unfold sq at this
   rw[show i+(k - j)=k+(i - j) by lia,show j+(k - j)=k by lia]at this
   exact this
  have e:=Qfu (i - j) s
  have hn:=Qcn (i - j) (b:=(s:Int)) ()
  have cf:=Qcc (i - j) (b:=(s:Int)) ()
  refine Classical.byContradiction λz=>?_
  obtain ⟨d,hd⟩:∃d:Nat,(i - j)%(s:Int)=d:=⟨((i - j)%(s:Int)).toNat,()⟩
  refine bS.least h (j:=d) () () ((HP hw).mpr λk=>?_)
  have q:=pd k
  rw[<-e,hd,Int.mul_comm, <-Int.add_assoc,pm]at q
  exact q
 ·unfold sq
  have e:=Qfu (i - j) s
  rw[p,Qc5,Int.mul_comm]at e
  rw[show i+k=j+k+(i - j) by lia, <-e,pm]
theorem HQ{y:c0}{ws:List c0}{r:Nat->Nat}{M:Nat}(hy:Yd y)(hw:∀c,c<(ws:)->SW y (ws|||c))(hr:∀c,c<(ws:)->bS (ws|||c) (r c))(hM:∀c d,c<(ws:)->d<(ws:)->((ws|||c):)+((ws|||d):)<=M):dM y ws (λc=>leads (ws|||c)) r M:=
 ⟨hy,hw,hM,λc d i j hc hd h=>vN (hw c hc).ne (hw d hd).ne h,λc d i j hc hd h=>ES hy (hw c hc) (hw d hd) h,λc hc=>(j_ (hw c hc).ne (hr c hc)).1,λc hc=>(j_ (hw c hc).ne (hr c hc)).2⟩
noncomputable def bs(y w v:c0)(i j:Int):Int:=one (ac y (aA (rd w (i - 1))) (rd w i) (aA (rd v (j - 1))) (rd v j)=true)+one (gm y (sq w i) (sq v j))+one (gm y (sq w i) (bq v j))
noncomputable def SS(y w v:c0):Int:=cC (w:) (v:) (bs y w v)
theorem M8{y w v:c0}(hy:Yd y)(hw:SW y w)(hv:SW y v):cC (w:) (v:) (fc y w v)=SS y w v:=ck λi j _ _=>by
 unfold fc bs
 rw[bg (vK (n:=(w:)+(v:)) hy (bD hw i) (bD hv j) λz=>d_ hw.ne hv.ne (λk=>cb w i k) (λk=>cb v j k) z),bg (vK (n:=(w:)+(v:)) hy (bD hw i) (j6 hy hv j) λz=>d_ hw.ne hv.ne (λk=>cb w i k) (λk=>mi v j k) z)]
def enB(y:c0)(f g:Int->Nat):Prop:=∃b,Run f g 0 b/\jC y f g 0≠jF y f g b
theorem UN{y:c0}{f g:Int->Nat}(hy:Yd y)(hf:jg y f)(hg:jg y g):enB y f g↔gm y (kX g) (kX f):=by
 have a1:∀b:Nat,jC y (kX g) (kX f) b=jF y f g b:=λb=>by
  unfold jC jF
  rw[j4 hy hf,j4 hy hg]
  exact decide_eq_decide.mpr ⟨λq=>by omega,λq=>by omega⟩
 have a2:jF y (kX g) (kX f) 0=jC y f g 0:=by
  unfold jC jF
  have e1:=j4 hy hf (-1)
  have e2:=j4 hy hg (-1)
  rw[show (-1:Int)+1= -((0:Nat):Int) from rfl]at e1 e2
  rw[e1,e2]
  exact decide_eq_decide.mpr ⟨λq=>by have:((y:):Int) - eB y g 1<(y:) - eB y f 1:=q;show eB y f 1<eB y g 1;omega,λq=>by have:eB y f 1<eB y g 1:=q;show ((y:):Int) - eB y g 1<(y:) - eB y f 1;omega⟩
 constructor
 ·rintro ⟨b,r,x⟩
  exact ⟨b,(r.rv hy hf hg).sy,by rw[a1,a2];exact Ne.symm x⟩
 ·rintro ⟨b,r,x⟩
  have r2:=r.rv hy (hg.rv hy) (hf.rv hy)
  rw[pF hy hf,pF hy hg]at r2
  rw[a1,a2]at x
  exact ⟨b,r2.sy,Ne.symm x⟩
theorem Pm{y:c0}{f g:Int->Nat}(hy:Yd y)(hf:jg y f)(hg:jg y g):gm y f g↔gm y g f:=⟨M7 hy hf hg,M7 hy hg hf⟩
theorem M9{y w:c0}(hy:Yd y)(h:SW y w)(i:Int):kX (bq w i)=sq w i:=by rw[<-eW,pF hy (bD h i)]
theorem UO{y w:c0}(hy:Yd y)(h:SW y w)(i:Int):aA (rd w (i - 1))∈y/\rd w i∈y/\aA (rd w (i - 1))≠rd w i:=⟨hy.cl _ (h.rd _),h.rd _,Ne.symm (h.red i)⟩
noncomputable def fS(y:c0):c0:=(y.filter aC).mergeSort λa b=>decide (a<=b)
theorem kM(y:c0):(fS y).Perm (y.filter aC):=List.mergeSort_perm _ _
theorem zq(y:c0):(fS y).Pairwise (· <= ·):=
 (List.pairwise_mergeSort (le:=λa b=>decide (a<=b)) (λa b c h1 h2=>decide_eq_true (Qbh (of_decide_eq_true h1) (of_decide_eq_true h2))) (λa b=>by
  rcases Nat.le_total a b with z | z
  ·rw[decide_eq_true z];rfl
  ·rw[decide_eq_true z,Bool.or_true]) (y.filter aC)).imp λz=>of_decide_eq_true z
theorem C5{y l:c0}(h:l.Perm (y.filter aC))(p:l.Pairwise (· <= ·)):l=fS y:=EJ (h.trans (kM y).symm) p (zq y)
theorem HR{y:c0}(h:Yd y){e:Nat}(he:e∈y):PyProof.Rows.lo1 e∈fS y:=by
 refine (kM y).mem_iff.mpr (Qa4.mpr ?_)
 rcases h.lt e he with z | z
 ·rw[(bu e z).2.1];exact ⟨he,(bu e z).1⟩
 ·rw[(bT e z).2.1];exact ⟨h.cl e he,(bu _ (bT e z).2.2.2).1⟩
theorem iJ{y:c0}(h:Yd y):2*(fS y:)=(y:):=by rw[(kM y).length_eq];exact Hu h
structure Pr where
 t:Addr
 c:Nat
 i:Nat
noncomputable def vP(ps:List Pr):List V:=ps.map λp=>V.ref p.t
theorem xH(ps:List Pr):(vP ps:)=(ps:):=by unfold vP;rw[kb]
theorem HS(a:List Pr)(p:Pr):vP a++[V.ref p.t]=vP (a++[p]):=by unfold vP;rw[Qak];rfl
theorem LC(a:List Pr):(vP a).reverse=vP a.reverse:=by unfold vP;rw[Qd5]
theorem HU{ps:List Pr}{i:Nat}{x:V}(h:(vP ps)[i]? =some x):∃p,ps[i]? =some p/\x=V.ref p.t:=by
 unfold vP at h
 rw[Qas]at h
 cases e:ps[i]? with
 | none=>rw[e]at h;cases h
 | some p=>rw[e]at h;cases h;exact ⟨p,rfl,rfl⟩
structure p9(H:Hp)(p:Pr):Prop where
 tp:H p.t=some (.tup [.int p.c,.int p.i])
 cz:p.c<1000
 iz:p.i<1000
theorem p9.same{H H':Hp}{p:Pr}(h:p9 H p)(s:aq H H'):p9 H' p:=⟨s _ _ h.tp,h.cz,h.iz⟩
structure Od where
 o:Addr
 ps:List Pr
structure ET(H:Hp)(o:Od):Prop where
 tp:H o.o=some (.tup (vP o.ps))
 pr:∀p∈o.ps,p9 H p
 fw:(o.ps:)<=100
theorem ET.same{H H':Hp}{o:Od}(h:ET H o)(s:aq H H'):ET H' o:=⟨s _ _ h.tp,λp hp=>(h.pr p hp).same s,h.fw⟩
noncomputable def LD(os:List Od):List V:=os.map λo=>V.ref o.o
theorem HV(a:List Od)(p:Od):LD a++[V.ref p.o]=LD (a++[p]):=by unfold LD;rw[Qak];rfl
theorem Pn{os:List Od}{i:Nat}{o:Od}(h:os[i]? =some o):(LD os)[i]? =some (V.ref o.o):=by unfold LD;rw[Qas,h];rfl
structure Bm(H:Hp)(dr:Addr)(ws:List c0)(os:List Od):Prop where
 ex:∃wt ot,H dr=some (.tup [.ref wt,.ref ot])/\H wt=some (.tup (bV ws))/\H ot=some (.tup (LD os))
 od:∀o∈os,ET H o
theorem Bm.same{H H':Hp}{dr:Addr}{ws:List c0}{os:List Od}(h:Bm H dr ws os)(s:aq H H'):Bm H' dr ws os:=by
 obtain ⟨⟨wt,ot,h1,h2,h3⟩,g⟩:=h
 exact ⟨⟨wt,ot,s _ _ h1,s _ _ h2,s _ _ h3⟩,λo ho=>(g o ho).same s⟩
noncomputable def Bn(y:c0)(os:List Od)(e:Nat):List Pr:=((os[(fS y).idxOf (PyProof.Rows.lo1 e)]?).map Od.ps).getD []
noncomputable def qz(y:c0)(os:List Od)(e:Nat):List Pr:=if isUp e=true then (Bn y os e).reverse else Bn y os e
theorem ka{y:c0}{os:List Od}{e:Nat}(h:Yd y)(he:e∈y)(ho:2*(os:)=(y:)):∃o∈os,os[(fS y).idxOf (PyProof.Rows.lo1 e)]? =some o/\Bn y os e=o.ps:=by
 have hi:=Qah (HR h he)
 have hl:=iJ h
 have Ft:(fS y).idxOf (PyProof.Rows.lo1 e)<(os:):=by lia
 exact ⟨os[(fS y).idxOf (PyProof.Rows.lo1 e)],Qb0 Ft,Of Ft,by unfold Bn;rw[Of Ft];rfl⟩
structure Pt where
 t:Addr
 c:Nat
 i:Nat
 e:Nat
noncomputable def JY(ps:List Pt):List V:=ps.map λp=>V.ref p.t
theorem C6(ps:List Pt):(JY ps:)=(ps:):=by unfold JY;rw[kb]
theorem HW(a:List Pt)(p:Pt):JY a++[V.ref p.t]=JY (a++[p]):=by unfold JY;rw[Qak];rfl
noncomputable def Pt.is(p:Pt):Nat×Nat×Nat:=(p.c,p.i,p.e)
structure uo(H:Hp)(p:Pt):Prop where
 tp:H p.t=some (.tup [.int p.c,.int p.i,.str (S [p.e])])
 cz:p.c<1000
 iz:p.i<1000
 ez:p.e<128
theorem uo.same{H H':Hp}{p:Pt}(h:uo H p)(s:aq H H'):uo H' p:=⟨s _ _ h.tp,h.cz,h.iz,h.ez⟩
theorem uo.upd{H:Hp}{p:Pt}{q:Addr}{o:HO}(h:uo H p)(n:p.t≠q):uo (L2.upd H q o) p:=⟨by rw[az n];exact h.tp,h.cz,h.iz,h.ez⟩
noncomputable def fV(y:c0)(os:List Od)(e:Nat):List (Nat×Nat×Nat):=(qz y os e).map λp=>(p.c,p.i,e)
noncomputable def mF(y:c0)(os:List Od):List (Nat×Nat×Nat):=y.flatMap (fV y os)
noncomputable def Pr.pair(p:Pr):Nat×Nat:=(p.c,p.i)
noncomputable def Bo(band l:Nat):Bool:=decide (l=band)||decide (l=aA band)
noncomputable def jh(band c:Nat)(w:c0)(n:Nat):List (Nat×Nat):=((List.range n).filter λi=>Bo band (w.getD i 0)).map λi=>(c,i)
noncomputable def du(band:Nat)(ws:List c0)(n:Nat):List (Nat×Nat):=(List.range n).flatMap λc=>jh band c (ws|||c) ((ws|||c):)
theorem Bp{band c i l:Nat}{w:c0}(h:w[i]? =some l):jh band c w (i+1)=jh band c w i++if Bo band l=true then [(c,i)] else []:=by
 have e:w.getD i 0=l:=by rw[Qaj,h];rfl
 unfold jh
 rw[Qca,Qa9,Qak]
 congr 1
 by_cases z:Bo band l=true
 ·rw[if_pos z,Qbv (by rw[e];exact z)];rfl
 ·rw[if_neg z,Qbi (by rw[e];exact z)];rfl
theorem zr{band i:Nat}{ws:List c0}{w:c0}(h:ws[i]? =some w):du band ws (i+1)=du band ws i++jh band i w (w:):=by
 have e:(ws|||i)=w:=by rw[Qaj,h];rfl
 unfold du
 rw[Qca,Qb9]
 congr 1
 rw[Qbu,Qgk,Qa1,e]
structure UP(y:c0)(ws:List c0):Prop where
 jS:(ws:)<=4
 all:∀w∈ws,(∀c∈w,c∈y)/\(w:)<=12
def rV(y:c0)(ws:List c0)(os:List Od):Prop:=(os:)=(fS y:)/\∀(j:Nat) (o:Od) (b:Nat),os[j]? =some o->(fS y)[j]? =some b->(o.ps.map Pr.pair).Perm (du b ws (ws:))
inductive ji(p_:c7)(vs:List V)(H:Hp)(Q:VK)(cK:XK):Prop
 | mk (y:c0) (dr:Addr) (ws:List c0) (os:List Od) (e:Nat) (_:vs=[.str (S y),.ref dr,.str (S [e])]) (_:Yd y) (_:(y:)<=8) (_:e∈y) (_:2*(os:)=(y:)) (_:Bm H dr ws os) (_:∀(q:Addr) (H':Hp),H q=none->H' q=some (.lst (vP (qz y os e)))->aq H H'->Q (.ref q) H'):ji p_ vs H Q cK
def lG(p_:c7):Sp:=ji p_
theorem rW{K:c7}{vs:List V}{H:Hp}{Q:VK}{E:XK}(h:lG K vs H Q E):(vs:)=3:=by obtain ⟨c,_,_,_,_,rfl,_⟩:=h;rfl
inductive pH(p_:c7)(vs:List V)(H:Hp)(Q:VK)(cK:XK):Prop
 | mk (y:c0) (dr:Addr) (ws:List c0) (os:List Od) (_:vs=[.str (S y),.ref dr]) (_:Yd y) (_:(y:)<=8) (_:2*(os:)=(y:)) (_:Bm H dr ws os) (_:∀(q:Addr) (ps:List Pt) (H':Hp),H q=none->H' q=some (.lst (JY ps))->(∀p∈ps,uo H' p/\p.t≠q)->ps.map Pt.is=mF y os->(ps:)<=800->aq H H'->Q (.ref q) H'):pH p_ vs H Q cK
def vQ(p_:c7):Sp:=pH p_
theorem Bq{K:c7}{vs:List V}{H:Hp}{Q:VK}{E:XK}(h:vQ K vs H Q E):(vs:)=2:=by obtain ⟨c,_,_,_,rfl,_⟩:=h;rfl
theorem LF{y:c0}{os:List Od}{e:Nat}{p:Pr}(h:Yd y)(he:e∈y)(ho:2*(os:)=(y:))(hp:p∈qz y os e):∃o∈os,p∈o.ps:=by
 obtain ⟨o,h1,h2,h3⟩:=ka h he ho
 refine ⟨o,h1,?_⟩
 unfold qz at hp
 rw[h3]at hp
 split at hp
 ·exact Qb4.mp hp
 ·exact hp
theorem LG{H:Hp}{y:c0}{os:List Od}{e:Nat}(h:Yd y)(he:e∈y)(ho:2*(os:)=(y:))(hd:∀o∈os,ET H o):(qz y os e:)<=100:=by
 obtain ⟨o,h1,h2,h3⟩:=ka h he ho
 have:=(hd o h1).fw
 unfold qz
 rw[h3]
 split
 ·rw[Qat];exact this
 ·exact this
theorem p9.ts{H H':Hp}{p:Pr}(h:p9 H p)(s:fU H H'):p9 H' p:=⟨s _ _ h.tp,h.cz,h.iz⟩
theorem HX{band l:Nat}(hb:band∈br)(hl:Lt l):decide (PyProof.Rows.lo1 l=band)=Bo band l:=by
 unfold Bo
 rcases hl with h | h
 ·have e:=(bu l h).2.1
  have n:l≠aA band:=λz=>vG _ (bu band hb).2.2 (z▸h)
  rw[e,decide_eq_false n,Qfa]
 ·have e:=(bT l h).2.1
  have n:l≠band:=λz=>vG l h (z▸hb)
  rw[e,decide_eq_false n,Qf6]
  refine decide_eq_decide.mpr ⟨λz=>by rw[<-z,aO (.inr h)],λz=>by rw[z,aO (.inl hb)]⟩
theorem gix{α:Type}{l:List α}(h:l.Nodup){i j:Nat}(hi:i<(l:))(hj:j<(l:))(e:l[i]=l[j]):i=j:=by
 have hp:=Qcq.mp h
 rcases Nat.lt_trichotomy i j with z | z | z
 ·exact absurd e (hp i j hi hj z)
 ·exact z
 ·exact absurd e.symm (hp j i hj hi z)
theorem vR{l:List (Nat×Nat×Nat)}(h:l.Nodup){n:Nat}{p:Nat×Nat×Nat}(e:l[n]? =some p):l.idxOf p=n:=by
 obtain ⟨hn,e2⟩:=Og.mp e
 have hm:p∈l:=Qac e
 have hi:=Qah hm
 exact gix h hi hn ((Qcu hi).trans e2.symm)
theorem rX{α:Type}{f:Nat->List α}(g:α->Nat):∀{l:c0},l.Nodup->(∀e∈l,(f e).Nodup)->(∀e∈l,∀p∈f e,g p=e)->(l.flatMap f).Nodup
 | [],_,_,_=>Qey
 | a::l,hn,h1,h2=>by
  obtain ⟨n1,n2⟩:=Qbp.mp hn
  rw[Qbu,Qcs]
  refine ⟨h1 a Qai,rX g n2 (λe he=>h1 e (Qaf _ he)) (λe he=>h2 e (Qaf _ he)),λx hx y hy z=>?_⟩
  subst z
  obtain ⟨e,he,hxe⟩:=Qby.mp hy
  have g1:=h2 a Qai x hx
  have g2:=h2 e (Qaf _ he) x hxe
  exact n1 (by rw[<-g1,g2];exact he)
theorem HY(band c:Nat)(w:c0)(n:Nat):(jh band c w n).Nodup:=by
 unfold jh
 show (List.map _ _).Pairwise (· ≠ ·)
 rw[Qch]
 exact (Qgj.filter _).imp λ{i j} h z=>h (by cases z;rfl)
theorem vS(band:Nat)(ws:List c0)(n:Nat):(du band ws n).Nodup:=
 rX Prod.fst Qgj (λc _=>HY _ _ _ _) λc _ p hp=>by
  unfold jh at hp
  obtain ⟨i,_,rfl⟩:=Qa3.mp hp
  rfl
theorem Br{band c i n:Nat}{ws:List c0}(hc:c<n)(hi:i<((ws|||c):))(hb:Bo band ((ws|||c).getD i 0)=true):(c,i)∈du band ws n:=
 Qby.mpr ⟨c,Qcd.mpr hc,Qa3.mpr ⟨i,Qa4.mpr ⟨Qcd.mpr hi,hb⟩,rfl⟩⟩
theorem rV.at{y:c0}{ws:List c0}{os:List Od}{e:Nat}(h:Yd y)(ho:rV y ws os)(he:e∈y):(((qz y os e).map Pr.pair)).Perm (du (PyProof.Rows.lo1 e) ws (ws:)):=by
 have hl:=iJ h
 have AX:=ho.1
 obtain ⟨o,o1,o2,o3⟩:=ka (os:=os) h he ()
 have hm:=HR h he
 have hb:(fS y)[(fS y).idxOf (PyProof.Rows.lo1 e)]? =some (PyProof.Rows.lo1 e):=by
  have hi:=Qah hm
  rw[Of hi,Qcu hi]
 have p:=ho.2 _ o _ o2 hb
 unfold qz
 rw[o3]
 split
 ·rw[Qd5]
  exact (Qe3 _).trans p
 ·exact p
theorem HZ{y:c0}{ws:List c0}{os:List Od}(h:Yd y)(ho:rV y ws os):(mF y os).Nodup:=by
 refine rX (λp=>p.2.2) h.nd (λe he=>?_) λe _ p hp=>?_
 ·have hn:=(ho.at h he).nodup_iff.mpr (vS _ _ _)
  have e1:fV y os e=((qz y os e).map Pr.pair).map λx=>(x.1,x.2,e):=by unfold fV;rw[Qbx];rfl
  rw[e1]
  show (List.map _ _).Pairwise (· ≠ ·)
  rw[Qch]
  exact hn.imp λ{a b} g z=>g (by cases a;cases b;cases z;rfl)
 ·unfold fV at hp
  obtain ⟨x,_,rfl⟩:=Qa3.mp hp
  rfl
theorem H_{y:c0}{ws:List c0}{os:List Od}{c i l e:Nat}{w:c0}(h:Yd y)(ho:rV y ws os)(hw:ws[c]? =some w)(hl:w[i]? =some l)(Yo:l∈y)(he:e=l\/e=aA l):(c,i,e)∈mF y os:=by
 have cf:=h.lt l Yo
 have Po:e∈y:=by rcases he with rfl | rfl;exact Yo;exact h.cl l Yo
 have e1:PyProof.Rows.lo1 e=PyProof.Rows.lo1 l:=by
  rcases he with rfl | rfl
  ·rfl
  ·rcases cf with g | g
   ·rw[(bT _ (bu l g).2.2).2.1,(bu l g).2.1,aO (.inl g)]
   ·rw[(bu _ (bT l g).2.2.2).2.1,(bT l g).2.1]
 have hb:PyProof.Rows.lo1 l∈br:=by
  rcases cf with g | g
  ·rw[(bu l g).2.1];exact g
  ·rw[(bT l g).2.1];exact (bT l g).2.2.2
 have hon:Bo (PyProof.Rows.lo1 l) l=true:=by rw[<-HX hb cf];exact decide_eq_true rfl
 have d1:(ws|||c)=w:=by rw[Qaj,hw];rfl
 have d2:w.getD i 0=l:=by rw[Qaj,hl];rfl
 have hm:(c,i)∈(qz y os e).map Pr.pair:=by
  rw[(ho.at h Po).mem_iff,e1]
  exact Br (Og.mp hw).1 (by rw[d1];exact (Og.mp hl).1) (by rw[d1,d2];exact hon)
 obtain ⟨p,hp,ep⟩:=Qa3.mp hm
 refine Qby.mpr ⟨e,Po,Qa3.mpr ⟨p,hp,?_⟩⟩
 have e2:p.c=c:=congrArg Prod.fst ep
 have e3:p.i=i:=congrArg Prod.snd ep
 rw[e2,e3]
noncomputable def xI(p:Nat×Nat×Nat):List Key:=[Sum.inl (p.1:Int),Sum.inl (p.2.1:Int),Sum.inr (S [p.2.2])]
theorem Ia{p q:Nat×Nat×Nat}(h:xI p=xI q):p=q:=by
 unfold xI at h
 injection h with h1 h2
 injection h2 with h2 h3
 injection h3 with h3 _
 have a1:(p.1:Int)=q.1:=Sum.inl.inj h1
 have a2:(p.2.1:Int)=q.2.1:=Sum.inl.inj h2
 have a3:[p.2.2]=[q.2.2]:=by
  have:=Sum.inr.inj h3
  rw[<-dc [p.2.2],this,dc]
 have a4:p.2.2=q.2.2:=by simpa using a3
 exact Prod.ext () (Prod.ext () a4)
def Nums(ps:List (Nat×Nat×Nat))(aN:List (List Key×V))(n:Nat):Prop:=∀p∈ps.take n,dI aN (xI p)=some (.int (ps.idxOf p:Nat))
theorem Nums.put{ps:List (Nat×Nat×Nat)}{aN:List (List Key×V)}{n:Nat}{p:Nat×Nat×Nat}(h:Nums ps aN n)(hn:ps.Nodup)(e:ps[n]? =some p):Nums ps (putK aN (xI p) (.int (n:Nat))) (n+1):=λr hr=>by
 rw[GI]
 by_cases z:r=p
 ·rw[if_pos (by rw[z]),z,vR hn e]
 ·rw[if_neg λg=>z (Ia g)]
  rw[<-take_snoc e]at hr
  exact h r ((Qao.mp hr).resolve_right λg=>z (ZI.mp g))
noncomputable def Ad(n i:Nat):Nat:=if i=0 then n - 1 else i - 1
theorem Bs{n i:Nat}(h:i<n):Ad n i<n:=by unfold Ad;split<;>lia
theorem C7{n i:Nat}(h:i<n):((i:Int) - 1)%(n:Int)=((Ad n i:Nat):Int):=by
 unfold Ad
 split
 ·rename_i z
  subst z
  have:((0:Nat):Int) - 1+(n:Int)=((n - 1:Nat):Int):=by lia
  rw[<-Qee,this]
  exact Qbd () ()
 ·have:(i:Int) - 1=((i - 1:Nat):Int):=by lia
  rw[this]
  exact Qbd () ()
noncomputable abbrev C4:=Nat×Nat×Nat×Nat
noncomputable def lH(ps:List (Nat×Nat×Nat))(c:Nat)(w:c0)(i:Nat):C4:=(c,i,ps.idxOf (c,Ad (w:) i,aA (w.getD (Ad (w:) i) 0)),ps.idxOf (c,i,w.getD i 0))
noncomputable def oE(ps:List (Nat×Nat×Nat))(c:Nat)(w:c0)(n:Nat):List C4:=(List.range n).map (lH ps c w)
noncomputable def gU(ps:List (Nat×Nat×Nat))(ws:List c0)(n:Nat):List C4:=(List.range n).flatMap λc=>oE ps c (ws|||c) ((ws|||c):)
theorem zt(ps:List (Nat×Nat×Nat))(c:Nat)(w:c0)(n:Nat):oE ps c w (n+1)=oE ps c w n++[lH ps c w n]:=by unfold oE;rw[Qca,Qak];rfl
theorem xJ{ps:List (Nat×Nat×Nat)}{ws:List c0}{i:Nat}{w:c0}(h:ws[i]? =some w):gU ps ws (i+1)=gU ps ws i++oE ps i w (w:):=by
 have e:(ws|||i)=w:=by rw[Qaj,h];rfl
 unfold gU
 rw[Qca,Qb9]
 congr 1
 rw[Qbu,Qgk,Qa1,e]
structure Q4 where
 t:Addr
 v:C4
noncomputable def EU(qs:List Q4):List V:=qs.map λq=>V.ref q.t
theorem C8(qs:List Q4):(EU qs:)=(qs:):=by unfold EU;rw[kb]
theorem Ib(a:List Q4)(q:Q4):EU a++[V.ref q.t]=EU (a++[q]):=by unfold EU;rw[Qak];rfl
theorem Pp{qs:List Q4}{i:Nat}{x:V}(h:(EU qs)[i]? =some x):∃q,qs[i]? =some q/\x=V.ref q.t:=by
 unfold EU at h
 rw[Qas]at h
 cases e:qs[i]? with
 | none=>rw[e]at h;cases h
 | some p=>rw[e]at h;cases h;exact ⟨p,rfl,rfl⟩
def uq(H:Hp)(q:Q4):Prop:=H q.t=some (.tup [.int q.v.1,.int q.v.2.1,.int q.v.2.2.1,.int q.v.2.2.2])
theorem uq.ts{H H':Hp}{q:Q4}(h:uq H q)(s:fU H H'):uq H' q:=s _ _ h
noncomputable def vT(y:c0)(ws:List c0)(os:List Od):List C4:=gU (mF y os) ws (ws:)
theorem UQ{y:c0}{os:List Od}{p:Pt}{ps:List Pt}(h:ps.map Pt.is=mF y os){i:Nat}(hi:ps[i]? =some p):(mF y os)[i]? =some p.is:=by rw[<-h,Qas,hi];rfl
inductive gG(p_:c7)(vs:List V)(H:Hp)(Q:VK)(cK:XK):Prop
 | mk (w:c0) (c i:Nat) (_:vs=[.str (S w),.int c,.int i]) (_:(∀l∈w,l<128)) (_:i<(w:)) (_:(w:)<=1000) (_:∀(t t1 t2:Addr) (H':Hp),H' t=some (.tup [.ref t1,.ref t2])->H' t1=some (.tup ((xI (c,Ad (w:) i,aA (w.getD (Ad (w:) i) 0))).map kV))->H' t2=some (.tup ((xI (c,i,w.getD i 0)).map kV))->aq H H'->Q (.ref t) H'):gG p_ vs H Q cK
def iK(p_:c7):Sp:=gG p_
theorem m_{K:c7}{vs:List V}{H:Hp}{Q:VK}{E:XK}(h:iK K vs H Q E):(vs:)=3:=by obtain ⟨c,_,_,rfl,_⟩:=h;rfl
inductive nc(p_:c7)(vs:List V)(H:Hp)(Q:VK)(cK:XK):Prop
 | mk (y:c0) (dr:Addr) (ws:List c0) (os:List Od) (_:vs=[.str (S y),.ref dr]) (_:Yd y) (_:(y:)<=8) (_:UP y ws) (_:rV y ws os) (_:Bm H dr ws os) (_:∀(q:Addr) (qs:List Q4) (H':Hp),H q=none->H' q=some (.lst (EU qs))->(∀x∈qs,uq H' x)->qs.map Q4.v=vT y ws os->aq H H'->Q (.ref q) H'):nc p_ vs H Q cK
def rY(p_:c7):Sp:=nc p_
theorem zu{K:c7}{vs:List V}{H:Hp}{Q:VK}{E:XK}(h:rY K vs H Q E):(vs:)=2:=by obtain ⟨c,_,_,_,rfl,_⟩:=h;rfl
theorem LH{y:c0}{os:List Od}{i m e:Nat}{p:Pr}(he:y[i]? =some e)(hp:(qz y os e)[m]? =some p):(mF y os)[((y.take i).flatMap (fV y os):)+m]? =some (p.c,p.i,e):=by
 obtain ⟨hi,e1⟩:=Og.mp he
 have hy:y=y.take i++e::y.drop (i+1):=by
  rw[<-e1, <-Qbq hi,Qal]
 have h1:mF y os=(y.take i).flatMap (fV y os)++(fV y os e++(y.drop (i+1)).flatMap (fV y os)):=by
  unfold mF
  conv=>lhs;arg 2;rw[hy]
  rw[Qb9,Qbu]
 have h2:(fV y os e)[m]? =some (p.c,p.i,e):=by unfold fV;rw[Qas,hp];rfl
 rw[h1,Qav (Nat.le_add_right _ _),Qbl,Qbg (Og.mp h2).1]
 exact h2
structure Bt(y:c0)(ws:List c0)(L:Nat->Bool)(r:Nat->Nat)(M:Nat)(os:List Od):Prop where
 ok:rV y ws os
 asc:∀o∈os,(o.ps.map Pr.pair).Pairwise λs t=>bP (eO y ws L r M s.1 s.2) (eO y ws L r M t.1 t.2)=true
theorem Bu:∀c∈br++me,PyProof.Rows.lo1 (aA c)=PyProof.Rows.lo1 c/\isUp c=!aC c:=⋯
theorem EV{α:Type}{y:c0}(F:Nat->List α){k k' e:Nat}(he:y[k]? =some e)(h:k<k'):((y.take k).flatMap F:)+(F e:)<=((y.take k').flatMap F:):=by
 have e1:(y.take k').take (k+1)=y.take (k+1):=by rw[List.take_take,Qbo ()]
 have e2:y.take k'=y.take (k+1)++(y.take k').drop (k+1):=by rw[<-e1,Qal]
 rw[e2,Qb9,QD, <-take_snoc he,Qb9,QD]
 simp
theorem oF{y:c0}{ws:List c0}{os:List Od}(hy:Yd y)(ho:rV y ws os)(hs:∀c,c<(ws:)->∀k:Int,rd (ws|||c) k∈y){c i e:Nat}(hc:c<(ws:))(hi:i<((ws|||c):))(he:e=rd (ws|||c) i\/e=aA (rd (ws|||c) i)):
  e∈y/\∃(m:Nat) (p:Pr),(qz y os e)[m]? =some p/\p.pair=(c,i)/\(mF y os).idxOf (c,i,e)=((y.take (y.idxOf e)).flatMap (fV y os):)+m:=by
 have hw:=hs c hc
 have ey:e∈y:=he.elim (λz=>z▸hw _) λz=>z▸hy.cl _ (hw _)
 have ud:=H_ hy ho (c:=c) (i:=i) (l:=rd (ws|||c) i) (e:=e) (w:=(ws|||c)) (by rw[Qaj,Of hc];rfl) (oq hi) (hw _) he
 unfold mF at ud
 obtain ⟨e',Fy,hp⟩:=Qby.mp ud
 unfold fV at hp
 obtain ⟨p,vU,rh⟩:=Qa3.mp hp
 obtain ⟨q1,q23⟩:=Prod.mk.inj rh
 obtain ⟨q2,q3⟩:=Prod.mk.inj q23
 clear q23
 subst q3
 obtain ⟨m,hm,em⟩:=Qdp vU
 have MU:(qz y os e')[m]? =some p:=by rw[Of hm,em]
 refine ⟨ey,m,p,MU,by unfold Pr.pair;rw[q1,q2],?_⟩
 have hk:y[y.idxOf e']? =some e':=by rw[Of (Qah ey),Qcu]
 have:=LH (os:=os) hk MU
 rw[q1,q2]at this
 exact vR (HZ hy ho) this
theorem Ic(y:c0)(os:List Od)(e:Nat):(fV y os e:)=(qz y os e:):=by unfold fV;rw[kb]
theorem Ie{l:List Pr}{y:c0}{ws:List c0}{L:Nat->Bool}{r:Nat->Nat}{M:Nat}(h:(l.map Pr.pair).Pairwise λs t=>bP (eO y ws L r M s.1 s.2) (eO y ws L r M t.1 t.2)=true){m n c i d j:Nat}{p q:Pr}(hp:l[m]? =some p)(hq:l[n]? =some q)(ep:p.pair=(c,i))(eq:q.pair=(d,j))(dE:(c,i)≠(d,j)):
  m≠n/\decide (m<n)=bP (eO y ws L r M c i) (eO y ws L r M d j):=by
 have V0:m≠n:=λz=>dE (by rw[z,hq]at hp;rw[<-ep, <-eq,Qad hp])
 obtain ⟨hm,em⟩:=Og.mp hp
 obtain ⟨hn,en⟩:=Og.mp hq
 refine ⟨V0,?_⟩
 have key:=Qcq.mp h
 by_cases z:m<n
 ·have:=key m n (by rw[kb];exact hm) (by rw[kb];exact hn) z
  rw[Qfc,Qfc,em,en,ep,eq]at this
  rw[decide_eq_true z]
  exact this.symm
 ·have:=key n m (by rw[kb];exact hn) (by rw[kb];exact hm) ()
  rw[Qfc,Qfc,em,en,ep,eq]at this
  rw[decide_eq_false z]
  exact (ow this).1.symm
theorem C9{α:Type}{l:List α}{m:Nat}{p:α}(h:l.reverse[m]? =some p):m<(l:)/\l[(l:) - 1 - m]? =some p:=by
 obtain ⟨hm,_⟩:=Og.mp h
 rw[Qat]at hm
 rw[Qdw hm]at h
 exact ⟨hm,h⟩
theorem Pq{y:c0}{ws:List c0}{os:List Od}(hy:Yd y)(hs:∀c,c<(ws:)->∀k:Int,rd (ws|||c) k∈y)(ho:rV y ws os)(c i d j e e':Nat)(hc:c<(ws:))(hd:d<(ws:))(hi:i<((ws|||c):))(hj:j<((ws|||d):))(he:e=rd (ws|||c) i\/e=aA (rd (ws|||c) i))(Fy:e'=rd (ws|||d) j\/e'=aA (rd (ws|||d) j))(cf:y.idxOf e<y.idxOf e'):(mF y os).idxOf (c,i,e)<(mF y os).idxOf (d,j,e'):=by
 obtain ⟨ey,m,p,hm,_,e1⟩:=oF hy ho hs hc hi he
 obtain ⟨ey',m',p',MU,_,e2⟩:=oF hy ho hs hd hj Fy
 rw[e1,e2]
 have hk:y[y.idxOf e]? =some e:=by rw[Of (Qah ey),Qcu]
 have:=EV (fV y os) hk cf
 rw[Ic]at this
 have yW:=(Og.mp hm).1
 lia
theorem pos_at{y:c0}{ws:List c0}{os:List Od}(hy:Yd y)(hs:∀c,c<(ws:)->∀k:Int,rd (ws|||c) k∈y)(ho:rV y ws os){c i d j x:Nat}(hc:c<(ws:))(hd:d<(ws:))(hi:i<((ws|||c):))(hj:j<((ws|||d):))(hx:aC x=true)(Ol:rd (ws|||c) i=x\/rd (ws|||c) i=aA x)(Yp:rd (ws|||d) j=x\/rd (ws|||d) j=aA x):
  ∃o∈os,∃(m n m' n' A B:Nat) (p q p' q':Pr),o.ps[m]? =some p/\o.ps[n]? =some q/\o.ps[(o.ps:) - 1 - m']? =some p'/\o.ps[(o.ps:) - 1 - n']? =some q'/\m'<(o.ps:)/\n'<(o.ps:)/\p.pair=(c,i)/\q.pair=(d,j)/\p'.pair=(c,i)/\q'.pair=(d,j)/\
   (mF y os).idxOf (c,i,x)=A+m/\(mF y os).idxOf (d,j,x)=A+n/\(mF y os).idxOf (c,i,aA x)=B+m'/\(mF y os).idxOf (d,j,aA x)=B+n':=by
 have ol:2*(os:)=(y:):=by rw[ho.1];exact iJ hy
 have lc:Lt (rd (ws|||c) i):=hy.lt _ (hs c hc _)
 have ld:Lt (rd (ws|||d) j):=hy.lt _ (hs d hd _)
 have vi:(x=rd (ws|||c) i\/x=aA (rd (ws|||c) i))/\(aA x=rd (ws|||c) i\/aA x=aA (rd (ws|||c) i))/\Lt x:=by
  rcases Ol with z | z
  ·exact ⟨.inl z.symm,.inr (by rw[z]),z▸lc⟩
  ·have hx0:x<128/\x∈br:=by
    have h9:97<=x/\x<=122:=by unfold aC at hx;simpa using hx
    refine ⟨(),?_⟩
    have:∀k,k<26->k+97∈br:=by decide
    have h8:=this (x - 97) ()
    rwa [show x - 97+97=x by lia]at h8
   have lx:Lt x:= .inl hx0.2
   exact ⟨.inr (by rw[z,aO lx]),.inl z.symm,lx⟩
 have lx:=vi.2.2
 have vj:(x=rd (ws|||d) j\/x=aA (rd (ws|||d) j))/\(aA x=rd (ws|||d) j\/aA x=aA (rd (ws|||d) j)):=by
  rcases Yp with z | z
  ·exact ⟨.inl z.symm,.inr (by rw[z])⟩
  ·exact ⟨.inr (by rw[z,aO lx]),.inl z.symm⟩
 obtain ⟨xy,m,p,hm,ep,e1⟩:=oF hy ho hs hc hi vi.1
 obtain ⟨_,n,q,hn,eq,e2⟩:=oF hy ho hs hd hj vj.1
 obtain ⟨_,m',p',MU,NH,D1⟩:=oF hy ho hs hc hi vi.2.1
 obtain ⟨_,n',q',VA,Yq,Ig⟩:=oF hy ho hs hd hj vj.2
 obtain ⟨o,V1,_,eo⟩:=ka hy xy ol
 have up0:isUp x=false:=by rw[(Bu x lx.mem).2,hx];rfl
 have up1:isUp (aA x)=true:=by rw[(Bu _ lx.aA.mem).2,gk x lx.mem,hx];rfl
 have s0:qz y os x=o.ps:=by unfold qz;rw[up0,if_neg ∅,eo]
 have s1:qz y os (aA x)=o.ps.reverse:=by
  unfold qz
  rw[up1,if_pos rfl]
  have:Bn y os (aA x)=Bn y os x:=by unfold Bn;rw[(Bu x lx.mem).1]
  rw[this,eo]
 rw[s0]at hm hn
 rw[s1]at MU VA
 obtain ⟨b1,yW⟩:=C9 MU
 obtain ⟨b2,tY⟩:=C9 VA
 exact ⟨o,V1,m,n,m',n',_,_,p,q,p',q',hm,hn,yW,tY,b1,b2,ep,eq,NH,Yq,e1,e2,D1,Ig⟩
theorem lies_of{y:c0}{ws:List c0}{L:Nat->Bool}{r:Nat->Nat}{M:Nat}{os:List Od}(hy:Yd y)(hs:∀c,c<(ws:)->SW y (ws|||c))(h:Bt y ws L r M os):Lies y ws L r M λc i e=>(mF y os).idxOf (c,i,e):=by
 refine ⟨Pq hy (λc hc=>(hs c hc).rd) h.ok,λc i d j x hc hd hi hj dE hx Ol Yp=>?_⟩
 obtain ⟨o,V1,m,n,m',n',A,B,p,q,p',q',hm,hn,yW,tY,b1,b2,ep,eq,NH,Yq,e1,e2,D1,Ig⟩:=pos_at hy (λc hc=>(hs c hc).rd) h.ok hc hd hi hj hx Ol Yp
 have k1:=Ie (h.asc o V1) hm hn ep eq dE
 have k2:=Ie (h.asc o V1) yW tY NH Yq dE
 rw[e1,e2,D1,Ig]
 refine ⟨(),(),?_,?_⟩
 ·rw[<-k1.2];exact decide_eq_decide.mpr ()
 ·rw[<-k2.2];exact decide_eq_decide.mpr ()
noncomputable def qA(st:Nat->Nat)(T R:c0):c0:=T.filter λx=>R.any λe=>decide (st e=x)
noncomputable def EW(st:Nat->Nat)(T R:c0)(p:Nat):Nat:=if st p=p then 0 else (((qA st T (p::R)).filter λx=>decide (st p<x)):)
noncomputable def JZ(st:Nat->Nat):c0->c0->Nat
 | _,[]=>0
 | T,p::R=>EW st T R p+JZ st (T++[p]) R
structure Ih(ch:List (Nat×Nat))(st:Nat->Nat)(P:c0):Prop where
 lt:∀x∈ch,x.1<x.2
 nd:(ch.flatMap λx=>[x.1,x.2]).Nodup
 pm:P.Perm (ch.flatMap λx=>[x.1,x.2])
 up:P.Pairwise (· < ·)
 st:∀x∈ch,st x.1=x.1/\st x.2=x.1
section
variable{ch:List (Nat×Nat)}{st:Nat->Nat}{P:c0}
theorem Ih.pt(h:Ih ch st P){p:Nat}(hp:p∈P):∃x∈ch,p=x.1\/p=x.2:=by
 obtain ⟨x,hx,e⟩:=Qby.mp (h.pm.mem_iff.mp hp)
 exact ⟨x,hx,by simpa using e⟩
theorem Ih.in1(h:Ih ch st P){x:Nat×Nat}(hx:x∈ch):x.1∈P/\x.2∈P:=⟨h.pm.mem_iff.mpr (Qby.mpr ⟨x,hx,by simp⟩),h.pm.mem_iff.mpr (Qby.mpr ⟨x,hx,by simp⟩)⟩
theorem zw:∀{ch:List (Nat×Nat)},(ch.flatMap λx=>[x.1,x.2]).Nodup->∀x∈ch,∀z∈ch,(x.1=z.1\/x.2=z.2\/x.1=z.2)->x=z
 | [],_,x,hx,_,_,_=>absurd hx Qbb
 | a::r,nd,x,hx,z,hz,e=>by
  rw[Qbu,Qcs]at nd
  obtain ⟨n1,n2,n3⟩:=nd
  have inr:∀z∈r,z.1∈r.flatMap (λx=>[x.1,x.2])/\z.2∈r.flatMap (λx=>[x.1,x.2]):=λz hz=>⟨Qby.mpr ⟨z,hz,by simp⟩,Qby.mpr ⟨z,hz,by simp⟩⟩
  have a12:a.1≠a.2:=by
   rw[Qbp]at n1
   simpa using n1.1
  rcases Qam.mp hx with rfl | JJ<;>rcases Qam.mp hz with rfl | K1
  ·rfl
  ·exfalso
   rcases e with e | e | e
   ·exact n3 x.1 (by simp) z.1 (inr z K1).1 e
   ·exact n3 x.2 (by simp) z.2 (inr z K1).2 e
   ·exact n3 x.1 (by simp) z.2 (inr z K1).2 e
  ·exfalso
   rcases e with e | e | e
   ·exact n3 z.1 (by simp) x.1 (inr x JJ).1 e.symm
   ·exact n3 z.2 (by simp) x.2 (inr x JJ).2 e.symm
   ·exact n3 z.2 (by simp) x.1 (inr x JJ).1 e.symm
  ·exact zw n2 x JJ z K1 e
theorem Ii(h:Ih ch st P){T R:c0}{p:Nat}(e:P=T++p::R)(hs:st p=p):qA st (T++[p]) R=qA st T (p::R)++[p]:=by
 obtain ⟨x,hx,hp⟩:=h.pt (p:=p) (by rw[e];simp)
 have Pu:p=x.1:=hp.elim id λz=>by rw[z,(h.st x hx).2]at hs;rw[z, <-hs]
 have up:=h.up
 rw[e,Qa6,Qdf]at up
 obtain ⟨u1,⟨u2,u3⟩,u4⟩:=up
 have hR:x.2∈R:=by
  have:=(h.in1 hx).2
  rw[e]at this
  rcases Qao.mp this with q | q
  ·have:=u4 _ q p Qai
   have:=h.lt x hx
   lia
  ·rcases Qam.mp q with q | q
   ·have:=h.lt x hx
    lia
   ·exact q
 unfold qA
 rw[Qa9]
 congr 1
 ·refine Qgd λz hz=>?_
  rw[Qdt,decide_eq_false (λq=>by have:=u4 z hz p Qai;lia),Qf6]
 ·have:(R.any λe=>decide (st e=p))=true:=List.any_eq_true.mpr ⟨x.2,hR,decide_eq_true (by rw[(h.st x hx).2,Pu])⟩
  rw[Qbv (p:=λx=>R.any λe=>decide (st e=x)) this]
  rfl
theorem erase_filter{s:Nat}{p q:Nat->Bool}:∀{T:c0},T.Nodup->q s=true->p s=false->(∀x,x≠s->q x=p x)->(T.filter q).erase s=T.filter p
 | [],_,_,_,_=>rfl
 | a::T,nd,hq,hp,h=>by
  rw[Qbp]at nd
  by_cases z:a=s
  ·subst z
   rw[Qbv hq,List.erase_cons_head,Qbi (by rw[hp];decide)]
   exact Qgd λx hx=>h x λq=>nd.1 (q▸hx)
  ·have ih:=erase_filter nd.2 hq hp h
   cases e:p a
   ·rw[Qbi (by rw[h a z,e];decide),Qbi (by rw[e];decide)]
    exact ih
   ·rw[Qbv (by rw[h a z,e]),Qbv e,List.erase_cons_tail (by simpa using z),ih]
theorem Pw(h:Ih ch st P){T R:c0}{p:Nat}(e:P=T++p::R)(hs:st p≠p):qA st (T++[p]) R=(qA st T (p::R)).erase (st p)/\st p∈qA st T (p::R):=by
 obtain ⟨x,hx,hp⟩:=h.pt (p:=p) (by rw[e];simp)
 have Pu:p=x.2:=hp.elim (λz=>absurd (by rw[z,(h.st x hx).1]) hs) id
 have kZ:st p=x.1:=by rw[Pu,(h.st x hx).2]
 have up:=h.up
 rw[e,Qa6,Qdf]at up
 obtain ⟨u1,⟨u2,u3⟩,u4⟩:=up
 have only:∀z∈R,st z≠x.1:=λz hz q=>by
  obtain ⟨v,hv,GD⟩:=h.pt (p:=z) (by rw[e];simp[hz])
  have hzp:=u2 z hz
  rcases GD with r | r
  ·rw[r,(h.st v hv).1]at q
   have:=zw h.nd v hv x hx (.inl q)
   subst this
   have:=h.lt v hv
   lia
  ·rw[r,(h.st v hv).2]at q
   have:=zw h.nd v hv x hx (.inl q)
   subst this
   lia
 have none:∀z∈R,st z≠p:=λz hz q=>by
  obtain ⟨v,hv,GD⟩:=h.pt (p:=z) (by rw[e];simp[hz])
  have:st z=v.1:=GD.elim (λr=>by rw[r,(h.st v hv).1]) λr=>by rw[r,(h.st v hv).2]
  rw[this,Pu]at q
  have:=zw h.nd v hv x hx (.inr (.inr q))
  subst this
  have:=h.lt v hv
  lia
 have hT:x.1∈T:=by
  have:=(h.in1 hx).1
  rw[e]at this
  have l:=h.lt x hx
  rcases Qao.mp this with q | q
  ·exact q
  ·rcases Qam.mp q with q | q
   ·lia
   ·have:=u2 _ q
    lia
 have nd:T.Nodup:=Qgg (λh=>Qaw h) u1
 have hq:((p::R).any λe=>decide (st e=x.1))=true:=by rw[Qdt,decide_eq_true kZ];rfl
 refine ⟨?_,?_⟩
 ·rw[kZ]
  unfold qA
  rw[Qa9,Qbi (by
   rw[Bool.not_eq_true,Qge]
   exact λz hz=>by simpa using none z hz),List.filter_nil,Qa1]
  refine (erase_filter nd hq ?_ λz hz=>?_).symm
  ·rw[Qge]
   exact λz hz=>by simpa using only z hz
  ·rw[Qdt,decide_eq_false (by rw[kZ];exact Ne.symm hz),Qf6]
 ·rw[kZ]
  exact Qa4.mpr ⟨hT,hq⟩
noncomputable def nN(x z:Nat×Nat):Bool:=decide (x.1<z.1)&&(decide (z.1<x.2)&&decide (x.2<z.2))
theorem Ij(h:Ih ch st P){T R:c0}{x:Nat×Nat}(hx:x∈ch)(e:P=T++x.2::R):EW st T R x.2=(ch.filter (nN x):):=by
 have l:=h.lt x hx
 have kZ:=(h.st x hx).2
 have up:=h.up
 rw[e,Qa6,Qdf]at up
 obtain ⟨u1,⟨u2,u3⟩,u4⟩:=up
 unfold EW
 rw[if_neg (),kZ, <-kb (as:=ch.filter (nN x)) (f:=Prod.fst)]
 refine List.Perm.length_eq ((List.perm_ext_iff_of_nodup ?_ ?_).mpr λa=>?_)
 ·exact (Qgg (λh=>Qaw h) ((u1.filter _).filter _))
 ·have nd:(ch.map Prod.fst).Nodup:=by
   have:∀{ch:List (Nat×Nat)},(ch.flatMap λx=>[x.1,x.2]).Nodup->(ch.map Prod.fst).Nodup:=λ{ch}=>by
    induction ch with
    | nil=>exact λ_=>List.Pairwise.nil
    | cons a r ih=>
     intro nd
     rw[Qbu,Qcs]at nd
     rw[Qa0,Qbp]
     refine ⟨λq=>?_,ih nd.2.1⟩
     obtain ⟨z,hz,ez⟩:=Qa3.mp q
     exact nd.2.2 a.1 (by simp) z.1 (Qby.mpr ⟨z,hz,by simp⟩) ez.symm
   exact this h.nd
  exact List.Nodup.sublist (List.Sublist.map _ List.filter_sublist) nd
 ·rw[Qa4,Qa3]
  unfold qA
  rw[Qa4,decide_eq_true_iff,List.any_eq_true]
  constructor
  ·rintro ⟨⟨a1,p,hp,ep⟩,a2⟩
   have ep:=of_decide_eq_true ep
   obtain ⟨z,hz,Yr⟩:=h.pt (p:=p) (by rw[e];exact Qa2 _ hp)
   have:st p=z.1:=Yr.elim (λr=>by rw[r,(h.st z hz).1]) λr=>by rw[r,(h.st z hz).2]
   rw[this]at ep
   have ax:=u4 a a1 x.2 Qai
   have pz:p=z.2:=Yr.elim (λr=>by
    have:=u4 a a1 p hp
    lia) id
   have px:x.2<p:=by
    rcases Qam.mp hp with q | q
    ·rw[q]at pz
     have:=zw h.nd x hx z hz (.inr (.inl pz))
     subst this
     lia
    ·exact u2 p q
   refine ⟨z,Qa4.mpr ⟨hz,?_⟩,ep⟩
   unfold nN
   rw[Qbr,Qbr,decide_eq_true_iff,decide_eq_true_iff,decide_eq_true_iff]
   lia
  ·rintro ⟨z,hz,rfl⟩
   obtain ⟨hz,q⟩:=Qa4.mp hz
   unfold nN at q
   rw[Qbr,Qbr,decide_eq_true_iff,decide_eq_true_iff,decide_eq_true_iff]at q
   have i1:=(h.in1 hz).1
   have i2:=(h.in1 hz).2
   rw[e]at i1 i2
   refine ⟨⟨?_,z.2,?_,decide_eq_true (h.st z hz).2⟩,q.1⟩
   ·rcases Qao.mp i1 with r | r
    ·exact r
    ·rcases Qam.mp r with r | r
     ·lia
     ·have:=u2 _ r;lia
   ·rcases Qao.mp i2 with r | r
    ·have:=u4 _ r x.2 Qai;lia
    ·exact r
theorem Ik(h:Ih ch st P):∀(R T:c0),P=T++R->JZ st T R=(R.map λp=>if st p=p then 0 else (ch.filter (nN (st p,p)):)).sum
 | [],_,_=>rfl
 | p::R,T,e=>by
  rw[Qa0,Qdm, <-Ik h R (T++[p]) (by rw[e];simp)]
  show EW st T R p+_=_
  congr 1
  by_cases z:st p=p
  ·rw[if_pos z];unfold EW;rw[if_pos z]
  ·rw[if_neg z]
   obtain ⟨x,hx,hp⟩:=h.pt (p:=p) (by rw[e];simp)
   have Pu:p=x.2:=hp.elim (λq=>absurd (by rw[q,(h.st x hx).1]) z) id
   have kZ:st p=x.1:=by rw[Pu,(h.st x hx).2]
   rw[kZ]
   subst Pu
   exact Ij h hx e
theorem Px(h:Ih ch st P):JZ st [] P=(ch.map λx=>(ch.filter (nN x):)).sum:=by
 rw[Ik h P [] rfl,(h.pm.map _).sum_nat]
 have:∀l:List (Nat×Nat),(∀x∈l,x∈ch)->(((l.flatMap λx=>[x.1,x.2]).map λp=>if st p=p then 0 else (ch.filter (nN (st p,p)):)).sum)=(l.map λx=>(ch.filter (nN x):)).sum:=λl hl=>by
  induction l with
  | nil=>rfl
  | cons a r ih=>
   have ha:=h.st a (hl a Qai)
   have la:=h.lt a (hl a Qai)
   rw[Qbu,Qak,List.sum_append_nat,ih λx hx=>hl x (Qaf _ hx),Qa0,Qdm]
   congr 1
   show (if st a.1=a.1 then 0 else _)+((if st a.2=a.2 then 0 else (ch.filter (nN (st a.2,a.2)):))+0)=_
   rw[if_pos ha.1,if_neg (),ha.2,Qc1,Qdd]
 exact this ch λx hx=>hx
theorem EX{α:Type}(X:α->α->Bool)(hd:∀x,X x x=false)(ha:∀x z,X x z=true->X z x=false):∀l:List α,(l.map λx=>(l.filter (X x):)).sum=cl (λx z=>X x z||X z x) l:=λl=>by
 have key:∀(a:α) (l:List α),((l.filter λz=>X a z||X z a):)=(l.filter (X a):)+(l.map λz=>if X z a=true then 1 else 0).sum:=λa l=>by
  induction l with
  | nil=>rfl
  | cons b r ih=>
   have:=ha a b
   simp only[Qgl,Qa0,Qdm]
   cases e1:X a b<;>cases e2:X b a
   ·simp[ih]
   ·simp[ih];lia
   ·simp[ih];lia
   ·rw[this e1]at e2;cases e2
 induction l with
 | nil=>rfl
 | cons a r ih=>
  show (((a::r).map λx=>((a::r).filter (X x):)).sum)=((r.filter λz=>X a z||X z a):)+cl _ r
  rw[Qa0,Qdm,Qbi (by rw[hd a];decide),key a r, <-ih]
  have e:∀l:List α,(l.map λx=>((a::r).filter (X x):)).sum=(l.map λz=>if X z a=true then 1 else 0).sum+(l.map λx=>(r.filter (X x):)).sum:=λl=>by
   induction l with
   | nil=>rfl
   | cons b l ih2=>
    rw[Qa0,Qdm,ih2,Qa0,Qdm,Qa0,Qdm]
    cases e1:X b a
    ·rw[Qbi (by rw[e1];decide)]
     simp;lia
    ·rw[Qbv e1]
     simp;lia
  rw[e r]
  lia
theorem UR(h:Ih ch st P):JZ st [] P=cl (λx z=>nN x z||nN z x) ch:=by
 rw[Px h,EX]
 ·intro x;unfold nN;rw[decide_eq_false (Qbw _)];rfl
 ·intro x z q
  unfold nN at q ⊢
  rw[Qbr,Qbr,decide_eq_true_iff,decide_eq_true_iff,decide_eq_true_iff]at q
  rw[decide_eq_false ()]
  rfl
end
noncomputable def M_(p q:Nat):Int:=if (q:Int)<p then q else p
noncomputable def eS(cs:List C4):c0:=cs.flatMap λx=>[x.2.2.1,x.2.2.2]
noncomputable def gN(cs:List C4):List (Key×V):=cs.flatMap λx=>[(Sum.inl (x.2.2.1:Int),V.int (M_ x.2.2.1 x.2.2.2)),(Sum.inl (x.2.2.2:Int),V.int (M_ x.2.2.1 x.2.2.2))]
noncomputable def rZ(cs:List C4):List (Nat×Nat):=cs.map λx=>(min x.2.2.1 x.2.2.2,max x.2.2.1 x.2.2.2)
theorem iL:∀cs:List C4,(gN cs).map (·.1)=(eS cs).map λn:Nat=>(Sum.inl (n:Int):Key)
 | []=>rfl
 | x::r=>by
  unfold gN eS
  rw[Qbu,Qbu,Qak,Qak]
  exact congrArg _ (iL r)
theorem zx{aN:List (Key×V)}{k:Key}(h:k∉aN.map (·.1)):dI aN k=none:=by
 induction aN with
 | nil=>rfl
 | cons a r ih=>
  rw[Qa0,Qam,not_or]at h
  rw[cJ (λe=>h.1 e.symm),ih h.2]
theorem Il{aN:List (Key×V)}(nd:(aN.map (·.1)).Nodup){k:Key}{v:V}(h:(k,v)∈aN):dI aN k=some v:=by
 induction aN with
 | nil=>exact absurd h Qbb
 | cons a r ih=>
  rw[Qa0,Qbp]at nd
  rcases Qam.mp h with e | e
  ·subst e;exact cW rfl
  ·rw[cJ (λz=>nd.1 (Qa3.mpr ⟨_,e,z.symm⟩))]
   exact ih nd.2 e
theorem Py:∀{l:c0},l.Nodup->(l.map λn:Nat=>(Sum.inl (n:Int):Key)).Nodup:=λ{l} h=>Qch.mpr (h.imp λAc z=>Ac (by have:=Sum.inl.inj z;lia))
noncomputable def ins(l:c0):List V:=l.map λn=>V.int (n:Nat)
theorem ng(l:c0):(ins l:)=(l:):=by unfold ins;rw[kb]
theorem Im(l:c0)(n:Nat):ins l++[V.int (n:Nat)]=ins (l++[n]):=by unfold ins;rw[Qak];rfl
theorem Io{l:c0}{i n:Nat}(h:l[i]? =some n):(ins l)[i]? =some (V.int (n:Nat)):=by unfold ins;rw[Qas,h];rfl
inductive gW(p_:c7)(vs:List V)(H:Hp)(Q:VK)(cK:XK):Prop
 | mk (a:Addr) (qs:List Q4) (_:vs=[.ref a]) (_:H a=some (.lst (EU qs))) (_:(∀x∈qs,uq H x)) (_:(qs:)<=1000) (_:(eS (qs.map Q4.v)).Nodup) (_:∀d H',H d=none->H' d=some (.dK (gN (qs.map Q4.v)))->aq H H'->Q (.ref d) H'):gW p_ vs H Q cK
def jj(p_:c7):Sp:=gW p_
theorem oG{K:c7}{vs:List V}{H:Hp}{Q:VK}{E:XK}(h:jj K vs H Q E):(vs:)=1:=by obtain ⟨_,_,rfl,_⟩:=h;rfl
inductive kc(p_:c7)(vs:List V)(H:Hp)(Q:VK)(cK:XK):Prop
 | mk (a:Addr) (l:c0) (p:Nat) (_:vs=[.ref a,.int p]) (_:H a=some (.lst (ins l))) (_:l.Pairwise (· < ·)) (_:p∈l) (_:(l:)<=100000) (_:Q (.int (l.idxOf p:Nat)) H):kc p_ vs H Q cK
def nh(p_:c7):Sp:=kc p_
theorem ur{K:c7}{vs:List V}{H:Hp}{Q:VK}{E:XK}(h:nh K vs H Q E):(vs:)=2:=by obtain ⟨_,_,_,rfl,_⟩:=h;rfl
inductive fW(p_:c7)(vs:List V)(H:Hp)(Q:VK)(cK:XK):Prop
 | mk (a:Addr) (qs:List Q4) (_:vs=[.ref a]) (_:H a=some (.lst (EU qs))) (_:(∀x∈qs,uq H x)) (_:(qs:)<=24) (_:(eS (qs.map Q4.v)).Nodup) (_:∀H',aq H H'->Q (.int (cl (λx z=>nN x z||nN z x) (rZ (qs.map Q4.v)):Nat)) H'):fW p_ vs H Q cK
def gX(p_:c7):Sp:=fW p_
theorem mj{K:c7}{vs:List V}{H:Hp}{Q:VK}{E:XK}(h:gX K vs H Q E):(vs:)=1:=by obtain ⟨_,_,rfl,_⟩:=h;rfl
theorem EY(cs:List C4)(x:C4):eS (cs++[x])=eS cs++[x.2.2.1,x.2.2.2]:=by unfold eS;rw[Qb9,Qej]
theorem EZ(cs:List C4)(x:C4):gN (cs++[x])=gN cs++[(Sum.inl (x.2.2.1:Int),V.int (M_ x.2.2.1 x.2.2.2)),(Sum.inl (x.2.2.2:Int),V.int (M_ x.2.2.1 x.2.2.2))]:=by unfold gN;rw[Qb9,Qej]
theorem zy(cs:List C4):(gN cs:)=2*(cs:):=by
 induction cs with
 | nil=>rfl
 | cons x r ih=>
  unfold gN at ih ⊢
  rw[Qbu,QD,ih,Qa5]
  show 2+2*(r:)=2*((r:)+1)
  lia
theorem LI{cs:List C4}{x:C4}(nd:(eS (cs++[x])).Nodup):putK (putK (gN cs) (Sum.inl (x.2.2.1:Int)) (V.int (M_ x.2.2.1 x.2.2.2))) (Sum.inl (x.2.2.2:Int)) (V.int (M_ x.2.2.1 x.2.2.2))=gN (cs++[x]):=by
 rw[EY,Qcs]at nd
 obtain ⟨n1,n2,n3⟩:=nd
 have k:∀n:Nat,n∉eS cs->(Sum.inl (n:Int):Key)∉(gN cs).map (·.1):=λn hn z=>by
  rw[iL]at z
  obtain ⟨m,hm,e⟩:=Qa3.mp z
  have:m=n:=by have:=Sum.inl.inj e;lia
  exact hn (this▸hm)
 have h1:x.2.2.1∉eS cs:=λz=>n3 _ z _ (by simp) rfl
 have h2:x.2.2.2∉eS cs:=λz=>n3 _ z _ (by simp) rfl
 have h3:x.2.2.1≠x.2.2.2:=by
  rw[Qbp]at n2
  simpa using n2.1
 rw[yQ _ (zx (k _ h1)),yQ,EZ,VI]
 ·rfl
 ·refine zx λz=>?_
  rw[Qak,Qao]at z
  rcases z with z | z
  ·exact k _ h2 z
  ·have:=Sum.inl.inj (ZI.mp z)
   lia
noncomputable def cR(cs:List C4)(p:Nat):Nat:=(((dI (gN cs) (Sum.inl (p:Int))).map λv=>match v with | .int i=>i.toNat | _=>0).getD 0)
theorem Ip(p q:Nat):M_ p q=(min p q:Nat):=by unfold M_;split<;>lia
theorem Na{cs:List C4}(nd:(eS cs).Nodup){x:C4}(hx:x∈cs):(dI (gN cs) (Sum.inl (x.2.2.1:Int))=some (.int (min x.2.2.1 x.2.2.2:Nat))/\dI (gN cs) (Sum.inl (x.2.2.2:Int))=some (.int (min x.2.2.1 x.2.2.2:Nat)))/\cR cs x.2.2.1=min x.2.2.1 x.2.2.2/\cR cs x.2.2.2=min x.2.2.1 x.2.2.2:=by
 have kn:((gN cs).map (·.1)).Nodup:=by rw[iL];exact Py nd
 have e1:dI (gN cs) (Sum.inl (x.2.2.1:Int))=some (.int (min x.2.2.1 x.2.2.2:Nat)):=by
  rw[<-Ip]
  exact Il kn (Qby.mpr ⟨x,hx,by simp⟩)
 have e2:dI (gN cs) (Sum.inl (x.2.2.2:Int))=some (.int (min x.2.2.1 x.2.2.2:Nat)):=by
  rw[<-Ip]
  exact Il kn (Qby.mpr ⟨x,hx,by simp⟩)
 refine ⟨⟨e1,e2⟩,?_,?_⟩
 ·unfold cR;rw[e1];exact Qab _
 ·unfold cR;rw[e2];exact Qab _
theorem C_(cs:List C4):((rZ cs).flatMap λx=>[x.1,x.2]).Perm (eS cs):=by
 induction cs with
 | nil=>exact .nil
 | cons x r ih=>
  unfold rZ eS at ih ⊢
  rw[Qa0,Qbu,Qbu]
  refine List.Perm.append ?_ ih
  show [min x.2.2.1 x.2.2.2,max x.2.2.1 x.2.2.2].Perm [x.2.2.1,x.2.2.2]
  by_cases z:x.2.2.1<=x.2.2.2
  ·rw[Qbo z,Qd3 z]
  ·rw[Qco (),Qdr ()]
   exact List.Perm.swap _ _ _
theorem Pz{cs:List C4}{P:c0}(nd:(eS cs).Nodup)(hp:P.Perm (eS cs))(up:P.Pairwise (· < ·)):Ih (rZ cs) (cR cs) P:=by
 refine ⟨λx hx=>?_,((C_ cs).nodup_iff).mpr nd,hp.trans (C_ cs).symm,up,λx hx=>?_⟩
 ·obtain ⟨c,hc,rfl⟩:=Qa3.mp hx
  have dE:c.2.2.1≠c.2.2.2:=λz=>by
   have:∀{cs:List C4},(eS cs).Nodup->∀c∈cs,c.2.2.1≠c.2.2.2:=λ{cs}=>by
    induction cs with
    | nil=>exact λ_ _ h=>absurd h Qbb
    | cons a r ih=>
     intro nd c hc
     unfold eS at nd
     rw[Qbu,Qcs]at nd
     rcases Qam.mp hc with e | e
     ·subst e
      have:=nd.1
      rw[Qbp]at this
      simpa using this.1
     ·exact ih nd.2.1 c e
   exact this nd c hc z
  show min c.2.2.1 c.2.2.2<max c.2.2.1 c.2.2.2
  lia
 ·obtain ⟨c,hc,rfl⟩:=Qa3.mp hx
  obtain ⟨_,e1,e2⟩:=Na nd hc
  show cR cs (min c.2.2.1 c.2.2.2)=min c.2.2.1 c.2.2.2/\cR cs (max c.2.2.1 c.2.2.2)=min c.2.2.1 c.2.2.2
  by_cases z:c.2.2.1<=c.2.2.2
  ·rw[Qbo z,Qd3 z]at*
   exact ⟨e1,e2⟩
  ·rw[Qco (),Qdr ()]at*
   exact ⟨e2,e1⟩
theorem Iq{l:c0}{p:Nat}(h:p∈l):l.eraseIdx (l.idxOf p)=l.erase p:=(List.erase_eq_eraseIdx_of_idxOf rfl).symm
theorem behind{l:c0}(up:l.Pairwise (· < ·)){p:Nat}(h:p∈l):(l.erase p:) - l.idxOf p=((l.filter λx=>decide (p<x)):):=by
 induction l with
 | nil=>exact absurd h Qbb
 | cons a r ih=>
  rw[Qdf]at up
  by_cases z:a=p
  ·subst z
   rw[List.erase_cons_head,List.idxOf_cons_self,Qbi (by simp),List.filter_eq_self.mpr (λx hx=>decide_eq_true (up.1 x hx))]
   rfl
  ·have hr:=(Qam.mp h).resolve_left (Ne.symm z)
   rw[List.erase_cons_tail (by simpa using z),O8,if_neg z,Qbi (by
    have:=up.1 p hr
    simp;lia), <-ih up.2 hr,Qa5]
   lia
theorem PB{st:Nat->Nat}{P T R:c0}(h:P.Pairwise (· < ·))(e:P=T++R)(R':c0):(qA st T R').Pairwise (· < ·):=by
 rw[e,Qa6]at h
 exact h.1.filter _
theorem LJ{st:Nat->Nat}{T R:c0}:(qA st T R:)<=T.length:=Qcf _ _
theorem PC{cs:List C4}(nd:(eS cs).Nodup){p:Nat}(hp:p∈eS cs):dI (gN cs) (Sum.inl (p:Int))=some (.int (cR cs p:Nat)):=by
 unfold eS at hp
 obtain ⟨x,hx,e⟩:=Qby.mp hp
 obtain ⟨⟨e1,e2⟩,e3,e4⟩:=Na nd hx
 have e':p=x.2.2.1\/p=x.2.2.2:=by simpa using e
 rcases e' with rfl | rfl
 ·rw[e1,e3]
 ·rw[e2,e4]
theorem Bv{ms:List Int}{l:c0}(nd:l.Nodup)(hp:ms.Perm (l.map λn:Nat=>(n:Int)))(hw:ms.Pairwise λa b=> ¬b<a):∃P:c0,ms.map V.int=ins P/\P.Perm l/\P.Pairwise (· < ·):=by
 have ud:∀m∈ms,∃n:Nat,m=n:=λm hm=>by
  obtain ⟨n,_,rfl⟩:=Qa3.mp (hp.mem_iff.mp hm)
  exact ⟨n,rfl⟩
 have e1:ms=(ms.map Int.toNat).map λn:Nat=>(n:Int):=by
  rw[Qbx]
  refine (Qfx ms).symm.trans (Qdo λm hm=>?_)
  obtain ⟨n,rfl⟩:=ud m hm
  exact (congrArg _ (Qab n)).symm
 have p1:(ms.map Int.toNat).Perm l:=by
  have:=hp.map Int.toNat
  rw[Qbx]at this
  have e2:l.map (Int.toNat ∘ λn:Nat=>(n:Int))=l:=(Qdo λn _=>Qab n).trans (Qfx l)
  rwa [e2]at this
 refine ⟨ms.map Int.toNat,?_,p1,?_⟩
 ·unfold ins
  conv=>lhs;rw[e1]
  rw[Qbx]
  rfl
 ·have VW:(ms.map Int.toNat).Nodup:=p1.nodup_iff.mpr nd
  have hw2:(ms.map Int.toNat).Pairwise λa b=> ¬b<a:=by
   rw[e1,Qch]at hw
   exact hw.imp λh z=>h ()
  refine Qgg (λ{a b} h=>?_) (List.Pairwise.and hw2 VW)
  have:=h.1
  have:=h.2
  lia
theorem Ir{st:Nat->Nat}{P:c0}{k p:Nat}(h:P[k]? =some p):JZ st (P.take k) (P.drop k)=EW st (P.take k) (P.drop (k+1)) p+JZ st (P.take (k+1)) (P.drop (k+1)):=by
 obtain ⟨hk,e⟩:=Og.mp h
 rw[Qbq hk,e]
 show EW st _ _ p+JZ st (P.take k++[p]) _=_
 rw[take_snoc h]
theorem US{n k:Nat}(h:k<n):seqIndex? (k:Int) n=some k:=by
 unfold seqIndex?
 simp
 lia
theorem vV:∀(l:c0) (k:Nat),(ins l).eraseIdx k=ins (l.eraseIdx k)
 | [],_=>rfl
 | _::_,0=>rfl
 | a::l,k+1=>congrArg (V.int (a:Nat):: ·) (vV l k)
noncomputable def cst(y w:c0)(i:Int):Int:=zj y (aA (rd w (i - 1))) (rd w i)
theorem Iu(y w:c0)(p k:Int):eB y (sq w p) k=cst y w (p+k):=by
 unfold eB cst sq
 rw[show p+(k - 1)=p+k - 1 by lia]
noncomputable def Ae(n:Int):Nat:=(48+n).toNat
noncomputable def stx(y w:c0):c0:=(List.range (w:)).map λi:Nat=>Ae (cst y w i)
theorem dA(y w:c0):(stx y w:)=(w:):=by unfold stx;rw[kb,Qe4]
theorem PD:∀n:Nat,n<10->dg n=[48+n]:=⋯
noncomputable def ke(lg n:Nat):Nat:=3+lg / max n 1
noncomputable def oH(y u:c0)(lg r:Nat):List (Str×V):=eF "backward" (.str (S (eK (ke lg (u:)) (stx y u).reverse))) (eF "onward" (.str (S (eK (ke lg (u:)) (stx y u)))) (eF "leads" (.bl (leads u)) (eF "root_size" (.int r) (eF "size" (.int (u:)) []))))
noncomputable def Nb(t w:Addr)(p:Nat):List (Str×V):=eF "place" (.int p) (eF "way" (.ref w) (eF "strand" (.ref t) []))
section
variable{y u:c0}{lg r:Nat}{t w:Addr}{p:Nat}
theorem Dc:(oH y u lg r).lookup ("size":Str)=some (.int (u:)):=by
 unfold oH
 rw[aL,if_neg ⋯,aL,if_neg ⋯,aL,if_neg ⋯,aL,if_neg ⋯,aL,if_pos rfl]
theorem qB:(oH y u lg r).lookup ("root_size":Str)=some (.int r):=by
 unfold oH
 rw[aL,if_neg ⋯,aL,if_neg ⋯,aL,if_neg ⋯,aL,if_pos rfl]
theorem Iv:(oH y u lg r).lookup ("leads":Str)=some (.bl (leads u)):=by
 unfold oH
 rw[aL,if_neg ⋯,aL,if_neg ⋯,aL,if_pos rfl]
theorem UT:(oH y u lg r).lookup ("onward":Str)=some (.str (S (eK (ke lg (u:)) (stx y u)))):=by
 unfold oH
 rw[aL,if_neg ⋯,aL,if_pos rfl]
theorem LK:(oH y u lg r).lookup ("backward":Str)=some (.str (S (eK (ke lg (u:)) (stx y u).reverse))):=by
 unfold oH
 rw[aL,if_pos rfl]
theorem ni:(Nb t w p).lookup ("place":Str)=some (.int p):=by unfold Nb;rw[aL,if_pos rfl]
theorem oI:(Nb t w p).lookup ("way":Str)=some (.ref w):=by unfold Nb;rw[aL,if_neg ⋯,aL,if_pos rfl]
theorem vW:(Nb t w p).lookup ("strand":Str)=some (.ref t):=by unfold Nb;rw[aL,if_neg ⋯,aL,if_neg ⋯,aL,if_pos rfl]
end
theorem dv(f:Str)(v:V):∀fs:List (Str×V),(eF f v fs:)<=(fs:)+1
 | []=>ZH _
 |(g,x)::r=>by
  unfold eF
  split
  ·exact Qc6 _
  ·exact Qde (dv f v r)
structure Sn where
 a:Addr
 t:Addr
 wy:Addr
 c:Nat
 i:Nat
 u:c0
 p:Nat
 r:Nat
structure E1(H:Hp)(C a:Addr)(y u:c0)(lg r:Nat):Prop where
 ob:∃dx,H a=some (.ins C dx (oH y u lg r))
 sw:SW y u
 uz:(u:)<=lg
 lz:lg<=1000
 rt:bS u r
theorem E1.same{H H':Hp}{C a:Addr}{y u:c0}{lg r:Nat}(h:E1 H C a y u lg r)(s:aq H H'):E1 H' C a y u lg r:=by
 obtain ⟨dx,e⟩:=h.ob
 exact ⟨⟨dx,s _ _ e⟩,h.sw,h.uz,h.lz,h.rt⟩
structure kf(H:Hp)(CW CS:Addr)(y:c0)(lg:Nat)(s:Sn):Prop where
 ob:∃dx,H s.a=some (.ins CS dx (Nb s.t s.wy s.p))
 st:H s.t=some (.tup [.int s.c,.int s.i])
 wy:E1 H CW s.wy y s.u lg s.r
 pz:s.p<(s.u:)
theorem kf.same{H H':Hp}{CW CS:Addr}{y:c0}{lg:Nat}{s:Sn}(h:kf H CW CS y lg s)(sm:aq H H'):kf H' CW CS y lg s:=by
 obtain ⟨dx,e⟩:=h.ob
 exact ⟨⟨dx,sm _ _ e⟩,sm _ _ h.st,h.wy.same sm,h.pz⟩
noncomputable def Fz(y:c0)(lg:Nat)(s:Sn):c0:=(eK (ke lg (s.u:)) (stx y s.u)).drop (s.p+1)
noncomputable def FA(y:c0)(lg:Nat)(s:Sn):c0:=(eK (ke lg (s.u:)) (stx y s.u).reverse).drop ((s.u:) - 1 - s.p)
noncomputable def seg(l:c0)(x z:Nat):c0:=(l.drop x).take (z - x)
inductive gY(p_:c7)(vs:List V)(H:Hp)(Q:VK)(cK:XK):Prop
 | mk (y w:c0) (i:Nat) (_:vs=[.str (S y),.str (S w),.int i]) (_:Yd y) (_:(y:)<=8) (_:SW y w) (_:(w:)<=1000) (_:i<(w:)) (_:∀(n:Nat) H',cst y w i=n->n<8->aq H H'->Q (.int n) H'):gY p_ vs H Q cK
def jk(p_:c7):Sp:=gY p_
theorem oJ{K:c7}{vs:List V}{H:Hp}{Q:VK}{E:XK}(h:jk K vs H Q E):(vs:)=3:=by obtain ⟨_,_,_,rfl,_⟩:=h;rfl
inductive r6(p_:c7)(C:Addr)(vs:List V)(H:Hp)(Q:VK)(cK:XK):Prop
 | mk (x dx:Addr) (y w:c0) (lg:Nat) (_:vs=[.ref x,.str (S y),.str (S w),.int lg]) (_:H x=some (.ins C dx [])) (_:Yd y) (_:(y:)<=8) (_:SW y w) (_:(w:)<=lg) (_:lg<=1000) (_:∀(r:Nat) H',bS w r->H' x=some (.ins C dx (oH y w lg r))->bj x H H'->Q .eX H'):r6 p_ C vs H Q cK
def zA(p_:c7)(C:Addr):Sp:=r6 p_ C
theorem E2{K:c7}{C:Addr}{vs:List V}{H:Hp}{Q:VK}{E:XK}(h:zA K C vs H Q E):(vs:)=4:=by obtain ⟨_,_,_,_,_,rfl,_⟩:=h;rfl
inductive pJ(p_:c7)(C:Addr)(vs:List V)(H:Hp)(Q:VK)(cK:XK):Prop
 | mk (x dx t w:Addr) (p:Nat) (_:vs=[.ref x,.ref t,.ref w,.int p]) (_:H x=some (.ins C dx [])) (_:∀H',H' x=some (.ins C dx (Nb t w p))->bj x H H'->Q .eX H'):pJ p_ C vs H Q cK
def vX(p_:c7)(C:Addr):Sp:=pJ p_ C
theorem Bw{K:c7}{C:Addr}{vs:List V}{H:Hp}{Q:VK}{E:XK}(h:vX K C vs H Q E):(vs:)=4:=by obtain ⟨_,_,_,_,_,rfl,_⟩:=h;rfl
inductive iM(p_:c7)(CW CS:Addr)(vs:List V)(H:Hp)(Q:VK)(cK:XK):Prop
 | mk (y:c0) (lg:Nat) (s:Sn) (x z:Nat) (_:vs=[.ref s.a,.int x,.int z]) (_:(y:)<=8) (_:kf H CW CS y lg s) (_:x<=z) (_:Q (.str (S (seg (Fz y lg s) x z))) H):iM p_ CW CS vs H Q cK
def gH(p_:c7)(CW CS:Addr):Sp:=iM p_ CW CS
theorem qa{K:c7}{CW CS:Addr}{vs:List V}{H:Hp}{Q:VK}{E:XK}(h:gH K CW CS vs H Q E):(vs:)=3:=by obtain ⟨_,_,_,_,_,rfl,_⟩:=h;rfl
inductive jl(p_:c7)(CW CS:Addr)(vs:List V)(H:Hp)(Q:VK)(cK:XK):Prop
 | mk (y:c0) (lg:Nat) (s:Sn) (x z:Nat) (_:vs=[.ref s.a,.int x,.int z]) (_:(y:)<=8) (_:kf H CW CS y lg s) (_:x<=z) (_:Q (.str (S (seg (FA y lg s) x z))) H):jl p_ CW CS vs H Q cK
def hV(p_:c7)(CW CS:Addr):Sp:=jl p_ CW CS
theorem r9{K:c7}{CW CS:Addr}{vs:List V}{H:Hp}{Q:VK}{E:XK}(h:hV K CW CS vs H Q E):(vs:)=3:=by obtain ⟨_,_,_,_,_,rfl,_⟩:=h;rfl
theorem LL{l:c0}{a b:Nat}(h:a<=b):cut l (some (a:Int)) (some (b:Int))=(l.drop a).take (b - a):=by
 unfold cut
 rw[HT.eJ,HT.eJ]
 by_cases z:a<=(l:)
 ·rw[Qbo z]
  by_cases z2:b<=(l:)
  ·rw[Qbo z2]
  ·rw[Qco (),Qae (by rw[Qaz];lia),Qae (by rw[Qaz];lia)]
 ·rw[Qco (),Qco (),Qbn (ZH _),Qbn ()]
  simp
theorem Dd{l:c0}{f x z:Nat}(h:x<=z):cut l (some ((f:Int)+x)) (some ((f:Int)+z))=seg (l.drop f) x z:=by
 rw[show (f:Int)+x=((f+x:Nat):Int) by lia,show (f:Int)+z=((f+z:Nat):Int) by lia,LL ()]
 unfold seg
 rw[List.drop_drop,show f+z - (f+x)=z - x by lia]
theorem nj{lg n:Nat}(h:1<=n):n*ke lg n<=3*n+lg/\2*n+lg<n*ke lg n:=by
 unfold ke
 rw[Qdr h,Qgp]
 have h1:=Qeb lg n
 have h2:=Qdz lg (show 0<n by lia)
 lia
theorem vY(m:Nat)(l:c0):(eK m l:)=(l:)*m:=by
 unfold eK
 rw[List.length_flatten,List.map_replicate,List.sum_replicate_nat,Qb5]
theorem SW.bQ{y w:c0}(hy:Yd y)(h:SW y w):My.bQ w=cN w:=by unfold My.bQ;rw[h.core hy]
theorem xK(l:c0)(x z j:Nat):(seg l x z)[j]? =if j<z - x then l[x+j]? else none:=by
 unfold seg
 rw[Qf8]
 split
 ·rw[Qbj]
 ·rfl
theorem Bx{l m:c0}{x z:Nat}:seg l x (x+z)=seg m x (x+z)↔ ∀k,x<=k->k<x+z->l[k]? =m[k]?:= by
 constructor
 ·intro h k h1 h2
  have:=congrArg (·[k - x]?) h
  simp only[xK]at this
  rwa [if_pos (),if_pos (),show x+(k - x)=k by lia]at this
 ·intro h
  refine Qdx λj=>?_
  rw[xK,xK]
  by_cases z':j<x+z - x
  ·rw[if_pos z',if_pos z',h (x+j) () ()]
  ·rw[if_neg z',if_neg z']
noncomputable def PH(b:Bool)(y:c0)(lg:Nat)(s:Sn):c0:=if b=true then Fz y lg s else FA y lg s
def kg(l m:c0)(n:Nat):Prop:=∀k,k<n->l[k]? =m[k]?
inductive nk(p_:c7)(CW CS fa fb:Addr)(vs:List V)(H:Hp)(Q:VK)(cK:XK):Prop
 | mk (y:c0) (lg:Nat) (s t:Sn) (b:Bool) (en:Nat) (_:vs=[.ref (if b=true then fa else fb),.ref s.a,.ref t.a,.int en]) (_:(y:)<=8) (_:kf H CW CS y lg s) (_:kf H CW CS y lg t) (_:en<=100000) (_:∀m:Nat,kg (PH b y lg s) (PH b y lg t) m->(en<=m\/(PH b y lg s)[m]?≠ (PH b y lg t)[m]?)->Q (.int m) H):nk p_ CW CS fa fb vs H Q cK
def r_(p_:c7)(CW CS fa fb:Addr):Sp:=nk p_ CW CS fa fb
theorem zB{K:c7}{CW CS fa fb:Addr}{vs:List V}{H:Hp}{Q:VK}{E:XK}(h:r_ K CW CS fa fb vs H Q E):(vs:)=4:=by obtain ⟨_,_,_,_,_,_,rfl,_⟩:=h;rfl
theorem kg.more{l m:c0}{x z:Nat}(h:kg l m x)(e:seg l x (x+z)=seg m x (x+z)):kg l m (x+z):=λk hk=>by
 by_cases q:k<x
 ·exact h k q
 ·exact Bx.mp e k () hk
theorem Iw{l m:c0}{x z:Nat}(h:seg l x (x+z)≠seg m x (x+z)):∃k,x<=k/\k<x+z/\l[k]?≠ m[k]?:= Classical.byContradiction λq=>h (Bx.mpr λk h1 h2=>Classical.byContradiction λr=>q ⟨k,h1,h2,r⟩)
noncomputable def By(s:Sn):Int×Int:=if leads s.u=true then ((s.c:Int),((s.p / s.r:Nat):Int)) else (-(s.c:Int), -((((s.u:) - 1 - s.p) / s.r:Nat):Int))
inductive nq(p_:c7)(CW CS:Addr)(vs:List V)(H:Hp)(Q:VK)(cK:XK):Prop
 | mk (y:c0) (lg:Nat) (s:Sn) (_:vs=[.ref s.a]) (_:kf H CW CS y lg s) (_:∀p H',H p=none->H' p=some (.tup [.int (By s).1,.int (By s).2])->aq H H'->Q (.ref p) H'):nq p_ CW CS vs H Q cK
def sd(p_:c7)(CW CS:Addr):Sp:=nq p_ CW CS
theorem zC{K:c7}{CW CS:Addr}{vs:List V}{H:Hp}{Q:VK}{E:XK}(h:sd K CW CS vs H Q E):(vs:)=1:=by obtain ⟨_,_,_,rfl,_⟩:=h;rfl
noncomputable def kY(y:c0)(M:Nat)(s:Sn):List Int:=kk y (sq s.u s.p) 0 M++[(By s).1,(By s).2]
inductive iN(p_:c7)(CW CS:Addr)(vs:List V)(H:Hp)(Q:VK)(cK:XK):Prop
 | mk (y:c0) (lg:Nat) (s t:Sn) (_:vs=[.ref s.a,.ref t.a]) (_:Yd y) (_:(y:)<=8) (_:kf H CW CS y lg s) (_:kf H CW CS y lg t) (_:rd s.u s.p=rd t.u t.p) (_:∀H',aq H H'->Q (.bl (bP (kY y (2*lg) s) (kY y (2*lg) t))) H'):iN p_ CW CS vs H Q cK
def kh(p_:c7)(CW CS:Addr):Sp:=iN p_ CW CS
theorem qb{K:c7}{CW CS:Addr}{vs:List V}{H:Hp}{Q:VK}{E:XK}(h:kh K CW CS vs H Q E):(vs:)=2:=by obtain ⟨_,_,_,_,rfl,_⟩:=h;rfl
theorem ki{u:c0}{r:Nat}(hn:u≠[])(h:bS u r):1<=r/\r<=(u:):=by
 rcases h with ⟨z,_⟩ | ⟨h1,h2,_⟩
 ·exact absurd z hn
 ·exact ⟨h1,h2⟩
theorem De{y u:c0}{i:Nat}(h:i<(u:)):(stx y u)[i]? =some (Ae (cst y u i)):=by
 unfold stx
 rw[Qas,List.getElem?_range h]
 rfl
theorem xM(y u:c0)(i:Int):cst y u (i%(u:))=cst y u i:=by
 unfold cst
 rw[gD, <-gD u (i%(u:) - 1),Qev,Qf0 _ (Int.dvd_refl _), <-Qev,gD]
theorem Iy{y:c0}{lg:Nat}{s:Sn}(hn:s.u≠[]){k:Nat}(h:s.p+1+k<(s.u:)*ke lg (s.u:)):(Fz y lg s)[k]? =some (Ae (eB y (sq s.u s.p) (k+1))):=by
 have hp:=ZJ.mpr hn
 unfold Fz
 rw[Qbj,mZ _ _ _ (by rw[dA,Qb5];exact h),dA,De (Qdz _ hp),Iu,Qgn,xM]
 congr 3
 lia
theorem Iz{y:c0}{lg:Nat}{s:Sn}(hn:s.u≠[])(hp:s.p<(s.u:)){k:Nat}(h:(s.u:) - 1 - s.p+k<(s.u:)*ke lg (s.u:)):(FA y lg s)[k]? =some (Ae (eB y (sq s.u s.p) (-(k:Int)))):=by
 have hl:=ZJ.mpr hn
 unfold FA
 rw[Qbj,mZ _ _ _ (by rw[Qat,dA,Qb5];exact h),Qat,dA]
 have hm:=Qdz ((s.u:) - 1 - s.p+k) hl
 rw[Qdw (by rw[dA];exact hm),dA,De (),Iu]
 congr 2
 rw[<-xM y s.u (s.p+ -(k:Int)), <-xM y s.u (((s.u:) - 1 - ((s.u:) - 1 - s.p+k)%(s.u:):Nat):Int)]
 congr 1
 have e:(((s.u:) - 1 - ((s.u:) - 1 - s.p+k)%(s.u:):Nat):Int)=((s.u:):Int) - 1 - (((s.u:):Int) - 1 - s.p+k)%(s.u:):=by
  have:((((s.u:) - 1 - s.p+k)%(s.u:):Nat):Int)=(((s.u:):Int) - 1 - s.p+k)%(s.u:):=by
   rw[Qgn];congr 1;lia
  lia
 rw[e,Qev,Qf0 _ (Int.dvd_refl _), <-Qev]
 congr 1
 lia
theorem vZ{lg:Nat}{s:Sn}{en:Nat}(hp:s.p<(s.u:))(he:en<=(s.u:)+lg):s.p+1+en<(s.u:)*ke lg (s.u:)+1/\(s.u:) - 1 - s.p+en<(s.u:)*ke lg (s.u:):=by
 have:=(nj (lg:=lg) (n:=(s.u:)) ()).2
 lia
theorem Df{u:c0}{r:Nat}(hn:u≠[])(h:bS u r)(p k:Int):sq u p (k+r)=sq u p k:=by
 have:=((j_ hn h).2 (p+r) p).mpr (by rw[show p+(r:Int) - p=r by lia,Int.emod_self])
 have e:=this k
 unfold sq at e ⊢
 rw[show p+(k+r)=p+r+k by lia]
 exact e
theorem Dg{a b:Int}(ha:0<=a)(hb:0<=b)(h:Ae a=Ae b):a=b:=by unfold Ae at h;lia
theorem IA{a b:Int}(ha:0<=a)(hb:0<=b):Ae a<Ae b↔a<b:=by unfold Ae;lia
theorem Dh{y:c0}{f:Int->Nat}(hy:Yd y)(h:jg y f)(k:Int):0<=eB y f k:=by
 have:=(fk (hy.cl _ (h.cu (k - 1))) (h.cu k) (Ne.symm (h.red k))).1
 unfold eB
 lia
theorem Di{l m:c0}{en a n:Nat}(ha:a<en)(h1:∀k,k<a->l[k]? =m[k]?)(h2:l[a]?≠ m[a]?)(g1:kg l m n)(g2:en<=n\/l[n]?≠ m[n]?):n=a:=by
 by_cases z:a<n
 ·exact absurd (g1 a z) h2
 ·by_cases z2:n<a
  ·rcases g2 with g2 | g2
   ·lia
   ·exact absurd (h1 n z2) g2
  ·lia
theorem Dj{l m:c0}{en n:Nat}(h1:∀k,k<en->l[k]? =m[k]?)(g2:en<=n\/l[n]?≠ m[n]?):en<=n:=by
 rcases g2 with g2 | g2
 ·exact g2
 ·exact Classical.byContradiction λz=>g2 (h1 n ())
theorem qC{l:c0}{a x:Nat}(h:l[a]? =some x):seg l a (a+1)=[x]:=by
 obtain ⟨ha,e⟩:=Og.mp h
 unfold seg
 rw[Qbq ha,e,show a+1 - a=1 by lia]
 rfl
theorem IC(x z:Nat):decide ([x]<[z])=decide (x<z):=decide_eq_decide.mpr ⟨λh=>(Qft.mp h).elim id λq=>absurd q.2 (Qdg _),λh=>Qft.mpr (.inl h)⟩
theorem LM(a b c d:Int):JQ a b c d=bP [a,b] [c,d]:=by
 unfold JQ
 show _=if a=c then (if b=d then bP [] [] else decide (b<d)) else decide (a<c)
 by_cases z:a=c
 ·rw[if_pos z,if_pos z]
  by_cases q:b=d
  ·rw[if_pos q,q];simp[bP]
  ·rw[if_neg q]
 ·rw[if_neg z,if_neg z]
noncomputable def Dk(ss:List Sn):List V:=ss.map λs=>V.ref s.a
theorem nu(ss:List Sn):(Dk ss:)=(ss:):=by unfold Dk;rw[kb]
theorem PJ{ss:List Sn}{i:Nat}{s:Sn}(h:ss[i]? =some s):(Dk ss)[i]? =some (V.ref s.a):=by unfold Dk;rw[Qas,h];rfl
theorem LN{ss:List Sn}{i:Nat}{x:V}(h:(Dk ss)[i]? =some x):∃s,ss[i]? =some s/\x=V.ref s.a:=by
 unfold Dk at h
 rw[Qas]at h
 cases e:ss[i]? with
 | none=>rw[e]at h;cases h
 | some p=>rw[e]at h;cases h;exact ⟨p,rfl,rfl⟩
def E3(y:c0)(M:Nat)(ss:List Sn):Prop:=ss.Pairwise λs t=>bP (kY y M t) (kY y M s)=false
inductive gZ(p_:c7)(CW CS:Addr)(vs:List V)(H:Hp)(Q:VK)(cK:XK):Prop
 | mk (y:c0) (lg:Nat) (a:Addr) (ss:List Sn) (t:Sn) (_:vs=[.ref a,.ref t.a]) (_:Yd y) (_:(y:)<=8) (_:H a=some (.lst (Dk ss))) (_:(∀s∈ss,kf H CW CS y lg s/\rd s.u s.p=rd t.u t.p)) (_:kf H CW CS y lg t) (_:E3 y (2*lg) ss) (_:(ss:)<=100000) (_:∀(n:Nat) H',n<=(ss:)->(∀k s,ss[k]? =some s->k<n->bP (kY y (2*lg) s) (kY y (2*lg) t)=true)->(∀k s,ss[k]? =some s->n<=k->bP (kY y (2*lg) s) (kY y (2*lg) t)=false)->aq H H'->Q (.int n) H'):gZ p_ CW CS vs H Q cK
def jm(p_:c7)(CW CS:Addr):Sp:=gZ p_ CW CS
theorem oK{K:c7}{CW CS:Addr}{vs:List V}{H:Hp}{Q:VK}{E:XK}(h:jm K CW CS vs H Q E):(vs:)=2:=by obtain ⟨_,_,_,_,_,rfl,_⟩:=h;rfl
structure Wp where
 t:Addr
 a:Addr
 b:Addr
 r:Nat
 q:Nat
noncomputable def J0(l:List Wp):List V:=l.map λp=>V.ref p.t
theorem ID{l:List Wp}{i:Nat}{p:Wp}(h:l[i]? =some p):(J0 l)[i]? =some (V.ref p.t):=by unfold J0;rw[Qas,h];rfl
theorem IE(l:List Wp)(p:Wp):J0 l++[V.ref p.t]=J0 (l++[p]):=by unfold J0;rw[Qak];rfl
structure xN(H:Hp)(C:Addr)(y:c0)(lg:Nat)(w:c0)(p:Wp):Prop where
 tp:H p.t=some (.tup [.ref p.a,.ref p.b])
 on:E1 H C p.a y w lg p.r
 bk:E1 H C p.b y (dU w) lg p.q
theorem xN.same{H H':Hp}{C:Addr}{y:c0}{lg:Nat}{w:c0}{p:Wp}(h:xN H C y lg w p)(s:aq H H'):xN H' C y lg w p:=⟨s _ _ h.tp,h.on.same s,h.bk.same s⟩
structure Bz(w:c0)(c i:Nat)(s:Sn):Prop where
 ec:s.c=c
 ei:s.i=i
 eu:s.u=if aC (rd w i)=true then w else dU w
 ep:s.p=if aC (rd w i)=true then i else (w:) - 1 - i
inductive iO(p_:c7)(CW CS:Addr)(vs:List V)(H:Hp)(Q:VK)(cK:XK):Prop
 | mk (y:c0) (lg:Nat) (wt vt st:Addr) (w:c0) (ws:List c0) (nP:List Wp) (p:Wp) (c i:Nat) (_:vs=[.ref wt,.ref vt,.ref st]) (_:Yd y) (_:H wt=some (.tup (bV ws))) (_:H vt=some (.lst (J0 nP))) (_:H st=some (.tup [.int c,.int i])) (_:ws[c]? =some w) (_:nP[c]? =some p) (_:xN H CW y lg w p) (_:i<(w:)) (_:∀(s:Sn) H',Bz w c i s->s.t=st->kf H' CW CS y lg s->H s.a=none->aq H H'->Q (.ref s.a) H'):iO p_ CW CS vs H Q cK
def kj(p_:c7)(CW CS:Addr):Sp:=iO p_ CW CS
theorem qc{K:c7}{CW CS:Addr}{vs:List V}{H:Hp}{Q:VK}{E:XK}(h:kj K CW CS vs H Q E):(vs:)=3:=by obtain ⟨_,_,_,_,_,_,_,_,_,_,_,rfl,_⟩:=h;rfl
inductive jn(p_:c7)(vs:List V)(H:Hp)(Q:VK)(cK:XK):Prop
 | mk (wt:Addr) (ws:List c0) (band:Nat) (_:vs=[.ref wt,.str (S [band])]) (_:H wt=some (.tup (bV ws))) (_:(ws:)<=4) (_:(∀w∈ws,(∀c∈w,Lt c)/\(w:)<=12)) (_:band∈br) (_:∀(q:Addr) (ps:List Pr) (H':Hp),H q=none->H' q=some (.lst (vP ps))->(∀p∈ps,p9 H' p)->ps.map Pr.pair=du band ws (ws:)->aq H H'->Q (.ref q) H'):jn p_ vs H Q cK
def lI(p_:c7):Sp:=jn p_
theorem se{K:c7}{vs:List V}{H:Hp}{Q:VK}{E:XK}(h:lI K vs H Q E):(vs:)=2:=by obtain ⟨c,_,_,rfl,_⟩:=h;rfl
open Classical in
noncomputable def V2(w:c0):Nat:=if h:∃s,bS w s then choose h else 0
theorem sh{w:c0}(hn:w≠[]):bS w (V2 w):=by
 have h:=CO hn
 unfold V2
 rw[dif_pos h]
 exact Classical.choose_spec h
theorem IF{y w:c0}{r q:Nat}(hy:Yd y)(hw:SW y w)(h:bS w r)(g:bS (dU w) q):q=r:=by
 have hn:=hw.ne
 have ht:=rT hn
 have p1:=ki hn h
 have p2:=ki ht g
 have key:∀d:Nat,(d:Int)%(r:Int)=0↔(d:Int)%(q:Int)=0:=λd=>by
  have a:=(j_ hn h).2 d 0
  have b:=(j_ ht g).2 d 0
  rw[Qd6]at a b
  rw[<-a, <-b]
  constructor
  ·intro p k
   rw[kL hn,kL hn]
   unfold bq
   have:=p (-1 - (d:Int) - k)
   unfold sq at this
   have e1:rd w (-1 - (0:Int) - k)=rd w ((d:Int)+(-1 - (d:Int) - k)):=by congr 1;lia
   have e2:rd w (-1 - (d:Int) - k)=rd w (0+(-1 - (d:Int) - k)):=by congr 1;lia
   rw[e1,e2,this]
  ·intro p k
   have e:∀x:Int,rd w x=aA (rd (dU w) (-1 - x)):=λx=>by
    rw[ou hn,show -1 - (-1 - x)=x by lia,aO (hy.lt _ (hw.rd _))]
   unfold sq
   rw[e,e]
   have:=p (-1 - (d:Int) - k)
   unfold sq at this
   rw[show -1 - ((d:Int)+k)=0+(-1 - (d:Int) - k) by lia, <-this]
   congr 2
   lia
 have a:=(key r).mp (Int.emod_self)
 have b:=(key q).mpr (Int.emod_self)
 have a':r%q=0:=by
  have:((r%q:Nat):Int)=0:=by rw[<-a];rfl
  lia
 have b':q%r=0:=by
  have:((q%r:Nat):Int)=0:=by rw[<-b];rfl
  lia
 exact Qds (Nat.le_of_dvd () (Nat.dvd_of_mod_eq_zero a')) (Nat.le_of_dvd () (Nat.dvd_of_mod_eq_zero b'))
noncomputable def FC(ws:List c0)(c:Nat):Bool:=leads (ws|||c)
noncomputable def FD(ws:List c0)(c:Nat):Nat:=V2 (ws|||c)
noncomputable def V3(y:c0)(ws:List c0)(M:Nat)(x:Nat×Nat):List Int:=eO y ws (FC ws) (FD ws) M x.1 x.2
theorem Bz.line{y w:c0}{c i:Nat}{s:Sn}(hy:Yd y)(hw:SW y w)(hi:i<(w:))(h:Bz w c i s):sq s.u s.p=nM w i:=by
 rw[h.eu,h.ep]
 unfold nM
 by_cases z:aC (rd w i)=true
 ·rw[if_pos z,if_pos z,if_pos z]
 ·rw[if_neg z,if_neg z,if_neg z, <-O9 hw.ne,show (((w:) - 1 - i:Nat):Int)=((w:):Int) - 1 - i by lia]
theorem Dm{y w:c0}{ws:List c0}{c i M:Nat}{s:Sn}(hy:Yd y)(hw:SW y w)(hi:i<(w:))(e:(ws|||c)=w)(h:Bz w c i s)(rt:bS s.u s.r):kY y M s=V3 y ws M (c,i):=by
 unfold kY V3 eO
 rw[h.line hy hw hi]
 simp only[e]
 congr 1
 unfold By JX FC FD
 rw[e,h.ec]
 have tX:=sh hw.ne
 by_cases z:aC (rd w i)=true
 ·have eu:s.u=w:=by rw[h.eu,if_pos z]
  have ep:s.p=i:=by rw[h.ep,if_pos z]
  rw[eu]at rt ⊢
  have er:=Hw hw.ne rt tX
  rw[er,ep,z]
  by_cases l:leads w=true
  ·rw[if_pos l,l];rfl
  ·rw[if_neg l,if_neg (λq=>l q.symm)];rfl
 ·have eu:s.u=dU w:=by rw[h.eu,if_neg z]
  have ep:s.p=(w:) - 1 - i:=by rw[h.ep,if_neg z]
  rw[eu]at rt ⊢
  have er:=IF hy hw tX rt
  have z':aC (rd w i)=false:=by simpa using z
  rw[er,ep,z',vO hy hw,bZ]
  have ei:(w:) - 1 - ((w:) - 1 - i)=i:=by lia
  rw[ei]
  cases leads w<;>rfl
theorem Bz.band{y w:c0}{c i band:Nat}{s:Sn}(hy:Yd y)(hw:SW y w)(hi:i<(w:))(hb:band∈br)(ho:Bo band (rd w i)=true)(h:Bz w c i s):rd s.u s.p=band:=by
 have lb:Lt band:= .inl hb
 have lo:aC band=true:=by rw[kJ lb];exact decide_eq_true hb
 have Ka:rd w i=band\/rd w i=aA band:=by
  unfold Bo at ho
  simpa using ho
 rw[h.eu,h.ep]
 rcases Ka with e | e
 ·rw[if_pos (by rw[e];exact lo),if_pos (by rw[e];exact lo)]
  exact e
 ·have z: ¬aC (rd w i)=true:=by rw[e,gk _ lb.mem,lo];decide
  rw[if_neg z,if_neg z,ou hw.ne,show -1 - (((w:) - 1 - i:Nat):Int)=i - (w:) by lia,A_,e,aO lb]
def E4(y:c0)(ws:List c0)(M:Nat)(l:List (Nat×Nat)):Prop:=l.Pairwise λs t=>bP (V3 y ws M t) (V3 y ws M s)=false
inductive jo(p_:c7)(CW CS:Addr)(vs:List V)(H:Hp)(Q:VK)(cK:XK):Prop
 | mk (y:c0) (lg:Nat) (wt vt:Addr) (ws:List c0) (nP:List Wp) (band:Nat) (_:vs=[.ref wt,.ref vt,.str (S [band])]) (_:Yd y) (_:(y:)<=8) (_:H wt=some (.tup (bV ws))) (_:(ws:)<=4) (_:(∀w∈ws,SW y w/\(w:)<=12)) (_:band∈br) (_:H vt=some (.lst (J0 nP))) (_:(nP:)=(ws:)) (_:(∀(c:Nat) (w:c0) (p:Wp),ws[c]? =some w->nP[c]? =some p->xN H CW y lg w p)) (_:∀(q:Addr) (ps:List Pr) (H':Hp),H q=none->H' q=some (.tup (vP ps))->(∀p∈ps,p9 H' p)->(ps.map Pr.pair).Perm (du band ws (ws:))->E4 y ws (2*lg) (ps.map Pr.pair)->aq H H'->Q (.ref q) H'):jo p_ CW CS vs H Q cK
def lJ(p_:c7)(CW CS:Addr):Sp:=jo p_ CW CS
theorem so{K:c7}{CW CS:Addr}{vs:List V}{H:Hp}{Q:VK}{E:XK}(h:lJ K CW CS vs H Q E):(vs:)=3:=by obtain ⟨_,_,_,_,_,_,_,rfl,_⟩:=h;rfl
theorem PK{y:c0}{M:Nat}{ss:List Sn}{t:Sn}{n:Nat}(up:E3 y M ss)(h1:∀k s,ss[k]? =some s->k<n->bP (kY y M s) (kY y M t)=true)(h2:∀k s,ss[k]? =some s->n<=k->bP (kY y M s) (kY y M t)=false):E3 y M (ss.take n++t::ss.drop n):=by
 have tk:∀s∈ss.take n,bP (kY y M s) (kY y M t)=true:=λs hs=>by
  obtain ⟨k,hk,e⟩:=Qdp hs
  rw[Qaa]at hk
  rw[List.getElem_take]at e
  exact h1 k s (by rw[<-e];exact Of ()) ()
 have dr:∀s∈ss.drop n,bP (kY y M s) (kY y M t)=false:=λs hs=>by
  obtain ⟨k,hk,e⟩:=Qdp hs
  rw[Qaz]at hk
  rw[List.getElem_drop]at e
  exact h2 (n+k) s (by rw[<-e];exact Of ()) ()
 have Ys:E3 y M (ss.take n++ss.drop n):=by rw[Qal];exact up
 unfold E3 at Ys ⊢
 rw[Qa6]at Ys ⊢
 rw[Qdf]
 obtain ⟨u1,u2,u3⟩:=Ys
 refine ⟨u1,⟨λs hs=>dr s hs,u2⟩,λa ha b hb=>?_⟩
 rcases Qam.mp hb with e | e
 ·rw[e];exact (ow (tk a ha)).1
 ·exact u3 a ha b e
theorem km(band:Nat){ws:List c0}(hw:∀w∈ws,(w:)<=12):∀n,n<=(ws:)->(du band ws n:)<=12*n
 | 0,_=>Qar _
 | n+1,h=>by
  have ih:=km band hw n ()
  unfold du at ih ⊢
  rw[Qca,Qb9,QD,Qej]
  have h1:(jh band n (ws|||n) ((ws|||n):):)<=12:=by
   unfold jh
   rw[kb]
   refine Qbh (Qcf _ _) ?_
   rw[Qe4]
   exact hw _ (getD_in ())
  lia
theorem BA{band:Nat}{ws:List c0}{x:Nat×Nat}(h:x∈du band ws (ws:)):∃w,ws[x.1]? =some w/\x.2<(w:)/\Bo band (rd w x.2)=true:=by
 unfold du at h
 obtain ⟨c,hc,h⟩:=Qby.mp h
 have tV:=Qcd.mp hc
 unfold jh at h
 obtain ⟨i,hi,e⟩:=Qa3.mp h
 obtain ⟨i1,i2⟩:=Qa4.mp hi
 have i1':=Qcd.mp i1
 subst e
 refine ⟨(ws|||c),by rw[Qaj,Of tV];rfl,i1',?_⟩
 have:(ws|||c).getD i 0=rd (ws|||c) i:=by
  have:=oq i1'
  rw[Qaj,this];rfl
 show Bo band (rd (ws|||c) i)=true
 rw[<-this]
 exact i2
theorem v3{H H':Hp}{x dx C:Addr}(nx:H x=none)(PL:H dx=none)(sm:bj x (L2.upd (L2.upd H dx (.own x)) x (.ins C dx [])) H'):aq H H':=λa o e=>by
 refine sm a o ?_ (ay e nx)
 rw[az (ay e nx),az (ay e PL)]
 exact e
noncomputable def LO(ws:List c0):List Int:=ws.map λw=>((w:):Int)
theorem LP(l:List Int):∀a:Int,a<=l.foldl (λx y=>if y>x then y else x) a/\(∀x∈l,x<=l.foldl (λx y=>if y>x then y else x) a)/\(l.foldl (λx y=>if y>x then y else x) a=a\/l.foldl (λx y=>if y>x then y else x) a∈l):=by
 induction l with
 | nil=>exact λa=>⟨Int.le_refl _,λ_ h=>absurd h Qbb,.inl rfl⟩
 | cons b r ih=>
  intro a
  rw[Qdi]
  obtain ⟨h1,h2,h3⟩:=ih (if b>a then b else a)
  have h4:a<=(if b>a then b else a)/\b<=(if b>a then b else a):=by split<;>lia
  refine ⟨(),λx hx=>?_,?_⟩
  ·rcases Qam.mp hx with e | e
   ·rw[e];lia
   ·exact h2 x e
  ·rcases h3 with e | e
   ·rw[e]
    split
    ·exact .inr Qai
    ·exact .inl rfl
   ·exact .inr (Qaf _ e)
theorem BB{ws:List c0}(h:∀w∈ws,(w:)<=12):∃lg:Nat,O2 0 (LO ws)=lg/\lg<=12/\∀w∈ws,(w:)<=lg:=by
 cases ws with
 | nil=>exact ⟨0,rfl,∅,λ_ h=>absurd h Qbb⟩
 | cons v r=>
  obtain ⟨h1,h2,h3⟩:=LP (LO r) ((v:):Int)
  have e:O2 0 (LO (v::r))=(LO r).foldl (λx y=>if y>x then y else x) ((v:):Int):=rfl
  rw[e]
  generalize (LO r).foldl (λx y=>if y>x then y else x) ((v:):Int)=m at*
  have hm:∃w∈v::r,m=((w:):Int):=by
   rcases h3 with q | q
   ·exact ⟨v,Qai,q⟩
   ·obtain ⟨w,hw,e'⟩:=Qa3.mp q
    exact ⟨w,Qaf _ hw,e'.symm⟩
  obtain ⟨w,hw,rfl⟩:=hm
  refine ⟨(w:),rfl,h w hw,λu hu=>?_⟩
  rcases Qam.mp hu with q | q
  ·rw[q];lia
  ·have:=h2 _ (Qa3.mpr ⟨u,q,rfl⟩)
   lia
def xO(y:c0)(ws:List c0)(os:List Od):Prop:=∃M,(∀w∈ws,∀v∈ws,(w:)+(v:)<=M)/\rV y ws os/\∀o∈os,E4 y ws M (o.ps.map Pr.pair)
inductive v8(p_:c7)(vs:List V)(H:Hp)(Q:VK)(cK:XK):Prop
 | mk (y:c0) (wt:Addr) (ws:List c0) (_:vs=[.str (S y),.ref wt]) (_:Yd y) (_:(y:)<=8) (_:H wt=some (.tup (bV ws))) (_:(ws:)<=4) (_:(∀w∈ws,SW y w/\(w:)<=12)) (_:∀(dr:Addr) (os:List Od) (H':Hp),Bm H' dr ws os->xO y ws os->aq H H'->Q (.ref dr) H'):v8 p_ vs H Q cK
def Dp(p_:c7):Sp:=v8 p_
theorem IG{K:c7}{vs:List V}{H:Hp}{Q:VK}{E:XK}(h:Dp K vs H Q E):(vs:)=2:=by obtain ⟨_,_,_,rfl,_⟩:=h;rfl
theorem LQ{H:Hp}{C:Addr}{y:c0}{lg i:Nat}{ws:List c0}{nP:List Wp}{w:c0}{p:Wp}(hl:(nP:)=i)(h:∀(c:Nat) (w:c0) (p:Wp),ws[c]? =some w->nP[c]? =some p->xN H C y lg w p)(hw:ws[i]? =some w)(hp:xN H C y lg w p):∀(c:Nat) (w:c0) (q:Wp),ws[c]? =some w->(nP++[p])[c]? =some q->xN H C y lg w q:=λc v q hv hq=>by
 by_cases z:c<(nP:)
 ·rw[Qbg z]at hq
  exact h c v q hv hq
 ·rw[Qav ()]at hq
  have:c=i:=by
   have:=(Og.mp hq).1
   simp at this
   lia
  subst this
  rw[hl,Qdl]at hq
  rw[hw]at hv
  cases hv
  cases hq
  exact hp
theorem zD{y:c0}(h:Yd y){b:Nat}(hb:b∈fS y):b∈br:=by
 obtain ⟨h1,h2⟩:=Qa4.mp ((kM y).mem_iff.mp hb)
 rw[kJ (h.lt b h1)]at h2
 exact of_decide_eq_true h2
theorem IH{y:c0}{ws:List c0}{L:Nat->Bool}{r:Nat->Nat}{M:Nat}(h:dM y ws L r M){c i d j x:Nat}(hc:c<(ws:))(hd:d<(ws:))(hi:i<((ws|||c):))(hj:j<((ws|||d):))(dE:(c,i)≠(d,j))(hx:aC x=true)(e1:rd (ws|||c) i=x\/rd (ws|||c) i=aA x)(e2:rd (ws|||d) j=x\/rd (ws|||d) j=aA x):
  bP (eO y ws L r M c i) (eO y ws L r M d j)=true\/bP (eO y ws L r M d j) (eO y ws L r M c i)=true:=by
 have hw:=h.sw c hc
 have hv:=h.sw d hd
 have hy:=h.yd
 have lw:=ZJ.mpr hw.ne
 have lv:=ZJ.mpr hv.ne
 have xs:∀{w:c0} {k:Nat},SW y w->(rd w k=x\/rd w k=aA x)->Lt x:=λ{w k} hw e=>by
  have h9:97<=x/\x<=122:=by unfold aC at hx;simpa using hx
  refine .inl ?_
  have:∀k,k<26->k+97∈br:=by decide
  have h8:=this (x - 97) ()
  rwa [show x - 97+97=x by lia]at h8
 have lx:=xs hw e1
 have Bd:∀{w:c0} {k:Nat},SW y w->Dl w k (nM w k)/\((rd w k=x\/rd w k=aA x)->nM w k 0=x)/\(nM w k=if aC (rd w k)=true then sq w k else bq w k):=λ{w k} hw=>by
  refine ⟨?_,λe=>?_,rfl⟩
  ·unfold nM
   by_cases z:aC (rd w k)=true
   ·rw[if_pos z];exact .inl rfl
   ·rw[if_neg z];exact .inr rfl
  ·unfold nM
   rcases e with e | e
   ·rw[if_pos (by rw[e];exact hx)]
    unfold sq
    rw[Qci];exact e
   ·have z: ¬aC (rd w k)=true:=by rw[e,gk _ lx.mem,hx];decide
    rw[if_neg z]
    unfold bq
    rw[Qd6,e,aO lx]
 obtain ⟨df,f0,fe⟩:=Bd (k:=i) hw
 obtain ⟨dg',g0,ge⟩:=Bd (k:=j) hv
 have lf:=df.Bd hy hw
 have lg:=dg'.Bd hy hv
 by_cases par:∀k,nM (ws|||c) i k=nM (ws|||d) j k
 ·unfold eO
  rw[show nM (ws|||c) i=nM (ws|||d) j from funext par,fM,fM]
  by_cases cd:c=d
  ·subst cd
   have ij:i≠j:=λz=>dE (by rw[z])
   obtain ⟨h1,h2⟩:=h.root hc
   have hr:=h.rp c hc
   -- one and JK same way
   have low:aC (rd (ws|||c) i)=aC (rd (ws|||c) j):=by
    by_cases z1:aC (rd (ws|||c) i)=true<;>by_cases z2:aC (rd (ws|||c) j)=true
    ·rw[z1,z2]
    ·exfalso
     rw[fe,ge,if_pos z1,if_neg z2]at par
     exact xv hy hw _ _ par
    ·exfalso
     rw[fe,ge,if_neg z1,if_pos z2]at par
     exact xv hy hw _ _ λk=>(par k).symm
    ·rw[show aC (rd (ws|||c) i)=false by simpa using z1,show aC (rd (ws|||c) j)=false by simpa using z2]
   have ps:cD (ws|||c) (ws|||c) i j:=by
    by_cases z1:aC (rd (ws|||c) i)=true
    ·have z2:aC (rd (ws|||c) j)=true:=by rw[<-low];exact z1
     rw[fe,ge,if_pos z1,if_pos z2]at par
     exact par
    ·have z2: ¬aC (rd (ws|||c) j)=true:=by rw[<-low];exact z1
     rw[fe,ge,if_neg z1,if_neg z2]at par
     have e:=congrArg kX (funext par)
     rw[<-eW, <-eW,pF hy (bD hw _),pF hy (bD hw _)]at e
     exact λk=>congrFun e k
   have q:=(h.rr c hc _ _).mp ps
   have Lz:i%r c=j%r c:=by
    have q2:=Int.emod_eq_emod_iff_emod_sub_eq_zero.mpr q
    have q3:((i%r c:Nat):Int)=((j%r c:Nat):Int):=q2
    lia
   have k1:= @Bi ((ws|||c):) _ (r c) c i j (L c) (aC (rd (ws|||c) j)) hr h1 hi hj Lz ij
   have k2:= @Bi ((ws|||c):) _ (r c) c j i (L c) (aC (rd (ws|||c) j)) hr h1 hj hi Lz.symm (Ne.symm ij)
   rw[low]
   by_cases z:aC (rd (ws|||c) j)=true
   ·rw[if_pos z]at k1 k2
    rw[k1,k2,decide_eq_true_iff,decide_eq_true_iff]
    lia
   ·rw[if_neg z]at k1 k2
    rw[k1,k2,decide_eq_true_iff,decide_eq_true_iff]
    lia
  ·have hl:L d=if aC (rd (ws|||d) j)=aC (rd (ws|||c) i) then L c else !L c:=by
    by_cases z1:aC (rd (ws|||c) i)=true<;>by_cases z2:aC (rd (ws|||d) j)=true
    ·rw[z1,z2,if_pos rfl]
     rw[fe,ge,if_pos z1,if_pos z2]at par
     exact (h.l1 c d i j hc hd par).symm
    ·rw[if_neg (λq=>z2 (q.trans z1))]
     rw[fe,ge,if_pos z1,if_neg z2]at par
     exact h.l2 c d i j hc hd par
    ·rw[if_neg (λq=>z1 (q.symm.trans z2))]
     rw[fe,ge,if_neg z1,if_pos z2]at par
     have:=h.l2 d c j i hd hc λk=>(par k).symm
     rw[this,Bool.not_not]
    ·rw[show aC (rd (ws|||c) i)=false by simpa using z1,show aC (rd (ws|||d) j)=false by simpa using z2,if_pos rfl]
     rw[fe,ge,if_neg z1,if_neg z2]at par
     have e:=congrArg kX (funext par)
     rw[<-eW, <-eW,pF hy (bD hw _),pF hy (bD hv _)]at e
     exact (h.l1 c d i j hc hd λk=>congrFun e k).symm
   have D1:= @xB ((ws|||c):) ((ws|||d):) (r c) (r d) c d i j (L c) (aC (rd (ws|||c) i)) (aC (rd (ws|||d) j)) cd
   have B7:L c=if aC (rd (ws|||c) i)=aC (rd (ws|||d) j) then L d else !L d:=by
    rw[hl]
    cases aC (rd (ws|||d) j)<;>cases aC (rd (ws|||c) i)<;>cases L c<;>rfl
   have Ig:= @xB ((ws|||d):) ((ws|||c):) (r d) (r c) d c j i (L d) (aC (rd (ws|||d) j)) (aC (rd (ws|||c) i)) (Ne.symm cd)
   rw[<-hl]at D1
   rw[<-B7]at Ig
   rw[D1,Ig,hl]
   cases aC (rd (ws|||d) j)<;>cases aC (rd (ws|||c) i)<;>cases L c<;>simp<;>lia
 ·have xC:∃k,nM (ws|||c) i k≠nM (ws|||d) j k:=Classical.byContradiction λz=>par λk=>Classical.byContradiction λw=>z ⟨k,w⟩
  have UM:∀{w:c0} {k:Nat} (z:Int),nM w k (z+(w:))=nM w k z:=λ{w k} z=>by
   unfold nM
   split
   ·exact cb w k z
   ·exact mi w k z
  obtain ⟨a,b,rn,ha,hb⟩:=dJ lw lv UM UM ((f0 e1).trans (g0 e2).symm) xC
  have big:=h.big c d hc hd
  unfold eO
  rw[oz hy lf lg rn _ _ M 0 (Qar _) (Qar _) () (),oz hy lg lf rn.sy _ _ M 0 (Qar _) (Qar _) () (),HJ hy lf lg (rn.pE a () ()) rn.hi,Bk hy lf lg (rn.pE _ () ()) rn.lo]
  by_cases z:a<=b
  ·rw[if_pos z,if_pos z]
   cases jC y (nM (ws|||c) i) (nM (ws|||d) j) a
   ·exact .inr rfl
   ·exact .inl rfl
  ·rw[if_neg z,if_neg z]
   cases jF y (nM (ws|||c) i) (nM (ws|||d) j) b
   ·exact .inr rfl
   ·exact .inl rfl
theorem LR{y:c0}{ws:List c0}{os:List Od}{M:Nat}(hy:Yd y)(hw:∀w∈ws,SW y w)(hM:∀w∈ws,∀v∈ws,(w:)+(v:)<=M)(ok:rV y ws os)(up:∀o∈os,E4 y ws M (o.ps.map Pr.pair)):dM y ws (FC ws) (FD ws) M/\Bt y ws (FC ws) (FD ws) M os:=by
 have hs:∀c,c<(ws:)->SW y (ws|||c):=λc hc=>hw _ (getD_in hc)
 have hC:dM y ws (FC ws) (FD ws) M:=HQ hy hs (λc hc=>sh (hs c hc).ne) λc d hc hd=>hM _ (getD_in hc) _ (getD_in hd)
 refine ⟨hC,ok,λo ho=>?_⟩
 obtain ⟨j,hj,ej⟩:=Qdp ho
 have QK:j<(fS y:):=by rw[<-ok.1];exact hj
 have pm:=ok.2 j o (fS y)[j] (by rw[Of hj,ej]) (Of QK)
 have bs:=zD hy (Qb0 QK)
 have lb:Lt (fS y)[j]:= .inl bs
 have lo:aC (fS y)[j]=true:=by rw[kJ lb];exact decide_eq_true bs
 have nd:(o.ps.map Pr.pair).Nodup:=pm.nodup_iff.mpr (vS _ _ _)
 have u:=up o ho
 unfold E4 at u
 refine Qe9 (λ{s t} h1 h2 h=>?_) (List.Pairwise.and u nd)
 obtain ⟨w1,e1,i1,o1⟩:=BA (pm.mem_iff.mp h1)
 obtain ⟨w2,e2,i2,o2⟩:=BA (pm.mem_iff.mp h2)
 have c1:=(Og.mp e1).1
 have c2:=(Og.mp e2).1
 have g1:ws.getD s.1 []=w1:=by rw[Qaj,e1];rfl
 have g2:ws.getD t.1 []=w2:=by rw[Qaj,e2];rfl
 have on:∀{l:Nat},Bo (fS y)[j] l=true->l=(fS y)[j]\/l=aA (fS y)[j]:=λ{l} q=>by unfold Bo at q;simpa using q
 have tr:=IH hC (c:=s.1) (i:=s.2) (d:=t.1) (j:=t.2) c1 c2 (by rw[g1];exact i1) (by rw[g2];exact i2) h.2 lo (by rw[g1];exact on o1) (by rw[g2];exact on o2)
 rcases tr with q | q
 ·exact q
 ·have hf:bP (eO y ws (FC ws) (FD ws) M t.1 t.2) (eO y ws (FC ws) (FD ws) M s.1 s.2)=false:=h.1
  rw[hf]at q
  cases q
theorem PM{y:c0}{ws:List c0}{os:List Od}(hy:Yd y)(hw:∀w∈ws,SW y w)(h:xO y ws os):∃M,dM y ws (FC ws) (FD ws) M/\Bt y ws (FC ws) (FD ws) M os:=by
 obtain ⟨M,hM,ok,up⟩:=h
 exact ⟨M,LR hy hw hM ok up⟩
theorem II{α β:Type}(p:β->β->Bool)(f:α->β):∀l:List α,cl p (l.map f)=cl (λa b=>p (f a) (f b)) l
 | []=>rfl
 | a::l=>by
  show ((l.map f).filter (p (f a)):)+cl p (l.map f)=((l.filter λb=>p (f a) (f b)):)+cl _ l
  rw[II p f l,List.filter_map,kb]
  rfl
theorem zE{α:Type}{p q:α->α->Bool}:∀{l:List α},l.Pairwise (λa b=>p a b=q a b)->cl p l=cl q l
 | [],_=>rfl
 | a::l,h=>by
  rw[Qdf]at h
  show (l.filter (p a):)+cl p l=(l.filter (q a):)+cl q l
  rw[zE h.2,Qgd λb hb=>h.1 b hb]
theorem IJ{a b a' b':Nat}(h1:a<b)(h2:a'<b')(h4:a<a')(h5:b≠a')(h6:b≠b'):(nN (a,b) (a',b')||nN (a',b') (a,b))=p8 a b a' b':=by
 have g4:=Qd4 h4 h2
 rw[HD (Qaw h1) (Qaw h4) (Qaw g4) h5 h6]
 unfold nN
 rw[decide_eq_true h4,decide_eq_true g4,decide_eq_false (Qeu h4),kK (Ne.symm h6)]
 have k:decide (b'<b)=true->decide (a'<b)=true:=λq=>decide_eq_true (Qd4 h2 (of_decide_eq_true q))
 revert k
 generalize decide (a'<b)=p
 generalize decide (b'<b)=q
 revert p q
 decide
theorem xP{a b a' b':Nat}(h1:a<b)(h2:a'<b')(h3:a≠a')(h4:a≠b')(h5:b≠a')(h6:b≠b'):(nN (a,b) (a',b')||nN (a',b') (a,b))=p8 a b a' b':=by
 rcases Qdq h3 with q | q
 ·exact IJ h1 h2 q h5 h6
 ·rw[Bool.or_comm,IJ h2 h1 q (Ne.symm h4) (Ne.symm h6),m7 (Qaw h2) (Qaw h1) (Ne.symm h3) (Ne.symm h5) (Ne.symm h4) (Ne.symm h6)]
theorem LS{a b a' b':Nat}(h1:a≠b)(h2:a'≠b')(h3:a≠a')(h4:a≠b')(h5:b≠a')(h6:b≠b'):(nN (min a b,max a b) (min a' b',max a' b')||nN (min a' b',max a' b') (min a b,max a b))=p8 a b a' b':=by
 rcases Qdq h1 with q | q<;>rcases Qdq h2 with r | r
 ·rw[Qbo (Qbt q),Qd3 (Qbt q),Qbo (Qbt r),Qd3 (Qbt r)]
  exact xP q r h3 h4 h5 h6
 ·rw[Qbo (Qbt q),Qd3 (Qbt q),Qco (Qbt r),Qdr (Qbt r),j5]
  exact xP q r h4 h3 h6 h5
 ·rw[Qco (Qbt q),Qdr (Qbt q),Qbo (Qbt r),Qd3 (Qbt r), <-zl h1 h2 h3 h4 h5 h6]
  exact xP q r h5 h6 h3 h4
 ·rw[Qco (Qbt q),Qdr (Qbt q),Qco (Qbt r),Qdr (Qbt r), <-zl h1 h2 h3 h4 h5 h6,j5]
  exact xP q r h6 h5 h4 h3
section
variable{y:c0}{ws:List c0}{L:Nat->Bool}{r:Nat->Nat}{M:Nat}
noncomputable def qd(ps:List (Nat×Nat×Nat))(c i e:Nat):Nat:=ps.idxOf (c,i,e)
theorem LU{n i:Nat}(h:i<n):j9 n ((i:Int) - 1)=Ad n i/\j9 n (i:Int)=i:=by
 have h1:=eQ (n:=n) () ((i:Int) - 1)
 have h2:=eQ (n:=n) () (i:Int)
 rw[C7 h]at h1
 rw[Qbd () ()]at h2
 lia
theorem ny{ps:List (Nat×Nat×Nat)}{c i:Nat}(hi:i<((ws|||c):)):(lH ps c (ws|||c) i).2.2.1=pI ws (qd ps) c ((i:Int) - 1)/\(lH ps c (ws|||c) i).2.2.2=pO ws (qd ps) c i:=by
 obtain ⟨e1,e2⟩:=LU hi
 have g:∀k,k<((ws|||c):)->(ws|||c).getD k 0=rd (ws|||c) k:=λk hk=>by
  rw[Qaj,oq hk];rfl
 have dE:(ws|||c)≠[]:=λz=>by rw[z]at hi;exact absurd hi (Qfo _)
 unfold lH pI pO qd
 rw[e1,e2,g _ (Bs hi),g _ hi]
 refine ⟨?_,rfl⟩
 have:rd (ws|||c) (Ad ((ws|||c):) i:Nat)=rd (ws|||c) ((i:Int) - 1):=by rw[<-e1,b7 dE]
 rw[this]
theorem oM(ps:List (Nat×Nat×Nat))(ws:List c0):∀n,gU ps ws n=(zi ws n).map λx=>lH ps x.1 (ws.getD x.1 []) x.2
 | 0=>rfl
 | n+1=>by
  have ih:=oM ps ws n
  unfold gU at ih ⊢
  unfold zi
  rw[Qca,Qb9,ih,Qak,Qej,Qbx]
  rfl
theorem IK(ws:List c0)(n:Nat):(zi ws n).Nodup:=(CM n).imp λ{a b} h z=>by
 rw[z]at h
 unfold JQ at h
 simp at h
theorem IL{R:Nat->Nat->Nat->Nat->Bool}(h:dM y ws L r M){ps:List (Nat×Nat×Nat)}(hN:gF y ws R (qd ps))(l:List (Nat×Nat))(hl:l.Nodup)(ud:∀x∈l,x.1<(ws:)/\x.2<(ws.getD x.1 []:)):(eS (l.map λx=>lH ps x.1 (ws.getD x.1 []) x.2)).Nodup:=by
 unfold eS
 induction l with
 | nil=>exact List.Pairwise.nil
 | cons x t ih=>
  rw[Qbp]at hl
  rw[Qa0,Qbu,Qcs]
  obtain ⟨x1,x2⟩:=ud x Qai
  have ex:=ny (ps:=ps) (ws:=ws) (c:=x.1) x2
  refine ⟨?_,ih hl.2 λz hz=>ud z (Qaf _ hz),λa ha b hb e=>?_⟩
  ·rw[ex.1,ex.2,Qbp]
   exact ⟨by simpa using (eR h hN x1 x1 x2 x2).1,by simp⟩
  ·obtain ⟨c4,hc4,M3⟩:=Qby.mp hb
   obtain ⟨z,hz,rfl⟩:=Qa3.mp hc4
   obtain ⟨z1,z2⟩:=ud z (Qaf _ hz)
   have ez:=ny (ps:=ps) (ws:=ws) (c:=z.1) z2
   have dE:(x.1,x.2)≠(z.1,z.2):=λq=>hl.1 (by
    have:x=z:=Prod.ext (Prod.mk.inj q).1 (Prod.mk.inj q).2
    rw[this];exact hz)
   have n1:=eR h hN x1 z1 x2 z2
   have n2:=eR h hN z1 x1 z2 x2
   rw[ex.1,ex.2]at ha
   rw[ez.1,ez.2]at M3
   have ha':a=pI ws (qd ps) x.1 ((x.2:Int) - 1)\/a=pO ws (qd ps) x.1 x.2:=by simpa using ha
   have yl:b=pI ws (qd ps) z.1 ((z.2:Int) - 1)\/b=pO ws (qd ps) z.1 z.2:=by simpa using M3
   rw[e]at ha'
   rcases ha' with p | p<;>rcases yl with q | q<;>rw[p]at q
   ·exact (n1.2 dE).1 q
   ·exact n1.1 q
   ·exact n2.1 q.symm
   ·exact (n1.2 dE).2 q
theorem IM{R:Nat->Nat->Nat->Nat->Bool}(h:dM y ws L r M){ps:List (Nat×Nat×Nat)}(hN:gF y ws R (qd ps))(l:List (Nat×Nat))(hl:l.Nodup)(ud:∀x∈l,x.1<(ws:)/\x.2<(ws.getD x.1 []:)):cl (λx z=>nN x z||nN z x) (rZ (l.map λx=>lH ps x.1 (ws.getD x.1 []) x.2))=cl (QJ ws (qd ps)) l:=by
 unfold rZ
 rw[Qbx,II]
 refine zE (Qe9 (λ{a b} ha hb Ac=>?_) hl)
 obtain ⟨a1,a2⟩:=ud a ha
 obtain ⟨b1,b2⟩:=ud b hb
 have ea:=ny (ps:=ps) (ws:=ws) (c:=a.1) a2
 have eb:=ny (ps:=ps) (ws:=ws) (c:=b.1) b2
 have dE:(a.1,a.2)≠(b.1,b.2):=Ac
 have n1:=eR h hN a1 b1 a2 b2
 have n2:=eR h hN b1 a1 b2 a2
 have n3:=eR h hN a1 a1 a2 a2
 have n4:=eR h hN b1 b1 b2 b2
 show (nN (min _ _,max _ _) (min _ _,max _ _)||nN (min _ _,max _ _) (min _ _,max _ _))=QJ ws (qd ps) a b
 rw[ea.1,ea.2,eb.1,eb.2,LS n3.1 n4.1 (n1.2 dE).1 n1.1 (Ne.symm n2.1) (n1.2 dE).2]
 rfl
end
noncomputable def kr(w:c0):Int:=(((w:) / V2 w:Nat):Int)
noncomputable def oN(y w:c0):Int:=SS y w w+2*(kr w - 1)
noncomputable def IQ(y:c0)(ws:List c0):Int:=sm (ws:) (λc=>oN y (ws.getD c.toNat []))+2*vL (ws:) (λc d=>SS y (ws.getD c.toNat []) (ws.getD d.toNat []))
theorem PN(h:Int->Int)(n:Nat):2*sm n h=sm n λi=>2*h i:=by
 rw[show (λi=>2*h i)=λi=>h i+h i from funext λi=>Int.two_mul _,rS,Int.two_mul]
theorem PQ{y:c0}{ws:List c0}{M:Nat}{N:Nat->Nat->Nat->Nat}(h:dM y ws (FC ws) (FD ws) M)(hN:Lies y ws (FC ws) (FD ws) M N):2*(cl (QJ ws N) (places ws):Int)=IQ y ws:=by
 unfold places IQ
 rw[HM,Int.mul_add,PN]
 congr 1
 ·refine aW λc hc=>?_
  rw[Qab]
  have a:=HI h hN hc
  rw[M8 h.yd (h.sw c hc) (h.sw c hc)]at a
  rw[show vL ((ws|||c):) (λi j=>one (QJ ws N (c,i.toNat) (c,j.toNat)=true))=vL ((ws|||c):) (λi j=>one (iS (pO ws N c) (pI ws N c) (pO ws N c) (pI ws N c) i j=true)) from oA λi j _ _=>by
   unfold QJ
   rw[Qab,Qab],a]
  rfl
 ·congr 1
  refine oA λc d pR hd=>?_
  rw[Qab,Qab, <-M8 h.yd (h.sw c (Qd4 pR hd)) (h.sw d hd), <-ER h hN (c:=c) (d:=d) (Qd4 pR hd) hd (Qaw pR)]
  exact ck λi j _ _=>by
   unfold QJ
   rw[Qab,Qab]
theorem E5{y:c0}{ws:List c0}{os:List Od}(hy:Yd y)(hw:∀w∈ws,SW y w)(h:xO y ws os):(eS (vT y ws os)).Nodup/\2*(cl (λx z=>nN x z||nN z x) (rZ (vT y ws os)):Int)=IQ y ws:=by
 obtain ⟨M,hC,hT⟩:=PM hy hw h
 have hN:Lies y ws (FC ws) (FD ws) M (qd (mF y os)):=lies_of hy hC.sw hT
 have ud:∀x∈places ws,x.1<(ws:)/\x.2<(ws.getD x.1 []:):=λx hx=>xo.mp hx
 unfold vT
 rw[oM]
 refine ⟨IL hC hN _ (IK ws _) ud,?_⟩
 rw[IM hC hN _ (IK ws _) ud]
 exact PQ hC hN
theorem IS(y w:c0):IQ y [w]=oN y w:=by
 show (0+oN y w)+2*(0+0)=_
 omega
theorem UJ.ok{y:c0}{ws:List c0}(h:UJ y ws):UP y ws:=⟨h.jS,λw hw=>⟨(h.sw w hw).1.cu,(h.sw w hw).2⟩⟩
theorem E6{y:c0}{ws:List c0}{os:List Od}(h:UJ y ws):(vT y ws os:)<=24:=by
 unfold vT
 rw[oM,kb]
 exact h.all
theorem LV{y w:c0}(h:SW y w)(hz:(w:)<=12):UJ y [w]:=⟨λv hv=>by rw[ZI.mp hv];exact ⟨h,hz⟩,by show 1<=4;decide,by
 have:=CP (ws:=[w]) (m:=12) (λv hv=>by rw[ZI.mp hv];exact hz) 1 (ZH _)
 unfold places
 show (zi [w] 1:)<=24
 omega⟩
inductive sr(p_:c7)(vs:List V)(H:Hp)(Q:VK)(cK:XK):Prop
 | mk (y:c0) (wt:Addr) (ws:List c0) (_:vs=[.str (S y),.ref wt]) (_:Yd y) (_:(y:)<=8) (_:UJ y ws) (_:H wt=some (.tup (bV ws))) (_:∀(n:Nat) H',aq H H'->2*(n:Int)=IQ y ws->Q (.int n) H'):sr p_ vs H Q cK
def zF(p_:c7):Sp:=sr p_
theorem E7{K:c7}{vs:List V}{H:Hp}{Q:VK}{E:XK}(h:zF K vs H Q E):(vs:)=2:=by obtain ⟨_,_,_,rfl,_⟩:=h;rfl
inductive zG(p_:c7)(vs:List V)(H:Hp)(Q:VK)(cK:XK):Prop
 | mk (y w:c0) (_:vs=[.str (S y),.str (S w)]) (_:Yd y) (_:(y:)<=8) (_:SW y w) (_:(w:)<=12) (_:∀(n:Nat) H',aq H H'->2*(n:Int)=oN y w->Q (.int n) H'):zG p_ vs H Q cK
def IT(p_:c7):Sp:=zG p_
theorem len_own{K:c7}{vs:List V}{H:Hp}{Q:VK}{E:XK}(h:IT K vs H Q E):(vs:)=2:=by obtain ⟨_,_,rfl,_⟩:=h;rfl
theorem one_le(p:Prop):0<=one p/\one p<=1:=by
 by_cases z:p
 ·rw[gE z];decide
 ·rw[bf z];decide
theorem IU{h:Int->Int}{b:Nat}(k:∀i:Int,0<=h i/\h i<=b):∀n:Nat,0<=sm n h/\sm n h<=(n*b:Nat)
 | 0=>by rw[Qga];exact ⟨Int.le_refl _,Int.le_refl _⟩
 | n+1=>by
  have a:=IU k n
  have c:=k n
  rw[Qd2]
  show 0<=sm n h+h n/\sm n h+h n<=_
  omega
theorem Nd(y w v:c0):0<=SS y w v/\SS y w v<=((w:)*((v:)*3):Nat):=IU (λi=>IU (b:=3) (λj=>by
 unfold bs
 have a:=one_le (ac y (aA (rd w (i - 1))) (rd w i) (aA (rd v (j - 1))) (rd v j)=true)
 have b:=one_le (gm y (sq w i) (sq v j))
 have c:=one_le (gm y (sq w i) (bq v j))
 omega) (v:)) (w:)
noncomputable def kN(y c:c0):Bool:=decide (oN y c=0)
theorem PR{y w:c0}(hw:w≠[]):0<=oN y w/\SS y w w<=oN y w:=by
 have k:1<=kr w:=by
  unfold kr
  have r:=sh hw
  rcases r with g | ⟨h1,h2,_⟩
  ·exact absurd g.1 hw
  ·have:=Qgq h2 h1
   omega
 have s:=(Nd y w w).1
 unfold oN
 omega
theorem IV(a:c0):∀ls:List c0,Kp (.str (S a)) (bV ls)=decide (a∈ls)
 | []=>by simp[Kp,bV]
 | l::ls=>by
  have ih:=IV a ls
  have e:Kp (.str (S a)) (bV (l::ls))=(JN (.str (S l)) (.str (S a))||Kp (.str (S a)) (bV ls)):=rfl
  rw[e,ih]
  have e2:JN (.str (S l)) (.str (S a))=decide (a=l):=by
   show (S l==S a)=_
   by_cases z:a=l
   ·subst z;simp
   ·rw[decide_eq_false z]
    exact beq_eq_false_iff_ne.mpr λq=>z (by rw[<-dc l,q,dc])
  rw[e2]
  by_cases z:a=l
  ·subst z;simp
  ·simp[z]
theorem v9{α:Type}[DecidableEq α](φ:α->α):∀(n:Nat) (l:List α),(l:)<=n->l.Nodup->(∀x∈l,φ x∈l/\φ (φ x)=x/\φ x≠x)->(l:)%2=0
 | _,[],_,_,_=>rfl
 | 0,x::t,h,_,_=>absurd h (by simp)
 | n+1,x::t,h,hn,hp=>by
  obtain ⟨h1,h2,h3⟩:=hp x Qai
  have m1:φ x∈t:=(Qam.mp h1).resolve_left h3
  have Yt:=(Qbp.mp hn).2
  have hxt:=(Qbp.mp hn).1
  have len:(t.erase (φ x):)=(t:) - 1:=List.length_erase_of_mem m1
  have pos:=List.length_pos_of_mem m1
  have ih:=v9 φ n (t.erase (φ x)) (by rw[len];simp at h;omega) (Yt.erase _) λz hz=>by
   have z1:=List.mem_of_mem_erase hz
   have z2:z≠φ x:=λe=>by rw[e]at hz;exact (Yt.mem_erase_iff.mp hz).1 rfl
   have z3:z≠x:=λe=>hxt (by rw[<-e];exact z1)
   obtain ⟨g1,g2,g3⟩:=hp z (Qaf _ z1)
   have k1:φ z≠x:=λe=>z2 (by rw[<-e,g2])
   have k2:φ z≠φ x:=λe=>z3 (by rw[<-g2,e,h2])
   exact ⟨Yt.mem_erase_iff.mpr ⟨k2,(Qam.mp g1).resolve_left k1⟩,g2,g3⟩
  rw[Qa5]
  omega
theorem UU(w:c0)(x:Int):sq w (x%((w:):Int))=sq w x:=by
 funext k
 unfold sq rd
 rw[Qdy]
theorem UW(w:c0)(x:Int):bq w (x%((w:):Int))=bq w x:=by
 funext k
 unfold bq rd
 rw[Qf9,Qdy, <-Qf9]
theorem LW{y w:c0}(hy:Yd y)(hw:SW y w){i j:Int}{a:Nat}(r:Run (sq w i) (bq w j) a 0)(x:jC y (sq w i) (bq w j) a≠jF y (sq w i) (bq w j) 0):gm y (sq w (j - a)) (bq w (i+a))/\Run (sq w (j - a)) (bq w (i+a)) a 0:=by
 have F:∀k,sq w (i+a) k=sq w i (k+a):=λk=>by unfold sq;congr 1;omega
 have G:∀k,bq w (j - a) k=bq w j (k+a):=λk=>by unfold bq;congr 2;omega
 have rE:Run (sq w (i+a)) (bq w (j - a)) 0 a:=⟨λk h1 h2=>by
  rw[F,G]
  exact r.pE _ (by omega) (by omega),by
  rw[F,G,show ((0:Nat):Int)+1+a=a+1 by omega]
  exact r.hi,by
  rw[F,G,show -(a:Int) - 1+a= -((0:Nat):Int) - 1 by omega]
  exact r.lo⟩
 have sF:∀k,eB y (sq w (i+a)) k=eB y (sq w i) (k+a):=λk=>by
  unfold eB
  rw[F,F,show k - 1+(a:Int)=k+a - 1 by omega]
 have sG:∀k,eB y (bq w (j - a)) k=eB y (bq w j) (k+a):=λk=>by
  unfold eB
  rw[G,G,show k - 1+(a:Int)=k+a - 1 by omega]
 have en:enB y (sq w (i+a)) (bq w (j - a)):=⟨a,rE,by
  unfold jC jF
  rw[sF,sG,sF,sG,show ((0:Nat):Int)+1+a=a+1 by omega,show -(a:Int)+a= -((0:Nat):Int) by omega]
  exact x⟩
 have b:=(UN hy (bD hw _) (j6 hy hw _)).mp en
 rw[M9 hy hw,eW]at b
 have rr:=(rE.rv hy (bD hw _) (j6 hy hw _)).sy
 rw[M9 hy hw,eW]at rr
 exact ⟨b,rr⟩
theorem Dq(h:Int->Int)(a:Nat):∀b:Nat,sm (a+b) h=sm a h+sm b λj=>h (a+j)
 | 0=>by show sm a h=sm a h+0;omega
 | b+1=>by
  show sm (a+b) h+h ((a+b:Nat):Int)=sm a h+(sm b (λj=>h (a+j))+h (a+b))
  rw[Dq h a b,Qbs]
  omega
theorem Dr(n:Nat)(f:Nat->Nat->Int):∀m:Nat,sm (m*n) (λc=>f (c.toNat / n) (c.toNat%n))=sm m λi=>sm n λj=>f i.toNat j.toNat
 | 0=>by rw[Qga];rfl
 | m+1=>by
  rw[Qd2,Dq,Dr n f m]
  show _=sm m _+sm n _
  congr 1
  refine aW λj hj=>?_
  rw[show ((m*n:Nat):Int)+(j:Int)=((m*n+j:Nat):Int) by omega,Qab,Qab,Qab,Qb5 m n,Qgr (by omega),Qgi hj,Qfp,Qcw hj]
  rfl
open Classical in
theorem IW(p:Nat->Prop):∀n:Nat,sm n (λc=>one (p c.toNat))=((((List.range n).filter λc=>decide (p c)):):Int)
 | 0=>rfl
 | n+1=>by
  rw[Qca,Qa9,QD,Qbs, <-IW p n]
  show sm n _+one (p ((n:Int)).toNat)=_
  rw[Qab]
  congr 1
  by_cases z:p n
  ·rw[gE z];simp[z]
  ·rw[bf z];simp[z]
theorem IX{y w:c0}(hy:Yd y)(hw:SW y w){i j:Int}{a:Nat}(r:Run (sq w i) (bq w j) a 0)(e:j%((w:):Int)=(i+a)%((w:):Int)):False:=by
 have key:∀k:Nat,k<=a->rd w (i+k)=aA (rd w (i+a - k)):=λk hk=>by
  have h:=r.pE k (by omega) (by omega)
  unfold sq bq at h
  rw[h, <-gD w (j - k), <-gD w (i+a - k)]
  congr 2
  rw[Qev,e, <-Qev]
 rcases Nat.mod_two_eq_zero_or_one a with z | z
 ·have k1:=key (a / 2) (by omega)
  rw[show i+(a:Int) - ((a / 2:Nat):Int)=i+((a / 2:Nat):Int) by omega]at k1
  exact oj (hy.lt _ (hw.rd _)) k1.symm
 ·have k1:=key (a / 2+1) (by omega)
  rw[show i+(a:Int) - ((a / 2+1:Nat):Int)=i+((a / 2+1:Nat):Int) - 1 by omega]at k1
  exact hw.red _ k1
open Classical in
noncomputable def jD(y w:c0)(i j:Int):Nat:=if h:gm y (sq w i) (bq w j) then h.choose else 0
theorem Ds{y w:c0}{i j:Int}(h:gm y (sq w i) (bq w j)):Run (sq w i) (bq w j) (jD y w i j) 0/\jC y (sq w i) (bq w j) (jD y w i j)≠jF y (sq w i) (bq w j) 0:=by
 unfold jD
 rw[dif_pos h]
 exact h.choose_spec
noncomputable def nz(y w:c0)(c:Nat):Nat:=(((c%(w:):Nat) - jD y w (c / (w:):Nat) (c%(w:):Nat):Int)%((w:):Int)).toNat*(w:)+(((c / (w:):Nat)+jD y w (c / (w:):Nat) (c%(w:):Nat):Int)%((w:):Int)).toNat
theorem LX{y w:c0}(hy:Yd y)(hw:SW y w){c:Nat}(hc:c<(w:)*(w:))(h:gm y (sq w (c / (w:):Nat)) (bq w (c%(w:):Nat))):
  nz y w c<(w:)*(w:)/\gm y (sq w (nz y w c / (w:):Nat)) (bq w (nz y w c%(w:):Nat))/\nz y w (nz y w c)=c/\nz y w c≠c:=by
 have hn:=ZJ.mpr hw.ne
 have key:∀(i j:Nat),i<(w:)->j<(w:)->(hb:gm y (sq w i) (bq w j))->∃i' j':Nat,i'<(w:)/\j'<(w:)/\nz y w (i*(w:)+j)=i'*(w:)+j'/\gm y (sq w i') (bq w j')/\((i':Int)=(j - jD y w i j)%((w:):Int))/\((j':Int)=(i+jD y w i j)%((w:):Int))/\jD y w i' j'=jD y w i j/\(i',j')≠(i,j):=λi j hi hj hb=>by
  obtain ⟨r,x⟩:=Ds hb
  obtain ⟨b2,r2⟩:=LW hy hw r x
  have m1:=Qcn ((j:Int) - jD y w i j) (show ((w:):Int)≠0 by omega)
  have m2:=Qcc ((j:Int) - jD y w i j) (show (0:Int)<(w:) by omega)
  have m3:=Qcn ((i:Int)+jD y w i j) (show ((w:):Int)≠0 by omega)
  have m4:=Qcc ((i:Int)+jD y w i j) (show (0:Int)<(w:) by omega)
  obtain ⟨i',ei⟩:∃i':Nat,(i':Int)=((j:Int) - jD y w i j)%((w:):Int):=⟨_,Qet m1⟩
  obtain ⟨j',ej⟩:∃j':Nat,(j':Int)=((i:Int)+jD y w i j)%((w:):Int):=⟨_,Qet m3⟩
  have si:sq w i'=sq w (j - jD y w i j):=by rw[ei,UU]
  have sj:bq w j'=bq w (i+jD y w i j):=by rw[ej,UW]
  rw[<-si, <-sj]at b2 r2
  refine ⟨i',j',by omega,by omega,?_,b2,ei,ej,((Ds b2).1.one r2).1,λe=>?_⟩
  ·unfold nz
   have d1:(i*(w:)+j) / (w:)=i:=by rw[Qb5,Qgr hn,Qgi hj,Qdd]
   have d2:(i*(w:)+j)%(w:)=j:=by rw[Qb5,Qfp,Qcw hj]
   rw[d1,d2, <-ei, <-ej,Qab,Qab]
  ·have e2:j'=j:=congrArg Prod.snd e
   refine IX hy hw r ?_
   rw[<-ej,e2]
   exact Qbd (by omega) (by omega)
 have hi:c / (w:)<(w:):=Nat.div_lt_of_lt_mul hc
 have hj:=Qdz c hn
 have ec:c / (w:)*(w:)+c%(w:)=c:=by rw[Qb5];exact Qeb c (w:)
 obtain ⟨i',j',nL,QK,e,b2,ei,ej,ea,ne⟩:=key _ _ hi hj h
 rw[ec]at e
 have d1:(i'*(w:)+j') / (w:)=i':=by rw[Qb5,Qgr hn,Qgi QK,Qdd]
 have d2:(i'*(w:)+j')%(w:)=j':=by rw[Qb5,Qfp,Qcw QK]
 obtain ⟨i2,j2,Ft,MT,e2,_,ei2,ej2,_,_⟩:=key i' j' nL QK b2
 rw[e]
 refine ⟨?_,by rw[d1,d2];exact b2,?_,λz=>ne ?_⟩
 ·have:i'*(w:)+(w:)<=(w:)*(w:):=by
   rw[<-Qd2];exact Qep _ nL
  omega
 ·rw[e2]
  rw[ea]at ei2 ej2
  generalize jD y w _ _=a at*
  have q1:(i2:Int)=((c / (w:):Nat):Int):=by
   rw[ei2,ej,Qf9,Qdy,show ((c / (w:):Nat):Int)+(a:Int)+ -(a:Int)=((c / (w:):Nat):Int) by omega]
   exact Qbd (Qed _) (Qgh.mpr hi)
  have q2:(j2:Int)=((c%(w:):Nat):Int):=by
   rw[ej2,ei,Qdy,show ((c%(w:):Nat):Int) - (a:Int)+a=((c%(w:):Nat):Int) by omega]
   exact Qbd (Qed _) (Qgh.mpr hj)
  have q3:i2=c / (w:):=Int.ofNat.inj q1
  have q4:j2=c%(w:):=Int.ofNat.inj q2
  rw[q3,q4,ec]
 ·exact Prod.ext (d1.symm.trans (by rw[z])) (d2.symm.trans (by rw[z]))
open Classical in
theorem xQ{y w:c0}(hy:Yd y)(hw:SW y w):∃k:Int,cC (w:) (w:) (λi j=>one (gm y (sq w i) (bq w j)))=2*k:=by
 have e1:cC (w:) (w:) (λi j=>one (gm y (sq w i) (bq w j)))=sm (w:) λi=>sm (w:) λj=>(λi j:Nat=>one (gm y (sq w i) (bq w j))) i.toNat j.toNat:=ck λi j _ _=>by
  show _=one (gm y (sq w ((i:Int).toNat:Nat)) (bq w ((j:Int).toNat:Nat)))
  rw[Qab,Qab]
 rw[e1.trans (Dr (w:) (λi j:Nat=>one (gm y (sq w i) (bq w j))) (w:)).symm]
 rw[IW λc=>gm y (sq w (c / (w:):Nat)) (bq w (c%(w:):Nat))]
 have ev:=v9 (nz y w) _ (ZH _) (Qgj.filter λc=> @decide (gm y (sq w (c / (w:):Nat)) (bq w (c%(w:):Nat))) (Classical.propDecidable _)) (l:=(List.range ((w:)*(w:))).filter λc=> @decide (gm y (sq w (c / (w:):Nat)) (bq w (c%(w:):Nat))) (Classical.propDecidable _)) λx hx=>by
  obtain ⟨h1,h2⟩:=Qa4.mp hx
  obtain ⟨t1,t2,t3,t4⟩:=LX hy hw (Qcd.mp h1) (of_decide_eq_true h2)
  exact ⟨Qa4.mpr ⟨Qcd.mpr t1,decide_eq_true t2⟩,t3,t4⟩
 generalize List.length (List.filter _ _)=n at ev ⊢
 exact ⟨((n / 2:Nat):Int),by omega⟩
theorem LY{y w:c0}(hy:Yd y)(hw:SW y w):∃k:Int,SS y w w=2*k:=by
 obtain ⟨k,hk⟩:=xQ hy hw
 have p1:cC (w:) (w:) (λi j=>one (ac y (aA (rd w (i - 1))) (rd w i) (aA (rd w (j - 1))) (rd w j)=true))=2*vL (w:) (λi j=>one (ac y (aA (rd w (i - 1))) (rd w i) (aA (rd w (j - 1))) (rd w j)=true)):=qy (λi j _ _=>by
  obtain ⟨a1,a2,a3⟩:=UO hy hw i
  obtain ⟨b1,b2,b3⟩:=UO hy hw j
  rw[Pl hy a1 a2 b1 b2 a3 b3]) (λi _=>bf (by unfold ac;rw[if_pos (.inl rfl)];decide))
 have p2:cC (w:) (w:) (λi j=>one (gm y (sq w i) (sq w j)))=2*vL (w:) (λi j=>one (gm y (sq w i) (sq w j))):=qy (λi j _ _=>bg (Pm hy (bD hw _) (bD hw _))) (λi _=>bf λ⟨a,r,_⟩=>r.lo rfl)
 have e:SS y w w=cC (w:) (w:) (λi j=>one (ac y (aA (rd w (i - 1))) (rd w i) (aA (rd w (j - 1))) (rd w j)=true))+cC (w:) (w:) (λi j=>one (gm y (sq w i) (sq w j)))+cC (w:) (w:) (λi j=>one (gm y (sq w i) (bq w j))):=by
  rw[<-dk, <-dk]
  rfl
 rw[e,p1,p2,hk]
 exact ⟨_,(by rw[<-Int.mul_add, <-Int.mul_add])⟩
noncomputable def Nf(y:c0)(f g:Int->Nat)(p n:Nat):Bool:=if f 0=g 0 then gr y (f (gM f g n 0)) (g (gM f g n 0)) (aA (f ((gM f g n 0:Nat) - 1))) else gr y (f 0) (g 0) p
noncomputable def IZ(y w v:c0)(i j:Int):Bool:=if aA (rd w (i - 1))=rd v j\/aA (rd w (i - 1))=aA (rd v (j - 1)) then false else (Nf y (sq w i) (sq v j) (aA (rd w (i - 1))) ((w:)+(v:)) != Nf y (sq w i) (bq v (j - 1)) (aA (rd w (i - 1))) ((w:)+(v:)))
theorem qD{y:c0}{p x b:Nat}(hy:Yd y)(hp:p∈y)(hx:x∈y)(hb:b∈y)(px:p≠x)(pb:p≠b)(xb:x≠b):gr y p b x=!gr y x b p:=by
 rw[CK hy.nd hp hx hb px pb xb,Ht hy.nd hp hx hb px pb xb]
theorem zH{y:c0}{f g:Int->Nat}{n:Nat}(h:f 0≠g 0\/f (-1)=g (-1)):one (0<al y f g n)=0:=bf (by unfold al;rw[if_pos h];exact Qbw 0)
theorem UX{y:c0}{f g:Int->Nat}{n:Nat}(h0:f 0=g 0)(h1:f (-1)≠g (-1))(hd:f (gM f g n 0)≠g (gM f g n 0)):0<al y f g n↔gr y (aA (f (-1))) (aA (g (-1))) (f 0)=gr y (f (gM f g n 0)) (g (gM f g n 0)) (aA (f ((gM f g n 0:Nat) - 1))):=by
 unfold al
 rw[if_neg (λz=>z.elim (λq=>q h0) h1)]
 have hp:0<gM f g n 0:=Qf7 λz=>hd (by rw[z];exact h0)
 by_cases e:gr y (aA (f (-1))) (aA (g (-1))) (f 0)=gr y (f (gM f g n 0)) (g (gM f g n 0)) (aA (f ((gM f g n 0:Nat) - 1)))
 ·rw[if_pos e];exact ⟨λ_=>e,λ_=>hp⟩
 ·rw[if_neg e];exact ⟨λz=>absurd z (Qbw 0),λz=>absurd z e⟩
theorem PU{y w v:c0}(hy:Yd y)(hw:SW y w)(hv:SW y v)(i j:Int):one (IZ y w v i j=true)=one (ac y (aA (rd w (i - 1))) (rd w i) (aA (rd v (j - 1))) (rd v j)=true)+one (gm y (sq w i) (sq v j))+one (gm y (sq w i) (bq v (j - 1))):=by
 have ug:sq w i (-1)≠sq v j (-1)->_:=λz=>d_ (f:=sq w i) (g:=sq v j) hw.ne hv.ne (λk=>cb w i k) (λk=>cb v j k) z
 have uh:sq w i (-1)≠bq v (j - 1) (-1)->_:=λz=>d_ (f:=sq w i) (g:=bq v (j - 1)) hw.ne hv.ne (λk=>cb w i k) (λk=>mi v (j - 1) k) z
 rw[bg (vK (n:=(w:)+(v:)) hy (bD hw i) (bD hv j) ug),bg (vK (n:=(w:)+(v:)) hy (bD hw i) (j6 hy hv (j - 1)) uh)]
 have f0:sq w i 0=rd w i:=by unfold sq;rw[Qci]
 have g0:sq v j 0=rd v j:=by unfold sq;rw[Qci]
 have h0:bq v (j - 1) 0=aA (rd v (j - 1)):=by unfold bq;rw[Qd6]
 have f1:sq w i (-1)=rd w (i - 1):=rfl
 have g1:sq v j (-1)=rd v (j - 1):=rfl
 have h1:bq v (j - 1) (-1)=aA (rd v j):=by unfold bq;rw[show j - 1 - -1=j by omega]
 have lv:=hy.lt _ (hv.rd j)
 have lv1:=hy.lt _ (hv.rd (j - 1))
 have lw1:=hy.lt _ (hw.rd (i - 1))
 have hx:=hw.rd i
 have ha:=hv.rd j
 have hp:=hy.cl _ (hw.rd (i - 1))
 have hb:=hy.cl _ (hv.rd (j - 1))
 have px:aA (rd w (i - 1))≠rd w i:=Ne.symm (hw.red i)
 have ba:aA (rd v (j - 1))≠rd v j:=Ne.symm (hv.red j)
 unfold IZ ac
 by_cases pa:aA (rd w (i - 1))=rd v j
 ·rw[if_pos (.inl pa),if_pos (.inr (.inr (.inl pa.symm))),zH (.inl (by rw[f0,g0, <-pa];exact Ne.symm px)),zH (.inr (by rw[f1,h1, <-pa,aO lw1])),Qci,Qci]
 by_cases pb:aA (rd w (i - 1))=aA (rd v (j - 1))
 ·rw[if_pos (.inr pb),if_pos (.inl pb.symm),zH (.inr (by rw[f1,g1];exact gi lw1 lv1 pb)),zH (.inl (by rw[f0,h0, <-pb];exact Ne.symm px)),Qci,Qci]
 rw[if_neg (λz=>z.elim pa pb)]
 have fg1:sq w i (-1)≠sq v j (-1):=λz=>pb (by rw[f1,g1]at z;rw[z])
 have fh1:sq w i (-1)≠bq v (j - 1) (-1):=λz=>pa (by rw[f1,h1]at z;rw[z,aO lv])
 by_cases xa:rd w i=rd v j
 ·have xb:rd w i≠aA (rd v (j - 1)):=by rw[xa];exact Ne.symm ba
  have fg0:sq w i 0=sq v j 0:=by rw[f0,g0,xa]
  rw[if_pos (.inr (.inr (.inr xa.symm))),zH (g:=bq v (j - 1)) (.inl (by rw[f0,h0];exact xb)),bg (UX fg0 fg1 (ug fg1).2)]
  unfold Nf
  rw[if_pos fg0,if_neg (by rw[f0,h0];exact xb),f0,h0,f1,g1,qD hy hp hx hb px pb xb]
  generalize gr y (rd w i) (aA (rd v (j - 1))) (aA (rd w (i - 1)))=G
  generalize gr y (sq w i _) _ _=A
  rw[bf (p:=false=true) Qan,Qc5,Qci]
  exact bg (by cases G<;>cases A<;>simp)
 by_cases xb:rd w i=aA (rd v (j - 1))
 ·have fh0:sq w i 0=bq v (j - 1) 0:=by rw[f0,h0,xb]
  rw[if_pos (.inr (.inl xb.symm)),zH (g:=sq v j) (.inl (by rw[f0,g0];exact xa)),bg (UX fh0 fh1 (uh fh1).2)]
  unfold Nf
  rw[if_pos fh0,if_neg (by rw[f0,g0];exact xa),f0,g0,f1,h1,aO lv,qD hy hp hx ha px pa xa]
  generalize gr y (rd w i) (rd v j) (aA (rd w (i - 1)))=G
  generalize gr y (sq w i _) _ _=A
  rw[bf (p:=false=true) Qan,Qc5,Qc5]
  exact bg (by cases G<;>cases A<;>simp)
 rw[if_neg (λz=>by rcases z with z | z | z | z;exact pb z.symm;exact xb z.symm;exact pa z.symm;exact xa z.symm),zH (g:=sq v j) (.inl (by rw[f0,g0];exact xa)),zH (g:=bq v (j - 1)) (.inl (by rw[f0,h0];exact xb))]
 unfold Nf
 rw[if_neg (by rw[f0,g0];exact xa),if_neg (by rw[f0,h0];exact xb),f0,g0,h0,qD hy hp hx hb px pb xb,qD hy hp hx ha px pa xa,Qci,Qci]
 generalize gr y (rd w i) (aA (rd v (j - 1))) (aA (rd w (i - 1)))=G
 generalize gr y (rd w i) (rd v j) (aA (rd w (i - 1)))=A
 exact bg (by cases G<;>cases A<;>simp)
theorem LZ{y w v:c0}(hy:Yd y)(hw:SW y w)(hv:SW y v):cC (w:) (v:) (λi j=>one (IZ y w v i j=true))=SS y w v:=by
 rw[show cC (w:) (v:) (λi j=>one (IZ y w v i j=true))=cC (w:) (v:) (λi j=>(one (ac y (aA (rd w (i - 1))) (rd w i) (aA (rd v (j - 1))) (rd v j)=true)+one (gm y (sq w i) (sq v j)))+one (gm y (sq w i) (bq v (j - 1)))) from ck λi j _ _=>PU hy hw hv i j,dk]
 rw[show cC (w:) (v:) (λi j=>one (gm y (sq w i) (bq v (j - 1))))=cC (w:) (v:) (λi j=>one (gm y (sq w i) (bq v j))) from aW λi _=>m8 (h:=λj=>one (gm y (sq w i) (bq v j))) λk=>by rw[xu], <-dk]
 rfl
def ko(H:Hp)(p:Addr)(w:c0)(f:Int->Nat):Prop:=∃i d:Int,H p=some (.tup [.str (S []),.str (S w),.int i,.int d])/\((d=1/\f=sq w i)\/(d= -1/\f=bq w (i - 1)))
theorem ko.same{H H':Hp}{p:Addr}{w:c0}{f:Int->Nat}(h:ko H p w f)(s:aq H H'):ko H' p w f:=by
 obtain ⟨i,d,e,r⟩:=h
 exact ⟨i,d,s p _ e,r⟩
def J1(w:c0):Prop:=w≠[]/\(∀c∈w,Lt c)/\(w:)<=1000
theorem ko.lt{H:Hp}{p:Addr}{w:c0}{f:Int->Nat}(h:ko H p w f)(l:J1 w)(k:Int):Lt (f k):=by
 obtain ⟨i,d,_,r⟩:=h
 rcases r with ⟨_,rfl⟩ | ⟨_,rfl⟩
 ·exact l.2.1 _ (rR l.1 _)
 ·exact (l.2.1 _ (rR l.1 _)).aA
inductive v_(p_:c7)(vs:List V)(H:Hp)(Q:VK)(cK:XK):Prop
 | mk (w:c0) (i d:Int) (_:vs=[.str (S w),.int i,.int d]) (_:∀p,H p=none->Q (.ref p) (upd H p (.tup [.str (S []),.str (S w),.int i,.int d]))):v_ p_ vs H Q cK
def Dt(p_:c7):Sp:=v_ p_
theorem I_{K:c7}{vs:List V}{H:Hp}{Q:VK}{E:XK}(h:Dt K vs H Q E):(vs:)=3:=by obtain ⟨_,_,_,rfl,_⟩:=h;rfl
inductive nA(p_:c7)(vs:List V)(H:Hp)(Q:VK)(cK:XK):Prop
 | mk (p:Addr) (w:c0) (f:Int->Nat) (k:Nat) (_:vs=[.ref p,.int k]) (_:ko H p w f) (_:J1 w) (_:Q (.str (S [f k])) H):nA p_ vs H Q cK
def sC(p_:c7):Sp:=nA p_
theorem zI{K:c7}{vs:List V}{H:Hp}{Q:VK}{E:XK}(h:sC K vs H Q E):(vs:)=2:=by obtain ⟨_,_,_,_,rfl,_⟩:=h;rfl
inductive nB(p_:c7)(vs:List V)(H:Hp)(Q:VK)(cK:XK):Prop
 | mk (p q:Addr) (w v:c0) (f g:Int->Nat) (n:Nat) (_:vs=[.ref p,.ref q,.int 0]) (_:ko H p w f) (_:ko H q v g) (_:J1 w) (_:J1 v) (_:f 0=g 0) (_:f (gM f g n 0)≠g (gM f g n 0)) (_:∀t,H t=none->Q (.ref t) (upd H t (.tup [.int (gM f g n 0:Nat),.str (S [aA (f ((gM f g n 0:Nat) - 1))])]))):nB p_ vs H Q cK
def sE(p_:c7):Sp:=nB p_
theorem zJ{K:c7}{vs:List V}{H:Hp}{Q:VK}{E:XK}(h:sE K vs H Q E):(vs:)=3:=by obtain ⟨_,_,_,_,_,_,_,rfl,_⟩:=h;rfl
inductive pK(p_:c7)(vs:List V)(H:Hp)(Q:VK)(cK:XK):Prop
 | mk (y:c0) (p q r:Addr) (w v u:c0) (f g h:Int->Nat) (n:Nat) (_:vs=[.str (S y),.ref p,.ref q,.ref r]) (_:Yd y) (_:(y:)<=8) (_:ko H p w f) (_:ko H q v g) (_:ko H r u h) (_:J1 w) (_:J1 v) (_:J1 u) (_:(∀k,f k∈y)) (_:(∀k,g k∈y)) (_:(∀k,h k∈y)) (_:f 0≠h 0) (_:g 0≠h 0) (_:(f 0=g 0->f (gM f g n 0)≠g (gM f g n 0))) (_:∀H',aq H H'->Q (.bl (Nf y f g (h 0) n)) H'):pK p_ vs H Q cK
def wa(p_:c7):Sp:=pK p_
theorem BC{K:c7}{vs:List V}{H:Hp}{Q:VK}{E:XK}(h:wa K vs H Q E):(vs:)=4:=by obtain ⟨_,_,_,_,_,_,_,_,_,_,_,rfl,_⟩:=h;rfl
inductive pL(p_:c7)(vs:List V)(H:Hp)(Q:VK)(cK:XK):Prop
 | mk (y w v:c0) (i j:Nat) (_:vs=[.str (S y),.str (S w),.int i,.str (S v),.int j]) (_:Yd y) (_:(y:)<=8) (_:SW y w) (_:(w:)<=12) (_:SW y v) (_:(v:)<=12) (_:∀H',aq H H'->Q (.bl (IZ y w v i j)) H'):pL p_ vs H Q cK
def wb(p_:c7):Sp:=pL p_
theorem BD{K:c7}{vs:List V}{H:Hp}{Q:VK}{E:XK}(h:wb K vs H Q E):(vs:)=5:=by obtain ⟨_,_,_,_,_,rfl,_⟩:=h;rfl
inductive lK(p_:c7)(vs:List V)(H:Hp)(Q:VK)(cK:XK):Prop
 | mk (y w v:c0) (_:vs=[.str (S y),.str (S w),.str (S v)]) (_:Yd y) (_:(y:)<=8) (_:SW y w) (_:(w:)<=12) (_:SW y v) (_:(v:)<=12) (_:∀(n:Nat) H',aq H H'->(n:Int)=SS y w v->Q (.int n) H'):lK p_ vs H Q cK
def pM(p_:c7):Sp:=lK p_
theorem xR{K:c7}{vs:List V}{H:Hp}{Q:VK}{E:XK}(h:pM K vs H Q E):(vs:)=3:=by obtain ⟨_,_,_,rfl,_⟩:=h;rfl
inductive wc(p_:c7)(vs:List V)(H:Hp)(Q:VK)(cK:XK):Prop
 | mk (y w:c0) (_:vs=[.str (S y),.str (S w)]) (_:Yd y) (_:(y:)<=8) (_:SW y w) (_:(w:)<=12) (_:∀(n:Nat) H',aq H H'->(n:Int)=SS y w w / 2+kr w - 1->Q (.int n) H'):wc p_ vs H Q cK
def Du(p_:c7):Sp:=wc p_
theorem Ja{K:c7}{vs:List V}{H:Hp}{Q:VK}{E:XK}(h:Du K vs H Q E):(vs:)=2:=by obtain ⟨_,_,rfl,_⟩:=h;rfl
structure Yu(y w c:c0):Prop where
 lt:∀l∈w,Lt l
 jS:(w:)<=100
 is:core (red w)=c
 sw:c=[]\/SW y c
 len:(c:)<=12
noncomputable def J2(y c:c0):Bool:=!decide (c=[])&&kN y c
inductive nC(p_:c7)(vs:List V)(H:Hp)(Q:VK)(cK:XK):Prop
 | mk (y w c:c0) (_:vs=[.str (S y),.str (S w)]) (_:Yd y) (_:(y:)<=8) (_:Yu y w c) (_:∀H',aq H H'->(SW y c->∃k:Nat,2*(k:Int)=oN y c)->Q (.bl (J2 y c)) H'):nC p_ vs H Q cK
def sH(p_:c7):Sp:=nC p_
theorem zK{K:c7}{vs:List V}{H:Hp}{Q:VK}{E:XK}(h:sH K vs H Q E):(vs:)=2:=by obtain ⟨_,_,_,rfl,_⟩:=h;rfl
inductive nE(p_:c7)(vs:List V)(H:Hp)(Q:VK)(cK:XK):Prop
 | mk (y w c:c0) (_:vs=[.str (S y),.str (S w)]) (_:Yd y) (_:(y:)<=8) (_:Yu y w c) (_:(SW y c->∃k:Nat,2*(k:Int)=oN y c)) (_:∀H',aq H H'->Q (.bl (J2 y c)) H'):nE p_ vs H Q cK
def sI(p_:c7):Sp:=nE p_
theorem zL{K:c7}{vs:List V}{H:Hp}{Q:VK}{E:XK}(h:sI K vs H Q E):(vs:)=2:=by obtain ⟨_,_,_,rfl,_⟩:=h;rfl
def lL(_:c7):Sp:=λvs H Q _=>∃l:c0,vs=[.str (S l)]/\(∀c∈l,Lt c)/\(l:)<=10000/\∀H',aq H H'->Q (.str (S (red l))) H'
theorem sJ{K:c7}{vs:List V}{H:Hp}{Q:VK}{E:XK}(h:lL K vs H Q E):(vs:)=1:=by obtain ⟨_,rfl,_⟩:=h;rfl
def nF(_:c7):Sp:=λvs H Q _=>∃l:c0,vs=[.str (S l)]/\(∀c∈l,Lt c)/\(l:)<=1000/\∀H',aq H H'->Q (.str (S (core (red l)))) H'
theorem uu{K:c7}{vs:List V}{H:Hp}{Q:VK}{E:XK}(h:nF K vs H Q E):(vs:)=1:=by obtain ⟨_,rfl,_⟩:=h;rfl
theorem Jb(g:Int->Bool):∀n:Nat,((((List.range n).map λj:Nat=>g j).countP id:Nat):Int)=sm n λb=>one (g b=true)
 | 0=>rfl
 | n+1=>by
  rw[Qca,Qak,List.countP_append,Qbs,Jb g n]
  show _=sm n _+one (g n=true)
  congr 1
  show ((List.countP id [g n]:Nat):Int)=_
  cases g n
  ·rw[bf ∅];rfl
  ·rw[gE rfl];rfl
theorem zM:∀(l st:c0) {x:Nat},x∈l.foldl cB st->x∈st\/x∈l
 | [],_,_,h=> .inl h
 | a::l,st,x,h=>by
  rcases zM l (cB st a) h with g | g
  ·rcases vB g with g | g
   ·exact .inl g
   ·exact .inr (by rw[g];exact Qai)
  ·exact .inr (Qaf _ g)
theorem L0{w:c0}{x:Nat}(h:x∈red w):x∈w:=(zM w [] h).resolve_left Qbb
theorem Dv:∀{l:c0},kI l->∀k a b,l[k]? =some a->l[k+1]? =some b->a≠aA b
 | [],_,k,a,b,h1,_=>by simp at h1
 | [x],_,k,a,b,_,h2=>by simp at h2
 | x::z::r,h,0,a,b,h1,h2=>by
  cases Qad h1
  cases Qad h2
  exact h.1
 | x::z::r,h,k+1,a,b,h1,h2=>Dv (l:=z::r) h.2 k a b h1 h2
theorem L1{y r:c0}(hy:Yd y)(hr:kI r)(hl:∀c∈r,c∈y):core r=[]\/SW y (core r):=by
 by_cases z:core r=[]
 ·exact .inl z
 refine .inr (SW.of z (λc hc=>hl c (rN hc)) (λk a b h1 h2 e=>?_) λa b h1 h2 e=>?_)
 ·have ia:=hy.lt a (hl a (rN (Qac h1)))
  exact Dv (Hi hr) k a b h1 h2 (by rw[e,aO ia])
 ·have cc:=EE r
  have lb:Lt b:=hy.lt b (hl b (rN (List.mem_of_getLast? h2)))
  by_cases q:(core r:)<2
  ·have ha:a=b:=by
    clear cc
    generalize core r=g at h1 h2 q
    rcases g with _ | ⟨x,_ | ⟨x2,t⟩⟩
    ·simp at h1
    ·simp at h1 h2;rw[<-h1, <-h2]
    ·simp at q;omega
   rw[ha]at e
   exact absurd e.symm (oj lb)
  ·obtain ⟨a',m,b',em⟩:=CC (l:=core r) (by omega)
   rw[em]at h1 h2 cc
   have e1:a'=a:=by simpa using h1
   have e2:b'=b:=by
    have:(a'::(m++[b'])).getLast? =some b':=by rw[<-Qfe,List.getLast?_append];simp
    rw[this]at h2
    exact Qad h2
   rw[qv (by rw[e1,e2];exact e)]at cc
   have:=jT m
   rw[cc]at this
   simp at this
   omega
theorem Jc{y w:c0}(hy:Yd y)(h:SW y w)(hz:(w:)<=12):Yu y w w:=⟨λl hl=>hy.lt l (h.cu l hl),by omega,h.core hy,.inr h,hz⟩
theorem Yd.same{y z:c0}(h:Yd y)(p:List.Perm y z):Yd z:=⟨p.nodup_iff.mp h.nd,λc hc=>h.lt c (p.mem_iff.mpr hc),λc hc=>p.mem_iff.mp (h.cl c (p.mem_iff.mpr hc))⟩
theorem aq.Yv{H H':Hp}{t:Addr}{o:HO}(s:aq H H')(n:H t=none):aq H (L2.upd H' t o):=λa u e=>by rw[az (ay e n)];exact s a u e
theorem E8(l:c0)(h:(core l:)=(l:)):core l=l:=
 (iD (P:=λl r=>(r:)<=(l:)/\((r:)=(l:)->r=l)) (λ_ _=>⟨ZH _,λ_=>rfl⟩) (λ_ _ _ _=>⟨ZH _,λ_=>rfl⟩) (λa m y r _ k=>⟨by have:=k.1;simp;omega,λe=>absurd e (by have:=k.1;simp;omega)⟩) (l:) l (ZH _)).2 h
theorem wd:∀(l st:c0),(l.foldl cB st:)=(st:)+(l:)->l.foldl cB st=st++l
 | [],st,_=>by simp
 | c::l,st,h=>by
  have h1:=rL l (cB st c)
  rw[Qdi]at h ⊢
  rw[Qa5]at h
  have e:cB st c=st++[c]:=by
   unfold cB at h1 ⊢
   by_cases z:st.getLast? =some (aA c)
   ·rw[if_pos z]at h1
    unfold cB at h
    rw[if_pos z]at h
    rw[Qfy]at h1
    omega
   ·rw[if_neg z]
  rw[e]at h ⊢
  rw[wd l (st++[c]) (by rw[h,QD];simp;omega),VI]
  rfl
theorem we{y w:c0}(hy:Yd y)(ne:w≠[])(hw:∀c∈w,c∈y)(h:(bQ w:)=(w:)):SW y w:=by
 obtain ⟨k,e⟩:=om (core (red w))
 unfold bQ at h
 rw[e,cF]at h
 have h1:=jT (red w)
 have h2:=gj w
 have e1:core (red w)=red w:=E8 _ (by omega)
 have e2:red w=w:=by
  have:=wd w [] (by show (red w:)=_;simp;omega)
  rw[Qec]at this
  exact this
 rcases L1 hy (Lf w) (λc hc=>hw c (L0 hc)) with g | g
 ·rw[e1,e2]at g;exact absurd g ne
 ·rw[e1,e2]at g;exact g
theorem BE{y w:c0}(hy:Yd y)(ne:w≠[])(hw:∀c∈w,c∈y)(h:bp (bQ w) (bQ (dU w))=w):SW y w:=by
 have lw:∀c∈w,Lt c:=λc hc=>hy.lt c (hw c hc)
 unfold bp at h
 split at h
 ·have:=(SW.dU hy (we hy (w:=dU w) (λz=>ne (Qcj.mp (by rw[<-bZ w,z];rfl))) (λc hc=>by
   obtain ⟨d,hd,e⟩:=Qa3.mp (Qb4.mp hc)
   rw[<-e];exact hy.cl d (hw d hd)) (by rw[h,bZ])))
  rwa [CB lw]at this
 ·exact we hy ne hw (by rw[h])
theorem iZ{ws:List c0}{i:Nat}{x:V}(h:(bV ws)[i]? =some x):∃w,ws[i]? =some w/\x= .str (S w):=by
 unfold bV at h
 rw[Qas]at h
 cases e:ws[i]? with
 | none=>rw[e]at h;cases h
 | some p=>rw[e]at h;cases h;exact ⟨p,rfl,rfl⟩
theorem qE(a b:List c0):bV a++bV b=bV (a++b):=by unfold bV;rw[Qak]
theorem BF{a b:List c0}(h:a.Perm b)(p1:a.Pairwise λx y=> ¬y<x)(p2:b.Pairwise λx y=> ¬y<x):a=b:=
 List.Perm.eq_of_pairwise (le:=λx y=> ¬y<x) (λx y _ _ g1 g2=>List.le_antisymm (show x<=y from g1) (show y<=x from g2)) p1 p2 h
noncomputable def sL(w:c0):Bool:=decide (bp (bQ w) (bQ (dU w))=w)
structure PV(y:c0)(i:Nat)(ns:List c0):Prop where
 mem:∀w,w∈ns↔(∀c∈w,c∈y)/\(w:)=i/\sL w=true/\kN y w=true
 nd:ns.Nodup
 asc:ns.Pairwise λa b=> ¬b<a
theorem PV.uniq{y:c0}{i:Nat}{a b:List c0}(h:PV y i a)(g:PV y i b):a=b:=
 BF ((List.perm_ext_iff_of_nodup h.nd g.nd).mpr λw=>by rw[h.mem,g.mem]) h.asc g.asc
def BG(y:c0):Nat->List c0->Prop
 | 0,ls=>ls=[]
 | n+1,ls=>∃a b,ls=a++b/\BG y n a/\PV y (n+1) b
theorem BG.uniq{y:c0}:∀{n:Nat} {a b:List c0},BG y n a->BG y n b->a=b
 | 0,_,_,h,g=>by rw[show _=_ from h,show _=_ from g]
 | n+1,_,_,⟨a,b,e,h1,h2⟩,⟨c,d,f,g1,g2⟩=>by rw[e,f,h1.uniq g1,h2.uniq g2]
theorem BG.len{y:c0}:∀{n:Nat} {a:List c0},BG y n a->∀w∈a,(∀c∈w,c∈y)/\(w:)<=n
 | 0,_,h,w,hw=>by rw[show _=_ from h]at hw;exact absurd hw Qbb
 | n+1,_,⟨a,b,e,h1,h2⟩,w,hw=>by
  rw[e]at hw
  rcases Qao.mp hw with g | g
  ·have:=h1.len w g
   exact ⟨this.1,by omega⟩
  ·have:=(h2.mem w).mp g
   exact ⟨this.1,by omega⟩
theorem BG.UY{y:c0}{k:Nat}:∀{n:Nat} {a:List c0},BG y n a->k<=n->BG y k (a.filter λw=>decide ((w:)<=k))
 | 0,_,h,hk=>by
  rw[show k=0 by omega,show _=_ from h]
  rfl
 | n+1,ls,h,hk=>by
  by_cases z:k=n+1
  ·have e:(ls.filter λw=>decide ((w:)<=k))=ls:=List.filter_eq_self.mpr λw hw=>decide_eq_true (by have:=(h.len w hw).2;omega)
   rw[e,z]
   exact h
  ·obtain ⟨a,b,e,h1,h2⟩:=h
   have e2:(b.filter λw=>decide ((w:)<=k))=[]:=List.filter_eq_nil_iff.mpr λw hw=>by
    have:=((h2.mem w).mp hw).2.1
    simp
    omega
   rw[e,Qa9,e2,Qa1]
   exact h1.UY (by omega)
def BH(f:c0->Nat->Bool)(w:c0):Prop:=∀k c,w[k]? =some c->f (w.take k) c=true
theorem Dw(f:c0->Nat->Bool):BH f []:=λk c h=>by simp at h
theorem sM{f:c0->Nat->Bool}{l:c0}{c:Nat}:BH f (l++[c])↔BH f l/\f l c=true:=by
 constructor
 ·intro h
  refine ⟨λk d hk=>?_,?_⟩
  ·have hl:=(Og.mp hk).1
   have:=h k d (by rw[Qbg hl];exact hk)
   rwa [Qbk (by omega)]at this
  ·have:=h (l:) c (by rw[Qav (ZH _),Qdl];rfl)
   rwa [Qbk (ZH _),Qbe]at this
 ·rintro ⟨h,g⟩ k d hk
  by_cases z:k<(l:)
  ·rw[Qbg z]at hk
   rw[Qbk (by omega)]
   exact h k d hk
  ·have hl:=(Og.mp hk).1
   rw[QD]at hl
   have e:k=(l:):=by simp at hl;omega
   subst e
   rw[Qav (ZH _),Qdl]at hk
   rw[Qbk (ZH _),Qbe, <-Qad hk]
   exact g
structure zN(f:c0->Nat->Bool)(y:c0)(i:Nat)(ws:List c0):Prop where
 mem:∀w,w∈ws↔(∀c∈w,c∈y)/\(w:)=i/\BH f w
 nd:ws.Nodup
theorem Yw(f:c0->Nat->Bool)(y:c0):zN f y 0 [[]]:=⟨λw=>by
 rw[ZI]
 constructor
 ·rintro rfl;exact ⟨λ_ h=>absurd h Qbb,rfl,Dw f⟩
 ·rintro ⟨_,h,_⟩;exact Qcj.mp h,by simp⟩
structure BI(f:c0->Nat->Bool)(y:c0)(ls ms:List c0):Prop where
 mem:∀m,m∈ms↔ ∃l∈ls,∃c∈y,f l c=true/\m=l++[c]
 nd:ls.Nodup->ms.Nodup
 jS:(ms:)<=(y:)*(ls:)
theorem zN.next{f:c0->Nat->Bool}{y:c0}{i:Nat}{ws ms:List c0}(h:zN f y i ws)(g:BI f y ws ms):zN f y (i+1) ms:=⟨λw=>by
 rw[g.mem]
 constructor
 ·rintro ⟨l,hl,c,hc,e,rfl⟩
  obtain ⟨h1,h2,h3⟩:=(h.mem l).mp hl
  refine ⟨λd hd=>(Qao.mp hd).elim (h1 d) λq=>by rw[ZI.mp q];exact hc,by rw[QD,h2];rfl,sM.mpr ⟨h3,e⟩⟩
 ·rintro ⟨h1,h2,h3⟩
  rcases snoc_cases w with rfl | ⟨l,c,rfl⟩
  ·simp at h2
  ·obtain ⟨h4,h5⟩:=sM.mp h3
   rw[QD]at h2
   exact ⟨l,(h.mem l).mpr ⟨λd hd=>h1 d (Qck _ hd),by simp at h2;omega,h4⟩,c,h1 c (Qa2 _ Qai),h5,rfl⟩,g.nd h.nd⟩
theorem zO(f:c0->Nat->Bool)(y:c0):BI f y [] []:=⟨λm=>by simp,λ_=>Qey,by simp⟩
theorem wg{f:c0->Nat->Bool}{y:c0}{ls ms ns:List c0}{l:c0}(h:BI f y ls ms)(hn:∀m,m∈ns↔ ∃c∈y,f l c=true/\m=l++[c])(nd:ns.Nodup)(jS:(ns:)<=(y:)):BI f y (ls++[l]) (ms++ns):=⟨λm=>by
 rw[Qao,h.mem,hn]
 constructor
 ·rintro (⟨l',hl,q⟩ | q)
  ·exact ⟨l',Qck _ hl,q⟩
  ·exact ⟨l,Qa2 _ Qai,q⟩
 ·rintro ⟨l',hl,q⟩
  rcases Qao.mp hl with g | g
  ·exact .inl ⟨l',g,q⟩
  ·rw[ZI.mp g]at q;exact .inr q,λhd=>by
 rw[Qcs]at hd ⊢
 refine ⟨h.nd hd.1,nd,λa ha b hb e=>?_⟩
 subst e
 obtain ⟨l',hl,c,_,_,e1⟩:=(h.mem a).mp ha
 obtain ⟨d,_,_,e2⟩:=(hn a).mp hb
 have:=List.append_inj_left' (e1.symm.trans e2) rfl
 exact hd.2.2 l' hl l Qai this,by
 rw[QD,QD,Qgp]
 have:=h.jS
 simp
 omega⟩
noncomputable def fB(w:c0)(c:Nat):Bool:=decide (w=[])||(decide (c≠aA (w.getLastD 0))&&!decide (bp [c] [aA c]<[w.headD 0]))
noncomputable def gB(w:c0)(c:Nat):Bool:=decide (w=[])||decide (c≠aA (w.getLastD 0))
theorem Dy{y w:c0}(hy:Yd y)(ne:w≠[])(hw:∀c∈w,c∈y)(h:sL w=true):SW y w:=BE hy ne hw (of_decide_eq_true h)
theorem Jd{y w:c0}(hy:Yd y)(h:SW y w):BH gB w:=λk c hk=>by
 unfold gB
 by_cases z:w.take k=[]
 ·rw[decide_eq_true z];rfl
 ·rw[decide_eq_false z]
  have hl:=(Og.mp hk).1
  have KZ:0<k:=by
   rcases k with _ | k
   ·simp at z
   ·omega
  refine decide_eq_true λe=>?_
  have e1:w[k - 1]? =some ((w.take k).getLastD 0):=by
   rw[Qe1, Qe2, Qaa,Qbo (by omega),Qay (by omega),Of (by omega)]
   rfl
  exact h.VX (k - 1) _ c e1 (by rw[show k - 1+1=k by omega];exact hk) e
theorem le_head{a b:Nat}{r t:c0}(h: ¬(a::r)<b::t):b<=a:=by
 rcases Nat.lt_or_ge a b with z | z
 ·exact absurd (List.Lex.rel z) h
 ·exact z
theorem zP{w:c0}{k c:Nat}(h:w[k]? =some c):∃r,eV w k=c::r:=by
 have hl:=(Og.mp h).1
 refine ⟨w.drop (k+1)++w.take k,?_⟩
 unfold eV
 rw[Qbq hl,(Og.mp h).2]
 rfl
theorem Je{y w:c0}(hy:Yd y)(h:SW y w)(hl:sL w=true):∀c∈w,w.headD 0<=c/\w.headD 0<=aA c:=λc hc=>by
 have e:=of_decide_eq_true hl
 obtain ⟨a,r,ew⟩:=List.exists_cons_of_ne_nil h.ne
 have hh:w.headD 0=a:=by rw[ew];rfl
 rw[hh]
 obtain ⟨k,hk,ek⟩:=Qdp hc
 have nZ:w[k]? =some c:=by rw[Of hk,ek]
 have ht:=h.dU hy
 have hct:aA c∈dU w:=Le hc
 obtain ⟨j,hj,ej⟩:=Qdp hct
 have MT:(dU w)[j]? =some (aA c):=by rw[Of hj,ej]
 have l1: ¬eV w k<cN w:=ze w k (by omega)
 have l2: ¬eV (dU w) j<cN (dU w):=ze (dU w) j (by omega)
 rw[h.bQ hy,ht.bQ hy]at e
 have m1: ¬cN w<w:=by
  have e':=e
  unfold bp at e'
  split at e'
  ·rename_i q
   rw[e']at q
   exact List.lt_asymm q
  ·rw[e'];exact Qdg _
 have m2: ¬cN (dU w)<w:=by
  have e':=e
  unfold bp at e'
  split at e'
  ·rw[e'];exact Qdg _
  ·rename_i q;rw[e']at q;exact q
 obtain ⟨r1,f1⟩:=zP nZ
 obtain ⟨r2,f2⟩:=zP MT
 have t1: ¬eV w k<w:=λz=>by
  have a1:w<=cN w:=m1
  have a2:cN w<=eV w k:=l1
  exact Qe8 a1 a2 z
 have t2: ¬eV (dU w) j<w:=λz=>by
  have a1:w<=cN (dU w):=m2
  have a2:cN (dU w)<=eV (dU w) j:=l2
  exact Qe8 a1 a2 z
 rw[f1,ew]at t1
 rw[f2,ew]at t2
 exact ⟨le_head t1,le_head t2⟩
theorem wj{a b:Nat}(h:[a]<[b]):a<b:=by
 cases h with
 | rel h=>exact h
 | cons h=>cases h
theorem PX{y w:c0}(hy:Yd y)(h:SW y w)(hl:sL w=true):BH fB w:=λk c hk=>by
 have g:=Jd hy h k c hk
 unfold gB at g
 unfold fB
 by_cases z:w.take k=[]
 ·rw[decide_eq_true z];rfl
 ·rw[decide_eq_false z]at g ⊢
  have g':decide (c≠aA ((w.take k).getLastD 0))=true:=g
  rw[g']
  have hd:(w.take k).headD 0=w.headD 0:=by
   obtain ⟨a,r,ew⟩:=List.exists_cons_of_ne_nil h.ne
   rcases k with _ | k
   ·simp at z
   ·rw[ew];rfl
  have:=Je hy h hl c (Qac hk)
  rw[hd]
  have no: ¬bp [c] [aA c]<[w.headD 0]:=λq=>by
   unfold bp at q
   split at q
   ·have:=wj q;omega
   ·have:=wj q;omega
  rw[decide_eq_false no]
  rfl
theorem Jf{f:c0->Nat->Bool}{y:c0}{i:Nat}{ms ns:List c0}{p:c0->Bool}(hy:Yd y)(h:zN f y (i+1) ms)(hf:∀w,SW y w->sL w=true->BH f w)(hp:∀w∈ms,p w=true↔sL w=true/\kN y w=true)(pr:ns.Perm (ms.filter p))(asc:ns.Pairwise λa b=> ¬b<a):PV y (i+1) ns:=⟨λw=>by
 rw[pr.mem_iff,Qa4]
 constructor
 ·rintro ⟨h1,h2⟩
  obtain ⟨g1,g2,_⟩:=(h.mem w).mp h1
  obtain ⟨g3,g4⟩:=(hp w h1).mp h2
  exact ⟨g1,g2,g3,g4⟩
 ·rintro ⟨g1,g2,g3,g4⟩
  have ne:w≠[]:=λz=>by rw[z]at g2;simp at g2
  have hm:=(h.mem w).mpr ⟨g1,g2,hf w (Dy hy ne g1 g3) g3⟩
  exact ⟨hm,(hp w hm).mpr ⟨g3,g4⟩⟩,pr.nodup_iff.mpr (h.nd.filter _),asc⟩
theorem Jg{y w:c0}(hy:Yd y)(hw:SW y w):∃k:Nat,2*(k:Int)=oN y w:=by
 obtain ⟨k,e⟩:=LY hy hw
 have s:=(Nd y w w).1
 have k1:1<=kr w:=by
  unfold kr
  rcases sh hw.ne with g | ⟨h1,h2,_⟩
  ·exact absurd g.1 hw.ne
  ·have:=Qgq h2 h1
   omega
 refine ⟨(k+(kr w - 1)).toNat,?_⟩
 unfold oN
 omega
theorem xS{y w:c0}(h:w≠[]):J2 y w=kN y w:=by
 unfold J2
 rw[decide_eq_false h]
 rfl
theorem UZ{w:c0}(h:w≠[])(c:Nat):fB w c=(decide (c≠aA (w.getLast h))&&!decide (bp [c] [aA c]<[w.head h])):=by
 unfold fB
 rw[decide_eq_false h,Qe1, List.getLast?_eq_some_getLast h,List.headD_eq_head?_getD,List.head?_eq_some_head h]
 rfl
theorem Ng{w:c0}(h:w≠[])(c:Nat):gB w c=decide (c≠aA (w.getLast h)):=by
 unfold gB
 rw[decide_eq_false h,Qe1, List.getLast?_eq_some_getLast h]
 rfl
theorem Dz{u:c0}(hn:u≠[]):qp u 0=some (u.head hn)/\qp u (-1)=some (u.getLast hn):=by
 refine ⟨dj (j:=0) (by rw[<-Qfl, List.head?_eq_some_head hn]),?_⟩
 have:=mH u.dropLast (u.getLast hn)
 rwa [List.dropLast_concat_getLast]at this
theorem nG{a i n:Nat}(ha:1<=a)(hi:i<=n)(h:a ^ n<=4096):a ^ i<=4096:=Qbh (Nat.pow_le_pow_right ha hi) h
theorem sN{α:Type}(p:α->Bool)(u:α)(h:p u=true):[u].filter p=[u]:=by rw[Qgl,if_pos h];rfl
theorem sO{α:Type}(p:α->Bool)(u:α)(h: ¬p u=true):[u].filter p=[]:=by rw[Qgl,if_neg h];rfl
theorem Yx{y:c0}(hn:y.Nodup):zN gB y 1 (y.map λc=>[c]):=⟨λw=>by
 rw[Qa3]
 constructor
 ·rintro ⟨c,hc,rfl⟩
  exact ⟨λd hd=>by rw[ZI.mp hd];exact hc,rfl,sM.mpr ⟨Dw _,rfl⟩⟩
 ·rintro ⟨h1,h2,_⟩
  obtain ⟨c,rfl⟩:=List.length_eq_one_iff.mp h2
  exact ⟨c,h1 c Qai,rfl⟩,Qgf _ (λa b h e=>h (by simpa using e)) hn⟩
theorem L3(l:c0):cx l=bV (l.map λc=>[c]):=by unfold bV;rw[Qbx];rfl
theorem Yy{y:c0}(hy:Yd y)(h1:2<=(y:))(h2:(y:)<=8):∃T:Nat,qp [V.int 0,.int 6,.int 6,.int 4,.int 3] (((y:):Int) / 2)=some (.int (T:Int))/\T<=6/\(y:) ^ T<=4096:=by
 have hb:=iJ hy
 generalize (fS y:)=r at hb
 generalize (y:)=n at hb h1 h2 ⊢
 obtain rfl | rfl | rfl | rfl:r=1\/r=2\/r=3\/r=4:=by omega
 ·subst hb;exact ⟨6,rfl,∅,∅⟩
 ·subst hb;exact ⟨6,rfl,∅,∅⟩
 ·subst hb;exact ⟨4,rfl,∅,∅⟩
 ·subst hb;exact ⟨3,rfl,∅,∅⟩
theorem Jh{y:c0}(h:2<=(y:)):(cut y (some 1) (some 2)++cut y none (some 1)++cut y (some 2) none).Perm y/\(cut y (some 1) (some 2):)+(cut y none (some 1):)<=8/\(cut y (some 1) (some 2)++cut y none (some 1):)+(cut y (some 2) none:)=(y:):=by
 match y,h with
 | a::b::r,_=>
  have e1:cut (a::b::r) (some 1) (some 2)=[b]:=by
   unfold cut
   rw[show (some (1:Int))=some ((1:Nat):Int) from rfl,show (some (2:Int))=some ((2:Nat):Int) from rfl,HT.eJ,HT.eJ]
   simp
  have e2:cut (a::b::r) none (some ((1:Nat):Int))=[a]:=by rw[fi];rfl
  have e3:cut (a::b::r) (some ((2:Nat):Int)) none=r:=by rw[eM];rfl
  have Ig:cut (a::b::r) none (some 1)=[a]:=e2
  have e3':cut (a::b::r) (some 2) none=r:=e3
  rw[e1,Ig,e3']
  exact ⟨List.Perm.swap a b r,by show 1+1<=8;decide,by simp;omega⟩
theorem oO{y:c0}(hy:Yd y){n:Nat}{ls:List c0}(h:BG y n ls):PyData.canLayAll0 (CD ls)=true:=CF λl hl=>y_ λc hc=>hy.lt c ((h.len l hl).1 c hc)
theorem BJ(ls:List c0):(PyData.list (CD ls)).depth<=60:=by show PyData.depthAll (CD ls)+1<=60;rw[vC];decide
theorem BK(ls:List c0):PyData.eqv (.list (CD ls)) (.list (CD ls))=true:=eqv_refl (.list (CD ls)) (by show PyData.hasDictAll (CD ls)=false;exact zh _)
inductive jq(p_:c7)(vs:List V)(H:Hp)(Q:VK)(cK:XK):Prop
 | mk (w:c0) (c:Nat) (_:vs=[.str (S w),.str (S [c])]) (_:(∀a∈w,a<128)) (_:(w:)<=sizeLine) (_:c<128) (_:Q (.bl (fB w c)) H):jq p_ vs H Q cK
def lM(p_:c7):Sp:=jq p_
theorem sP{K:c7}{vs:List V}{H:Hp}{Q:VK}{E:XK}(h:lM K vs H Q E):(vs:)=2:=by obtain ⟨_,_,rfl,_⟩:=h;rfl
inductive jr(p_:c7)(vs:List V)(H:Hp)(Q:VK)(cK:XK):Prop
 | mk (y:c0) (wt:Addr) (ls:List c0) (_:vs=[.str (S y),.ref wt]) (_:(∀c∈y,c<128)) (_:y.Nodup) (_:(y:)<=8) (_:H wt=some (.lst (bV ls))) (_:(∀l∈ls,(∀c∈l,c∈y)/\(l:)<=100)) (_:(ls:)<=5000) (_:∀(t:Addr) (ms:List c0) H',H t=none->H' t=some (.lst (bV ms))->BI fB y ls ms->aq H H'->Q (.ref t) H'):jr p_ vs H Q cK
def lN(p_:c7):Sp:=jr p_
theorem sQ{K:c7}{vs:List V}{H:Hp}{Q:VK}{E:XK}(h:lN K vs H Q E):(vs:)=2:=by obtain ⟨_,_,_,rfl,_⟩:=h;rfl
inductive js(p_:c7)(vs:List V)(H:Hp)(Q:VK)(cK:XK):Prop
 | mk (y:c0) (n:Nat) (_:vs=[.str (S y),.int n]) (_:Yd y) (_:y≠[]) (_:(y:)<=8) (_:n<=6) (_:(y:) ^ n<=4096) (_:∀(t:Addr) (ls:List c0) H',H t=none->H' t=some (.lst (bV ls))->BG y n ls->(ls:)<=4096*n->aq H H'->Q (.ref t) H'):js p_ vs H Q cK
def lO(p_:c7):Sp:=js p_
theorem sR{K:c7}{vs:List V}{H:Hp}{Q:VK}{E:XK}(h:lO K vs H Q E):(vs:)=2:=by obtain ⟨_,_,rfl,_⟩:=h;rfl
inductive nH(p_:c7)(vs:List V)(H:Hp)(Q:VK)(cK:XK):Prop
 | mk (y:c0) (n:Nat) (_:vs=[.str (S y),.int n]) (_:Yd y) (_:y≠[]) (_:(y:)<=8) (_:n<=6) (_:(y:) ^ n<=4096) (_:∀(t:Addr) (ls:List c0) H',H t=none->H' t=some (.lst (bV ls))->BG y n ls->(ls:)<=4096*n->aq H H'->Q (.ref t) H'):nH p_ vs H Q cK
def sS(p_:c7):Sp:=nH p_
theorem zQ{K:c7}{vs:List V}{H:Hp}{Q:VK}{E:XK}(h:sS K vs H Q E):(vs:)=2:=by obtain ⟨_,_,rfl,_⟩:=h;rfl
def zR(_:c7):Sp:=λvs H Q _=>∃l:c0,vs=[.str (S l)]/\(∀c∈l,Lt c)/\(l:)<=1000/\∀H',aq H H'->Q (.str (S (bp (bQ l) (bQ (dU l))))) H'
theorem E9{K:c7}{vs:List V}{H:Hp}{Q:VK}{E:XK}(h:zR K vs H Q E):(vs:)=1:=by obtain ⟨_,rfl,_⟩:=h;rfl
local macro_rules | `(tactic| walk_at "rd") => `(tactic| repeat (first
 | refine ⟨_,rfl,?_⟩
 | refine ⟨_,_,rfl,rfl,?_⟩
 | refine ⟨rfl,?_⟩
 | refine And.intro (by first | decide | omega | assumption | exact Nat.le_of_ble_eq_true rfl | exact .inl ⟨∅,∅⟩ | exact .inr ⟨∅,∅⟩ | exact ⟨∅,∅⟩ | exact ⟨by omega,by omega⟩) ?_))
local macro_rules | `(tactic| walk_at "wk") => `(tactic| repeat (first
 | refine ⟨_,rfl,?_⟩
 | refine ⟨_,_,rfl,rfl,?_⟩
 | refine ⟨_,_,_,rfl,rfl,by first | assumption | omega,by assumption,?_⟩
 | refine ⟨rfl,?_⟩
 | refine And.intro (by first | decide | omega | assumption | exact Nat.le_of_ble_eq_true rfl | exact .inl ⟨∅,∅⟩ | exact .inr ⟨∅,∅⟩ | exact ⟨∅,∅⟩ | exact ⟨by omega,by omega⟩) ?_))
local macro_rules | `(tactic| walk_at "bd") => `(tactic| first | assumption | exact aao _ | exact apl (by walk_at "bd") (by walk_at "bd"))
noncomputable def top(i:Nat):Stmt:=PySem.Challenge.pw_mustmeet_k40_lone_loops_told.main.body.getD i (.Pass ⟨0,0,0,0⟩)
noncomputable abbrev ml:Stmt:=top 1
noncomputable abbrev sU:Stmt:=top 2
noncomputable abbrev xT:Stmt:=top 4
noncomputable abbrev hW:Stmt:=top 5
noncomputable abbrev i0:Stmt:=top 7
noncomputable abbrev sV:Stmt:=top 8
noncomputable abbrev fT:Stmt:=top 9
noncomputable abbrev oP:Stmt:=top 10
noncomputable abbrev gI:Stmt:=top 11
noncomputable abbrev ku:Stmt:=top 12
noncomputable abbrev fm:Stmt:=top 13
noncomputable abbrev i3:Stmt:=top 15
noncomputable abbrev hX:Stmt:=top 17
noncomputable abbrev kx:Stmt:=top 19
noncomputable abbrev mm:Stmt:=top 20
noncomputable abbrev BL:Stmt:=top 21
noncomputable abbrev BM:Stmt:=top 22
noncomputable abbrev BN:Stmt:=top 23
noncomputable abbrev gJ:Stmt:=top 25
noncomputable abbrev hZ:Stmt:=top 28
noncomputable abbrev i4:Stmt:=top 29
noncomputable abbrev oQ:Stmt:=top 30
noncomputable abbrev oR:Stmt:=top 31
noncomputable abbrev h7:Stmt:=top 32
noncomputable abbrev gK:Stmt:=top 33
noncomputable abbrev h_:Stmt:=top 34
noncomputable abbrev i5:Stmt:=top 35
noncomputable abbrev BO:Stmt:=top 36
noncomputable abbrev xU:Stmt:=top 38
noncomputable abbrev Ji:Stmt:=top 39
noncomputable abbrev oS:Stmt:=top 41
noncomputable abbrev i6:Stmt:=top 42
noncomputable abbrev i7:Stmt:=top 43
noncomputable abbrev i8:Stmt:=top 44
noncomputable abbrev BP:Stmt:=top 46
noncomputable abbrev xV:Stmt:=top 47
noncomputable abbrev sW:Stmt:=top 48
noncomputable abbrev xW:Stmt:=top 49
noncomputable abbrev i9:Stmt:=top 50
noncomputable abbrev ky:Stmt:=top 51
noncomputable abbrev BQ:Stmt:=top 52
noncomputable abbrev oT:Stmt:=top 53
noncomputable abbrev sZ:Stmt:=top 54
noncomputable abbrev oU:Stmt:=top 55
noncomputable abbrev s_:Stmt:=top 56
noncomputable abbrev tf:Stmt:=top 57
noncomputable abbrev mq:Stmt:=top 58
noncomputable abbrev BR:Stmt:=top 59
noncomputable abbrev oV:Stmt:=top 60
noncomputable abbrev xX:Stmt:=top 61
noncomputable abbrev tm:Stmt:=top 62
noncomputable abbrev xY:Stmt:=top 63
noncomputable abbrev oW:Stmt:=top 64
noncomputable abbrev Jj:Stmt:=top 65
structure aU(K:c7)(mg:Str->Option Value)(x:Str)(st:Stmt)(ps:List Str)(f:Addr)(fd:FuncData):Prop where
 fn:Ku K x x st f fd
 mg:mg x=some (.ref f)
 bd:Binds K fd ps []
theorem ag{X:Cx}{ss:List Stmt}(Z:TS)(h:yt X ss Z):yt X ss Z:=h
theorem ai{X:Cx}{k j:Nat}{f:Addr}{fd:FuncData}{ps:List Str}{sp:Sp}{x:Str}{st:Stmt}{K:c7}{mg:Str->Option Value}{e:Expr}{es:List Expr}{t:TA}{p pos:Pos}(G:bo X.prog X.w X.K X.mg X.base dS k f fd ps sp)(F:aU K mg x st ps f fd)(hr:eI j X.A)(ha:PA X (e::es) t)(hK:X.K=K:=by rfl)(hm:X.mg=mg:=by rfl)(hg:Gl X x:=by rfl)(hj:k<=j:=by decide)(hd:(x==("__debug__":Str))=false:=by decide)(he:starEach (e::es) X.env=(false,eval e X.env)::starEach es X.env:=by rfl)(hp:(backTo pos (starEach es X.env)).any (·.1)=false:=by rfl):PE X (.Call (.Name x p) (e::es) [] pos) (MF sp [] E0 t):=by
 subst hK;subst hm;exact kE G (hr.mono hj) hg F.mg F.fn.kp F.bd .nil gP ha hd he hp
theorem ao{X:Cx}{i:Nat}{x:Str}{e:Expr}{te:TE}{p pos:Pos}(hN:X.N.Nodup)(he:PE X e te)(hi:X.N[i]? =some x:=by rfl)(hx:Loc X.env.scope x:=by first | exact .inl rfl | exact .inr rfl)(hs:swapsWith e (some (.Name x p)) pos.line X.env=pure false:=by rfl)(hf:X.fn x=true\/X.env.scope.names.lookup x=some .local:=by first | exact .inl rfl | exact .inr rfl):PS X (.Assign [.Name x p] e pos) (FL te (uL i)):=Ah hN hi hx he hs hf
theorem ab{X:Cx}{e:Expr}{te:TE}(he:PE X e te)(hs:starEach [e] X.env=(false,eval e X.env)::starEach [] X.env:=by rfl):PA X [e] (FU te NW):=aa he bM hs
theorem gn{X:Cx}(K:c7){e:Expr}{te:TE}{p pos:Pos}(hm:X.mg "len"=none)(he:PE X e te)(hK:X.K=K:=by rfl)(hg:Gl X "len":=by rfl)(hs:starEach [e] X.env=(false,eval e X.env)::starEach [] X.env:=by rfl)(hp:(backTo pos (starEach [] X.env)).any (·.1)=false:=by rfl):PE X (.Call (.Name "len" p) [e] [] pos) (W7 (MO K) (FU te NW)):=aI (t9 K hK) hg hm Qbf (aa he bM hs) ∅ ∅ hs hp
noncomputable abbrev kO:Stmt:=ZX (top 26) 0
noncomputable abbrev iP:Stmt:=ZX (top 27) 0
structure Txt(K:c7)(mg:Str->Option Value)(f0 f1 f2 f3 f4 f5 f6 f7 f8 f9 QL QM QN QO QP QQ QR QS QT Jk Jl QU QV QW QX QY QZ Q0 Q3 Q5 Q6 Q7 Q8 Q9 Q_ Ra Rb Rc Rf Rg Rh Ri Rj Rk Rl Rm Rn Ro Rp Rq Rr Rt Ru Rv aP aZ lQ ie:Addr)(d0 d1 d2 d3 d4 d5 d6 d7 d8 d9 Rw Rx Ry Rz RA RB RC RD RE RF RG RH RI RJ RK RL RM RN RO RP RQ RS RT RU RV RW RX RY RZ R0 R1 R3 R4 R5 R6 R7 R8 R9 R_ Sa Sb Sd Se Sf zS tu:FuncData):Prop where
 F0:aU K mg "contrary" ml ["letter"] f0 d0
 F1:aU K mg "turned" sU ["word"] f1 d1
 F2:aU K mg "bands" xT ["yard"] f2 d2
 F3:aU K mg "steps_round" hW ["yard","start","end"] f3 d3
 F4:aU K mg "strands_at" i0 ["yard","drawing","end"] f4 d4
 F5:aU K mg "points" sV ["yard","drawing"] f5 d5
 F6:aU K mg "corner_points" fT ["word","cord","place"] f6 d6
 F7:aU K mg "corners" oP ["yard","drawing"] f7 d7
 F8:aU K mg "chord_starts" gI ["some"] f8 d8
 F9:aU K mg "number_in" ku ["rising","point"] f9 d9
 F10:aU K mg "count_meetings" fm ["some"] QL Rw
 F11:aU K mg "strands_in" i3 ["words","band"] QM Rx
 F12:aU K mg "corner_ends" hX ["word","place"] QN Ry
 F13:aU K mg "shortened" kx ["word"] QO Rz
 Yz:aU K mg "shortest" mm ["word"] QP RA
 J3:aU K mg "ring" BL ["word"] QQ RB
 F16:aU K mg "loop" BM ["word"] QR RC
 V4:aU K mg "root" BN ["word"] QS RD
 V5:aU K mg "corner_steps" gJ ["yard","word","place"] QT RE
 FE:aU K mg "steps_ahead" hZ ["seen","start","end"] Jk RF
 FF:aU K mg "steps_back" i4 ["seen","start","end"] Jl RG
 YA:aU K mg "parting" oQ ["steps","one","other","enough"] QU RH
 YB:aU K mg "side_of" oR ["seen"] QV RI
 F23:aU K mg "comes_ahead" h7 ["one","other"] QW RJ
 F24:aU K mg "number_among" gK ["order","seen"] QX RK
 F25:aU K mg "seen_strand" h_ ["words","ways","strand"] QY RL
 F26:aU K mg "taut_order" i5 ["words","ways","band"] QZ RM
 F27:aU K mg "taut" BO ["yard","words"] Q0 RN
 F28:aU K mg "least" xU ["yard","words"] Q3 RO
 F29:aU K mg "own" Ji ["yard","word"] Q5 RP
 F30:aU K mg "is_lone" oS ["yard","word"] Q6 RQ
 F31:aU K mg "may_follow" i6 ["word","letter"] Q7 RS
 F32:aU K mg "one_longer" i7 ["yard","words"] Q8 RT
 U0:aU K mg "lone_loops" i8 ["yard","length"] Q9 RU
 F34:aU K mg "_law_box" BP ["_law_script","_law_k"] Q_ RV
 Sg:aU K mg "_law_take" xV ["_law_box_here","_law_many"] Ra RW
 Nh:aU K mg "_law_other" sW ["_law_letter_here"] Rb RX
 F37:aU K mg "_law_yard" xW ["_law_box_here","_law_few","_law_top"] Rc RY
 F38:aU K mg "_law_shortened" i9 ["_law_word"] Rf RZ
 V6:aU K mg "_law_shortest" ky ["_law_word"] Rg R0
 U1:aU K mg "_law_ray" BQ ["_law_word","_law_at","_law_way"] Rh R1
 DA:aU K mg "_law_letter" oT ["_law_ray_here","_law_k"] Ri R3
 F42:aU K mg "_law_round" sZ ["_law_yard_here","_law_x","_law_y","_law_z"] Rj R4
 V7:aU K mg "_law_parted" oU ["_law_one","_law_other_here","_law_k"] Rk R5
 YC:aU K mg "_law_sense" s_ ["_law_yard_here","_law_one","_law_other_here","_law_third"] Rl R6
 F45:aU K mg "_law_meets" tf ["_law_yard_here","_law_w","_law_i","_law_v","_law_j"] Rm R7
 F46:aU K mg "_law_between" mq ["_law_yard_here","_law_w","_law_v"] Rn R8
 F47:aU K mg "_law_own" BR ["_law_yard_here","_law_w"] Ro R9
 F48:aU K mg "_law_is_lone" oV ["_law_yard_here","_law_word"] Rp R_
 YD:aU K mg "_law_ring" xX ["_law_word"] Rq Sa
 F50:aU K mg "_law_about" tm ["_law_word"] Rr Sb
 F51:aU K mg "_law_loop" xY ["_law_word"] Rt Sd
 YE:aU K mg "_law_listed" oW ["_law_yard_here","_law_length"] Ru Se
 F53:aU K mg "law" Jj ["_law_script"] Rv Sf
 Jm:mg "Seen"=some (.ref aP)
 dW:Kk K aP
 n_Seen_strand:eG K aP "strand"
 n_Seen_way:eG K aP "way"
 n_Seen_place:eG K aP "place"
 Ni:mg "Way"=some (.ref aZ)
 g6:Kk K aZ
 n_Way_size:eG K aZ "size"
 n_Way_root_size:eG K aZ "root_size"
 n_Way_leads:eG K aZ "leads"
 n_Way_onward:eG K aZ "onward"
 n_Way_backward:eG K aZ "backward"
 Nj:Mk K aZ lQ
 U2:Ku K "__init__" "Way.__init__" kO lQ zS
 Nk:Binds K zS ["self","yard","word","longest"] []
 Jn:Mk K aP ie
 PY:Ku K "__init__" "Seen.__init__" iP ie tu
 Jo:Binds K tu ["self","strand","way","place"] []
 z_enumerate:mg "enumerate"=none
 z_int:mg "int"=none
 z_isinstance:mg "isinstance"=none
 z_len:mg "len"=none
 z_list:mg "list"=none
 z_max:mg "max"=none
 z_min:mg "min"=none
 z_range:mg "range"=none
 z_reversed:mg "reversed"=none
 z_set:mg "set"=none
 z_sorted:mg "sorted"=none
 z_str:mg "str"=none
 z_tuple:mg "tuple"=none
theorem zT:aD ["letter"] ["letter"] (au ml):=⟨rfl,rfl,rfl,⋯,rfl,⋯,⋯⟩
theorem E_:aD ["word"] ["word"] (au sU):=⟨rfl,rfl,rfl,⋯,rfl,⋯,⋯⟩
theorem Jp:aD ["yard"] ["yard"] (au xT):=⟨rfl,rfl,rfl,⋯,rfl,⋯,⋯⟩
theorem tw:aD ["yard","start","end"] ["yard","start","end"] (au hW):=⟨rfl,rfl,rfl,⋯,rfl,⋯,⋯⟩
theorem lR:aD ["yard","drawing","end","order"] ["yard","drawing","end"] (au i0):=⟨rfl,rfl,rfl,⋯,rfl,⋯,⋯⟩
theorem kP:aD ["yard","drawing","told","end","strand"] ["yard","drawing"] (au sV):=⟨rfl,rfl,rfl,⋯,rfl,⋯,⋯⟩
theorem iQ:aD ["word","cord","place","ahead"] ["word","cord","place"] (au fT):=⟨rfl,rfl,rfl,⋯,rfl,⋯,⋯⟩
theorem cS:aD ["yard","drawing","numbers","number","point","told","cord","word","place","pair"] ["yard","drawing"] (au oP):=⟨rfl,rfl,rfl,⋯,rfl,⋯,⋯⟩
theorem dR:aD ["some","starts","corner","first"] ["some"] (au gI):=⟨rfl,rfl,rfl,⋯,rfl,⋯,⋯⟩
theorem dB:aD ["rising","point","low","high","middle"] ["rising","point"] (au ku):=⟨rfl,rfl,rfl,⋯,rfl,⋯,⋯⟩
theorem bG:aD ["some","starts","begun","many","point","number"] ["some"] (au fm):=⟨rfl,rfl,rfl,⋯,rfl,⋯,⋯⟩
theorem c_:aD ["words","band","found","cord","word","place","letter"] ["words","band"] (au i3):=⟨rfl,rfl,rfl,⋯,rfl,⋯,⋯⟩
theorem tD:aD ["word","place"] ["word","place"] (au hX):=⟨rfl,rfl,rfl,⋯,rfl,⋯,⋯⟩
theorem i_:aD ["word","kept","letter"] ["word"] (au kx):=⟨rfl,rfl,rfl,⋯,rfl,⋯,⋯⟩
theorem eh:aD ["word","left","start","end"] ["word"] (au mm):=⟨rfl,rfl,rfl,⋯,rfl,⋯,⋯⟩
theorem kQ:aD ["word","whole","least","start","begun"] ["word"] (au BL):=⟨rfl,rfl,rfl,⋯,rfl,⋯,⋯⟩
theorem L4:aD ["word"] ["word"] (au BM):=⟨rfl,rfl,rfl,⋯,rfl,⋯,⋯⟩
theorem qF:aD ["word","whole","size","times"] ["word"] (au BN):=⟨rfl,rfl,rfl,⋯,rfl,⋯,⋯⟩
theorem jt:aD ["yard","word","place","ends"] ["yard","word","place"] (au gJ):=⟨rfl,rfl,rfl,⋯,rfl,⋯,⋯⟩
theorem kz:aD ["seen","start","end","first"] ["seen","start","end"] (au hZ):=⟨rfl,rfl,rfl,⋯,rfl,⋯,⋯⟩
theorem lS:aD ["seen","start","end","first"] ["seen","start","end"] (au i4):=⟨rfl,rfl,rfl,⋯,rfl,⋯,⋯⟩
theorem dX:aD ["steps","one","other","enough","many","size"] ["steps","one","other","enough"] (au oQ):=⟨rfl,rfl,rfl,⋯,rfl,⋯,⋯⟩
theorem mw:aD ["seen","way","cord"] ["seen"] (au oR):=⟨rfl,rfl,rfl,⋯,rfl,⋯,⋯⟩
theorem eU:aD ["one","other","enough","ahead","back"] ["one","other"] (au h7):=⟨rfl,rfl,rfl,⋯,rfl,⋯,⋯⟩
theorem cn:aD ["order","seen","low","high","middle"] ["order","seen"] (au gK):=⟨rfl,rfl,rfl,⋯,rfl,⋯,⋯⟩
theorem gL:aD ["words","ways","strand","word","place"] ["words","ways","strand"] (au h_):=⟨rfl,rfl,rfl,⋯,rfl,⋯,⋯⟩
theorem fE:aD ["words","ways","band","order","strand","seen"] ["words","ways","band"] (au i5):=⟨rfl,rfl,rfl,⋯,rfl,⋯,⋯⟩
theorem xZ:aD ["yard","words","longest","ways"] ["yard","words"] (au BO):=⟨rfl,rfl,rfl,⋯,rfl,⋯,⋯⟩
theorem Jq:aD ["yard","words"] ["yard","words"] (au xU):=⟨rfl,rfl,rfl,⋯,rfl,⋯,⋯⟩
theorem PZ:aD ["yard","word"] ["yard","word"] (au Ji):=⟨rfl,rfl,rfl,⋯,rfl,⋯,⋯⟩
theorem tE:aD ["yard","word","short"] ["yard","word"] (au oS):=⟨rfl,rfl,rfl,⋯,rfl,⋯,⋯⟩
theorem uv:aD ["word","letter"] ["word","letter"] (au i6):=⟨rfl,rfl,rfl,⋯,rfl,⋯,⋯⟩
theorem ig:aD ["yard","words","longer","word"] ["yard","words"] (au i7):=⟨rfl,rfl,rfl,⋯,rfl,⋯,⋯⟩
theorem dN:aD ["yard","length","told","words","size"] ["yard","length"] (au i8):=⟨rfl,rfl,rfl,⋯,rfl,⋯,⋯⟩
theorem nI:aD ["_law_script","_law_k","_law_cell","_law_seed"] ["_law_script","_law_k"] (au BP):=⟨rfl,rfl,rfl,⋯,rfl,⋯,⋯⟩
theorem tF:aD ["_law_box_here","_law_many","_law_digit","_law_one"] ["_law_box_here","_law_many"] (au xV):=⟨rfl,rfl,rfl,⋯,rfl,⋯,⋯⟩
theorem oX:aD ["_law_letter_here","_law_small","_law_capital"] ["_law_letter_here"] (au sW):=⟨rfl,rfl,rfl,⋯,rfl,⋯,⋯⟩
theorem fN:aD ["_law_box_here","_law_few","_law_top","_law_left","_law_ends","_law_k","_law_letter_here","_law_found"] ["_law_box_here","_law_few","_law_top"] (au xW):=⟨rfl,rfl,rfl,⋯,rfl,⋯,⋯⟩
theorem dP:aD ["_law_word","_law_left","_law_letter_here"] ["_law_word"] (au i9):=⟨rfl,rfl,rfl,⋯,rfl,⋯,⋯⟩
theorem ja:aD ["_law_word","_law_left"] ["_law_word"] (au ky):=⟨rfl,rfl,rfl,⋯,rfl,⋯,⋯⟩
theorem L5:aD ["_law_word","_law_at","_law_way"] ["_law_word","_law_at","_law_way"] (au BQ):=⟨rfl,rfl,rfl,⋯,rfl,⋯,⋯⟩
theorem fo:aD ["_law_ray_here","_law_k","_law_head","_law_word","_law_at","_law_way"] ["_law_ray_here","_law_k"] (au oT):=⟨rfl,rfl,rfl,⋯,rfl,⋯,⋯⟩
theorem oY:aD ["_law_yard_here","_law_x","_law_y","_law_z","_law_at","_law_rest"] ["_law_yard_here","_law_x","_law_y","_law_z"] (au sZ):=⟨rfl,rfl,rfl,⋯,rfl,⋯,⋯⟩
theorem tG:aD ["_law_one","_law_other_here","_law_k"] ["_law_one","_law_other_here","_law_k"] (au oU):=⟨rfl,rfl,rfl,⋯,rfl,⋯,⋯⟩
theorem bE:aD ["_law_yard_here","_law_one","_law_other_here","_law_third","_law_k","_law_some","_law_x","_law_y","_law_z","_law_at","_law_back"] ["_law_yard_here","_law_one","_law_other_here","_law_third"] (au s_):=⟨rfl,rfl,rfl,⋯,rfl,⋯,⋯⟩
theorem iR:aD ["_law_yard_here","_law_w","_law_i","_law_v","_law_j","_law_on","_law_back","_law_other_on","_law_other_back","_law_others","_law_one"] ["_law_yard_here","_law_w","_law_i","_law_v","_law_j"] (au tf):=⟨rfl,rfl,rfl,⋯,rfl,⋯,⋯⟩
theorem g7:aD ["_law_yard_here","_law_w","_law_v","_law_found","_law_i"] ["_law_yard_here","_law_w","_law_v"] (au mq):=⟨rfl,rfl,rfl,⋯,rfl,⋯,⋯⟩
theorem x3:aD ["_law_yard_here","_law_w","_law_size"] ["_law_yard_here","_law_w"] (au BR):=⟨rfl,rfl,rfl,⋯,rfl,⋯,⋯⟩
theorem tH:aD ["_law_yard_here","_law_word","_law_short"] ["_law_yard_here","_law_word"] (au oV):=⟨rfl,rfl,rfl,⋯,rfl,⋯,⋯⟩
theorem zU:aD ["_law_word","_law_left"] ["_law_word"] (au xX):=⟨rfl,rfl,rfl,⋯,rfl,⋯,⋯⟩
theorem Fb:aD ["_law_word"] ["_law_word"] (au tm):=⟨rfl,rfl,rfl,⋯,rfl,⋯,⋯⟩
theorem Jr:aD ["_law_word"] ["_law_word"] (au xY):=⟨rfl,rfl,rfl,⋯,rfl,⋯,⋯⟩
theorem cT:aD ["_law_yard_here","_law_length","_law_found","_law_words","_law_many","_law_some","_law_fresh","_law_word"] ["_law_yard_here","_law_length"] (au oW):=⟨rfl,rfl,rfl,⋯,rfl,⋯,⋯⟩
theorem jb:aD ["_law_script","_law_box_here","_law_yard_here","_law_top","_law_length","_law_due","_law_found","_law_other_here","_law_less"] ["_law_script"] (au Jj):=⟨rfl,rfl,rfl,⋯,rfl,⋯,⋯⟩
theorem tI:aD ["self","yard","word","longest","steps","rounds"] ["self","yard","word","longest"] (au kO):=⟨rfl,rfl,rfl,⋯,rfl,⋯,⋯⟩
theorem Fc:aD ["self","strand","way","place"] ["self","strand","way","place"] (au iP):=⟨rfl,rfl,rfl,⋯,rfl,⋯,⋯⟩
section
variable{P:Program}{w:World}{K:c7}{mg:Str->Option Value}{base:Heap}{f0 f1 f2 f3 f4 f5 f6 f7 f8 f9 QL QM QN QO QP QQ QR QS QT Jk Jl QU QV QW QX QY QZ Q0 Q3 Q5 Q6 Q7 Q8 Q9 Q_ Ra Rb Rc Rf Rg Rh Ri Rj Rk Rl Rm Rn Ro Rp Rq Rr Rt Ru Rv aP aZ lQ ie:Addr}{d0 d1 d2 d3 d4 d5 d6 d7 d8 d9 Rw Rx Ry Rz RA RB RC RD RE RF RG RH RI RJ RK RL RM RN RO RP RQ RS RT RU RV RW RX RY RZ R0 R1 R3 R4 R5 R6 R7 R8 R9 R_ Sa Sb Sd Se Sf zS tu:FuncData}
variable(T:Txt K mg f0 f1 f2 f3 f4 f5 f6 f7 f8 f9 QL QM QN QO QP QQ QR QS QT Jk Jl QU QV QW QX QY QZ Q0 Q3 Q5 Q6 Q7 Q8 Q9 Q_ Ra Rb Rc Rf Rg Rh Ri Rj Rk Rl Rm Rn Ro Rp Rq Rr Rt Ru Rv aP aZ lQ ie d0 d1 d2 d3 d4 d5 d6 d7 d8 d9 Rw Rx Ry Rz RA RB RC RD RE RF RG RH RI RJ RK RL RM RN RO RP RQ RS RT RU RV RW RX RY RZ R0 R1 R3 R4 R5 R6 R7 R8 R9 R_ Sa Sb Sd Se Sf zS tu)
include T
theorem eA:bo P w K mg base dS 1 f0 d0 ["letter"] (pq K):=by
 refine T.F0.fn.ok zT (λvs H Q E h=>xk h) (λ_ _ _ _ H vs Q E hr h=>?_)
 refine let Z1:TS:=_;let Z0:TS:=_;⟨_,(ae (cG (g9 (fz K rfl Qax Qe7 Qe6 lX (pv 0))) (ag Z0 (aj (aG (fz K rfl Qax PySem.F.slot_str_upper PySem.F.type_str_upper Gm (pv 0))))) bX)
   (ag Z1 (aj (aG (fz K rfl Qax Qfi Qfh qU (pv 0)))))),?_⟩
 obtain ⟨c,rfl,hc,q⟩:=h
 refine ⟨_,rfl,rfl,c,rfl,rfl,hc,_,rfl,cM (λe=>?_) (λe=>?_)⟩
 ·refine ⟨_,rfl,rfl,c,rfl,rfl,hc,?_⟩
  have z:aA c=PyProof.Rows.up1 c:=if_pos e
  rw[<-z]
  exact q
 ·refine ⟨_,rfl,rfl,c,rfl,rfl,hc,?_⟩
  have z:aA c=PyProof.Rows.lo1 c:=if_neg e
  rw[<-z]
  exact q
theorem oZ:bo P w K mg base dS 2 f6 d6 ["word","cord","place"] (iK K):=by
 walk_at"A"
 refine T.F6.fn.ok iQ (λvs H Q E h=>m_ h) (λ_ _ _ _ H vs Q E hr h=>?_)
 refine let Z0:TS:=_;⟨_,(ae (ao (i:=3) iQ.nd (aB eZ (aB cI (pv 2) ak) (aI aT rfl T.z_len Qbf (ab (pv 0)))))
   (ag Z0 (aj (aG (cP (aa (cP (aa (pv 1) (aa (pv 3) (ab (ai bU T.F0 hr (ab (aV jz (pv 0) (pv 3) (λ_ _=>rfl)))))))) (ab (cP (aa (pv 1) (aa (pv 2) (ab (aV jz (pv 0) (pv 2) (λ_ _=>rfl))))))))))))),?_⟩
 obtain ⟨w,c,i,rfl,YF,hi,hz,q⟩:=h
 have hs:=Zs1
 have hp:(0:Int)<((w:):Int):=by omega
 have hpr:=C7 hi
 have iU:=Bs hi
 have e1:w.getD (Ad (w:) i) 0=w[Ad (w:) i]:=by rw[Qaj,Of iU];rfl
 have e2:w.getD i 0=w[i]:=by rw[Qaj,Of hi];rfl
 rw[e1,e2]at q
 refine ⟨_,rfl,_,_,rfl,rfl,_,rfl,w,rfl,by omega,_,_,rfl,rfl,hp,?_⟩
 show uL 3 (V.int (((i:Int) - 1)%((w:):Int))) _ _ _
 rw[hpr]
 refine ⟨_,rfl,_,rfl,_,rfl,_,rfl,w,_,_,rfl,rfl,by omega,dj (Of iU),_,rfl,YF _ (Qb0 iU),by show 3<=sizeLine;decide,λt1 n1=>?_⟩
 refine ⟨_,rfl,_,rfl,_,rfl,_,rfl,w,_,_,rfl,rfl,by omega,dj (Of hi),by show 3<=sizeLine;decide,λt2 n2=>?_⟩
 refine ⟨by show 2<=sizeLine;decide,λt nt=>?_⟩
 have YG:=(aq.upd (o:= .tup [.ref t1,.ref t2]) nt)
 refine q t t1 t2 _ ah (YG _ _ ((aq.upd n2) _ _ ah)) (YG _ _ ah) ((aq.upd n1).trans ((aq.upd n2).trans YG))
theorem fq:bo P w K mg base dS 1 Rb RX ["_law_letter_here"] (vw K):=by
 refine T.Nh.fn.ok oX (λvs H Q E h=>A5 h) (λ_ _ _ _ H vs Q E hr h=>?_)
 refine let Z3:TS:=_;let Z2:TS:=_;let Z1:TS:=_;let Z0:TS:=_;⟨_,(ae (ao (i:=1) oX.nd (jy [97,98,99,100,101,102,103,104,105,106,107,108,109,110,111,112,113,114,115,116,117,118,119,120,121,122] ⋯))
   (ag Z0 (ae (ao (i:=2) oX.nd (jy [65,66,67,68,69,70,71,72,73,74,75,76,77,78,79,80,81,82,83,84,85,86,87,88,89,90] ⋯))
   (ag Z1 (ae (cG (aM Om (pv 0) (pv 1) (by with_unfolding_all rfl)) (ag Z2 (aj (aG (aV jz (pv 2) (bH K rfl Qax Qdc Qdb gs (pv 1) (ab (pv 0))) (λ_ _=>rfl))))) bX)
   (ag Z3 (aj (aG (aV jz (pv 1) (bH K rfl Qax Qdc Qdb gs (pv 2) (ab (pv 0))) (λ_ _=>rfl)))))))))),?_⟩
 obtain ⟨c,rfl,hc,q⟩:=h
 refine ⟨_,rfl,_,rfl,c,br,rfl,rfl,_,rfl,cM (λe=>?_) (λe=>?_)⟩
 ·have hm:c∈br:=of_decide_eq_true e
  exact ⟨_,rfl,_,rfl,rfl,_,rfl,br,c,rfl,rfl,hm,me,_,aA c,rfl,rfl,∅,y6 c hm,q⟩
 ·have hm:c∈me:=hc.resolve_left λz=>e (decide_eq_true z)
  exact ⟨_,rfl,_,rfl,rfl,_,rfl,me,c,rfl,rfl,hm,br,_,aA c,rfl,rfl,∅,Eu c hm,q⟩
theorem Fd:bo P w K mg base dS 2 Rr Sb ["_law_word"] (vE K):=by
 walk_at"q"
 refine T.F50.fn.ok Fb (λvs H Q E h=>A8 h) (λ_ _ _ _ H vs Q E hr h=>?_)
 refine ⟨_,(aj (aG (bH K rfl Qax Qdv Qdu (jN K rfl) (jy [] ⋯) (ab (bW ["_law_letter_here"] [none] (Gu rfl T.z_reversed (ab (pv 0))) trivial (λ_ _ _ _=>(aE (i:=0) (by decide+kernel:List.Nodup (["_law_letter_here"]:List Str)) rfl (Or.inl rfl))) (λ_ _ _ _=>fR) (λ_ _ _ _=>(ai cL T.Nh hr (ab (pv 0))))))))),?_⟩
 obtain ⟨l,rfl,hc,hz,q⟩:=h
 have hs:(1000:Nat)<sizeLine:=by decide
 refine ⟨rfl,_,rfl,l,rfl,by omega,?_⟩
 rw[Cz]
 refine let gO:Nat->List V->Hp->Prop:=(λi acc H'=>aq H H'/\acc=cx ((l.reverse.take i).map aA));iq (xs:=cx l.reverse) gO (by rw[aX,Qat];omega) ⟨aq.refl H,rfl⟩ ?_ ?_
 ·rintro i x acc H1 Nx hi hx hl ⟨s1,rfl⟩ nx
  obtain ⟨c,tV,rfl⟩:=f_ hx
  refine ⟨trivial,eL ⟨_,rfl,c,rfl,hc c (Qb4.mp (Qac tV)),nx _ _ (by simpa using hl) ⟨s1,?_⟩⟩⟩
  rw[fI, <-take_snoc tV,Qak]
  rfl
 ·rintro acc H1 D hl ⟨s1,rfl⟩ hD
  refine ⟨D,(dU l).map λc=>[c],rfl,rfl,bB.of ?_,?_,?_⟩
  ·rw[ah, <-iB,aX,Qae (ZH _),Qd5]
   rfl
  ·rw[Ey]
   unfold dU
   rw[Qat,kb]
   omega
  ·rw[vz]
   exact q _ (s1.trans (aq.upd hD))
theorem x4:bo P w K mg base dS 2 QO Rz ["word"] (mY K):=by
 walk_at"A"
 refine T.F13.fn.ok i_ (λvs H Q E h=>um h) (λ_ _ _ _ H vs Q E hr h=>?_)
 refine let Z4:TS:=_;let Z3:TS:=_;let Z2:TS:=_;let Z1:TS:=_;let Z0:TS:=_;⟨_,(ae (ao (i:=1) i_.nd (da bM))
   (ag Z0 (ae (cH PassesOwn.never rfl (lZ (pv 0)) (aE (i:=2) i_.nd rfl (Or.inl rfl)) (ag Z1 (aj (cG (PW.pt (nR (KJ K rfl (pv 1)) (kC (aM dF (aV (b9 K rfl) (pv 1) (jd fP ak) (λ_ _=>rfl)) (ai bU T.F0 hr (ab (pv 2))) (aK _))))) (ag Z2 (aj (dh (fz K rfl Qa8 Qem Qel N8 (pv 1))))) (ag Z3 (aj (dh (bH K rfl Qa8 Qc4 Qc3 gq (pv 1) (ab (pv 2))))))))))
   (ag Z4 (aj (aG (bH K rfl Qax Qdv Qdu (jN K rfl) (jy [] ⋯) (ab (pv 1))))))))),?_⟩
 walk_at"u"
 have hs:=Zs1
 walk_at "rd"
 intro p1 n1
 refine ⟨_,rfl,l,rfl,?_⟩
 refine let gO:Nat->L2.St->Hp->Prop:=(λi σ H'=>∃lv,σ=[some (.str (S l)),some (.ref p1),lv]/\H' p1=some (.lst (cx (red (l.take i))))/\bj p1 H H');wL (xs:=cx l) gO ⟨none,rfl,ah,bj.of (aq.upd n1)⟩ ?_ ?_
 ·rintro i x σ H1 hx ⟨lv,rfl,hp,s1⟩
  obtain ⟨c,hc,rfl⟩:=f_ hx
  have hi:i<(l:):=(Og.mp hc).1
  have h8:c<128:=(hl c (Qac hc)).lt
  have Sh:(red (l.take i):)<=1000:=Qbh (gj _) (by rw[Qaa];lia)
  have fin:∀st,st=cB (red (l.take i)) c->∃lv,[some (V.str (S l)),some (V.ref p1),some (V.str (S [c]))]=[some (V.str (S l)),some (.ref p1),lv]/\(upd H1 p1 (.lst (cx st))) p1=some (.lst (cx (red (l.take (i+1)))))/\bj p1 H (upd H1 p1 (.lst (cx st))):=λst e=>
   ⟨_,rfl,by rw[ah,zc hc,e],λb o e z=>by rw[az z];exact s1 b o e z⟩
  refine ⟨_,rfl,p1,_,rfl,bB.of hp,?_⟩
  rcases snoc_cases (red (l.take i)) with e | ⟨m,a,e⟩
  ·rw[e]at hp ⊢
   refine jB rfl ?_
   refine Kv ?_
   refine ⟨_,rfl,.inl ⟨rfl,_,bB.of hp⟩,_,rfl,p1,_,_,rfl,rfl,hp,by rw[aX];exact (by decide:(0:Nat)<sizeLine),?_⟩
   rw[fI]
   refine fin _ ?_
   rw[e]
   unfold cB
   rw[if_neg (by simp)]
  ·rw[e]at hp Sh ⊢
   have U3:(m:)<=1000:=by simp at Sh;lia
   rw[<-fI]at hp ⊢
   refine uk (by simp) ?_
   refine ⟨_,rfl,_,rfl,p1,_,_,_,rfl,rfl,bB.of hp,mH _ _,_,rfl,c,rfl,h8,[a],[aA c],rfl,rfl,_,rfl,cM (λz=>?_) (λz=>?_)⟩
   ·have ea:a=aA c:=by simpa using of_decide_eq_true z
    refine ⟨_,rfl,.inl ⟨rfl,_,bB.of hp⟩,p1,_,V.str (S [a]),rfl,rfl,hp,by simp,?_⟩
    rw[Qd0]
    refine fin _ ?_
    rw[e]
    unfold cB
    rw[if_pos (by simp[ea]),Qd0]
   ·have ea:a≠aA c:=λw=>z (decide_eq_true (by rw[w]))
    refine ⟨_,rfl,.inl ⟨rfl,_,bB.of hp⟩,_,rfl,p1,_,_,rfl,rfl,hp,by rw[QD,aX];show (m:)+1<sizeLine;lia,?_⟩
    rw[fI,fI]
    refine fin _ ?_
    rw[e]
    unfold cB
    rw[if_neg (by simpa using ea)]
 ·rintro σ H1 ⟨lv,rfl,hp,s1⟩
  rw[rJ]at hp
  refine ⟨rfl,_,rfl,p1,(red l).map λc=>[c],rfl,rfl,bB.of (by rw[<-iB];exact hp),?_,?_⟩
  ·rw[Ey]
   have:=gj l
   lia
  ·rw[vz]
   exact q _ (λb o e=>s1 b o e (ay e n1))
theorem uw:bo P w K mg base dS 2 Rf RZ ["_law_word"] (lL K):=by
 walk_at"q"
 refine T.F38.fn.ok dP (λvs H Q E h=>sJ h) (λ_ _ _ _ H vs Q E hr h=>?_)
 refine let Z4:TS:=_;let Z3:TS:=_;let Z2:TS:=_;let Z1:TS:=_;let Z0:TS:=_;⟨_,(ae (ao (i:=1) dP.nd (jy [] ⋯))
   (ag Z0 (ae (cH PassesOwn.never rfl (lZ (pv 0)) (aE (i:=2) dP.nd rfl (Or.inl rfl)) (ag Z1 (aj (cG (PW.pt (nR (aM nY (pv 1) (jy [] ⋯) (aK _)) (kC (aM dF (aV jz (pv 1) (jd fP ak) (λ_ _=>rfl)) (ai cL T.Nh hr (ab (pv 2))) (aK _))))) (ag Z2 (aj (ao (i:=1) dP.nd (bK jA (pv 1) dz (bF (jd fP ak)))))) (ag Z3 (aj (ao (i:=1) dP.nd (aB fu (pv 1) (pv 2)))))))))
   (ag Z4 (aj (aG (pv 1))))))),?_⟩
 walk_at"u"
 have hs:=Zs1
 refine ⟨_,rfl,l,rfl,?_⟩
 refine let gO:Nat->L2.St->Hp->Prop:=(λi σ H'=>∃lv,σ=[some (.str (S l)),some (.str (S (red (l.take i)))),lv]/\H'=H);wL (xs:=cx l) gO ⟨none,rfl,rfl⟩ ?_ ?_
 ·rintro i x σ H1 hx ⟨lv,rfl,rfl⟩
  obtain ⟨c,hc,rfl⟩:=f_ hx
  have lc:=hl c (Qac hc)
  have Sh:(red (l.take i):)<=10000:=Qbh (gj _) (by rw[Qaa];omega)
  have e:=zc hc
  unfold cB at e
  refine ⟨_,rfl,_,_,rfl,rfl,?_⟩
  rcases snoc_cases (red (l.take i)) with e0 | ⟨m,a,e0⟩
  ·rw[e0]at e Sh ⊢
   refine ⟨_,rfl,jB rfl (Kv ?_)⟩
   refine ⟨_,rfl,_,rfl,_,_,rfl,rfl,by show 0+1<=sizeLine;decide,some (.str (S [c])),?_,rfl⟩
   rw[e,if_neg (by simp)]
   rfl
  ·rw[e0]at e Sh ⊢
   have U3:(m:)<=10000:=by simp at Sh;omega
   refine ⟨_,rfl,uk (by simp) ?_⟩
   refine ⟨_,rfl,_,rfl,_,_,_,rfl,rfl,by rw[QD];show (m:)+1<=sizeLine;omega,mH _ _,_,rfl,c,rfl,lc,[a],[aA c],rfl,rfl,_,rfl,cM (λz=>?_) (λz=>?_)⟩
   ·have ea:a=aA c:=by simpa using of_decide_eq_true z
    refine ⟨_,rfl,_,rfl,_,rfl,_,rfl,by rw[QD];show (m:)+1<=sizeLine;omega,some (.str (S [c])),?_,rfl⟩
    rw[e,if_pos (by simp[ea]),Qd0,Hm]
    rfl
   ·have ea:a≠aA c:=λw=>z (decide_eq_true (by rw[w]))
    refine ⟨_,rfl,_,rfl,_,_,rfl,rfl,by rw[QD];show (m:)+1+1<=sizeLine;omega,some (.str (S [c])),?_,rfl⟩
    rw[e,if_neg (by simpa using ea)]
    rfl
 ·rintro σ H1 ⟨lv,rfl,rfl⟩
  rw[rJ]
  exact ⟨_,rfl,q _ (aq.refl _)⟩
theorem jc:bo P w K mg base dS 3 Rg R0 ["_law_word"] (nF K):=by
 have x5:=uw (P:=P) (w:=w) (base:=base) T
 walk_at"q"
 refine T.V6.fn.ok ja (λvs H Q E h=>uu h) (λ_ _ _ _ H vs Q E hr h=>?_)
 refine let Z2:TS:=_;let Z1:TS:=_;let Z0:TS:=_;⟨_,(ae (ao (i:=1) ja.nd (ai x5 T.F38 hr (ab (pv 0))))
   (ag Z0 (ae (cY PassesOwn.never (PW.pt (nR (aM uN (aI aT rfl T.z_len Qbf (ab (pv 1))) ak (aK _)) (kC (aM dF (aV jz (pv 1) ak (λ_ _=>rfl)) (ai cL T.Nh hr (ab (aV jz (pv 1) (jd fP ak) (λ_ _=>rfl)))) (aK _))))) (ag Z1 (aj (ao (i:=1) ja.nd (bK jA (pv 1) (bF ak) (bF (jd fP ak)))))))
   (ag Z2 (aj (aG (pv 1))))))),?_⟩
 walk_at"u"
 have hs:=Zs1
 refine ⟨_,rfl,l,rfl,hl,by omega,λH1 s1=>?_⟩
 have JV:=gj l
 have cf:=Hg hl
 generalize red l=r at JV cf q ⊢
 refine ⟨λm σ H'=>∃c:c0,σ=[some (.str (S l)),some (.str (S c))]/\m=(c:)/\(c:)<=(r:)/\(∀x∈c,Lt x)/\core c=core r/\H'=H1,⟨_,r,rfl,rfl,ZH _,cf,rfl,rfl⟩,?_⟩
 rintro m σ H2 ⟨c,rfl,rfl,V8,hc2,YH,rfl⟩
 refine ⟨_,rfl,_,rfl,by omega,_,_,rfl,rfl,?_⟩
 by_cases z:1<(c:)
 ·obtain ⟨a,m,b,rfl⟩:∃a m b,c=a::(m++[b]):=by
   rcases c with _ | ⟨a,c⟩
   ·exact absurd z ∅
   ·rcases snoc_cases c with e | ⟨m,b,e⟩
    ·rw[e]at z;exact absurd z (by show ¬1<1;decide)
    ·exact ⟨a,m,b,by rw[e]⟩
  have hlen:((a::(m++[b])):)=(m:)+2:=by simp
  have GD:((a::(m++[b])):)<=sizeLine:=by omega
  have lb:Lt b:=hc2 b (by simp)
  refine ⟨_,rfl,uk (decide_eq_true (by show (1:Int)<_;omega)) ?_⟩
  refine ⟨_,rfl,_,_,_,rfl,rfl,GD,(dj rfl:qp (a::(m++[b])) ((0:Nat):Int)=some a),?_⟩
  refine ⟨_,rfl,_,rfl,_,_,_,rfl,rfl,GD,mH (a::m) b,b,rfl,lb,_,_,rfl,rfl,_,rfl,cM (λy=>?_) (λy=>?_)⟩
  ·have ea:a=aA b:=by simpa using of_decide_eq_true y
   refine ⟨_,rfl,_,rfl,_,rfl,_,rfl,_,rfl,GD,?_⟩
   rw[Hn]
   exact ⟨(m:),by omega,m,rfl,rfl,by omega,λx hx=>hc2 x (by simp[hx]),by rw[<-YH,qv ea],rfl⟩
  ·have ea:a≠aA b:=λw=>y (decide_eq_true (by rw[w]))
   refine ⟨_,rfl,?_⟩
   have:=q H2 s1
   rw[<-YH,iC ea]at this
   exact this
 ·refine ⟨_,rfl,jB (decide_eq_false (by show ¬(1:Int)<_;omega)) (Kv ?_)⟩
  refine ⟨_,rfl,?_⟩
  have:=q H2 s1
  rw[<-YH,fg (by omega)]at this
  exact this
theorem Js:bo P w K mg base dS 4 Rq Sa ["_law_word"] (zd K):=by
 have fO:=jc (P:=P) (w:=w) (base:=base) T
 refine T.YD.fn.ok zU (λvs H Q E h=>EG h) (λ_ _ _ _ H vs Q E hr h=>?_)
 refine let Z0:TS:=_;⟨_,(ae (ao (i:=1) zU.nd (ai fO T.V6 hr (ab (pv 0))))
   (ag Z0 (aj (aG (aI (AM K rfl rfl) rfl T.z_min boot_min (ab (bW ["_law_k","_law_left"] [none,some 1] (dY rfl T.z_range (ab (aI (uO rfl) rfl T.z_max boot_max (aa ak (ab (aI aT rfl T.z_len Qbf (ab (pv 1)))))))) ⟨⟨rfl,rfl,by first | exact .inl rfl | exact .inr rfl⟩,trivial⟩ (λ_ _ _ _=>(aE (i:=0) (by decide+kernel:List.Nodup (["_law_k","_law_left"]:List Str)) rfl (Or.inl rfl))) (λ_ _ _ _=>fR) (λ_ _ _ _=>(aB fu (bK jA (pv 1) (bF (pv 0)) dz) (bK jA (pv 1) dz (bF (pv 0)))))))))))),?_⟩
 walk_at"u"
 have hs:=Zs1
 walk_at"G"
 have V8:(core (red l):)<=1000:=Qbh (jT _) (Qbh (gj l) hz)
 unfold bQ cN at q
 generalize core (red l)=c at V8 q ⊢
 have U4:(c:)<=sizeLine:=by omega
 refine ⟨_,rfl,c,rfl,U4,_,_,rfl,?_⟩
 have hmx:(if ((c:):Int)>1 then ((c:):Int) else 1)=((max 1 (c:):Nat):Int):=by split<;>omega
 refine ⟨_,rfl,?_⟩
 rw[hmx,Qab]
 refine ⟨by omega,by omega,?_⟩
 refine let gO:Nat->List V->Hp->Prop:=(λi acc H'=>H'=H1/\acc=bV ((List.range i).map (eV c)));q0 gO (by omega) ⟨rfl,rfl⟩ ?_ ?_
 ·rintro i acc H2 Nx hi ju ⟨rfl,rfl⟩ nx
  have hlen:(cut c (some ((i:Nat):Int)) none:)+(cut c none (some ((i:Nat):Int)):)<=sizeLine:=by rw[fi,eM,Qaz,Qaa];omega
  have Jt:cut c (some ((i:Nat):Int)) none++cut c none (some ((i:Nat):Int))=eV c i:=by rw[fi,eM];rfl
  refine ⟨⟨rfl,trivial⟩,eL ?_⟩
  refine ⟨_,rfl,_,rfl,_,rfl,c,rfl,U4,_,rfl,_,rfl,_,rfl,c,rfl,U4,_,_,rfl,rfl,?_⟩
  rw[Qc5]
  refine ⟨hlen,?_⟩
  rw[Jt]
  refine nx _ _ (by simpa using ju) ⟨rfl,?_⟩
  rw[fJ,Qca,Qak]
  rfl
 ·rintro acc H2 D ju ⟨rfl,rfl⟩ hD
  rw[Ho (by omega)]at*
  have e:max 1 (c:) - 1=(c:) - 1:=by omega
  rw[e]
  exact ⟨D,c,_,rfl,bB.of ah,q _ (s1.trans (aq.upd hD))⟩
theorem mz:bo P w K mg base dS 2 Ri R3 ["_law_ray_here","_law_k"] (sC K):=by
 walk_at"q"
 refine T.DA.fn.ok fo (λvs H Q E h=>zI h) (λ_ _ _ _ H vs Q E hr h=>?_)
 refine let Z5:TS:=_;let Z4:TS:=_;let Z3:TS:=_;let Z2:TS:=_;let Z1:TS:=_;let Z0:TS:=_;⟨_,(ae (lV (pv 0) (gQ (n:=4) K rfl rfl (bA (aE (i:=2) fo.nd rfl (Or.inl rfl)) (bA (aE (i:=3) fo.nd rfl (Or.inl rfl)) (bA (aE (i:=4) fo.nd rfl (Or.inl rfl)) (bA (aE (i:=5) fo.nd rfl (Or.inl rfl)) fX))))))
   (ag Z0 (ae (cG (aM o7 (pv 1) (aI aT rfl T.z_len Qbf (ab (pv 2))) (aK _)) (ag Z1 (aj (aG (aV jz (pv 2) (pv 1) (λ_ _=>rfl))))) bX)
   (ag Z2 (ae (ao (i:=1) fo.nd (aB cI (pv 1) (aI aT rfl T.z_len Qbf (ab (pv 2)))))
   (ag Z3 (ae (cG (aM uN (pv 5) ak (aK _)) (ag Z4 (aj (aG (aV jz (pv 3) (aB eZ (aB a_ (pv 4) (pv 1)) (aI aT rfl T.z_len Qbf (ab (pv 3)))) (λ_ _=>rfl))))) bX)
   (ag Z5 (aj (aG (ai cL T.Nh hr (ab (aV jz (pv 3) (aB eZ (aB cI (aB cI (pv 4) ak) (pv 1)) (aI aT rfl T.z_len Qbf (ab (pv 3)))) (λ_ _=>rfl)))))))))))))),?_⟩
 obtain ⟨p,w',f,k,rfl,⟨i,d,hp,r⟩,⟨dE,hl,hz⟩,q⟩:=h
 have hs:=Zs1
 have yU:=ZJ.mpr dE
 have O0:∀x:Int,qp w' (x%((w':):Int))=some (rd w' x):=λx=>by
  have h1:=Qcn x (show ((w':):Int)≠0 by omega)
  have h2:=Qcc x (show (0:Int)<(w':) by omega)
  rw[CL (by omega) h2]
  unfold rd
  rw[Int.emod_emod]
 refine ⟨_,rfl,p,_,rfl,de.of hp,rfl,_,_,rfl,_,_,rfl,_,_,rfl,_,_,rfl,rfl,?_⟩
 refine ⟨_,rfl,_,rfl,_,rfl,Qar _,_,_,rfl,rfl,_,rfl,jB ?_ ?_⟩
 ·exact decide_eq_false (by show ¬((k:Int)<0);omega)
 refine ⟨_,rfl,_,rfl,_,rfl,Qar _,_,_,rfl,rfl,?_⟩
 rcases r with ⟨rfl,rfl⟩ | ⟨rfl,rfl⟩
 ·refine ⟨_,rfl,_,_,rfl,rfl,_,rfl,uk ∅ ?_⟩
  refine ⟨_,rfl,_,rfl,_,rfl,_,_,rfl,rfl,_,rfl,w',rfl,by omega,_,_,rfl,rfl,by omega,?_⟩
  refine ⟨w',_,_,rfl,rfl,by omega,O0 _,?_⟩
  have e:i+((k:Int) - ((([]:c0):):Int))=i+k:=by show i+((k:Int) - 0)=_;omega
  rw[e]
  exact q
 ·refine ⟨_,rfl,_,_,rfl,rfl,_,rfl,jB ∅ ?_⟩
  refine ⟨_,rfl,_,rfl,_,_,rfl,rfl,_,rfl,_,_,rfl,rfl,_,rfl,w',rfl,by omega,_,_,rfl,rfl,by omega,?_⟩
  refine ⟨w',_,_,rfl,rfl,by omega,O0 _,_,rfl,hl _ (rR dE _),?_⟩
  have e:i - 1 - ((k:Int) - ((([]:c0):):Int))=i - 1 - k:=by show i - 1 - ((k:Int) - 0)=_;omega
  rw[e]
  exact q
theorem kA:bo P w K mg base dS 1 Jk RF ["seen","start","end"] (gH K aZ aP):=by
 refine T.FE.fn.ok kz (λvs H Q E h=>qa h) (λ_ _ _ _ H vs Q E hr h=>?_)
 refine let Z0:TS:=_;⟨_,(ae (ao (i:=3) kz.nd (aB a_ (bO K rfl (pv 0) rfl) ak))
   (ag Z0 (aj (aG (bK jA (bO K rfl (bO K rfl (pv 0) rfl) rfl) (bF (aB a_ (pv 3) (pv 1))) (bF (aB a_ (pv 3) (pv 2)))))))),?_⟩
 obtain ⟨y,lg,s,x,z,rfl,hz,hs,Uj,q⟩:=h
 obtain ⟨d1,e1⟩:=hs.ob
 obtain ⟨d2,e2⟩:=hs.wy.ob
 have:=hs.wy.uz
 have:=hs.wy.lz
 have h1:1<=(s.u:):=Qbm (Qar _) hs.pz
 have rl:=nj (lg:=lg) h1
 have hsl:(100000:Nat)<sizeLine:=by decide
 refine ⟨_,rfl,s.a,aP,d1,_,_,rfl,e1,T.dW,T.n_Seen_place,ni,?_⟩
 walk_at "rd"
 refine ⟨s.a,aP,d1,_,_,rfl,e1,T.dW,T.n_Seen_way,oI,s.wy,aZ,d2,_,_,rfl,e2,T.g6,T.n_Way_onward,UT,?_⟩
 walk_at "rd"
 refine ⟨by rw[vY,dA];lia,?_⟩
 rw[show (s.p:Int)+1=((s.p+1:Nat):Int) by lia,Dd Uj]
 exact q
theorem lT:bo P w K mg base dS 1 Jl RG ["seen","start","end"] (hV K aZ aP):=by
 refine T.FF.fn.ok lS (λvs H Q E h=>r9 h) (λ_ _ _ _ H vs Q E hr h=>?_)
 refine let Z0:TS:=_;⟨_,(ae (ao (i:=3) lS.nd (aB cI (aB cI (bO K rfl (bO K rfl (pv 0) rfl) rfl) ak) (bO K rfl (pv 0) rfl)))
   (ag Z0 (aj (aG (bK jA (bO K rfl (bO K rfl (pv 0) rfl) rfl) (bF (aB a_ (pv 3) (pv 1))) (bF (aB a_ (pv 3) (pv 2)))))))),?_⟩
 obtain ⟨y,lg,s,x,z,rfl,hz,hs,Uj,q⟩:=h
 obtain ⟨d1,e1⟩:=hs.ob
 obtain ⟨d2,e2⟩:=hs.wy.ob
 have:=hs.wy.uz
 have:=hs.wy.lz
 have hp:=hs.pz
 have h1:1<=(s.u:):=Qbm (Qar _) hs.pz
 have rl:=nj (lg:=lg) h1
 have hsl:(100000:Nat)<sizeLine:=by decide
 refine ⟨_,rfl,s.a,aP,d1,_,_,rfl,e1,T.dW,T.n_Seen_way,oI,s.wy,aZ,d2,_,_,rfl,e2,T.g6,T.n_Way_size,Dc,?_⟩
 walk_at "rd"
 refine ⟨s.a,aP,d1,_,_,rfl,e1,T.dW,T.n_Seen_place,ni,?_⟩
 walk_at "rd"
 refine ⟨s.a,aP,d1,_,_,rfl,e1,T.dW,T.n_Seen_way,oI,s.wy,aZ,d2,_,_,rfl,e2,T.g6,T.n_Way_backward,LK,?_⟩
 walk_at "rd"
 refine ⟨by rw[vY,Qat,dA];lia,?_⟩
 rw[show ((s.u:):Int) - 1 - s.p=(((s.u:) - 1 - s.p:Nat):Int) by lia,Dd Uj]
 exact q
theorem BS:bo P w K mg base dS 2 QU RH ["steps","one","other","enough"] (r_ K aZ aP Jk Jl):=by
 have cy:=kA (P:=P) (w:=w) (base:=base) T
 have cU:=lT (P:=P) (w:=w) (base:=base) T
 refine T.YA.fn.ok dX (λvs H Q E h=>zB h) (λ_ _ _ _ H vs Q E hr h=>?_)
 refine let Z8:TS:=_;let Z7:TS:=_;let Z6:TS:=_;let Z5:TS:=_;let Z4:TS:=_;let Z3:TS:=_;let Z2:TS:=_;let Z1:TS:=_;let Z0:TS:=_;⟨_,(ae (ao (i:=4) dX.nd ak)
   (ag Z0 (ae (ao (i:=5) dX.nd ak)
   (ag Z1 (Cp (cY PassesOwn.never (PW.pt (nR (aM o7 (pv 4) (pv 3) (aK _)) (kC (aM dF (mV (pv 0) cy (hr.mono ∅) T.FE.fn.kp T.FE.bd cU (hr.mono ∅) T.FF.fn.kp T.FF.bd gP (aa (pv 1) (aa (pv 4) (ab (aB a_ (pv 4) (pv 5)))))) (mV (pv 0) cy (hr.mono ∅) T.FE.fn.kp T.FE.bd cU (hr.mono ∅) T.FF.fn.kp T.FF.bd gP (aa (pv 2) (aa (pv 4) (ab (aB a_ (pv 4) (pv 5)))))) (aK _))))) (ag Z2 (ae (lW (i:=4) dX.nd rfl (Or.inl rfl) (pv 5) wB)
   (ag Z3 (aj (lW (i:=5) dX.nd rfl (Or.inl rfl) ak O3))))))
   (ag Z4 (Cp (cY PassesOwn.never (aM uN (pv 5) ak (aK _)) (ag Z5 (ae (lW (i:=5) dX.nd rfl (Or.inl rfl) ak K_)
   (ag Z6 (aj (cG (aM dF (mV (pv 0) cy (hr.mono ∅) T.FE.fn.kp T.FE.bd cU (hr.mono ∅) T.FF.fn.kp T.FF.bd gP (aa (pv 1) (aa (pv 4) (ab (aB a_ (pv 4) (pv 5)))))) (mV (pv 0) cy (hr.mono ∅) T.FE.fn.kp T.FE.bd cU (hr.mono ∅) T.FF.fn.kp T.FF.bd gP (aa (pv 2) (aa (pv 4) (ab (aB a_ (pv 4) (pv 5)))))) (aK _)) (ag Z7 (aj (lW (i:=4) dX.nd rfl (Or.inl rfl) (pv 5) wB))) bX))))))
   (ag Z8 (aj (aG (pv 4))))))))))),?_⟩
 obtain ⟨y,lg,s1,t1,b,en,rfl,hz,hs,ht,hen,q⟩:=h
 have call:∀(u:Sn) (x d:Nat) (t:TA) (σ:L2.St) (Q':VK),σ[0]? =some (some (V.ref (if b=true then Jk else Jl)))->kf H aZ aP y lg u->(∀R:List V->Hp->Prop,R [V.ref u.a,V.int x,V.int ((x:Int)+d)] H->t σ H R)->Q' (V.str (S (seg (PH b y lg u) x (x+d)))) H->G9 Jk Jl (gH K aZ aP) (hV K aZ aP) E0 (NI 0) t σ H Q':=by
  intro u x d t σ Q' h0 hu ht' hq
  refine ⟨_,h0,?_⟩
  cases b
  ·exact .inr ⟨rfl,ht' _ ⟨y,lg,u,x,x+d,by rw[Qbs],hz,hu,(),hq⟩⟩
  ·exact .inl ⟨rfl,ht' _ ⟨y,lg,u,x,x+d,by rw[Qbs],hz,hu,(),hq⟩⟩
 generalize (if b=true then Jk else Jl)=fx at call ⊢
 generalize el:PH b y lg s1=l at q
 generalize em:PH b y lg t1=m at q
 walk_at "rd"
 refine ⟨λσ H'=>∃(mn sz e:Nat),σ=[some (.ref fx),some (.ref s1.a),some (.ref t1.a),some (.int en),some (.int mn),some (.int sz)]/\H'=H/\sz=2 ^ e/\sz<=1000000/\mn<=1000000/\kg l m mn/\(en<=mn\/∃k,mn<=k/\k<mn+sz/\l[k]?≠ m[k]?),?_,?_⟩
 ·refine ⟨λw σ H'=>∃(mn sz e:Nat),σ=[some (.ref fx),some (.ref s1.a),some (.ref t1.a),some (.int en),some (.int mn),some (.int sz)]/\H'=H/\w=en - mn/\sz=2 ^ e/\mn+1=sz/\mn<=2*en/\kg l m mn,⟨_,0,1,0,rfl,rfl,rfl,rfl,rfl,Qar _,λk hk=>absurd hk (Qfo _)⟩,?_⟩
  rintro w' σ H2 ⟨mn,sz,e,rfl,rfl,rfl,he,V9,V0,ha⟩
  walk_at "rd"
  walk_at"j"
  ·have z1:(mn:Int)<en:=of_decide_eq_true z
   refine call s1 mn sz _ _ _ rfl hs (λR hR=>⟨_,rfl,_,rfl,_,rfl,_,rfl,_,_,rfl,rfl,hR⟩) ?_
   refine call t1 mn sz _ _ _ rfl ht (λR hR=>⟨_,rfl,_,rfl,_,rfl,_,rfl,_,_,rfl,rfl,hR⟩) ?_
   rw[el,em]
   walk_at "rd"
   refine cM (λy1=>?_) (λy1=>?_)
   ·have y2:seg l mn (mn+sz)=seg m mn (mn+sz):=by simpa using of_decide_eq_true y1
    refine ⟨_,rfl,_,rfl,_,_,rfl,rfl,_,rfl,_,_,rfl,rfl,.inl ⟨(),()⟩,?_⟩
    refine ⟨en - (mn+sz),(),mn+sz,sz*2,e+1,by rw[Qbs,Int.natCast_mul];rfl,rfl,rfl,by rw[he,Qgb],(),(),ha.more y2⟩
   ·have y2:seg l mn (mn+sz)≠seg m mn (mn+sz):=λw=>y1 (decide_eq_true (by rw[w]))
    exact ⟨mn,sz,e,rfl,rfl,he,(),(),ha,.inr (Iw y2)⟩
  ·have z1: ¬(mn:Int)<en:=λw=>z (decide_eq_true w)
   exact ⟨mn,sz,e,rfl,rfl,he,(),(),ha,.inl ()⟩
 ·rintro σ H2 ⟨mn,sz,e,rfl,rfl,he,hsz,V0,ha,hb⟩
  refine ⟨λσ H'=>∃mn:Nat,σ=[some (.ref fx),some (.ref s1.a),some (.ref t1.a),some (.int en),some (.int mn),some (.int 1)]/\H'=H2/\kg l m mn/\(en<=mn\/l[mn]?≠ m[mn]?),?_,?_⟩
  ·refine ⟨λw σ H'=>∃(mn sz e:Nat),σ=[some (.ref fx),some (.ref s1.a),some (.ref t1.a),some (.int en),some (.int mn),some (.int sz)]/\H'=H2/\sz=w/\sz=2 ^ e/\sz<=1000000/\mn<=3000000 - 2*sz/\kg l m mn/\(en<=mn\/∃k,mn<=k/\k<mn+sz/\l[k]?≠ m[k]?),⟨_,mn,sz,e,rfl,rfl,rfl,he,hsz,(),ha,hb⟩,?_⟩
   rintro w' σ H3 ⟨mn,sz,e,rfl,rfl,rfl,he,hsz,V0,ha,hb⟩
   walk_at "rd"
   walk_at"j"
   ·have z1:(1:Int)<sz:=of_decide_eq_true z
    obtain ⟨e',rfl⟩:∃e',e=e'+1:=⟨e - 1,by
     cases e with
     | zero=>rw[he]at z1;simp at z1
     | succ e=>rfl⟩
    have hh:sz=2*2 ^ e':=by rw[he,Qgb,Qb5]
    have hp:0<2 ^ e':=Nat.pow_pos ∅
    generalize U5:2 ^ e'=h2 at hh hp
    have YI:=U5.symm
    have ed:(sz:Int) / 2=(h2:Nat):=by lia
    refine ⟨_,rfl,_,_,rfl,rfl,⟨∅,∅⟩,?_⟩
    refine call s1 mn h2 _ _ _ rfl hs (λR hR=>⟨_,rfl,_,rfl,_,rfl,_,rfl,_,_,rfl,rfl,by rw[ed];exact hR⟩) ?_
    refine call t1 mn h2 _ _ _ rfl ht (λR hR=>⟨_,rfl,_,rfl,_,rfl,_,rfl,_,_,rfl,rfl,by rw[ed];exact hR⟩) ?_
    rw[el,em]
    walk_at "rd"
    have J4:∃e2,h2=2 ^ e2:=⟨e',YI⟩
    obtain ⟨e2,he2⟩:=J4
    refine cM (λy1=>?_) (λy1=>?_)
    ·have y2:seg l mn (mn+h2)=seg m mn (mn+h2):=by simpa using of_decide_eq_true y1
     refine ⟨_,rfl,_,rfl,_,_,rfl,rfl,?_⟩
     refine ⟨h2,(),mn+h2,h2,e2,by rw[Qbs, <-ed];rfl,rfl,rfl,he2,(),(),ha.more y2,?_⟩
     rcases hb with hb | ⟨k,k1,k2,k3⟩
     ·exact .inl ()
     ·refine .inr ⟨k,Classical.byContradiction λw=>k3 (Bx.mp y2 k k1 ()),(),k3⟩
    ·have y2:seg l mn (mn+h2)≠seg m mn (mn+h2):=λw=>y1 (decide_eq_true (by rw[w]))
     exact ⟨h2,(),mn,h2,e2,by rw[<-ed];rfl,rfl,rfl,he2,(),(),ha,.inr (Iw y2)⟩
   ·have z1: ¬(1:Int)<sz:=λw=>z (decide_eq_true w)
    have hp:0<2 ^ e:=Nat.pow_pos ∅
    have e1:sz=1:=by lia
    subst e1
    exact ⟨mn,rfl,rfl,ha,hb.imp id λ⟨k,k1,k2,k3⟩=>by rwa [show k=mn by lia]at k3⟩
  ·rintro σ H3 ⟨mn,rfl,rfl,ha,hb⟩
   exact ⟨_,rfl,q mn ha hb⟩
theorem BU:bo P w K mg base dS 1 QV RI ["seen"] (sd K aZ aP):=by
 refine T.YB.fn.ok mw (λvs H Q E h=>zC h) (λ_ _ _ _ H vs Q E hr h=>?_)
 refine let Z3:TS:=_;let Z2:TS:=_;let Z1:TS:=_;let Z0:TS:=_;⟨_,(ae (ao (i:=1) mw.nd (bO K rfl (pv 0) rfl))
   (ag Z0 (ae (ao (i:=2) mw.nd (aV (bJ K rfl) (bO K rfl (pv 0) rfl) ak (λ_ _=>rfl)))
   (ag Z1 (ae (cG (g9 (bO K rfl (pv 1) rfl)) (ag Z2 (aj (aG (cP (aa (pv 2) (ab (aB dq (bO K rfl (pv 0) rfl) (bO K rfl (pv 1) rfl)))))))) bX)
   (ag Z3 (aj (aG (cP (aa (jd fP (pv 2)) (ab (jd fP (aB dq (aB cI (aB cI (bO K rfl (pv 1) rfl) ak) (bO K rfl (pv 0) rfl)) (bO K rfl (pv 1) rfl)))))))))))))),?_⟩
 obtain ⟨y,lg,s1,rfl,hs,q⟩:=h
 obtain ⟨d1,e1⟩:=hs.ob
 obtain ⟨d2,e2⟩:=hs.wy.ob
 have hp:=hs.pz
 have rp:=ki hs.wy.sw.ne hs.wy.rt
 have u1:=hs.wy.uz
 have u2:=hs.wy.lz
 refine ⟨_,rfl,s1.a,aP,d1,_,_,rfl,e1,T.dW,T.n_Seen_way,oI,?_⟩
 refine ⟨_,rfl,s1.a,aP,d1,_,_,rfl,e1,T.dW,T.n_Seen_strand,vW,s1.t,_,0,_,rfl,rfl,de.of hs.st,rfl,?_⟩
 refine ⟨_,rfl,s1.wy,aZ,d2,_,_,rfl,e2,T.g6,T.n_Way_leads,Iv,?_⟩
 walk_at "rd"
 have ed1:(s1.p:Int) / (s1.r:Int)=((s1.p / s1.r:Nat):Int):=(Qen _ _).symm
 have ed2:(((s1.u:):Int) - 1 - s1.p) / (s1.r:Int)=((((s1.u:) - 1 - s1.p) / s1.r:Nat):Int):=by
  rw[Qen];congr 1;lia
 walk_at"j"
 ·refine ⟨_,rfl,_,rfl,s1.a,aP,d1,_,_,rfl,e1,T.dW,T.n_Seen_place,ni,_,rfl,s1.wy,aZ,d2,_,_,rfl,e2,T.g6,T.n_Way_root_size,qB,_,_,rfl,rfl,⟨(),()⟩,by show 2<=sizeLine;decide,λp np=>?_⟩
  refine q p _ np ?_ (aq.upd np)
  rw[ah]
  unfold By
  rw[if_pos z, <-ed1]
 ·refine ⟨_,rfl,_,rfl,_,rfl,s1.wy,aZ,d2,_,_,rfl,e2,T.g6,T.n_Way_size,Dc,_,_,rfl,rfl,_,rfl,s1.a,aP,d1,_,_,rfl,e1,T.dW,T.n_Seen_place,ni,_,_,rfl,rfl,_,rfl,s1.wy,aZ,d2,_,_,rfl,e2,T.g6,T.n_Way_root_size,qB,_,_,rfl,rfl,⟨(),()⟩,_,rfl,by show 2<=sizeLine;decide,λp np=>?_⟩
  refine q p _ np ?_ (aq.upd np)
  rw[ah]
  unfold By
  rw[if_neg z, <-ed2]
theorem tJ:bo P w K mg base dS 3 QW RJ ["one","other"] (kh K aZ aP):=by
 have wm:=BS (P:=P) (w:=w) (base:=base) T
 have wo:=BU (P:=P) (w:=w) (base:=base) T
 have cy:=kA (P:=P) (w:=w) (base:=base) T
 have cU:=lT (P:=P) (w:=w) (base:=base) T
 refine T.F23.fn.ok eU (λvs H Q E h=>qb h) (λ_ _ _ _ H vs Q E hr h=>?_)
 refine let Z6:TS:=_;let Z5:TS:=_;let Z4:TS:=_;let Z3:TS:=_;let Z2:TS:=_;let Z1:TS:=_;let Z0:TS:=_;⟨_,(ae (ao (i:=2) eU.nd (aB a_ (bO K rfl (bO K rfl (pv 0) rfl) rfl) (bO K rfl (bO K rfl (pv 1) rfl) rfl)))
   (ag Z0 (ae (ao (i:=3) eU.nd (ai wm T.YA hr (aa (B_ (v:= .ref Jk) rfl T.FE.mg rfl) (aa (pv 0) (aa (pv 1) (ab (pv 2)))))))
   (ag Z1 (ae (ao (i:=4) eU.nd (ai wm T.YA hr (aa (B_ (v:= .ref Jl) rfl T.FF.mg rfl) (aa (pv 0) (aa (pv 1) (ab (pv 2)))))))
   (ag Z2 (ae (cG (aM FR (aI (kD rfl) rfl T.z_min boot_min (aa (pv 3) (ab (pv 4)))) (pv 2) (aK _)) (ag Z3 (aj (aG (cE (OL K rfl hr) (ai wo T.YB hr (ab (pv 0))) (ai wo T.YB hr (ab (pv 1))) (aK _))))) bX)
   (ag Z4 (ae (cG (aM ME (pv 3) (pv 4) (aK _)) (ag Z5 (aj (aG (cE wO (ai cy T.FE hr (aa (pv 0) (aa (pv 3) (ab (aB a_ (pv 3) ak))))) (ai cy T.FE hr (aa (pv 1) (aa (pv 3) (ab (aB a_ (pv 3) ak))))) (aK _))))) bX)
   (ag Z6 (aj (aG (cE wO (ai cU T.FF hr (aa (pv 0) (aa (pv 4) (ab (aB a_ (pv 4) ak))))) (ai cU T.FF hr (aa (pv 1) (aa (pv 4) (ab (aB a_ (pv 4) ak))))) (aK _)))))))))))))),?_⟩
 obtain ⟨y,lg,s1,t1,rfl,hy,hz,hs,ht,h0,q⟩:=h
 obtain ⟨d1,e1⟩:=hs.ob
 obtain ⟨d2,e2⟩:=hs.wy.ob
 obtain ⟨d3,e3⟩:=ht.ob
 obtain ⟨d4,e4⟩:=ht.wy.ob
 have rp:=ki hs.wy.sw.ne hs.wy.rt
 have rp':=ki ht.wy.sw.ne ht.wy.rt
 have u1:=hs.wy.uz
 have u1':=ht.wy.uz
 have u2:=hs.wy.lz
 have ns:=hs.wy.sw.ne
 have nt:=ht.wy.sw.ne
 have lf:=bD hs.wy.sw (s1.p:Int)
 have V_:=bD ht.wy.sw (t1.p:Int)
 have as:=vZ (lg:=lg) (s:=s1) (en:=s1.r+t1.r) hs.pz ()
 have at':=vZ (lg:=lg) (s:=t1) (en:=s1.r+t1.r) ht.pz ()
 refine ⟨_,rfl,s1.a,aP,d1,_,_,rfl,e1,T.dW,T.n_Seen_way,oI,s1.wy,aZ,d2,_,_,rfl,e2,T.g6,T.n_Way_root_size,qB,_,rfl,t1.a,aP,d3,_,_,rfl,e3,T.dW,T.n_Seen_way,oI,t1.wy,aZ,d4,_,_,rfl,e4,T.g6,T.n_Way_root_size,qB,_,_,rfl,rfl,?_⟩
 refine ⟨_,rfl,_,rfl,_,rfl,y,lg,s1,t1,true,s1.r+t1.r,by rw[Qbs];rfl,hz,hs,ht,(),λm GV yW=>?_⟩
 refine ⟨_,rfl,_,rfl,_,rfl,y,lg,s1,t1,false,s1.r+t1.r,by rw[Qbs];rfl,hz,hs,ht,(),λn QF tY=>?_⟩
 have YJ:kg (Fz y lg s1) (Fz y lg t1) m:=GV
 have U6:s1.r+t1.r<=m\/(Fz y lg s1)[m]?≠ (Fz y lg t1)[m]?:= yW
 have YK:kg (FA y lg s1) (FA y lg t1) n:=QF
 have U7:s1.r+t1.r<=n\/(FA y lg s1)[n]?≠ (FA y lg t1)[n]?:= tY
 have ga:∀k,k<s1.r+t1.r->(Fz y lg s1)[k]? =some (Ae (eB y (sq s1.u s1.p) (k+1)))/\(Fz y lg t1)[k]? =some (Ae (eB y (sq t1.u t1.p) (k+1))):=λk hk=>⟨Iy ns (),Iy nt ()⟩
 have gb:∀k,k<s1.r+t1.r->(FA y lg s1)[k]? =some (Ae (eB y (sq s1.u s1.p) (-(k:Int))))/\(FA y lg t1)[k]? =some (Ae (eB y (sq t1.u t1.p) (-(k:Int)))):=λk hk=>⟨Iz ns hs.pz (),Iz nt ht.pz ()⟩
 refine ⟨_,rfl,_,rfl,_,_,rfl,?_⟩
 walk_at "rd"
 by_cases par:∀k,sq s1.u s1.p k=sq t1.u t1.p k
 ·have ef:sq s1.u s1.p=sq t1.u t1.p:=funext par
  have m1:s1.r+t1.r<=m:=Dj (λk hk=>by rw[(ga k hk).1,(ga k hk).2,ef]) U6
  have n1:s1.r+t1.r<=n:=Dj (λk hk=>by rw[(gb k hk).1,(gb k hk).2,ef]) U7
  refine cM (λz=>?_) (λz=>absurd (decide_eq_true (show ((s1.r:Int)+t1.r)<=(if (n:Int)<m then (n:Int) else m) by split<;>lia)) z)
  refine ⟨_,rfl,y,lg,s1,rfl,hs,λp1 H1 np1 vU U8=>⟨_,rfl,y,lg,t1,rfl,ht.same U8,λp2 H2 YL rh cC=>?_⟩⟩
  refine ⟨p1,p2,_,_,_,_,rfl,rfl,de.of (cC _ _ vU),de.of rh,?_⟩
  have e:JQ (By s1).1 (By s1).2 (By t1).1 (By t1).2=bP (kY y (2*lg) s1) (kY y (2*lg) t1):=by
   unfold kY
   rw[ef,fM,LM]
  have kq:=q H2 (U8.trans cC)
  rw[<-e]at kq
  exact kq
 ·have dE:∃k,sq s1.u s1.p k≠sq t1.u t1.p k:=Classical.byContradiction λz=>par λk=>Classical.byContradiction λw=>z ⟨k,w⟩
  have z0:sq s1.u s1.p 0=sq t1.u t1.p 0:=by unfold sq;rw[Qci,Qci];exact h0
  obtain ⟨a,b,rn,ha,hb⟩:=dJ (p:=s1.r) (q:=t1.r) () () (Df ns hs.wy.rt s1.p) (Df nt ht.wy.rt t1.p) z0 dE
  have pf:=Dh hy lf
  have pg:=Dh hy V_
  have key:=oz hy lf V_ rn [(By s1).1,(By s1).2] [(By t1).1,(By t1).2] (2*lg) 0 (Qar _) (Qar _) () ()
  have sa:eB y (sq s1.u s1.p) (a+1)≠eB y (sq t1.u t1.p) (a+1):=λw=>rn.hi (by
   unfold eB at w
   rw[show (a:Int)+1 - 1=a by lia, <-rn.pE a () ()]at w
   exact m6 (hy.cl _ (lf.cu _)) (lf.cu _) (V_.cu _) w)
  have sb:eB y (sq s1.u s1.p) (-(b:Int))≠eB y (sq t1.u t1.p) (-(b:Int)):=λw=>by
   have c:=Bk hy lf V_ (rn.pE (-(b:Int)) () ()) rn.lo
   unfold jF at c
   rw[w]at c
   simp at c
  have em:m=a:=Di ha (λk hk=>by
   rw[(ga k ()).1,(ga k ()).2]
   unfold eB
   rw[show (k:Int)+1 - 1=k by lia,rn.pE k () (),rn.pE (k+1) () ()]) (λw=>sa (Dg (pf _) (pg _) (by rw[(ga a ha).1,(ga a ha).2]at w;exact Qad w))) YJ U6
  have en:n=b:=Di hb (λk hk=>by
   rw[(gb k ()).1,(gb k ()).2]
   unfold eB
   rw[rn.pE (-(k:Int)) () (),rn.pE (-(k:Int) - 1) () ()]) (λw=>sb (Dg (pf _) (pg _) (by rw[(gb b hb).1,(gb b hb).2]at w;exact Qad w))) YK U7
  subst em
  subst en
  refine cM (λz=>absurd (show ((s1.r:Int)+t1.r)<=(if (n:Int)<m then (n:Int) else m) from of_decide_eq_true z) (by split<;>lia)) (λz=>?_)
  walk_at "rd"
  have D1:(m:Int)+1=((m+1:Nat):Int):=by lia
  have Ig:(n:Int)+1=((n+1:Nat):Int):=by lia
  refine cM (λz2=>?_) (λz2=>?_)
  ·have z3:m<=n:=by have:=of_decide_eq_true z2;lia
   refine ⟨_,rfl,_,rfl,_,rfl,_,_,rfl,rfl,y,lg,s1,m,m+1,by rw[<-D1];rfl,hz,hs,(),?_⟩
   refine ⟨_,rfl,_,rfl,_,rfl,_,_,rfl,rfl,y,lg,t1,m,m+1,by rw[<-D1];rfl,hz,ht,(),?_⟩
   refine ⟨_,_,rfl,rfl,?_⟩
   rw[if_pos z3]at key
   have e:decide (seg (Fz y lg s1) m (m+1)<seg (Fz y lg t1) m (m+1))=bP (kY y (2*lg) s1) (kY y (2*lg) t1):=by
    rw[qC (ga m ha).1,qC (ga m ha).2,IC]
    exact (decide_eq_decide.mpr (IA (pf _) (pg _))).trans key.symm
   have kq:=q H (aq.refl H)
   rw[<-e]at kq
   exact kq
  ·have z3: ¬m<=n:=λw=>z2 (decide_eq_true ())
   refine ⟨_,rfl,_,rfl,_,rfl,_,_,rfl,rfl,y,lg,s1,n,n+1,by rw[<-Ig];rfl,hz,hs,(),?_⟩
   refine ⟨_,rfl,_,rfl,_,rfl,_,_,rfl,rfl,y,lg,t1,n,n+1,by rw[<-Ig];rfl,hz,ht,(),?_⟩
   refine ⟨_,_,rfl,rfl,?_⟩
   rw[if_neg z3]at key
   have e:decide (seg (FA y lg s1) n (n+1)<seg (FA y lg t1) n (n+1))=bP (kY y (2*lg) s1) (kY y (2*lg) t1):=by
    rw[qC (gb n hb).1,qC (gb n hb).2,IC]
    exact (decide_eq_decide.mpr (IA (pf _) (pg _))).trans key.symm
   have kq:=q H (aq.refl H)
   rw[<-e]at kq
   exact kq
theorem qe:bo P w K mg base dS 4 QX RK ["order","seen"] (jm K aZ aP):=by
 have ux:=tJ (P:=P) (w:=w) (base:=base) T
 refine T.F24.fn.ok cn (λvs H Q E h=>oK h) (λ_ _ _ _ H vs Q E hr h=>?_)
 refine let Z6:TS:=_;let Z5:TS:=_;let Z4:TS:=_;let Z3:TS:=_;let Z2:TS:=_;let Z1:TS:=_;let Z0:TS:=_;⟨_,(ae (ao (i:=2) cn.nd ak)
   (ag Z0 (ae (ao (i:=3) cn.nd (gn K T.z_len (pv 0)))
   (ag Z1 (ae (cY PassesOwn.never (aM o7 (pv 2) (pv 3) (aK _)) (ag Z2 (ae (ao (i:=4) cn.nd (aB dq (aB a_ (pv 2) (pv 3)) ak))
   (ag Z3 (aj (cG (g9 (ai ux T.F23 hr (aa (aV (b9 K rfl) (pv 0) (pv 4) (λ_ _=>rfl)) (ab (pv 1))))) (ag Z4 (aj (ao (i:=2) cn.nd (aB a_ (pv 4) ak)))) (ag Z5 (aj (ao (i:=3) cn.nd (pv 4))))))))))
   (ag Z6 (aj (aG (pv 2))))))))),?_⟩
 obtain ⟨y,lg,a,ss,t1,rfl,hy,hz,ha,Fe,ht,up,hn,q⟩:=h
 have hs:=Zs1
 have key:=Qcq.mp up
 refine ⟨_,rfl,a,_,rfl,.inl (bB.of ha),?_⟩
 walk_at "rd"
 refine ⟨λm σ H'=>∃(lo hi:Nat) (mv:Option V),σ=[some (.ref a),some (.ref t1.a),some (.int lo),some (.int hi),mv]/\m=hi - lo/\lo<=hi/\hi<=(ss:)/\(∀k s,ss[k]? =some s->k<lo->bP (kY y (2*lg) s) (kY y (2*lg) t1)=true)/\(∀k s,ss[k]? =some s->hi<=k->bP (kY y (2*lg) s) (kY y (2*lg) t1)=false)/\aq H H',⟨_,0,(ss:),none,by rw[nu];rfl,rfl,Qar _,ZH _,λk s _ hk=>absurd hk (Qfo _),(λk s e hk=>by rw[Qdh hk]at e;cases e),aq.refl H⟩,?_⟩
 rintro m σ H2 ⟨lo,hi,mv,rfl,rfl,h1,h2,h3,h4,s2⟩
 walk_at "rd"
 walk_at"j"
 ·have z1:(lo:Int)<hi:=of_decide_eq_true z
  have em:(((lo:Int)+hi) / 2)=(((lo+hi) / 2:Nat):Int):=by lia
  have hm:(lo+hi) / 2<(ss:):=by lia
  have hg:ss[(lo+hi) / 2]? =some ss[(lo+hi) / 2]:=Of hm
  obtain ⟨ok,e0⟩:=Fe _ (Qb0 hm)
  walk_at "rd"
  refine ⟨a,_,((lo:Int)+hi) / 2,_,rfl,rfl,bB.of (s2 _ _ ha),by rw[em];exact dj (PJ hg),_,rfl,y,lg,ss[(lo+hi) / 2],t1,rfl,hy,hz,ok.same s2,ht.same s2,e0,λH3 s3=>?_⟩
  walk_at "rd"
  refine cM (λy1=>?_) (λy1=>?_)
  ·walk_at "rd"
   have e1:((lo:Int)+hi) / 2+1=(((lo+hi) / 2+1:Nat):Int):=by lia
   refine ⟨hi - ((lo+hi) / 2+1),(),(lo+hi) / 2+1,hi,_,by rw[<-e1];rfl,rfl,(),h2,λk s e hk=>?_,h4,s2.trans s3⟩
   by_cases q1:k=(lo+hi) / 2
   ·subst q1
    rw[hg]at e
    cases e
    exact y1
   ·obtain ⟨JO,ek⟩:=Og.mp e
    have U9:=key k ((lo+hi) / 2) JO hm ()
    rw[ek]at U9
    cases r:bP (kY y (2*lg) s) (kY y (2*lg) t1)
    ·have:=L2.xf _ _ _ r U9
     rw[this]at y1
     cases y1
    ·rfl
  ·walk_at "rd"
   have y2:bP (kY y (2*lg) ss[(lo+hi) / 2]) (kY y (2*lg) t1)=false:=by simpa using y1
   refine ⟨(lo+hi) / 2 - lo,(),lo,(lo+hi) / 2,_,by rw[<-em];rfl,rfl,(),(),h3,λk s e hk=>?_,s2.trans s3⟩
   by_cases q1:k=(lo+hi) / 2
   ·subst q1
    rw[hg]at e
    cases e
    exact y2
   ·obtain ⟨JO,ek⟩:=Og.mp e
    have U9:=key ((lo+hi) / 2) k hm JO ()
    rw[ek]at U9
    exact L2.xf _ _ _ y2 U9
 ·have z1: ¬(lo:Int)<hi:=λw=>z (decide_eq_true w)
  walk_at "rd"
  have e:hi=lo:=by lia
  subst e
  exact q hi H2 h2 h3 h4 s2
theorem uy:bo P w K mg base dS 2 Q7 RS ["word","letter"] (lM K):=by
 walk_at"A"
 refine T.F31.fn.ok uv (λvs H Q E h=>sP h) (λ_ _ _ _ H vs Q E hr h=>?_)
 refine ⟨_,(aj (aG (SH (cE dF (pv 0) (jy [] ⋯) (aK _)) (wA (Ag (cE nY (pv 1) (ai bU T.F0 hr (ab (aV jz (pv 0) (jd fP ak) (λ_ _=>rfl)))) (aK _)) (wA (cE O4 (aV jz (pv 0) ak (λ_ _=>rfl)) (aI (l_ rfl) rfl T.z_min boot_min (aa (pv 1) (ab (ai bU T.F0 hr (ab (pv 1)))))) (aK _)))))))),?_⟩
 obtain ⟨u,c,rfl,hu,hl,hc,q⟩:=h
 have hs:=Zs1
 walk_at"z"
 ·have e:fB u c=true:=by unfold fB;rw[z];rfl
  rw[e]at q
  exact q
 have hn:u≠[]:=λe=>z (decide_eq_true e)
 obtain ⟨e0,e1⟩:=Dz hn
 rw[UZ hn]at q
 refine ⟨_,rfl,_,rfl,_,rfl,u,_,_,rfl,rfl,hl,e1,_,rfl,hu _ (List.getLast_mem hn),_,_,rfl,rfl,_,rfl,cM (λz2=>?_) (λz2=>?_)⟩
 ·have z3:decide (c≠aA (u.getLast hn))=true:=by simpa using z2
  rw[z3]at q
  exact ⟨_,rfl,u,_,_,rfl,rfl,hl,e0,_,rfl,_,rfl,c,rfl,hc,_,_,rfl,_,_,rfl,rfl,q⟩
 ·have z3:decide (c≠aA (u.getLast hn))=false:=by simpa using z2
  rw[z3]at q
  exact q
theorem uA:bo P w K mg base dS 3 Q8 RT ["yard","words"] (lN K):=by
 have x6:=uy (P:=P) (w:=w) (base:=base) T
 refine T.F32.fn.ok ig (λvs H Q E h=>sQ h) (λ_ _ _ _ H vs Q E hr h=>?_)
 refine let Z2:TS:=_;let Z1:TS:=_;let Z0:TS:=_;⟨_,(ae (ao (i:=2) ig.nd (da bM))
   (ag Z0 (ae (cH PassesOwn.never rfl (cV K rfl (pv 1)) (aE (i:=3) ig.nd rfl (Or.inr rfl)) (ag Z1 (aj (dh (bH K rfl Qa8 Qea Qd9 kF (pv 2) (ab (bW ["letter","word"] [none,some 3] (lZ (pv 0)) ⟨⟨rfl,rfl,by first | exact .inl rfl | exact .inr rfl⟩,trivial⟩ (λ_ _ _ _=>(aE (i:=0) (by decide+kernel:List.Nodup (["letter","word"]:List Str)) rfl (Or.inl rfl))) (λ_ _ _ _=>(jK (g9 (ai x6 T.F31 hr (aa (pv 1) (ab (pv 0))))))) (λ_ _ _ _=>(aB fu (pv 1) (pv 0))))))))))
   (ag Z2 (aj (aG (pv 2))))))),?_⟩
 obtain ⟨y,wt,ls,rfl,hy,hyn,hz,hw,hl,hn,q⟩:=h
 have hs:=Zs1
 refine ⟨by show 0<=sizeLine;decide,λp n=>?_⟩
 have s0:=aq.upd (o:= .lst []) n
 refine ⟨_,rfl,wt,rfl,⟨_,bB.of (s0 _ _ hw)⟩,?_⟩
 refine let gO:Nat->L2.St->Hp->Prop:=(λi σ H'=>∃(ms:List c0) (wv:Option V),σ=[some (.str (S y)),some (.ref wt),some (.ref p),wv]/\H' p=some (.lst (bV ms))/\BI fB y (ls.take i) ms/\aq H H');il (K:=K) (a:=wt) (xs:=bV ls) gO ⟨[],none,rfl,ah,zO _ _,s0⟩ (λi σ H' _ ⟨_,_,_,_,_,s⟩=>bB.of (s _ _ hw)) ?_ ?_
 ·rintro i x σ H1 hx ⟨ms,wv,rfl,hp,hg,s1⟩
  obtain ⟨l,Ff,rfl⟩:=iZ hx
  have Up:=Qac Ff
  have hi:i<(ls:):=(Og.mp Ff).1
  obtain ⟨Wa,Fq⟩:=hl l Up
  have hl8:∀a∈l,a<128:=λa ha=>hy a (Wa a ha)
  have U3:(ms:)<=40000:=by
   have:=hg.jS
   rw[Qaa,Qbo (by omega)]at this
   have h2:(y:)*i<=8*5000:=Nat.mul_le_mul hz (by omega)
   omega
  refine ⟨_,rfl,.inl ⟨rfl,_,bB.of hp⟩,_,rfl,y,rfl,?_⟩
  refine let zV:Nat->List V->Hp->Prop:=(λj acc H'=>H'=H1/\acc=bV (((y.take j).filter (fB l)).map λc=>l++[c]));iq (xs:=cx y) zV (by rw[aX];omega) ⟨rfl,rfl⟩ ?_ ?_
  ·rintro j x acc H2 Nx hj KO ju ⟨rfl,rfl⟩ nx
   obtain ⟨c,YM,rfl⟩:=f_ KO
   have OK:=Qac YM
   refine ⟨⟨rfl,trivial⟩,?_⟩
   refine ⟨_,rfl,_,rfl,l,c,rfl,hl8,by omega,hy c OK,_,rfl,cM (λz=>?_) (λz=>?_)⟩
   ·refine ⟨_,rfl,_,rfl,_,_,rfl,rfl,by show (l:)+1<=sizeLine;omega,?_⟩
    refine nx _ _ (by simpa using ju) ⟨rfl,?_⟩
    rw[fJ, <-take_snoc YM,Qa9,sN _ c z,Qak]
    rfl
   ·refine nx _ _ (by omega) ⟨rfl,?_⟩
    rw[<-take_snoc YM,Qa9,sO _ c z,Qa1]
  ·rintro acc H2 D ju ⟨rfl,rfl⟩ hD
   rw[aX,Qbe]
   have pD:p≠D:=ay hp hD
   have P0:(((y.filter (fB l)).map λc=>l++[c]):)<=(y:):=by rw[kb];exact Qcf _ _
   refine ⟨p,D,_,_,rfl,rfl,by rw[az pD];exact hp,ah,by rw[aY,aY];omega,?_⟩
   rw[qE]
   refine ⟨ms++((y.filter (fB l)).map λc=>l++[c]),_,rfl,ah,?_,aq.Yv (s1.trans (aq.upd hD)) n⟩
   rw[<-take_snoc Ff]
   refine wg hg (λm=>?_) ?_ P0
   ·rw[Qa3]
    walk_at"M"
   ·exact Qgf _ (λa b h e=>h (by have:=List.append_cancel_left e;simpa using this)) (hyn.filter _)
 ·rintro σ H1 ⟨ms,wv,rfl,hp,hg,s1⟩
  rw[aY,Qbe]at hg
  exact ⟨_,rfl,q p ms H1 n hp hg s1⟩
theorem Fg:bo P w K mg base dS 1 Rj R4 ["_law_yard_here","_law_x","_law_y","_law_z"] (vJ K):=by
 refine T.F42.fn.ok oY (λvs H Q E h=>Ba h) (λ_ _ _ _ H vs Q E hr h=>?_)
 refine let Z1:TS:=_;let Z0:TS:=_;⟨_,(ae (ao (i:=4) oY.nd (bH K rfl Qax Qdc Qdb gs (pv 0) (ab (pv 1))))
   (ag Z0 (ae (ao (i:=5) oY.nd (aB fu (bK jA (pv 0) (bF (pv 4)) dz) (bK jA (pv 0) dz (bF (pv 4)))))
   (ag Z1 (aj (aG (cE o7 (bH K rfl Qax Qdc Qdb gs (pv 5) (ab (pv 2))) (bH K rfl Qax Qdc Qdb gs (pv 5) (ab (pv 3))) (aK _)))))))),?_⟩
 obtain ⟨y,a,b,c,rfl,hn,ha,hb,hc,hz,q⟩:=h
 have hs:=Zs1
 have hlen:(cut y (some ((y.idxOf a:Nat):Int)) none:)+(cut y none (some ((y.idxOf a:Nat):Int)):)<=sizeLine:=by rw[fi,eM,Qaz,Qaa];lia
 have Jt:cut y (some ((y.idxOf a:Nat):Int)) none++cut y none (some ((y.idxOf a:Nat):Int))=y.drop (y.idxOf a)++y.take (y.idxOf a):=by rw[fi,eM]
 have hm:∀e∈y,e∈y.drop (y.idxOf a)++y.take (y.idxOf a):=λe he=>Qce.mem_iff.mp (by rw[Qal];exact he)
 refine ⟨_,rfl,rfl,_,rfl,y,a,rfl,rfl,ha,?_⟩
 refine ⟨_,rfl,_,rfl,_,rfl,y,rfl,(),_,rfl,_,rfl,_,rfl,y,rfl,(),_,_,rfl,rfl,hlen,?_⟩
 rw[Jt]
 refine ⟨_,rfl,rfl,_,rfl,_,b,rfl,rfl,hm b hb,_,rfl,rfl,_,rfl,_,c,rfl,rfl,hm c hc,_,_,rfl,rfl,?_⟩
 rw[<-Hx hn ha hb hc]at q
 exact q
theorem Ju:bo P w K mg base dS 5 Rt Sd ["_law_word"] (zR K):=by
 have DB:=Js (P:=P) (w:=w) (base:=base) T
 have Jv:=Fd (P:=P) (w:=w) (base:=base) T
 refine T.F51.fn.ok Jr (λvs H Q E h=>E9 h) (λ_ _ _ _ H vs Q E hr h=>?_)
 refine ⟨_,(aj (aG (aI (l_ rfl) rfl T.z_min boot_min (aa (ai DB T.YD hr (ab (pv 0))) (ab (ai DB T.YD hr (ab (ai Jv T.F50 hr (ab (pv 0)))))))))),?_⟩
 walk_at"u"
 walk_at"G"
 refine ⟨_,rfl,l,rfl,hl,hz,λH2 s2=>?_⟩
 refine ⟨dU l,rfl,Hd hl,by rw[bZ];exact hz,λH3 s3=>?_⟩
 exact ⟨_,_,rfl,q _ ((s1.trans s2).trans s3)⟩
theorem x8:bo P w K mg base dS 1 f9 d9 ["rising","point"] (nh K):=by
 refine T.F9.fn.ok dB (λvs H Q E h=>ur h) (λ_ _ _ _ H vs Q E hr h=>?_)
 refine let Z6:TS:=_;let Z5:TS:=_;let Z4:TS:=_;let Z3:TS:=_;let Z2:TS:=_;let Z1:TS:=_;let Z0:TS:=_;⟨_,(ae (ao (i:=2) dB.nd ak)
   (ag Z0 (ae (ao (i:=3) dB.nd (aB cI (gn K T.z_len (pv 0)) ak))
   (ag Z1 (ae (cY PassesOwn.never (aM o7 (pv 2) (pv 3) (aK _)) (ag Z2 (ae (ao (i:=4) dB.nd (aB dq (aB a_ (pv 2) (pv 3)) ak))
   (ag Z3 (aj (cG (aM o7 (aV (b9 K rfl) (pv 0) (pv 4) (λ_ _=>rfl)) (pv 1) (aK _)) (ag Z4 (aj (ao (i:=2) dB.nd (aB a_ (pv 4) ak)))) (ag Z5 (aj (ao (i:=3) dB.nd (pv 4))))))))))
   (ag Z6 (aj (aG (pv 2))))))))),?_⟩
 obtain ⟨a,l,p,rfl,ha,up,hp,hn,q⟩:=h
 have hs:=Zs1
 have hi:=Qah hp
 have YN:l[l.idxOf p]=p:=Qcu hi
 have key:=Qcq.mp up
 refine ⟨_,rfl,a,_,rfl,.inl (bB.of ha),?_⟩
 rw[ng]
 walk_at "wk"
 refine ⟨λm σ H'=>∃(lo hi:Nat) (mv:Option V),σ=[some (.ref a),some (.int p),some (.int lo),some (.int hi),mv]/\m=hi - lo/\lo<=l.idxOf p/\l.idxOf p<=hi/\hi<(l:)/\H'=H,⟨_,0,(l:) - 1,none,?_,rfl,Qar _,by omega,by omega,rfl⟩,?_⟩
 ·have:(((l:):Int) - 1)=(((l:) - 1:Nat):Int):=by omega
  rw[<-this];rfl
 rintro m σ H2 ⟨lo,nL,mv,rfl,rfl,h1,h2,h3,rfl⟩
 walk_at "wk"
 walk_at"j"
 ·have z1:(lo:Int)<nL:=of_decide_eq_true z
  have em:(((lo:Int)+nL) / 2)=(((lo+nL) / 2:Nat):Int):=by omega
  have hm:(lo+nL) / 2<(l:):=by omega
  walk_at "rd"
  refine ⟨a,_,((lo:Int)+nL) / 2,_,rfl,rfl,bB.of ha,by rw[em];exact dj (Io (Of hm)),?_⟩
  walk_at "rd"
  refine cM (λy=>?_) (λy=>?_)
  ·have y1:((l[(lo+nL) / 2]:Nat):Int)<p:=of_decide_eq_true y
   have lt:(lo+nL) / 2<l.idxOf p:=by
    refine Classical.byContradiction λw=>?_
    by_cases e:(lo+nL) / 2=l.idxOf p
    ·have:l[(lo+nL) / 2]=p:=by simp only[e];exact YN
     omega
    ·have:=key (l.idxOf p) ((lo+nL) / 2) hi hm (by omega)
     rw[YN]at this
     omega
   walk_at "rd"
   have e1:((lo:Int)+nL) / 2+1=(((lo+nL) / 2+1:Nat):Int):=by omega
   refine ⟨nL - ((lo+nL) / 2+1),by omega,(lo+nL) / 2+1,nL,_,by rw[<-e1];rfl,rfl,by omega,h2,h3,rfl⟩
  ·have y1: ¬((l[(lo+nL) / 2]:Nat):Int)<p:=λw=>y (decide_eq_true w)
   have le:l.idxOf p<=(lo+nL) / 2:=by
    refine Classical.byContradiction λw=>?_
    have:=key ((lo+nL) / 2) (l.idxOf p) hm hi (by omega)
    rw[YN]at this
    omega
   walk_at "rd"
   refine ⟨(lo+nL) / 2 - lo,by omega,lo,(lo+nL) / 2,_,by rw[<-em];rfl,rfl,h1,le,by omega,rfl⟩
 ·have z1: ¬(lo:Int)<nL:=λw=>z (decide_eq_true w)
  have e:lo=l.idxOf p:=by omega
  walk_at "rd"
  rw[e]
  exact q
theorem pN:bo P w K mg base dS 3 QP RA ["word"] (pA K):=by
 have zW:=x4 (P:=P) (w:=w) (base:=base) T
 walk_at"A"
 refine T.Yz.fn.ok eh (λvs H Q E h=>xl h) (λ_ _ _ _ H vs Q E hr h=>?_)
 refine let Z5:TS:=_;let Z4:TS:=_;let Z3:TS:=_;let Z2:TS:=_;let Z1:TS:=_;let Z0:TS:=_;⟨_,(ae (ao (i:=1) eh.nd (ai zW T.F13 hr (ab (pv 0))))
   (ag Z0 (ae (ao (i:=2) eh.nd ak)
   (ag Z1 (ae (ao (i:=3) eh.nd (aI aT rfl T.z_len Qbf (ab (pv 1))))
   (ag Z2 (ae (cY PassesOwn.never (PW.pt (nR (aM FR (aB cI (pv 3) (pv 2)) ak (aK _)) (kC (aM dF (aV jz (pv 1) (pv 2) (λ_ _=>rfl)) (ai bU T.F0 hr (ab (aV jz (pv 1) (aB cI (pv 3) ak) (λ_ _=>rfl)))) (aK _))))) (ag Z3 (ae (lW (i:=2) eh.nd rfl (Or.inl rfl) ak wB)
   (ag Z4 (aj (lW (i:=3) eh.nd rfl (Or.inl rfl) ak NP))))))
   (ag Z5 (aj (aG (bK jA (pv 1) (bF (pv 2)) (bF (pv 3))))))))))))),?_⟩
 walk_at"u"
 have hs:=Zs1
 walk_at"G"
 have JV:=gj l
 have cf:=Hg hl
 generalize red l=r at JV cf q ⊢
 have hrz:(r:)<=sizeLine:=by lia
 walk_at "rd"
 refine ⟨λm σ H'=>∃(a e:Nat),σ=[some (.str (S l)),some (.str (S r)),some (.int a),some (.int e)]/\m=e - a/\a<=e/\e<=(r:)/\core (Fv r a e)=core r/\H'=H1,⟨_,0,(r:),rfl,rfl,Qar _,ZH _,by rw[Lh],rfl⟩,?_⟩
 rintro m σ H2 ⟨a,e,rfl,rfl,h1,h2,hc,rfl⟩
 have fin:core (Fv r a e)=Fv r a e->Q (.str (S (cut r (some (a:Int)) (some (e:Int))))) H2:=λz=>by
  have e1:cut r (some (a:Int)) (some (e:Int))=Fv r a e:=by
   unfold cut Fv
   rw[HT.eJ,HT.eJ]
   have e1:min a (r:)=a:=by lia
   have e2:min e (r:)=e:=by lia
   rw[e1,e2]
  rw[e1, <-z,hc]
  exact q H2 s1
 walk_at "rd"
 walk_at"j"
 ·have z1:(2:Int)<=(e:Int) - (a:Int):=of_decide_eq_true z
  have ha:a<(r:):=by lia
  have he:e - 1<(r:):=by lia
  have g0:qp r (a:Int)=some r[a]:=dj (Of ha)
  have g1:qp r ((e:Int) - 1)=some r[e - 1]:=by
   have:(e:Int) - 1=((e - 1:Nat):Int):=by lia
   rw[this];exact dj (Of he)
  have h8:r[e - 1]<128:=(cf _ (Qb0 he)).lt
  have hw:=O6 (l:=r) (s:=a) (e:=e) () h2
  refine ⟨_,rfl,_,rfl,r,_,_,rfl,rfl,hrz,g0,?_⟩
  walk_at "rd"
  refine ⟨r,_,_,rfl,rfl,hrz,g1,?_⟩
  walk_at "rd"
  refine cM (λy=>?_) (λy=>?_)
  ·have ey:r[a]=aA r[e - 1]:=by simpa using of_decide_eq_true y
   walk_at "rd"
   refine ⟨(e - 1) - (a+1),(),a+1,e - 1,?_,rfl,(),(),?_,rfl⟩
   ·have e1:(a:Int)+1=((a+1:Nat):Int):=by lia
    have e2:(e:Int) - 1=((e - 1:Nat):Int):=by lia
    rw[<-e1, <-e2]
    rfl
   ·rw[<-hc,hw,qv ey]
  ·have ey:r[a]≠aA r[e - 1]:=λw=>y (decide_eq_true (by rw[w]))
   walk_at "rd"
   exact fin (by rw[hw,iC ey])
 ·have z1: ¬(2:Int)<=(e:Int) - (a:Int):=λw=>z (decide_eq_true w)
  walk_at "rd"
  exact fin (fg (by rw[Lg h2];lia))
theorem x9:bo P w K mg base dS 4 QQ RB ["word"] (CG K):=by
 have mB:=pN (P:=P) (w:=w) (base:=base) T
 refine T.J3.fn.ok kQ (λvs H Q E h=>Hj h) (λ_ _ _ _ H vs Q E hr h=>?_)
 refine let Z5:TS:=_;let Z4:TS:=_;let Z3:TS:=_;let Z2:TS:=_;let Z1:TS:=_;let Z0:TS:=_;⟨_,(ae (ao (i:=1) kQ.nd (ai mB T.Yz hr (ab (pv 0))))
   (ag Z0 (ae (ao (i:=2) kQ.nd (pv 1))
   (ag Z1 (ae (cH PassesOwn.never rfl (uM rfl T.z_range (aa ak (ab (aI aT rfl T.z_len Qbf (ab (pv 1)))))) (aE (i:=3) kQ.nd rfl (Or.inl rfl)) (ag Z2 (ae (ao (i:=4) kQ.nd (aB fu (bK jA (pv 1) (bF (pv 3)) dz) (bK jA (pv 1) dz (bF (pv 3)))))
   (ag Z3 (aj (cG (aM wO (pv 4) (pv 2) (aK _)) (ag Z4 (aj (ao (i:=2) kQ.nd (pv 4)))) bX))))))
   (ag Z5 (aj (aG (pv 2))))))))),?_⟩
 walk_at"u"
 have hs:=Zs1
 walk_at"G"
 have V8:(core (red l):)<=1000:=Qbh (jT _) (Qbh (gj l) hz)
 unfold bQ cN at q
 generalize core (red l)=c at V8 q ⊢
 have U4:(c:)<=sizeLine:=by lia
 walk_at "rd"
 refine ⟨_,_,rfl,⟨∅,∅,(),()⟩,?_⟩
 refine eY (λi σ H'=>H'=H1/\∃sv bv,σ=[some (.str (S l)),some (.str (S c)),some (.str (S (bC c (jU c i)))),sv,bv]) ⟨rfl,none,none,rfl⟩ ?_ ?_
 ·rintro i σ H2 hi ⟨rfl,sv,bv,rfl⟩
  have e1:(1:Int)+(i:Int)=((i+1:Nat):Int):=by lia
  rw[e1]
  have hlen:(cut c (some ((i+1:Nat):Int)) none:)+(cut c none (some ((i+1:Nat):Int)):)<=sizeLine:=by rw[fi,eM,Qaz,Qaa];lia
  have Jt:cut c (some ((i+1:Nat):Int)) none++cut c none (some ((i+1:Nat):Int))=eV c (i+1):=by rw[fi,eM];rfl
  walk_at "rd"
  rw[Jt]
  walk_at"j"
  ·have z':eV c (i+1)<bC c (jU c i):=of_decide_eq_true z
   have hle:bC c (jU c (i+1))=eV c (i+1):=by rw[vD,iW];unfold bp;rw[if_pos z']
   refine ⟨_,rfl,?_⟩
   rw[hle]
   exact ⟨rfl,_,_,rfl⟩
  ·have z': ¬eV c (i+1)<bC c (jU c i):=λy=>z (decide_eq_true y)
   have hle:bC c (jU c (i+1))=bC c (jU c i):=by rw[vD,iW];unfold bp;rw[if_neg z']
   rw[hle]
   exact ⟨rfl,_,_,rfl⟩
 ·rintro σ H2 ⟨rfl,sv,bv,rfl⟩
  have e:(((c:):Int) - 1).toNat=(c:) - 1:=by lia
  rw[e]
  exact ⟨_,rfl,q _ s1⟩
theorem L6:bo P w K mg base dS 5 QS RD ["word"] (CJ K):=by
 have mC:=x9 (P:=P) (w:=w) (base:=base) T
 refine T.V4.fn.ok qF (λvs H Q E h=>Hr h) (λ_ _ _ _ H vs Q E hr h=>?_)
 refine let Z4:TS:=_;let Z3:TS:=_;let Z2:TS:=_;let Z1:TS:=_;let Z0:TS:=_;⟨_,(ae (ao (i:=1) qF.nd (ai mC T.J3 hr (ab (pv 0))))
   (ag Z0 (ae (cH PassesOwn.never rfl (uM rfl T.z_range (aa ak (ab (aB a_ (aI aT rfl T.z_len Qbf (ab (pv 1))) ak)))) (aE (i:=2) qF.nd rfl (Or.inl rfl)) (ag Z1 (ae (ao (i:=3) qF.nd (aB dq (aI aT rfl T.z_len Qbf (ab (pv 1))) (pv 2)))
   (ag Z2 (aj (cG (aM dF (aB wQ (bK jA (pv 1) dz (bF (pv 2))) (pv 3)) (pv 1) (aK _)) (ag Z3 (aj (aG (cP (aa (bK jA (pv 1) dz (bF (pv 2))) (ab (pv 3))))))) bX))))))
   (ag Z4 (aj (aG (cP (aa (jy [] ⋯) (ab ak))))))))),?_⟩
 walk_at"u"
 have hs:=Zs1
 walk_at "wk"
 intro H1 s1
 have hw:(bQ l:)<=1000:=Qbh (EF l) hz
 generalize bQ l=c at hw q ⊢
 have U4:(c:)<=sizeLine:=by lia
 walk_at "wk"
 refine ⟨_,_,rfl,⟨∅,∅,(),()⟩,?_⟩
 refine let gO:Nat->L2.St->Hp->Prop:=(λi σ H'=>H'=H1/\(∀j,1<=j->j<=i-> ¬iE c j)/\∃sv tv,σ=[some (.str (S l)),some (.str (S c)),sv,tv]);eY gO ⟨rfl,λj h1 h2=>by lia,none,none,rfl⟩ ?_ ?_
 ·rintro i σ H2 hi ⟨rfl,P4,sv,tv,rfl⟩
  have e1:(1:Int)+(i:Int)=((i+1:Nat):Int):=by lia
  rw[e1]
  have e2:((c:):Int) / ((i+1:Nat):Int)=(((c:) / (i+1):Nat):Int):=(Qen _ _).symm
  have hd:=Nat.div_le_self (c:) (i+1)
  have hmul:(c.take (i+1):)*((c:) / (i+1))<=sizeLine:=by
   have h1:(c.take (i+1):)<=i+1:=by rw[Qaa];lia
   have h2:=Nat.mul_div_le (c:) (i+1)
   have h3:=Qep ((c:) / (i+1)) h1
   lia
  walk_at "wk"
  refine ⟨⟨by rw[e2];exact Qed _,by rw[e2];exact Int.ofNat_le.mpr (Qbh hd (by lia:(c:)<=1000000))⟩,by rw[e2,fi,Qab];exact hmul,?_⟩
  walk_at "wk"
  walk_at"j"
  ·have z1:iE c (i+1):=by
    have:=of_decide_eq_true z
    rw[e2,fi,Qab]at this
    exact this
   walk_at "wk"
   intro p np
   refine q p (i+1) _ (aq.free s1 np) ?_ (.inr ⟨(),(),z1,λj j1 j2=>P4 j j1 ()⟩) (s1.trans (aq.upd np))
   rw[ah]
   unfold MY
   rw[<-fi, <-e2]
  ·have z1: ¬iE c (i+1):=λy=>z (decide_eq_true (by
    rw[e2,fi,Qab]
    exact y))
   refine ⟨rfl,λj j1 j2=>?_,_,_,rfl⟩
   by_cases y:j=i+1
   ·rw[y];exact z1
   ·exact P4 j j1 ()
 ·rintro σ H2 ⟨rfl,P4,sv,tv,rfl⟩
  have hc:c=[]:=by
   by_cases z:c=[]
   ·exact z
   ·have hl:0<(c:):=ZJ.mpr z
    exact absurd (EH c z) (P4 _ hl ())
  subst hc
  walk_at "wk"
  intro p np
  exact q p 0 _ (aq.free s1 np) (by rw[ah];rfl) (.inl ⟨rfl,rfl⟩) (s1.trans (aq.upd np))
theorem qf:bo P w K mg base dS 1 f8 d8 ["some"] (jj K):=by
 refine T.F8.fn.ok dR (λvs H Q E h=>oG h) (λ_ _ _ _ H vs Q E hr h=>?_)
 refine let Z4:TS:=_;let Z3:TS:=_;let Z2:TS:=_;let Z1:TS:=_;let Z0:TS:=_;⟨_,(ae (ao (i:=1) dR.nd GP)
   (ag Z0 (ae (cH PassesOwn.never rfl (cV K rfl (pv 0)) (aE (i:=2) dR.nd rfl (Or.inl rfl)) (ag Z1 (ae (ao (i:=3) dR.nd (aI (kD rfl) rfl T.z_min boot_min (aa (aV (bJ K rfl) (pv 2) ak (λ_ _=>rfl)) (ab (aV (bJ K rfl) (pv 2) ak (λ_ _=>rfl))))))
   (ag Z2 (ae (wY (qQ hr) (pv 1) (aV (bJ K rfl) (pv 2) ak (λ_ _=>rfl)) (pv 3) rfl)
   (ag Z3 (aj (wY (qQ hr) (pv 1) (aV (bJ K rfl) (pv 2) ak (λ_ _=>rfl)) (pv 3) rfl))))))))
   (ag Z4 (aj (aG (pv 1))))))),?_⟩
 obtain ⟨a,qs,rfl,ha,hq,hn,nd,q⟩:=h
 have hs:=Zs1
 walk_at "wk"
 intro d Wb
 have had:a≠d:=ay ha Wb
 refine ⟨_,rfl,a,rfl,⟨_,bB.of (by rw[az had];exact ha)⟩,?_⟩
 refine let gO:Nat->L2.St->Hp->Prop:=(λk σ H'=>∃(cv fv:Option V),σ=[some (.ref a),some (.ref d),cv,fv]/\H' d=some (.dK (gN ((qs.take k).map Q4.v)))/\bj d H H');il (K:=K) (a:=a) (xs:=EU qs) gO
  ⟨none,none,rfl,ah,λb o e z=>by rw[az z];exact e⟩ (λk σ H' _ ⟨_,_,_,_,h⟩=>bB.of (h _ _ ha had)) ?_ ?_
 ·rintro k x σ H1 hx ⟨cv,fv,rfl,hd,s1⟩
  obtain ⟨c,hc,rfl⟩:=Pp hx
  have hk:k<(qs:):=(Og.mp hc).1
  have tc:=hq c (Qac hc)
  have pR:c.t≠d:=λz=>by have h9:H c.t=_:=tc;rw[z,Wb]at h9;cases h9
  have Wc:uq H1 c:=s1 _ _ tc pR
  have lc:(gN ((qs.take k).map Q4.v):)<=2000:=by rw[zy,kb,Qaa];omega
  have e:(qs.take (k+1)).map Q4.v=(qs.take k).map Q4.v++[c.v]:=by rw[<-take_snoc hc,Qak];rfl
  have nd1:(eS ((qs.take k).map Q4.v++[c.v])).Nodup:=by
   rw[<-e]
   have:qs.map Q4.v=(qs.take (k+1)).map Q4.v++(qs.drop (k+1)).map Q4.v:=by rw[<-Qak,Qal]
   rw[this]at nd
   unfold eS at nd ⊢
   rw[Qb9,Qcs]at nd
   exact nd.1
  refine ⟨_,rfl,c.t,_,2,_,rfl,rfl,de.of Wc,rfl,_,rfl,c.t,_,3,_,rfl,rfl,de.of Wc,rfl,_,_,rfl,?_⟩
  refine ⟨_,rfl,_,rfl,_,rfl,c.t,_,2,_,rfl,rfl,de.of Wc,rfl,d,_,rfl,wX.k (k:=Sum.inl (c.v.2.2.1:Int)) hd (by omega),?_⟩
  have tc2:∀o,uq (L2.upd H1 d o) c:=λo=>by show L2.upd H1 d o c.t=_;rw[az pR];exact Wc
  refine ⟨_,rfl,_,rfl,_,rfl,c.t,_,3,_,rfl,rfl,de.of (tc2 _),rfl,d,_,rfl,wX.k (k:=Sum.inl (c.v.2.2.2:Int)) ah (Qbm (gR _ _ _) (by omega)),?_⟩
  refine ⟨_,_,rfl,?_,λb o eb z=>by rw[az z,az z];exact s1 b o eb z⟩
  rw[ah,e, <-LI nd1]
  rfl
 ·rintro σ H1 ⟨cv,fv,rfl,hd,s1⟩
  rw[C8,Qbe]at hd
  exact ⟨_,rfl,q d H1 Wb hd λb o eb=>s1 b o eb (ay eb Wb)⟩
theorem L7:bo P w K mg base dS 1 Rh R1 ["_law_word","_law_at","_law_way"] (Dt K):=by
 refine T.U1.fn.ok L5 (λvs H Q E h=>I_ h) (λ_ _ _ _ H vs Q E hr h=>?_)
 refine ⟨_,(aj (aG (cP (aa (jy [] ⋯) (aa (pv 0) (aa (pv 1) (ab (pv 2)))))))),?_⟩
 obtain ⟨w',i,d,rfl,q⟩:=h
 refine ⟨_,rfl,_,rfl,_,rfl,by show 4<=sizeLine;decide,λp np=>q p np⟩
theorem BV:bo P w K mg base dS 3 Rk R5 ["_law_one","_law_other_here","_law_k"] (sE K):=by
 have bN:=mz (P:=P) (w:=w) (base:=base) T
 walk_at"q"
 refine T.V7.fn.ok tG (λvs H Q E h=>zJ h) (λ_ _ _ _ H vs Q E hr h=>?_)
 refine let Z1:TS:=_;let Z0:TS:=_;⟨_,(ae (cY PassesOwn.never (aM dF (ai bN T.DA hr (aa (pv 0) (ab (pv 2)))) (ai bN T.DA hr (aa (pv 1) (ab (pv 2)))) (aK _)) (ag Z0 (aj (ao (i:=2) tG.nd (aB a_ (pv 2) ak)))))
   (ag Z1 (aj (aG (cP (aa (pv 2) (ab (ai cL T.Nh hr (ab (ai bN T.DA hr (aa (pv 0) (ab (aB cI (pv 2) ak))))))))))))),?_⟩
 obtain ⟨p,q,w',v,f,g,n,rfl,hp,hq,lw,lv,h0,hd,Qk⟩:=h
 have hs:=Zs1
 obtain ⟨_,_,d3,_⟩:=iH f g n 0
 have hd0:0<gM f g n 0:=Qf7 λz=>hd (by rw[z];exact h0)
 generalize gM f g n 0=D at*
 refine ⟨λm σ H'=>∃k:Nat,σ=[some (.ref p),some (.ref q),some (.int k)]/\m=D - k/\k<=D/\H'=H,⟨_,0,rfl,rfl,Qar _,rfl⟩,?_⟩
 rintro m σ H2 ⟨k,rfl,rfl,hk,rfl⟩
 refine ⟨_,rfl,_,rfl,p,w',f,k,rfl,hp,lw,_,rfl,_,rfl,q,v,g,k,rfl,hq,lv,_,_,rfl,rfl,_,rfl,?_⟩
 by_cases z:k<D
 ·refine uk (decide_eq_true (by rw[d3 k (Qar _) z])) ?_
  refine ⟨_,rfl,_,_,rfl,rfl,D - (k+1),by omega,k+1,rfl,rfl,z,rfl⟩
 ·have e:k=D:=by omega
  subst e
  refine jB (decide_eq_false λx=>hd (by simpa using x)) ?_
  refine ⟨_,rfl,_,rfl,_,rfl,_,_,rfl,rfl,p,w',f,k - 1,?_,hp,lw,_,rfl,hp.lt lw _,by show 2<=sizeLine;decide,λt nt=>?_⟩
  ·show [V.ref p,V.int ((k:Int) - 1)]=_
   rw[show (k:Int) - 1=((k - 1:Nat):Int) by omega]
  ·have:=Qk t nt
   rw[show (k:Int) - 1=((k - 1:Nat):Int) by omega]at this
   exact this
theorem Fh:bo P w K mg base dS 4 Rl R6 ["_law_yard_here","_law_one","_law_other_here","_law_third"] (wa K):=by
 have bN:=mz (P:=P) (w:=w) (base:=base) T
 have o4:=BV (P:=P) (w:=w) (base:=base) T
 have Jw:=Fg (P:=P) (w:=w) (base:=base) T
 refine T.YC.fn.ok bE (λvs H Q E h=>BC h) (λ_ _ _ _ H vs Q E hr h=>?_)
 refine let Z14:TS:=_;let Z13:TS:=_;let YO:TS:=_;let YQ:TS:=_;let YR:TS:=_;let Z9:TS:=_;let Z8:TS:=_;let Z7:TS:=_;let Z6:TS:=_;let Z5:TS:=_;let Z4:TS:=_;let Z3:TS:=_;let Z2:TS:=_;let Z1:TS:=_;let Z0:TS:=_;⟨_,(ae (ao (i:=4) bE.nd ak)
   (ag Z0 (ae (mP (i:=5) ["_law_ray_here","_law_k"] [none,some 4] bE.nd rfl (Or.inl rfl) (mQ K rfl (cP (aa (pv 1) (aa (pv 2) (ab (pv 3)))))) ⟨⟨rfl,rfl,by first | exact .inl rfl | exact .inr rfl⟩,trivial⟩ (λ_ _ _ _=>(aE (i:=0) (by decide+kernel:List.Nodup (["_law_ray_here","_law_k"]:List Str)) rfl (Or.inl rfl))) (λ_ _ _ _=>fR) (λ_ _ _ _=>(ai bN T.DA hr (aa (pv 0) (ab (pv 1))))))
   (ag Z1 (ae (cY PassesOwn.never (aM wN (aI yT rfl T.z_len Qbf (ab (cX (Ee K rfl rfl) rfl T.z_set boot_set (ab (pv 5))))) ak (aK _)) (ag Z2 (ae (ao (i:=4) bE.nd (aB a_ (pv 4) ak))
   (ag Z3 (aj (mP (i:=5) ["_law_ray_here","_law_k"] [none,some 4] bE.nd rfl (Or.inl rfl) (mQ K rfl (cP (aa (pv 1) (aa (pv 2) (ab (pv 3)))))) ⟨⟨rfl,rfl,by first | exact .inl rfl | exact .inr rfl⟩,trivial⟩ (λ_ _ _ _=>(aE (i:=0) (by decide+kernel:List.Nodup (["_law_ray_here","_law_k"]:List Str)) rfl (Or.inl rfl))) (λ_ _ _ _=>fR) (λ_ _ _ _=>(ai bN T.DA hr (aa (pv 0) (ab (pv 1)))))))))))
   (ag Z4 (ae (lV (pv 5) (KR (n:=3) K rfl rfl (bA (aE (i:=6) bE.nd rfl (Or.inl rfl)) (bA (aE (i:=7) bE.nd rfl (Or.inl rfl)) (bA (aE (i:=8) bE.nd rfl (Or.inl rfl)) fX)))))
   (ag Z5 (ae (cG (aM dF (pv 6) (pv 7) (aK _)) (ag Z6 (ae (lV (ai o4 T.V7 hr (aa (pv 1) (aa (pv 2) (ab (pv 4))))) (gQ (n:=2) K rfl rfl (bA (aE (i:=9) bE.nd rfl (Or.inl rfl)) (bA (aE (i:=10) bE.nd rfl (Or.inl rfl)) fX))))
   (ag Z7 (aj (xi (i:=6) (j:=7) (k:=8) rfl bE.nd rfl rfl rfl ∅ rfl rfl rfl (aa (ai bN T.DA hr (aa (pv 1) (ab (pv 9)))) (aa (ai bN T.DA hr (aa (pv 2) (ab (pv 9)))) (ab (pv 10)))) rfl))))) (ag Z8 (aj (cG (aM dF (pv 7) (pv 8) (aK _)) (ag Z9 (ae (lV (ai o4 T.V7 hr (aa (pv 2) (aa (pv 3) (ab (pv 4))))) (gQ (n:=2) K rfl rfl (bA (aE (i:=9) bE.nd rfl (Or.inl rfl)) (bA (aE (i:=10) bE.nd rfl (Or.inl rfl)) fX))))
   (ag YR (aj (xi (i:=6) (j:=7) (k:=8) rfl bE.nd rfl rfl rfl ∅ rfl rfl rfl (aa (pv 10) (aa (ai bN T.DA hr (aa (pv 2) (ab (pv 9)))) (ab (ai bN T.DA hr (aa (pv 3) (ab (pv 9))))))) rfl))))) (ag YQ (aj (cG (aM dF (pv 6) (pv 8) (aK _)) (ag YO (ae (lV (ai o4 T.V7 hr (aa (pv 1) (aa (pv 3) (ab (pv 4))))) (gQ (n:=2) K rfl rfl (bA (aE (i:=9) bE.nd rfl (Or.inl rfl)) (bA (aE (i:=10) bE.nd rfl (Or.inl rfl)) fX))))
   (ag Z13 (aj (xi (i:=6) (j:=7) (k:=8) rfl bE.nd rfl rfl rfl ∅ rfl rfl rfl (aa (ai bN T.DA hr (aa (pv 1) (ab (pv 9)))) (aa (pv 10) (ab (ai bN T.DA hr (aa (pv 3) (ab (pv 9))))))) rfl))))) bX)))))))
   (ag Z14 (aj (aG (ai Jw T.F42 hr (aa (pv 0) (aa (pv 6) (aa (pv 7) (ab (pv 8)))))))))))))))))),?_⟩
 obtain ⟨y,p,q,r,w',v,u,f,g,h,n,rfl,hy,hz,hp,hq,hr',lw,lv,lu,fy,gy,hhy,fh,gh,hd,Qk⟩:=h
 have hs:=Zs1
 refine ⟨_,rfl,_,rfl,_,rfl,by show 3<=sizeLine;decide,λt nt=>?_⟩
 have ht:upd H t (.tup [.ref p,.ref q,.ref r]) t=some (.tup [.ref p,.ref q,.ref r]):=ah
 have s1:=aq.upd (o:= .tup [.ref p,.ref q,.ref r]) nt
 generalize upd H t (.tup [.ref p,.ref q,.ref r])=H1 at ht s1 ⊢
 refine ⟨t,rfl,⟨_,de.of ht⟩,?_⟩
 refine let gO:Nat->List V->Hp->Prop:=(λn acc H'=>H'=H1/\acc=(cx [f 0,g 0,h 0]).take n);mR (K:=K) (a:=t) (xs:=[.ref p,.ref q,.ref r]) gO (by show 3<sizeLine;decide) (λn acc H' h=>by rw[h.1];exact de.of ht) ⟨rfl,rfl⟩ ?_ ?_
 ·rintro n x acc H5 Nx hn hx ju ⟨rfl,rfl⟩ nx
  refine ⟨⟨rfl,trivial⟩,eL ?_⟩
  have key:∃(a:Addr) (l:c0) (F:Int->Nat),x= .ref a/\ko H5 a l F/\J1 l/\(cx [f 0,g 0,h 0])[n]? =some (.str (S [F 0])):=by
   rcases n with _ | _ | _ | n
   ·exact ⟨p,w',f,(Qad hx).symm,hp.same s1,lw,rfl⟩
   ·exact ⟨q,v,g,(Qad hx).symm,hq.same s1,lv,rfl⟩
   ·exact ⟨r,u,h,(Qad hx).symm,hr'.same s1,lu,rfl⟩
   ·exact absurd hn (by show ¬n+1+1+1<3;omega)
  obtain ⟨a,l,F,rfl,ra,la,e⟩:=key
  refine ⟨_,rfl,_,rfl,a,l,F,0,rfl,ra,la,nx _ _ (by simpa using ju) ⟨rfl,?_⟩⟩
  exact take_snoc e
 rintro acc H5 D ju ⟨rfl,rfl⟩ hD
 rw[show (cx [f 0,g 0,h 0]).take [V.ref p,V.ref q,V.ref r].length=cx [f 0,g 0,h 0] from rfl]
 have Si:upd H5 D (.lst (cx [f 0,g 0,h 0])) D=some (.lst (cx [f 0,g 0,h 0])):=ah
 have s2:=s1.trans (aq.upd (o:= .lst (cx [f 0,g 0,h 0])) hD)
 generalize upd H5 D (.lst (cx [f 0,g 0,h 0]))=H6 at Si s2 ⊢
 have hdd:(dd [] ([[f 0],[g 0],[h 0]].map S):)≠1:=λz=>by
  have s0:∀{a b:Nat},S [a]=S [b]->a=b:=λ{a b} e=>by
   have:=congrArg (λx:Str=>x.cps.toList) e
   simpa [S]using this
  have e:dd [] ([[f 0],[g 0],[h 0]].map S)=dd [] [S [f 0],S [g 0],S [h 0]]:=rfl
  rw[e]at z
  unfold dd at z
  rw[if_neg (by simp)]at z
  unfold dd at z
  by_cases q1:g 0=f 0
  ·rw[if_pos (by rw[q1];simp)]at z
   unfold dd at z
   rw[if_neg (show ¬S [h 0]∈([]++[S [f 0]]:List Str) from λq=>fh (s0 (ZI.mp q)).symm)]at z
   unfold dd at z
   simp at z
  ·rw[if_neg (show ¬S [g 0]∈([]++[S [f 0]]:List Str) from λq=>q1 (s0 (ZI.mp q)))]at z
   unfold dd at z
   split at z
   ·unfold dd at z;simp at z
   ·unfold dd at z;simp at z
 refine ⟨λm σ H'=>m=0/\σ=[some (.str (S y)),some (.ref p),some (.ref q),some (.ref r),some (.int 0),some (.ref D),none,none,none,none,none]/\H'=H6,⟨0,rfl,rfl,rfl⟩,?_⟩
 rintro m σ H7 ⟨rfl,rfl,rfl⟩
 refine ⟨_,rfl,D,[[f 0],[g 0],[h 0]],rfl,bB.of Si,by show 3<=20;decide,λt2 Wd=>?_⟩
 refine ⟨t2,_,rfl,ah,Qbh (AW _ _) (by show 0+3<=1000;decide),_,_,rfl,rfl,_,rfl,jB (decide_eq_false (by omega)) ?_⟩
 have s3:=s2.trans (aq.upd (o:=AY t2 (dd [] ([[f 0],[g 0],[h 0]].map S):)) Wd)
 have Sj:upd H7 t2 (AY t2 (dd [] ([[f 0],[g 0],[h 0]].map S):)) D=some (.lst (cx [f 0,g 0,h 0])):=(aq.upd Wd) D _ Si
 generalize upd H7 t2 (AY t2 (dd [] ([[f 0],[g 0],[h 0]].map S):))=H8 at s3 Sj ⊢
 refine ⟨_,rfl,D,_,rfl,bB.of Sj,rfl,_,_,rfl,_,_,rfl,_,_,rfl,rfl,?_⟩
 by_cases z:f 0=g 0
 ·obtain hd:=hd z
  refine ⟨_,rfl,_,rfl,_,_,rfl,rfl,_,rfl,uk (decide_eq_true (by rw[z])) ?_⟩
  refine ⟨_,rfl,_,rfl,_,rfl,p,q,w',v,f,g,n,rfl,hp.same s3,hq.same s3,lw,lv,z,hd,λt3 nt3=>?_⟩
  have s4:=s3.trans (aq.upd (o:= .tup [.int (gM f g n 0:Nat),.str (S [aA (f ((gM f g n 0:Nat) - 1))])]) nt3)
  refine ⟨t3,_,rfl,de.of ah,rfl,_,_,rfl,_,_,rfl,rfl,?_⟩
  generalize upd H8 t3 (.tup [.int (gM f g n 0:Nat),.str (S [aA (f ((gM f g n 0:Nat) - 1))])])=H9 at s4 ⊢
  refine ⟨_,rfl,_,rfl,p,w',f,_,rfl,hp.same s4,lw,_,rfl,_,rfl,q,v,g,_,rfl,hq.same s4,lv,_,rfl,_,_,_,rfl,?_⟩
  refine ⟨_,rfl,_,rfl,_,rfl,_,rfl,y,_,_,_,rfl,hy.nd,fy _,gy _,hy.cl _ (fy _),by omega,?_⟩
  have:=Qk H9 s4
  unfold Nf at this
  rw[if_pos z]at this
  exact this
 ·refine ⟨_,rfl,_,rfl,_,_,rfl,rfl,_,rfl,jB (decide_eq_false λq=>z (by simpa using q)) ?_⟩
  refine ⟨_,rfl,_,rfl,_,_,rfl,rfl,_,rfl,jB (decide_eq_false λq=>gh (by simpa using q)) ?_⟩
  refine ⟨_,rfl,_,rfl,_,_,rfl,rfl,_,rfl,jB (decide_eq_false λq=>fh (by simpa using q)) ?_⟩
  refine ⟨_,rfl,_,rfl,_,rfl,_,rfl,y,_,_,_,rfl,hy.nd,fy _,gy _,hhy _,by omega,?_⟩
  have:=Qk H8 s3
  unfold Nf at this
  rw[if_neg z]at this
  exact this
theorem Fi:bo P w K mg base dS 5 Rm R7 ["_law_yard_here","_law_w","_law_i","_law_v","_law_j"] (wb K):=by
 have x_:=L7 (P:=P) (w:=w) (base:=base) T
 have bN:=mz (P:=P) (w:=w) (base:=base) T
 have zX:=Fh (P:=P) (w:=w) (base:=base) T
 refine T.F45.fn.ok iR (λvs H Q E h=>BD h) (λ_ _ _ _ H vs Q E hr h=>?_)
 refine let Z5:TS:=_;let Z4:TS:=_;let Z3:TS:=_;let Z2:TS:=_;let Z1:TS:=_;let Z0:TS:=_;⟨_,(ae (FN (i:=5) (j:=6) rfl iR.nd rfl rfl ∅ rfl rfl (aa (ai x_ T.U1 hr (aa (pv 1) (aa (pv 2) (ab ak)))) (ab (ai x_ T.U1 hr (aa (pv 1) (aa (pv 2) (ab (jd fP ak))))))) rfl)
   (ag Z0 (ae (FN (i:=7) (j:=8) rfl iR.nd rfl rfl ∅ rfl rfl (aa (ai x_ T.U1 hr (aa (pv 3) (aa (pv 4) (ab ak)))) (ab (ai x_ T.U1 hr (aa (pv 3) (aa (pv 4) (ab (jd fP ak))))))) rfl)
   (ag Z1 (ae (mP (i:=9) ["_law_ray_here"] [none] iR.nd rfl (Or.inl rfl) (mQ K rfl (cP (aa (pv 7) (ab (pv 8))))) trivial (λ_ _ _ _=>(aE (i:=0) (by decide+kernel:List.Nodup (["_law_ray_here"]:List Str)) rfl (Or.inl rfl))) (λ_ _ _ _=>fR) (λ_ _ _ _=>(ai bN T.DA hr (aa (pv 0) (ab ak)))))
   (ag Z2 (ae (cG (aM (Oy K rfl) (ai bN T.DA hr (aa (pv 6) (ab ak))) (pv 9) (by with_unfolding_all rfl)) (ag Z3 (aj (aG B9))) bX)
   (ag Z4 (ae (ao (i:=10) iR.nd (ai zX T.YC hr (aa (pv 0) (aa (pv 5) (aa (pv 7) (ab (pv 6)))))))
   (ag Z5 (aj (aG (cE Ov (pv 10) (ai zX T.YC hr (aa (pv 0) (aa (pv 5) (aa (pv 8) (ab (pv 6)))))) (aK _)))))))))))))),?_⟩
 obtain ⟨y,w',v,i,j,rfl,hy,hz,hw,DC,hv,hvz,Qk⟩:=h
 have hs:=Zs1
 have lw:J1 w':=⟨hw.ne,λc hc=>hy.lt c (hw.cu c hc),by omega⟩
 have lv:J1 v:=⟨hv.ne,λc hc=>hy.lt c (hv.cu c hc),by omega⟩
 refine ⟨_,rfl,_,rfl,w',i,1,rfl,λp1 n1=>?_⟩
 have r1:ko (upd H p1 (.tup [.str (S []),.str (S w'),.int i,.int 1])) p1 w' (sq w' i):=⟨i,1,ah,.inl ⟨rfl,rfl⟩⟩
 have s1:=aq.upd (o:= .tup [.str (S []),.str (S w'),.int i,.int 1]) n1
 generalize upd H p1 (.tup [.str (S []),.str (S w'),.int i,.int 1])=H1 at r1 s1 ⊢
 refine ⟨_,rfl,_,rfl,_,rfl,w',i, -1,rfl,λp2 n2=>?_⟩
 have r2:ko (upd H1 p2 (.tup [.str (S []),.str (S w'),.int i,.int (-1)])) p2 w' (bq w' (i - 1)):=⟨i, -1,ah,.inr ⟨rfl,rfl⟩⟩
 have t2:=aq.upd (o:= .tup [.str (S []),.str (S w'),.int i,.int (-1)]) n2
 generalize upd H1 p2 (.tup [.str (S []),.str (S w'),.int i,.int (-1)])=H2 at r2 t2 ⊢
 refine ⟨_,_,rfl,?_⟩
 refine ⟨_,rfl,_,rfl,v,j,1,rfl,λp3 n3=>?_⟩
 have r3:ko (upd H2 p3 (.tup [.str (S []),.str (S v),.int j,.int 1])) p3 v (sq v j):=⟨j,1,ah,.inl ⟨rfl,rfl⟩⟩
 have t3:=aq.upd (o:= .tup [.str (S []),.str (S v),.int j,.int 1]) n3
 generalize upd H2 p3 (.tup [.str (S []),.str (S v),.int j,.int 1])=H3 at r3 t3 ⊢
 refine ⟨_,rfl,_,rfl,_,rfl,v,j, -1,rfl,λp4 n4=>?_⟩
 have r4:ko (upd H3 p4 (.tup [.str (S []),.str (S v),.int j,.int (-1)])) p4 v (bq v (j - 1)):=⟨j, -1,ah,.inr ⟨rfl,rfl⟩⟩
 have t4:=aq.upd (o:= .tup [.str (S []),.str (S v),.int j,.int (-1)]) n4
 generalize upd H3 p4 (.tup [.str (S []),.str (S v),.int j,.int (-1)])=H4 at r4 t4 ⊢
 have s4:=((s1.trans t2).trans t3).trans t4
 replace r1:=((r1.same t2).same t3).same t4
 replace r2:=(r2.same t3).same t4
 replace r3:=r3.same t4
 clear t2 t3 t4 n1 n2 n3 n4
 refine ⟨_,_,rfl,?_⟩
 refine ⟨_,rfl,_,rfl,by show 2<=sizeLine;decide,λt nt=>?_⟩
 have ht:upd H4 t (.tup [.ref p3,.ref p4]) t=some (.tup [.ref p3,.ref p4]):=ah
 have s5:=aq.upd (o:= .tup [.ref p3,.ref p4]) nt
 generalize upd H4 t (.tup [.ref p3,.ref p4])=H5 at ht s5 ⊢
 refine ⟨t,rfl,⟨_,de.of ht⟩,?_⟩
 have e3:sq v j 0=rd v j:=by unfold sq;rw[Qci]
 have e4:bq v (j - 1) 0=aA (rd v (j - 1)):=by unfold bq;rw[Qd6]
 have e1:sq w' i 0=rd w' i:=by unfold sq;rw[Qci]
 have e2:bq w' (i - 1) 0=aA (rd w' (i - 1)):=by unfold bq;rw[Qd6]
 refine let gO:Nat->List V->Hp->Prop:=(λn acc H'=>H'=H5/\acc=(cx [rd v j,aA (rd v (j - 1))]).take n);mR (K:=K) (a:=t) (xs:=[.ref p3,.ref p4]) gO (by show 2<sizeLine;decide) (λn acc H' h=>by rw[h.1];exact de.of ht) ⟨rfl,rfl⟩ ?_ ?_
 ·rintro n x acc H5 Nx hn hx ju ⟨rfl,rfl⟩ nx
  refine ⟨trivial,eL ?_⟩
  have key:∃(a:Addr) (F:Int->Nat),x= .ref a/\ko H5 a v F/\(cx [rd v j,aA (rd v (j - 1))])[n]? =some (.str (S [F 0])):=by
   rcases n with _ | _ | n
   ·exact ⟨p3,_,(Qad hx).symm,r3.same s5,by rw[e3];rfl⟩
   ·exact ⟨p4,_,(Qad hx).symm,r4.same s5,by rw[e4];rfl⟩
   ·exact absurd hn (by show ¬n+1+1<2;omega)
  obtain ⟨a,F,rfl,ra,e⟩:=key
  refine ⟨_,rfl,a,v,F,0,rfl,ra,lv,nx _ _ (by simpa using ju) ⟨rfl,?_⟩⟩
  exact take_snoc e
 rintro acc H5 D ju ⟨rfl,rfl⟩ hD
 rw[show (cx [rd v j,aA (rd v (j - 1))]).take [V.ref p3,V.ref p4].length=cx [rd v j,aA (rd v (j - 1))] from rfl]
 have Si:upd H5 D (.lst (cx [rd v j,aA (rd v (j - 1))])) D=some (.lst (cx [rd v j,aA (rd v (j - 1))])):=ah
 have s6:=(s4.trans s5).trans (aq.upd (o:= .lst (cx [rd v j,aA (rd v (j - 1))])) hD)
 have s7:=s5.trans (aq.upd (o:= .lst (cx [rd v j,aA (rd v (j - 1))])) hD)
 generalize upd H5 D (.lst (cx [rd v j,aA (rd v (j - 1))]))=H6 at Si s6 s7 ⊢
 replace r1:=r1.same s7
 replace r2:=r2.same s7
 replace r3:=r3.same s7
 replace r4:=r4.same s7
 have ud:Kp (.str (S [bq w' (i - 1) 0])) (cx [rd v j,aA (rd v (j - 1))])=decide ([bq w' (i - 1) 0]∈[[rd v j],[aA (rd v (j - 1))]]):=IV [bq w' (i - 1) 0] [[rd v j],[aA (rd v (j - 1))]]
 refine ⟨_,rfl,p2,w',_,0,rfl,r2,lw,_,rfl,D,_,rfl,.inl (bB.of Si),rfl,rfl,?_⟩
 refine ⟨_,rfl,?_⟩
 by_cases z:aA (rd w' (i - 1))=rd v j\/aA (rd w' (i - 1))=aA (rd v (j - 1))
 ·refine uk (by show Kp _ _=true;exact ud.trans (decide_eq_true (by rw[e2];rcases z with z | z<;>rw[z]<;>simp))) ?_
  have:=Qk H6 s6
  unfold IZ at this
  rw[if_pos z]at this
  exact this
 ·refine jB (by show Kp _ _=false;exact ud.trans (decide_eq_false (by rw[e2];intro q;exact z (by simpa using q)))) ?_
  have z1:aA (rd w' (i - 1))≠rd v j:=λq=>z (.inl q)
  have z2:aA (rd w' (i - 1))≠aA (rd v (j - 1)):=λq=>z (.inr q)
  have b1:∀k,sq w' i k∈y:=λk=>hw.rd _
  have b2:∀k,bq w' (i - 1) k∈y:=λk=>hy.cl _ (hw.rd _)
  have b3:∀k,sq v j k∈y:=λk=>hv.rd _
  have b4:∀k,bq v (j - 1) k∈y:=λk=>hy.cl _ (hv.rd _)
  have c1:sq w' i 0≠bq w' (i - 1) 0:=by rw[e1,e2];exact hw.red i
  have u3:=d_ (f:=sq w' i) (g:=sq v j) hw.ne hv.ne (λk=>cb w' i k) (λk=>cb v j k) (λq=>z2 (congrArg aA q))
  have u4:=d_ (f:=sq w' i) (g:=bq v (j - 1)) hw.ne hv.ne (λk=>cb w' i k) (λk=>mi v (j - 1) k) (λq=>z1 (by
   have q1:rd w' (i - 1)=aA (rd v j):=q.trans (by unfold bq;rw[show (j:Int) - 1 - -1=j by omega])
   rw[q1,aO (hy.lt _ (hv.rd j))]))
  refine ⟨_,rfl,_,rfl,_,rfl,_,rfl,y,p1,p3,p2,w',v,w',_,_,_,(w':)+(v:),rfl,hy,hz,r1,r3,r2,lw,lv,lw,b1,b3,b2,c1,by rw[e3,e2];exact Ne.symm z1,λ_=>u3.2,λH7 s8=>?_⟩
  refine ⟨_,rfl,_,rfl,_,rfl,_,rfl,_,rfl,y,p1,p4,p2,w',v,w',_,_,_,(w':)+(v:),rfl,hy,hz,r1.same s8,r4.same s8,r2.same s8,lw,lv,lw,b1,b4,b2,c1,by rw[e4,e2];exact Ne.symm z2,λ_=>u4.2,λH8 s9=>?_⟩
  refine ⟨_,_,rfl,rfl,?_⟩
  have:=Qk H8 ((s6.trans s8).trans s9)
  unfold IZ at this
  rw[if_neg z,e2.symm]at this
  refine Eq.mp ?_ this
  congr 2
theorem zY:bo P w K mg base dS 6 Rn R8 ["_law_yard_here","_law_w","_law_v"] (pM K):=by
 have Jx:=Fi (P:=P) (w:=w) (base:=base) T
 refine T.F46.fn.ok g7 (λvs H Q E h=>xR h) (λ_ _ _ _ H vs Q E hr h=>?_)
 refine let Z2:TS:=_;let Z1:TS:=_;let Z0:TS:=_;⟨_,(ae (ao (i:=3) g7.nd ak)
   (ag Z0 (ae (cH PassesOwn.never rfl (dY rfl T.z_range (ab (aI aT rfl T.z_len Qbf (ab (pv 1))))) (aE (i:=4) g7.nd rfl (Or.inr rfl)) (ag Z1 (aj (ao (i:=3) g7.nd (aB a_ (pv 3) (bH K rfl Qa8 PySem.F.slot_list_count PySem.F.type_list_count (Et K rfl) (bW ["_law_j","_law_yard_here","_law_w","_law_i","_law_v"] [none,some 0,some 1,some 4,some 2] (dY rfl T.z_range (ab (aI aT rfl T.z_len Qbf (ab (pv 2))))) ⟨⟨rfl,rfl,by first | exact .inl rfl | exact .inr rfl⟩,⟨⟨rfl,rfl,by first | exact .inl rfl | exact .inr rfl⟩,⟨⟨rfl,rfl,by first | exact .inl rfl | exact .inr rfl⟩,⟨⟨rfl,rfl,by first | exact .inl rfl | exact .inr rfl⟩,trivial⟩⟩⟩⟩ (λ_ _ _ _=>(aE (i:=0) (by decide+kernel:List.Nodup (["_law_j","_law_yard_here","_law_w","_law_i","_law_v"]:List Str)) rfl (Or.inl rfl))) (λ_ _ _ _=>fR) (λ_ _ _ _=>(ai Jx T.F45 hr (aa (pv 1) (aa (pv 2) (aa (pv 3) (aa (pv 4) (ab (pv 0))))))))) (ab B9)))))))
   (ag Z2 (aj (aG (pv 3))))))),?_⟩
 obtain ⟨y,w',v,rfl,hy,hz,hw,DC,hv,hvz,Qk⟩:=h
 have hs:=Zs1
 refine ⟨_,rfl,w',rfl,by omega,_,rfl,by omega,by omega,?_⟩
 rw[Qab]
 refine let gO:Nat->L2.St->Hp->Prop:=(λi σ H'=>aq H H'/\∃(F:Nat) (iv:Option V),(F:Int)=sm i (λa=>sm (v:) λb=>one (IZ y w' v a b=true))/\σ=[some (.str (S y)),some (.str (S w')),some (.str (S v)),some (.int F),iv]);eY gO ⟨aq.refl H,0,none,rfl,rfl⟩ ?_ ?_
 ·rintro i σ H1 hi ⟨s1,F,iv,hF,rfl⟩
  have nL:i<(w':):=by omega
  refine ⟨_,rfl,_,rfl,v,rfl,by omega,_,rfl,by omega,by omega,?_⟩
  rw[Qab]
  refine let zV:Nat->List V->Hp->Prop:=(λn acc H'=>aq H H'/\acc=((List.range n).map λj:Nat=>IZ y w' v i j).map V.bl);q0 zV (by omega) ⟨s1,rfl⟩ ?_ ?_
  ·rintro n acc H2 Nx hn ju ⟨s2,rfl⟩ nx
   refine ⟨⟨rfl,rfl,rfl,rfl,trivial⟩,eL ?_⟩
   refine ⟨_,rfl,_,rfl,_,rfl,_,rfl,_,rfl,y,w',v,i,n,?_,hy,hz,hw,DC,hv,hvz,λH3 s3=>nx _ _ (by simp) ⟨s2.trans s3,?_⟩⟩
   ·show [V.str (S y),V.str (S w'),V.int (0+(i:Int)),V.str (S v),V.int (0+(n:Int))]=_
    rw[Qc5,Qc5]
   ·rw[Qca,Qak,Qak]
    rfl
  rintro acc H2 D ju ⟨s2,rfl⟩ hD
  refine ⟨.inl ⟨rfl,_,bB.of ah⟩,D,_,rfl,rfl,ah,?_⟩
  refine ⟨_,_,rfl,rfl,?_⟩
  refine ⟨s2.trans (aq.upd hD),F+(((List.range (v:)).map λj:Nat=>IZ y w' v i j).countP id),_,?_,rfl⟩
  rw[Qbs,hF,Jb (λj=>IZ y w' v i j)]
  rfl
 ·rintro σ H1 ⟨s1,F,iv,hF,rfl⟩
  refine ⟨_,rfl,?_⟩
  exact Qk F H1 s1 (hF.trans (LZ hy hw hv))
theorem L8:bo P w K mg base dS 7 Ro R9 ["_law_yard_here","_law_w"] (Du K):=by
 have BW:=zY (P:=P) (w:=w) (base:=base) T
 refine T.F47.fn.ok x3 (λvs H Q E h=>Ja h) (λ_ _ _ _ H vs Q E hr h=>?_)
 refine let Z2:TS:=_;let Z1:TS:=_;let Z0:TS:=_;⟨_,(ae (ao (i:=2) x3.nd ak)
   (ag Z0 (ae (cY PassesOwn.never (aM nY (aB fu (bK jA (pv 1) (bF (pv 2)) dz) (bK jA (pv 1) dz (bF (pv 2)))) (pv 1) (aK _)) (ag Z1 (aj (ao (i:=2) x3.nd (aB a_ (pv 2) ak)))))
   (ag Z2 (aj (aG (aB cI (aB a_ (aB dq (ai BW T.F46 hr (aa (pv 0) (aa (pv 1) (ab (pv 1))))) ak) (aB dq (aI aT rfl T.z_len Qbf (ab (pv 1))) (pv 2))) ak))))))),?_⟩
 obtain ⟨y,w',rfl,hy,hz,hw,DC,Qk⟩:=h
 have hs:=Zs1
 have yU:=ZJ.mpr hw.ne
 refine ⟨λm σ H'=>∃k:Nat,σ=[some (.str (S y)),some (.str (S w')),some (.int k)]/\m=(w':) - k/\1<=k/\k<=(w':)/\(∀d,1<=d->d<k-> ¬gC w' d)/\H'=H,⟨_,1,rfl,rfl,ZH _,yU,λd h1 h2=>by omega,rfl⟩,?_⟩
 rintro m σ H2 ⟨k,rfl,rfl,tR,nZ,P4,rfl⟩
 have U_:cut w' (some (k:Int)) none++cut w' none (some (k:Int))=eV w' k:=by rw[fi,eM];rfl
 have hl:(cut w' (some (k:Int)) none:)+(cut w' none (some (k:Int)):)<=sizeLine:=by rw[fi,eM,Qaz,Qaa];omega
 refine ⟨_,rfl,_,rfl,_,rfl,w',rfl,by omega,_,rfl,_,rfl,_,rfl,w',rfl,by omega,_,_,rfl,rfl,hl,?_⟩
 refine ⟨_,rfl,_,_,rfl,rfl,_,rfl,?_⟩
 by_cases z:gC w' k
 ·refine jB (by rw[U_,decide_eq_true (show eV w' k=w' from z)];rfl) ?_
  have hr:=iF (sh hw.ne) (.inr ⟨tR,nZ,z,P4⟩:jV w' k)
  have hkr:kr w'=(((w':) / k:Nat):Int):=by unfold kr;rw[hr]
  have hk:1<=(w':) / k:=Qgq nZ tR
  refine ⟨_,rfl,_,rfl,_,rfl,y,w',w',rfl,hy,hz,hw,DC,hw,DC,λn H3 s3 e=>?_⟩
  refine ⟨_,_,rfl,rfl,⟨∅,by omega⟩,?_⟩
  refine ⟨_,rfl,w',rfl,by omega,_,rfl,_,_,rfl,rfl,⟨by omega,by omega⟩,?_⟩
  refine ⟨_,_,rfl,rfl,_,_,rfl,rfl,?_⟩
  have:=Qk (n / 2+(w':) / k - 1) H3 s3 (by rw[<-e,hkr];omega)
  refine Eq.mp ?_ this
  congr 2
  show _=(n:Int) / 2+((w':):Int) / (k:Int) - 1
  rw[<-Qen]
  omega
 ·refine uk (by rw[U_,decide_eq_false (show ¬eV w' k=w' from z)];rfl) ?_
  have cf:k<(w':):=Nat.lt_of_le_of_ne nZ λq=>z (by rw[q];exact CI w')
  refine ⟨_,rfl,_,_,rfl,rfl,(w':) - (k+1),by omega,k+1,rfl,rfl,by omega,cf,λd h1 h2=>?_,rfl⟩
  by_cases q:d=k
  ·rw[q];exact z
  ·exact P4 d h1 (by omega)
theorem BX:bo P w K mg base dS 8 Rp R_ ["_law_yard_here","_law_word"] (sI K):=by
 have fO:=jc (P:=P) (w:=w) (base:=base) T
 have P5:=L8 (P:=P) (w:=w) (base:=base) T
 refine T.F48.fn.ok tH (λvs H Q E h=>zL h) (λ_ _ _ _ H vs Q E hr h=>?_)
 refine let Z0:TS:=_;⟨_,(ae (ao (i:=2) tH.nd (ai fO T.V6 hr (ab (pv 1))))
   (ag Z0 (aj (aG (Ag (cE nY (pv 2) (jy [] ⋯) (aK _)) (wA (cE wN (ai P5 T.F47 hr (aa (pv 0) (ab (pv 2)))) ak (aK _)))))))),?_⟩
 obtain ⟨y,w',c,rfl,hy,hz,hc,ev,q⟩:=h
 have hs:=Zs1
 have jS:=hc.jS
 refine ⟨_,rfl,w',rfl,hc.lt,by omega,λH1 s1=>?_⟩
 rw[hc.is]
 refine ⟨_,rfl,_,_,rfl,rfl,_,rfl,?_⟩
 rcases hc.sw with e | Fs
 ·refine jB (by rw[decide_eq_true e];rfl) ?_
  have:=q H1 s1
  unfold J2 at this
  rw[decide_eq_true e]at this
  exact this
 ·have hn:=Fs.ne
  refine uk (by rw[decide_eq_false (show ¬c=[] from hn)];rfl) ?_
  refine ⟨_,rfl,_,rfl,y,c,rfl,hy,hz,Fs,hc.len,λn H2 s2 e=>?_⟩
  refine ⟨_,_,rfl,rfl,?_⟩
  have ed:decide ((n:Int)=0)=J2 y c:=by
   unfold J2 kN
   rw[decide_eq_false (show ¬c=[] from hn)]
   obtain ⟨k,hk⟩:=ev Fs
   have Fe:=(PR (y:=y) hn).1
   unfold oN at hk Fe ⊢
   exact decide_eq_decide.mpr ⟨λz=>by omega,λz=>by omega⟩
  show Q (.bl (decide ((n:Int)=0))) H2
  rw[ed]
  exact q H2 (s1.trans s2)
theorem BY:bo P w K mg base dS 9 Ru Se ["_law_yard_here","_law_length"] (sS K):=by
 have fO:=jc (P:=P) (w:=w) (base:=base) T
 have L9:=Ju (P:=P) (w:=w) (base:=base) T
 have Fj:=BX (P:=P) (w:=w) (base:=base) T
 walk_at"q"
 refine T.YE.fn.ok cT (λvs H Q E h=>zQ h) (λ_ _ _ _ H vs Q E hr h=>?_)
 refine let Z9:TS:=_;let Z8:TS:=_;let Z7:TS:=_;let Z6:TS:=_;let Z5:TS:=_;let Z4:TS:=_;let Z3:TS:=_;let Z2:TS:=_;let Z1:TS:=_;let Z0:TS:=_;⟨_,(ae (ao (i:=2) cT.nd (da bM))
   (ag Z0 (ae (ao (i:=3) cT.nd (cX (qS rfl) rfl T.z_list boot_list (ab (pv 0))))
   (ag Z1 (ae (cH PassesOwn.never rfl (dY rfl T.z_range (ab (pv 1))) (aE (i:=4) cT.nd rfl (Or.inl rfl)) (ag Z2 (ae (mP (i:=5) ["_law_word"] [none] cT.nd rfl (Or.inl rfl) (cV K rfl (pv 3)) trivial (λ_ _ _ _=>(aE (i:=0) (by decide+kernel:List.Nodup (["_law_word"]:List Str)) rfl (Or.inl rfl))) (λ_ _ _ _=>(jK (aM dF (ai fO T.V6 hr (ab (pv 0))) (pv 0) (aK _)))) (λ_ _ _ _=>(pv 0)))
   (ag Z3 (ae (ao (i:=5) cT.nd (aI (lF K rfl) rfl T.z_sorted boot_sorted (ab (bW ["_law_word"] [none] (cV K rfl (pv 5)) trivial (λ_ _ _ _=>(aE (i:=0) (by decide+kernel:List.Nodup (["_law_word"]:List Str)) rfl (Or.inl rfl))) (λ_ _ _ _=>(jK (aM dF (ai L9 T.F51 hr (ab (pv 0))) (pv 0) (aK _)))) (λ_ _ _ _=>(pv 0))))))
   (ag Z4 (ae (dh (bH K rfl Qa8 Qea Qd9 kF (pv 2) (ab (bW ["_law_word","_law_yard_here"] [none,some 0] (cV K rfl (pv 5)) ⟨⟨rfl,rfl,by first | exact .inl rfl | exact .inr rfl⟩,trivial⟩ (λ_ _ _ _=>(aE (i:=0) (by decide+kernel:List.Nodup (["_law_word","_law_yard_here"]:List Str)) rfl (Or.inl rfl))) (λ_ _ _ _=>(jK (g9 (ai Fj T.F48 hr (aa (pv 1) (ab (pv 0))))))) (λ_ _ _ _=>(pv 0))))))
   (ag Z5 (ae (ao (i:=6) cT.nd (da bM))
   (ag Z6 (ae (cH PassesOwn.never rfl (cV K rfl (aB Oa (pv 3) (cX uQ rfl T.z_int boot_int (ab (cE o7 (pv 4) (aB cI (pv 1) ak) (aK _)))))) (aE (i:=7) cT.nd rfl (Or.inr rfl)) (ag Z7 (aj (dh (bH K rfl Qa8 Qea Qd9 kF (pv 6) (ab (bW ["_law_letter_here","_law_word"] [none,some 7] (lZ (pv 0)) ⟨⟨rfl,rfl,by first | exact .inl rfl | exact .inr rfl⟩,trivial⟩ (λ_ _ _ _=>(aE (i:=0) (by decide+kernel:List.Nodup (["_law_letter_here","_law_word"]:List Str)) rfl (Or.inl rfl))) (λ_ _ _ _=>(jK (aM nY (pv 0) (ai cL T.Nh hr (ab (aV jz (pv 1) (jd fP ak) (λ_ _=>rfl)))) (aK _)))) (λ_ _ _ _=>(aB fu (pv 1) (pv 0))))))))))
   (ag Z8 (aj (ao (i:=3) cT.nd (pv 6)))))))))))))))
   (ag Z9 (aj (aG (pv 2))))))))),?_⟩
 obtain ⟨y,m,rfl,hy,dE,hz,hm,J4,q⟩:=h
 have hs:=Zs1
 have L_:1<=(y:):=ZJ.mpr dE
 refine ⟨by show 0<=sizeLine;decide,λp n=>?_⟩
 have s0:=aq.upd (o:= .lst []) n
 have Sk:upd H p (.lst []) p=some (.lst (bV [])):=ah
 generalize upd H p (.lst [])=H0 at s0 Sk ⊢
 refine ⟨_,rfl,y,rfl,by omega,λp2 n2=>?_⟩
 have s1:=aq.upd (o:= .lst (cx y)) n2
 have rh:upd H0 p2 (.lst (cx y)) p2=some (.lst (bV (y.map λc=>[c]))):=by rw[ah,L3]
 generalize upd H0 p2 (.lst (cx y))=H1 at s1 rh ⊢
 have vU:=s1 _ _ Sk
 refine ⟨_,rfl,_,rfl,by omega,by omega,?_⟩
 rw[Qab]
 refine let gO:Nat->L2.St->Hp->Prop:=(λi σ H'=>∃(wt:Addr) (ws ls:List c0) (v4 v5 v6 v7:Option V),σ=[some (.str (S y)),some (.int m),some (.ref p),some (.ref wt),v4,v5,v6,v7]/\p≠wt/\H' p=some (.lst (bV ls))/\H' wt=some (.lst (bV ws))/\(i<m->zN gB y (i+1) ws/\(ws:)<=(y:) ^ (i+1))/\BG y i ls/\(ls:)<=4096*i/\aq H H');eY gO
  ⟨p2,_,[],none,none,none,none,rfl,ay Sk n2,vU,rh,λ_=>⟨Yx hy.nd,by rw[kb];simp⟩,rfl,Qar _,s0.trans s1⟩ ?_ ?_
 ·rintro i σ H2 hi ⟨wt,ws,ls,v4,v5,v6,v7,rfl,pw,iU,qg,J5,P6,Ma,s2⟩
  obtain ⟨qh,uY⟩:=J5 hi
  have h2:(y:) ^ (i+1)<=4096:=nG L_ (by omega) J4
  refine ⟨_,rfl,wt,rfl,⟨_,bB.of qg⟩,?_⟩
  have Sl:∀v∈ws,(∀c∈v,c∈y)/\(v:)=i+1/\v≠[]:=λv hv=>by
   obtain ⟨g1,g2,_⟩:=(qh.mem v).mp hv
   exact ⟨g1,g2,λz=>by rw[z]at g2;simp at g2⟩
  refine let zV:Nat->List V->Hp->Prop:=(λj acc H'=>aq H2 H'/\acc=bV ((ws.take j).filter λw=>decide (core (red w)=w)));gu (K:=K) (a:=wt) (xs:=bV ws) zV (by rw[aY];omega) (λj acc H' h=>bB.of (h.1 _ _ qg)) ⟨aq.refl _,rfl⟩ ?_ ?_
  ·rintro j x acc H4 Nx hj hx ju ⟨s4,rfl⟩ nx
   obtain ⟨v,hv,rfl⟩:=iZ hx
   obtain ⟨P7,Sm,_⟩:=Sl v (Qac hv)
   refine ⟨trivial,?_⟩
   refine ⟨_,rfl,v,rfl,λd hd=>hy.lt d (P7 d hd),by omega,λH5 s5=>?_⟩
   walk_at"z"
   ·refine ⟨_,rfl,nx _ _ (by simpa using ju) ⟨s4.trans s5,?_⟩⟩
    rw[fJ, <-take_snoc hv,Qa9,sN _ v z]
   ·refine nx _ _ (by omega) ⟨s4.trans s5,?_⟩
    rw[<-take_snoc hv,Qa9,sO _ v z,Qa1]
  rintro acc H4 D ju ⟨s4,rfl⟩ hD
  rw[aY,Qbe]
  have QF:((ws.filter λw=>decide (core (red w)=w)):)<=(ws:):=Qcf _ _
  have GV:∀v∈(ws.filter λw=>decide (core (red w)=w)),v∈ws:=λv hv=>(Qa4.mp hv).1
  have s5:=s4.trans (aq.upd (o:= .lst (bV (ws.filter λw=>decide (core (red w)=w)))) hD)
  have P8:upd H4 D (.lst (bV (ws.filter λw=>decide (core (red w)=w)))) D=some (.lst (bV (ws.filter λw=>decide (core (red w)=w)))):=ah
  have YS:∀v∈ws,SW y v->v∈(ws.filter λw=>decide (core (red w)=w)):=λv hv sw=>Qa4.mpr ⟨hv,decide_eq_true (sw.core hy)⟩
  have hpf:∀f:c0->Bool,(ws.filter λw=>decide (core (red w)=w)).filter f=ws.filter λw=>f w&&decide (core (red w)=w):=λf=>List.filter_filter
  generalize upd H4 D (.lst (bV (ws.filter λw=>decide (core (red w)=w))))=H5 at s5 P8 ⊢
  generalize (ws.filter λw=>decide (core (red w)=w))=w1 at P8 QF GV YS hpf
  refine ⟨_,rfl,D,rfl,⟨_,bB.of P8⟩,?_⟩
  refine let Va:Nat->List V->Hp->Prop:=(λj acc H'=>aq H5 H'/\acc=bV ((w1.take j).filter sL));gu (K:=K) (a:=D) (xs:=bV w1) Va (by rw[aY];omega) (λj acc H' h=>bB.of (h.1 _ _ P8)) ⟨aq.refl _,rfl⟩ ?_ ?_
  ·rintro j x acc H6 Nx hj hx ju ⟨s6,rfl⟩ nx
   obtain ⟨v,hv,rfl⟩:=iZ hx
   obtain ⟨P7,Sm,_⟩:=Sl v (GV v (Qac hv))
   refine ⟨trivial,?_⟩
   refine ⟨_,rfl,v,rfl,λd hd=>hy.lt d (P7 d hd),by omega,λH7 s7=>?_⟩
   walk_at"z"
   ·refine ⟨_,rfl,nx _ _ (by simpa using ju) ⟨s6.trans s7,?_⟩⟩
    rw[fJ, <-take_snoc hv,Qa9,sN _ v z]
   ·refine nx _ _ (by omega) ⟨s6.trans s7,?_⟩
    rw[<-take_snoc hv,Qa9,sO _ v z,Qa1]
  rintro acc H6 D2 ju ⟨s6,rfl⟩ Sj
  rw[aY,Qbe]
  have tY:(w1.filter sL:)<=(w1:):=Qcf _ _
  have s7:=s6.trans (aq.upd (o:= .lst (bV (w1.filter sL))) Sj)
  have hD7:upd H6 D2 (.lst (bV (w1.filter sL))) D2=some (.lst (bV (w1.filter sL))):=ah
  generalize upd H6 D2 (.lst (bV (w1.filter sL)))=H7 at s7 hD7 ⊢
  refine ⟨D2,_,rfl,.inl (bB.of hD7),by omega,λr w2 nr pr asc=>?_⟩
  have s8:=s7.trans (aq.upd (o:= .lst (bV w2)) nr)
  have hr:upd H7 r (.lst (w2.map λl=>V.str (S l))) r=some (.lst (bV w2)):=ah
  have We:aq H2 (upd H7 r (.lst (w2.map λl=>V.str (S l)))):=s5.trans s8
  clear s8
  generalize upd H7 r (.lst (w2.map λl=>V.str (S l)))=H8 at We hr ⊢
  have P9:=We _ _ iU
  have YT:=We _ _ qg
  have pl:=pr.length_eq
  have yW:∀v∈w2,v∈ws/\SW y v:=λv hv=>by
   have h1:=Qa4.mp (pr.mem_iff.mp hv)
   have h2:=Sl v (GV v h1.1)
   exact ⟨GV v h1.1,Dy hy h2.2.2 h2.1 h1.2⟩
  refine ⟨_,rfl,.inl ⟨rfl,_,bB.of P9⟩,_,rfl,r,rfl,⟨_,bB.of hr⟩,?_⟩
  refine let Wz4:Nat->List V->Hp->Prop:=(λj acc H'=>aq H8 H'/\acc=bV ((w2.take j).filter (kN y)));gu (K:=K) (a:=r) (xs:=bV w2) Wz4 (by rw[aY];omega) (λj acc H' h=>bB.of (h.1 _ _ hr)) ⟨aq.refl _,rfl⟩ ?_ ?_
  ·rintro j x acc H9 Nx hj hx ju ⟨s9,rfl⟩ nx
   obtain ⟨v,hv,rfl⟩:=iZ hx
   obtain ⟨hvw,sw⟩:=yW v (Qac hv)
   obtain ⟨P7,Sm,So⟩:=Sl v hvw
   refine ⟨⟨rfl,trivial⟩,?_⟩
   refine ⟨_,rfl,_,rfl,y,v,v,rfl,hy,hz,Jc hy sw (by omega),λ_=>Jg hy sw,λH10 Nl=>⟨_,rfl,cM (λz=>?_) (λz=>?_)⟩⟩
   ·rw[xS So]at z
    refine ⟨_,rfl,nx _ _ (by simpa using ju) ⟨s9.trans Nl,?_⟩⟩
    rw[fJ, <-take_snoc hv,Qa9,sN _ v z]
   ·rw[xS So]at z
    refine nx _ _ (by omega) ⟨s9.trans Nl,?_⟩
    rw[<-take_snoc hv,Qa9,sO _ v z,Qa1]
  rintro acc H9 D3 ju ⟨s9,rfl⟩ Wf
  rw[aY,Qbe]
  have hn3:(w2.filter (kN y):)<=(w2:):=Qcf _ _
  have hb:PV y (i+1) (w2.filter (kN y)):=by
   have p2:(w2.filter (kN y)).Perm (ws.filter λw=>(kN y w&&sL w)&&decide (core (red w)=w)):=by
    have:=pr.filter (kN y)
    rwa [List.filter_filter,hpf]at this
   refine Jf hy qh (λw sw _=>Jd hy sw) (λw hw=>?_) p2 (asc.filter _)
   obtain ⟨g1,g2,g3⟩:=Sl w hw
   rw[Qbr,Qbr]
   exact ⟨λ⟨⟨a,b⟩,_⟩=>⟨b,a⟩,λ⟨a,b⟩=>⟨⟨b,a⟩,decide_eq_true ((Dy hy g3 g1 a).core hy)⟩⟩
  have Nl:=s9.trans (aq.upd (o:= .lst (bV (w2.filter (kN y)))) Wf)
  have YU:=Nl _ _ P9
  have pD3:p≠D3:=ay (s9 _ _ P9) Wf
  refine ⟨p,D3,_,_,rfl,rfl,YU,ah,by rw[aY,aY];omega,?_⟩
  rw[qE]
  have Vb:=Nl _ _ YT
  have Sq:aq H (upd (upd H9 D3 (.lst (bV (w2.filter (kN y))))) p (.lst (bV (ls++w2.filter (kN y))))):=aq.Yv (s2.trans (We.trans Nl)) n
  have Mb:upd (upd H9 D3 (.lst (bV (w2.filter (kN y))))) p (.lst (bV (ls++w2.filter (kN y)))) p=some (.lst (bV (ls++w2.filter (kN y)))):=ah
  have Nm:upd (upd H9 D3 (.lst (bV (w2.filter (kN y))))) p (.lst (bV (ls++w2.filter (kN y)))) wt=some (.lst (bV ws)):=by rw[az (Ne.symm pw)];exact Vb
  have P0:(ls++w2.filter (kN y):)<=4096*(i+1):=by rw[QD];omega
  have hnb:BG y (i+1) (ls++w2.filter (kN y)):=⟨ls,_,rfl,P6,hb⟩
  generalize upd (upd H9 D3 (.lst (bV (w2.filter (kN y))))) p (.lst (bV (ls++w2.filter (kN y))))=YV at Sq Mb Nm ⊢
  generalize ls++w2.filter (kN y)=l2 at Mb P0 hnb
  refine ⟨by show 0<=sizeLine;decide,λD4 Vc=>?_⟩
  have Wg:=Sq.trans (aq.upd (o:= .lst []) Vc)
  have pD4:p≠D4:=ay Mb Vc
  have YW:H D4=none:=by
   cases e:H D4 with
   | none=>rfl
   | some o=>exact absurd ((Sq _ _ e).symm.trans Vc) (λz=>by cases z)
  have Vd:=(aq.upd (o:= .lst []) Vc) _ _ Mb
  have Nn:=(aq.upd (o:= .lst []) Vc) _ _ Nm
  have P_:upd YV D4 (.lst []) D4=some (.lst (bV [])):=ah
  generalize upd YV D4 (.lst [])=Wh at Wg Vd Nn P_ ⊢
  refine ⟨_,rfl,_,rfl,_,rfl,_,_,rfl,rfl,_,_,rfl,rfl,.inr ⟨_,rfl,?_⟩⟩
  have YX:∀b:Bool,(List.replicate (if b=true then (1:Int) else 0).toNat (bV ws)).flatten=bV (if b=true then ws else []):=λb=>by
   cases b
   ·rfl
   ·show (List.replicate 1 (bV ws)).flatten=bV ws
    simp
  have YY:∀b:Bool,(bV ws:)*(if b=true then (1:Int) else 0).toNat<=sizeLine:=λb=>by
   rw[aY]
   cases b
   ·show (ws:)*0<=_;omega
   ·show (ws:)*1<=_;omega
  have Ve:∀b:Bool, -(2 ^ 63)<=(if b=true then (1:Int) else 0)/\(if b=true then (1:Int) else 0)<2 ^ 63:=λb=>by cases b<;>exact ⟨∅,∅⟩
  refine ⟨wt,_,_,rfl,rfl,Nn,(Ve _).1,(Ve _).2,YY _,λp5 n5=>?_⟩
  rw[YX]
  have hbi:decide ((0:Int)+(i:Int)<(m:Int) - 1)=decide (i+1<m):=decide_eq_decide.mpr ⟨λz=>by omega,λz=>by omega⟩
  have Az:∀v∈(if decide ((0:Int)+(i:Int)<(m:Int) - 1)=true then ws else []),v∈ws:=λv hv=>by
   split at hv
   ·exact hv
   ·exact absurd hv Qbb
  have Np:(if decide ((0:Int)+(i:Int)<(m:Int) - 1)=true then ws else []:)<=(ws:):=by split<;>simp
  have Af:i+1<m->(if decide ((0:Int)+(i:Int)<(m:Int) - 1)=true then ws else [])=ws:=λz=>by rw[hbi,decide_eq_true z];rfl
  generalize (if decide ((0:Int)+(i:Int)<(m:Int) - 1)=true then ws else [])=us at Az Np Af ⊢
  have Sr:=aq.upd (o:= .lst (bV us)) n5
  have Vf:upd Wh p5 (.lst (bV us)) p5=some (.lst (bV us)):=ah
  have Vg:=Sr _ _ Vd
  have Vh:=Sr _ _ P_
  have D5:p5≠D4:=λz=>by rw[z,P_]at n5;cases n5
  have s13:=Wg.trans Sr
  generalize upd Wh p5 (.lst (bV us))=H13 at Vf Vg Vh s13 ⊢
  refine ⟨p5,rfl,⟨_,bB.of Vf⟩,?_⟩
  refine let Wz5:Nat->L2.St->Hp->Prop:=(λj σ H'=>∃(ms:List c0) (w7:Option V),σ=[some (.str (S y)),some (.int m),some (.ref p),some (.ref wt),some (.int (0+(i:Int))),some (.ref r),some (.ref D4),w7]/\H' D4=some (.lst (bV ms))/\BI gB y (us.take j) ms/\bj D4 H13 H');il (K:=K) (a:=p5) (xs:=bV us) Wz5 ⟨[],v7,rfl,Vh,zO _ _,bj.refl _ _⟩ (λj σ H' _ ⟨_,_,_,_,_,s⟩=>bB.of (s _ _ Vf D5)) ?_ ?_
  ·rintro j x σ Wi hx ⟨ms,w7,rfl,Jy,hg,Ss⟩
   obtain ⟨l,Ff,rfl⟩:=iZ hx
   have Up:=Qac Ff
   have hj:j<(us:):=(Og.mp Ff).1
   obtain ⟨Wa,Fq,D7⟩:=Sl l (Az l Up)
   obtain ⟨_,e1⟩:=Dz D7
   have U3:(ms:)<=40000:=by
    have:=hg.jS
    rw[Qaa,Qbo (by omega)]at this
    have h3:(y:)*j<=8*4096:=Nat.mul_le_mul hz (by omega)
    omega
   refine ⟨_,rfl,.inl ⟨rfl,_,bB.of Jy⟩,_,rfl,y,rfl,?_⟩
   refine let Wz6:Nat->List V->Hp->Prop:=(λj acc H'=>H'=Wi/\acc=bV (((y.take j).filter (gB l)).map λc=>l++[c]));iq (xs:=cx y) Wz6 (by rw[aX];omega) ⟨rfl,rfl⟩ ?_ ?_
   ·rintro k x acc YZ Nx hk KO ju ⟨rfl,rfl⟩ nx
    obtain ⟨c,Y0,rfl⟩:=f_ KO
    have OK:=Qac Y0
    refine ⟨⟨rfl,trivial⟩,?_⟩
    refine ⟨_,rfl,_,rfl,_,rfl,l,_,_,rfl,rfl,by omega,e1,_,rfl,hy.lt _ (Wa _ (List.getLast_mem D7)),_,_,rfl,rfl,_,rfl,cM (λz=>?_) (λz=>?_)⟩
    ·have z3:gB l c=true:=by rw[Ng D7];simpa using z
     refine ⟨_,rfl,_,rfl,_,_,rfl,rfl,by show (l:)+1<=sizeLine;omega,?_⟩
     refine nx _ _ (by simpa using ju) ⟨rfl,?_⟩
     rw[fJ, <-take_snoc Y0,Qa9,sN _ c z3,Qak]
     rfl
    ·have z3: ¬gB l c=true:=by rw[Ng D7];simpa using z
     refine nx _ _ (by omega) ⟨rfl,?_⟩
     rw[<-take_snoc Y0,Qa9,sO _ c z3,Qa1]
   ·rintro acc YZ D6 ju ⟨rfl,rfl⟩ hD6
    rw[aX,Qbe]
    have pD:D4≠D6:=ay Jy hD6
    have P0:(((y.filter (gB l)).map λc=>l++[c]):)<=(y:):=by rw[kb];exact Qcf _ _
    refine ⟨D4,D6,_,_,rfl,rfl,by rw[az pD];exact Jy,ah,by rw[aY,aY];omega,?_⟩
    rw[qE]
    refine ⟨ms++((y.filter (gB l)).map λc=>l++[c]),_,rfl,ah,?_,Ss.trans (bj.trans (bj.of (aq.upd hD6)) (bj.upd _ _ _))⟩
    rw[<-take_snoc Ff]
    refine wg hg (λm=>?_) ?_ P0
    ·rw[Qa3]
     walk_at"M"
    ·exact Qgf _ (λa b h e=>h (by have:=List.append_cancel_left e;simpa using this)) (hy.nd.filter _)
  ·rintro σ Wi ⟨ms,w7,rfl,Jy,hg,Ss⟩
   rw[aY,Qbe]at hg
   refine ⟨_,rfl,D4,ms,l2,_,_,_,_,rfl,pD4,Ss _ _ Vg pD4,Jy,λz=>?_,hnb,P0,λa o e=>Ss _ _ (s13 _ _ e) (ay e YW)⟩
   rw[Af z]at hg
   refine ⟨qh.next hg,Qbh hg.jS ?_⟩
   rw[Qgb _ (i+1),Qb5]
   exact Qep _ uY
 ·rintro σ H2 ⟨wt,ws,ls,v4,v5,v6,v7,rfl,pw,iU,qg,J5,P6,Ma,s2⟩
  exact ⟨_,rfl,q p ls H2 n iU P6 Ma s2⟩
theorem zZ:bo P w K mg base dS 1 f2 d2 ["yard"] (zf K):=by
 refine T.F2.fn.ok Jp (λvs H Q E h=>EK h) (λ_ _ _ _ H vs Q E hr h=>?_)
 refine ⟨_,(aj (aG (bH K rfl Qax Qdv Qdu (jN K rfl) (jy [] ⋯) (ab (aI (wW K rfl) rfl T.z_sorted boot_sorted (ab (bW ["letter"] [none] (lZ (pv 0)) trivial (λ_ _ _ _=>(aE (i:=0) (by decide+kernel:List.Nodup (["letter"]:List Str)) rfl (Or.inl rfl))) (λ_ _ _ _=>(jK (g9 (fz K rfl Qax Qe7 Qe6 lX (pv 0))))) (λ_ _ _ _=>(pv 0))))))))),?_⟩
 walk_at"u"
 have hs:(1000:Nat)<sizeLine:=by decide
 refine ⟨rfl,_,rfl,l,rfl,?_⟩
 refine let gO:Nat->List V->Hp->Prop:=(λi acc H'=>aq H H'/\acc=cx ((l.take i).filter aC));iq (xs:=cx l) gO (by rw[aX];lia) ⟨aq.refl H,rfl⟩ ?_ ?_
 ·rintro i x acc H1 Nx hi hx ju ⟨s1,rfl⟩ nx
  obtain ⟨c,hc,rfl⟩:=f_ hx
  have e:=zg (p:=aC) hc
  refine ⟨trivial,?_⟩
  refine ⟨_,rfl,rfl,c,rfl,rfl,hl c (Qac hc),_,rfl,?_⟩
  walk_at"j"
  ·rw[if_pos z]at e
   exact ⟨_,rfl,nx _ _ (by simpa using ju) ⟨s1,by rw[e, <-fI]⟩⟩
  ·rw[if_neg z,Qa1]at e
   exact nx _ _ (Nat.le_succ_of_le ju) ⟨s1,by rw[e]⟩
 ·rintro acc H1 D ju ⟨s1,rfl⟩ hD
  rw[rJ,iB]
  have hfl:(l.filter aC:)<=(l:):=Qcf _ _
  refine ⟨D,(l.filter aC).map λc=>[c],rfl,bB.of ah,by rw[kb];lia,λp ls hp tT J4=>?_⟩
  obtain ⟨l',rfl,pl⟩:=KL tT
  have B7:=pl.length_eq
  refine ⟨p,l'.map λc=>[c],rfl,rfl,bB.of ah,by rw[Ey];lia,?_⟩
  rw[vz]
  exact q l' _ pl (KN J4) ((s1.trans (aq.upd hD)).trans (aq.upd hp))
theorem uC:bo P w K mg base dS 2 f4 d4 ["yard","drawing","end"] (lG K):=by
 have yf:=zZ (P:=P) (w:=w) (base:=base) T
 refine T.F4.fn.ok lR (λvs H Q E h=>rW h) (λ_ _ _ _ H vs Q E hr h=>?_)
 refine let Z2:TS:=_;let Z1:TS:=_;let Z0:TS:=_;⟨_,(ae (ao (i:=3) lR.nd (cX (t_ K rfl) rfl T.z_list boot_list (ab (aV (bJ K rfl) (aV (bJ K rfl) (pv 1) ak (λ_ _=>rfl)) (bH K rfl Qax Qdc Qdb gs (ai yf T.F2 hr (ab (pv 0))) (ab (fz K rfl Qax Qfi Qfh qU (pv 2)))) (λ_ _=>rfl)))))
   (ag Z0 (ae (cG (g9 (fz K rfl Qax PySem.F.slot_str_isupper PySem.F.type_str_isupper AI (pv 2))) (ag Z1 (aj (dh (fz K rfl Qa8 PySem.F.slot_list_reverse PySem.F.type_list_reverse AA (pv 3))))) bX)
   (ag Z2 (aj (aG (pv 3))))))),?_⟩
 obtain ⟨y,dr,ws,os,e,rfl,hy,hz,he,ho,hd,q⟩:=h
 have hs:=Zs1
 have Wj:∀c∈y,c<128:=y_ hy.lt
 have he8:=Wj e he
 obtain ⟨⟨wt,ot,d1,d2,d3⟩,dO⟩:=hd
 obtain ⟨o,o1,o2,o3⟩:=ka hy he ho
 refine ⟨_,rfl,dr,_,1,_,rfl,rfl,de.of d1,rfl,?_⟩
 refine ⟨_,rfl,y,rfl,Wj,by omega,λl' H1 B7 Y1 s1=>?_⟩
 have el:=C5 B7 Y1
 subst el
 refine ⟨rfl,_,rfl,rfl,e,rfl,rfl,he8,?_⟩
 refine ⟨fS y,_,rfl,rfl,HR hy he,?_⟩
 refine ⟨ot,_,_,_,rfl,rfl,de.of (s1 _ _ d3),dj (Pn o2),?_⟩
 refine ⟨o.o,_,rfl,.inr (de.of (s1 _ _ (dO o o1).tp)),λp1 n1=>?_⟩
 refine ⟨_,rfl,rfl,e,rfl,rfl,he8,_,rfl,cM (λz=>?_) (λz=>?_)⟩
 ·refine ⟨_,rfl,.inl ⟨rfl,_,bB.of ah⟩,p1,_,rfl,rfl,ah,?_⟩
  refine ⟨_,rfl,q p1 _ (aq.free s1 n1) ?_ ?_⟩
  ·rw[ah,LC]
   unfold qz
   rw[if_pos z,o3]
  ·exact λa u ea=>by rw[az (ay ea (aq.free s1 n1)),az (ay ea (aq.free s1 n1))];exact s1 a u ea
 ·refine ⟨_,rfl,q p1 _ (aq.free s1 n1) ?_ (s1.trans (aq.upd n1))⟩
  rw[ah]
  unfold qz
  rw[if_neg z,o3]
theorem o5:bo P w K mg base dS 2 f1 d1 ["word"] (vx K):=by
 walk_at"A"
 refine T.F1.fn.ok E_ (λvs H Q E h=>A6 h) (λ_ _ _ _ H vs Q E hr h=>?_)
 refine ⟨_,(aj (aG (bH K rfl Qax Qdv Qdu (jN K rfl) (jy [] ⋯) (ab (bW ["letter"] [none] (Gu rfl T.z_reversed (ab (pv 0))) trivial (λ_ _ _ _=>(aE (i:=0) (by decide+kernel:List.Nodup (["letter"]:List Str)) rfl (Or.inl rfl))) (λ_ _ _ _=>fR) (λ_ _ _ _=>(ai bU T.F0 hr (ab (pv 0))))))))),?_⟩
 obtain ⟨l,rfl,hc,hz,q⟩:=h
 have hs:(1000:Nat)<sizeLine:=by decide
 refine ⟨rfl,_,rfl,l,rfl,(),?_⟩
 rw[Cz]
 refine let gO:Nat->List V->Hp->Prop:=(λi acc H'=>aq H H'/\acc=cx ((l.reverse.take i).map aA));iq (xs:=cx l.reverse) gO (by rw[aX,Qat];lia) ⟨aq.refl H,rfl⟩ ?_ ?_
 ·rintro i x acc H1 Nx hi hx hl ⟨s1,rfl⟩ nx
  obtain ⟨c,tV,rfl⟩:=f_ hx
  refine ⟨trivial,eL ⟨_,rfl,c,rfl,hc c (Qb4.mp (Qac tV)),nx _ _ (by simpa using hl) ⟨s1,?_⟩⟩⟩
  rw[fI, <-take_snoc tV,Qak]
  rfl
 ·rintro acc H1 D hl ⟨s1,rfl⟩ hD
  refine ⟨D,(dU l).map λc=>[c],rfl,rfl,bB.of ?_,?_,?_⟩
  ·rw[ah, <-iB,aX,Qae (ZH _),Qd5]
   rfl
  ·rw[Ey]
   unfold dU
   rw[Qat,kb]
   lia
  ·rw[vz]
   exact q _ (s1.trans (aq.upd hD))
theorem Mc:bo P w K mg base dS 5 QR RC ["word"] (CH K):=by
 have mC:=x9 (P:=P) (w:=w) (base:=base) T
 have kB:=o5 (P:=P) (w:=w) (base:=base) T
 refine T.F16.fn.ok L4 (λvs H Q E h=>Hk h) (λ_ _ _ _ H vs Q E hr h=>?_)
 refine ⟨_,(aj (aG (aI (l_ rfl) rfl T.z_min boot_min (aa (ai mC T.J3 hr (ab (pv 0))) (ab (ai mC T.J3 hr (ab (ai kB T.F1 hr (ab (pv 0)))))))))),?_⟩
 walk_at"u"
 walk_at"G"
 refine ⟨_,rfl,l,rfl,y_ hl,hz,λH2 s2=>?_⟩
 refine ⟨dU l,rfl,Hd hl,by rw[bZ];exact hz,λH3 s3=>?_⟩
 exact ⟨_,_,rfl,q _ ((s1.trans s2).trans s3)⟩
theorem nJ:bo P w K mg base dS 2 QL Rw ["some"] (gX K):=by
 have tK:=qf (P:=P) (w:=w) (base:=base) T
 have z7:=x8 (P:=P) (w:=w) (base:=base) T
 refine T.F10.fn.ok bG (λvs H Q E h=>mj h) (λ_ _ _ _ H vs Q E hr h=>?_)
 refine let Z8:TS:=_;let Z7:TS:=_;let Z6:TS:=_;let Z5:TS:=_;let Z4:TS:=_;let Z3:TS:=_;let Z2:TS:=_;let Z1:TS:=_;let Z0:TS:=_;⟨_,(ae (ao (i:=1) bG.nd (ai tK T.F8 hr (ab (pv 0))))
   (ag Z0 (ae (ao (i:=2) bG.nd (da bM))
   (ag Z1 (ae (ao (i:=3) bG.nd ak)
   (ag Z2 (ae (cH PassesOwn.never rfl (cV K rfl (aI (uj rfl) rfl T.z_sorted boot_sorted (ab (pv 1)))) (aE (i:=4) bG.nd rfl (Or.inl rfl)) (ag Z3 (aj (cG (aM wN (qr (qQ hr) (pv 1) (pv 4) (λ_ _=>rfl)) (pv 4) (aK _)) (ag Z4 (aj (dh (bH K rfl Qa8 Qc4 Qc3 gq (pv 2) (ab (pv 4)))))) (ag Z5 (ae (ao (i:=5) bG.nd (ai z7 T.F9 hr (aa (pv 2) (ab (qr (qQ hr) (pv 1) (pv 4) (λ_ _=>rfl))))))
   (ag Z6 (ae (dh (bH K rfl Qa8 Qem Qel qO (pv 2) (ab (pv 5))))
   (ag Z7 (aj (lW (i:=3) bG.nd rfl (Or.inl rfl) (aB cI (gn K T.z_len (pv 2)) (pv 5)) wB)))))))))))
   (ag Z8 (aj (aG (pv 3))))))))))),?_⟩
 obtain ⟨a,qs,rfl,ha,hq,hn,nd,q⟩:=h
 have hs:=Zs1
 refine ⟨_,rfl,a,qs,rfl,ha,hq,by omega,nd,λd H1 nd1 hd s1=>?_⟩
 have hcs:(qs.map Q4.v:)<=24:=by rw[kb];exact hn
 generalize qs.map Q4.v=cs at nd hd q hcs
 have kl:=zy cs
 have cl':(eS cs:)=2*(cs:):=by
  have:=congrArg List.length (iL cs)
  rw[kb,kb]at this
  omega
 walk_at "wk"
 intro b nb
 have hbd:d≠b:=ay hd nb
 have hd2:L2.upd H1 b (.lst []) d=some (.dK (gN cs)):=by rw[az hbd];exact hd
 have sb:=aq.upd (o:= .lst []) nb
 refine ⟨_,rfl,d,_,(eS cs).map λn:Nat=>(n:Int),rfl,hd2,by rw[iL,Qbx];rfl,by rw[kb];omega,λp2 ms n2 tT J4=>?_⟩
 obtain ⟨P,eP,pP,uP⟩:=Bv nd tT J4
 rw[eP]
 have ch:=Pz nd pP uP
 have lP:P.length<=2000:=by rw[pP.length_eq];omega
 have h2b:p2≠b:=λz=>by rw[z,ah]at n2;cases n2
 have s2:=sb.trans (aq.upd (o:= .lst (ins P)) n2)
 refine ⟨p2,rfl,⟨_,bB.of ah⟩,?_⟩
 refine let gO:Nat->L2.St->Hp->Prop:=(λk σ H'=>∃(m:Nat) (pv nv:Option V),σ=[some (.ref a),some (.ref d),some (.ref b),some (.int m),pv,nv]/\H' b=some (.lst (ins (qA (cR cs) (P.take k) (P.drop k))))/\m+JZ (cR cs) (P.take k) (P.drop k)=JZ (cR cs) [] P/\bj b (L2.upd (L2.upd H1 b (.lst [])) p2 (.lst (ins P))) H');il (K:=K) (a:=p2) (xs:=ins P) gO
  ⟨0,none,none,rfl,by rw[az (Ne.symm h2b),ah];rfl,by rw[Qc1];rfl,bj.refl _ _⟩ (λk σ H' _ ⟨_,_,_,_,_,_,h⟩=>bB.of (h _ _ ah h2b)) ?_ ?_
 ·rintro k x σ H3 hx ⟨m,pv,nv,rfl,hb,hm,s3⟩
  obtain ⟨p,hp,rfl⟩:∃p,P[k]? =some p/\x=V.int (p:Nat):=by
   unfold ins at hx
   rw[Qas]at hx
   cases e:P[k]? with
   | none=>rw[e]at hx;cases hx
   | some p=>rw[e]at hx;cases hx;exact ⟨p,rfl,rfl⟩
  have hk:k<P.length:=(Og.mp hp).1
  have XZ:p∈eS cs:=pP.mem_iff.mp (Qac hp)
  have hsv:=PC nd XZ
  have hd3:H3 d=some (.dK (gN cs)):=s3 _ _ (s2 _ _ hd) hbd
  have eP2:P=P.take k++p::P.drop (k+1):=by
   have:=Qal k P
   rw[Qbq hk,(Og.mp hp).2]at this
   exact this.symm
  have Y2:P.drop k=p::P.drop (k+1):=by rw[Qbq hk,(Og.mp hp).2]
  have Vi:P.take (k+1)=P.take k++[p]:=(take_snoc hp).symm
  have bl:(qA (cR cs) (P.take k) (P.drop k):)<=2000:=Qbh LJ (by rw[Qaa];omega)
  have zj:=Ir (st:=cR cs) hp
  refine ⟨_,rfl,_,rfl,d,_,rfl,by rw[<-hsv];exact q_.k (k:=Sum.inl (p:Int)) hd3,?_⟩
  walk_at "rd"
  walk_at"j"
  ·have z1:cR cs p=p:=by have:=of_decide_eq_true z;omega
   refine ⟨_,rfl,.inl ⟨rfl,_,bB.of hb⟩,_,rfl,b,_,_,rfl,rfl,hb,by rw[ng];omega,?_⟩
   refine ⟨m,_,_,rfl,?_,?_,s3.trans (bj.upd _ _ _)⟩
   ·rw[ah,Im,Vi,Ii ch eP2 z1, <-Y2]
   ·have e0:EW (cR cs) (P.take k) (P.drop (k+1)) p=0:=by unfold EW;rw[if_pos z1]
    omega
  ·have z1:cR cs p≠p:=λw=>z (decide_eq_true (by rw[w]))
   obtain ⟨en,em⟩:=Pw ch eP2 z1
   rw[<-Y2]at en em
   have up:=PB (st:=cR cs) uP (Qal k P).symm (P.drop k)
   have AE:=Qah em
   refine ⟨_,rfl,_,rfl,_,rfl,d,_,rfl,by rw[<-hsv];exact q_.k (k:=Sum.inl (p:Int)) hd3,b,_,cR cs p,rfl,hb,up,em,by omega,?_⟩
   refine ⟨_,rfl,.inl ⟨rfl,_,bB.of hb⟩,_,rfl,b,_,_,_,_,rfl,rfl,hb,by omega,by omega,?_,Io (Of AE),?_⟩
   ·rw[ng]
    exact US AE
   have ee:(ins (qA (cR cs) (P.take k) (P.drop k))).eraseIdx ((qA (cR cs) (P.take k) (P.drop k)).idxOf (cR cs p))=ins (qA (cR cs) (P.take (k+1)) (P.drop (k+1))):=by
    rw[Vi,en, <-Iq em]
    exact vV _ _
   rw[ee]
   refine ⟨_,rfl,_,rfl,b,_,rfl,.inl (bB.of ah),?_⟩
   walk_at "rd"
   have bh:=behind up em
   have lb:(qA (cR cs) (P.take (k+1)) (P.drop (k+1)):)=((qA (cR cs) (P.take k) (P.drop k)).erase (cR cs p):):=by rw[Vi,en]
   have le:((qA (cR cs) (P.take k) (P.drop k)).erase (cR cs p):)+1=(qA (cR cs) (P.take k) (P.drop k):):=by rw[List.length_erase_of_mem em];omega
   have ec:EW (cR cs) (P.take k) (P.drop (k+1)) p=(((qA (cR cs) (P.take k) (P.drop k)).filter λx=>decide (cR cs p<x)):):=by unfold EW;rw[if_neg z1,Y2]
   have ei:(m:Int)+(((ins (qA (cR cs) (P.take (k+1)) (P.drop (k+1))):):Nat) - ((qA (cR cs) (P.take k) (P.drop k)).idxOf (cR cs p):Nat))=((m+EW (cR cs) (P.take k) (P.drop (k+1)) p:Nat):Int):=by rw[ng];omega
   exact ⟨m+EW (cR cs) (P.take k) (P.drop (k+1)) p,some (.int p),some (.int ((qA (cR cs) (P.take k) (P.drop k)).idxOf (cR cs p):Nat)),by rw[<-ei];rfl,ah,by omega,s3.trans (bj.upd _ _ _)⟩
 ·rintro σ H3 ⟨m,pv,nv,rfl,hb,hm,s3⟩
  rw[ng,List.drop_length,Qbe]at hm
  have yW:m=JZ (cR cs) [] P:=hm
  refine ⟨_,rfl,?_⟩
  rw[yW,UR ch]
  exact q H3 λc o e=>s3 c o (s2 c o (s1 c o e)) (ay e (aq.free s1 nb))
theorem Fl:bo P w K mg base dS 3 f5 d5 ["yard","drawing"] (vQ K):=by
 have yg:=uC (P:=P) (w:=w) (base:=base) T
 refine T.F5.fn.ok kP (λvs H Q E h=>Bq h) (λ_ _ _ _ H vs Q E hr h=>?_)
 refine let Z3:TS:=_;let Z2:TS:=_;let Z1:TS:=_;let Z0:TS:=_;⟨_,(ae (ao (i:=2) kP.nd (da bM))
   (ag Z0 (ae (cH PassesOwn.never rfl (lZ (pv 0)) (aE (i:=3) kP.nd rfl (Or.inl rfl)) (ag Z1 (aj (cH PassesOwn.never rfl (cV K rfl (ai yg T.F4 hr (aa (pv 0) (aa (pv 1) (ab (pv 3)))))) (aE (i:=4) kP.nd rfl (Or.inl rfl)) (ag Z2 (aj (dh (bH K rfl Qa8 Qc4 Qc3 gq (pv 2) (ab (cP (aa (aV (bJ K rfl) (pv 4) ak (λ_ _=>rfl)) (aa (aV (bJ K rfl) (pv 4) ak (λ_ _=>rfl)) (ab (pv 3))))))))))))))
   (ag Z3 (aj (aG (pv 2))))))),?_⟩
 obtain ⟨y,dr,ws,os,rfl,hy,hz,ho,hd,q⟩:=h
 have hs:=Zs1
 walk_at "wk"
 intro p1 n1
 refine ⟨_,rfl,y,rfl,?_⟩
 refine let gO:Nat->L2.St->Hp->Prop:=(λi σ H'=>∃(ps:List Pt) (ev sv:Option V),σ=[some (.str (S y)),some (.ref dr),some (.ref p1),ev,sv]/\H' p1=some (.lst (JY ps))/\(∀p∈ps,uo H' p/\p.t≠p1)/\ps.map Pt.is=(y.take i).flatMap (fV y os)/\(ps:)<=100*i/\bj p1 H H');wL (xs:=cx y) gO ⟨[],none,none,rfl,ah,λ_ h=>absurd h Qbb,rfl,Qar _,bj.of (aq.upd n1)⟩ ?_ ?_
 ·rintro i x σ H1 hx ⟨ps,ev,sv,rfl,hp,A4,qu,iU,s1⟩
  obtain ⟨e,he,rfl⟩:=f_ hx
  have Po:=Qac he
  have hi:i<(y:):=(Og.mp he).1
  have Qa:aq H H1:=λa u ea=>s1 a u ea (ay ea n1)
  refine ⟨_,rfl,_,rfl,_,rfl,y,dr,ws,os,e,rfl,hy,hz,Po,ho,hd.same Qa,λp2 H2 n2 rh s2=>?_⟩
  have hsl:=LG (H:=H) hy Po ho hd.od
  refine ⟨p2,rfl,⟨_,bB.of rh⟩,?_⟩
  have h12:p2≠p1:=λz=>by rw[z,hp]at n2;cases n2
  refine let zV:Nat->L2.St->Hp->Prop:=(λj σ H'=>∃(us:List Pt) (sv:Option V),σ=[some (.str (S y)),some (.ref dr),some (.ref p1),some (.str (S [e])),sv]/\H' p1=some (.lst (JY us))/\H' p2=some (.lst (vP (qz y os e)))/\(∀p∈us,uo H' p/\p.t≠p1)/\us.map Pt.is=ps.map Pt.is++((qz y os e).take j).map (λp=>(p.c,p.i,e))/\(us:)<=100*i+j/\bj p1 H1 H');il (K:=K) (a:=p2) (xs:=vP (qz y os e)) zV
   ⟨ps,sv,rfl,s2 _ _ hp,rh,λp vq=>⟨(A4 p vq).1.same s2,(A4 p vq).2⟩,by simp,by omega,bj.of s2⟩ (λj σ H' _ ⟨_,_,_,_,h,_⟩=>bB.of h) ?_ ?_
  ·rintro j x σ H3 Y3 ⟨us,sv3,rfl,Fm,Vj,Vk,Af,Np,s3⟩
   obtain ⟨p,Y4,rfl⟩:=HU Y3
   obtain ⟨o,oo,po⟩:=LF hy Po ho (Qac Y4)
   have hj:j<(qz y os e:):=(Og.mp Y4).1
   have Wl:aq H H3:=λa u ea=>s3 a u (Qa a u ea) (ay ea n1)
   have pk:=(hd.od o oo).pr p po
   have tp:=Wl _ _ pk.tp
   refine ⟨_,rfl,.inl ⟨rfl,_,bB.of Fm⟩,?_⟩
   refine ⟨_,rfl,p.t,_,0,_,rfl,rfl,de.of tp,rfl,_,rfl,p.t,_,1,_,rfl,rfl,de.of tp,rfl,?_⟩
   walk_at "wk"
   intro t nt
   have Qb:t≠p1:=λz=>by rw[z,Fm]at nt;cases nt
   refine ⟨p1,_,_,rfl,rfl,(aq.upd nt) _ _ Fm,by rw[C6];omega,?_⟩
   refine ⟨us++[⟨t,p.c,p.i,e⟩],_,rfl,by rw[ah];exact congrArg (λx=>some (HO.lst x)) (HW us ⟨t,p.c,p.i,e⟩),by rw[az h12];exact (aq.upd nt) _ _ Vj,λr hr=>?_,?_,by rw[QD];show (us:)+1<=_;omega,λa u ea z=>by rw[az z];exact (aq.upd nt) _ _ (s3 a u ea z)⟩
   ·rcases Qao.mp hr with z | z
    ·exact ⟨((Vk r z).1.same (aq.upd nt)).upd (Vk r z).2,(Vk r z).2⟩
    ·have e2:=ZI.mp z
     subst e2
     exact ⟨uo.upd ⟨ah,pk.cz,pk.iz,(hy.lt e Po).lt⟩ Qb,Qb⟩
   ·rw[Qak,Af, <-take_snoc Y4,Qak,VI]
    rfl
  ·rintro σ H3 ⟨us,sv3,rfl,Fm,Vj,Vk,Af,Np,s3⟩
   rw[xH]at Np Af
   refine ⟨us,_,_,rfl,Fm,Vk,?_,by omega,λa u ea z=>s3 a u (s1 a u ea z) z⟩
   rw[Af,qu, <-take_snoc he,Qb9,Qbe,Qbu,Qgk,Qa1]
   rfl
 ·rintro σ H1 ⟨ps,ev,sv,rfl,hp,A4,qu,iU,s1⟩
  rw[aX]at iU qu
  rw[Qbe]at qu
  exact ⟨_,rfl,q p1 ps H1 n1 hp A4 qu (by omega) (λa u ea=>s1 a u ea (ay ea n1))⟩
theorem BZ:bo P w K mg base dS 4 f7 d7 ["yard","drawing"] (rY K):=by
 have Jz:=Fl (P:=P) (w:=w) (base:=base) T
 have qj:=oZ (P:=P) (w:=w) (base:=base) T
 refine T.F7.fn.ok cS (λvs H Q E h=>zu h) (λ_ _ _ _ H vs Q E hr h=>?_)
 refine ⟨_,(ae (ao (i:=2) cS.nd GQ)
   (ae (cH PassesOwn.never rfl (GH K rfl rfl T.z_enumerate (ab (ai Jz T.F5 hr (aa (pv 0) (ab (pv 1)))))) (gQ (n:=2) K rfl rfl (bA (aE (i:=3) cS.nd rfl (Or.inl rfl)) (bA (aE (i:=4) cS.nd rfl (Or.inl rfl)) fX))) (aj (wY (qQ hr) (pv 2) (pv 4) (pv 3) rfl)))
   (ae (ao (i:=5) cS.nd (da bM))
   (ae (cH PassesOwn.never rfl (yN K rfl rfl T.z_enumerate (ab (aV (bJ K rfl) (pv 1) ak (λ_ _=>rfl)))) (gQ (n:=2) K rfl rfl (bA (aE (i:=6) cS.nd rfl (Or.inl rfl)) (bA (aE (i:=7) cS.nd rfl (Or.inl rfl)) fX))) (aj (cH PassesOwn.never rfl (dY rfl T.z_range (ab (aI aT rfl T.z_len Qbf (ab (pv 7))))) (aE (i:=8) cS.nd rfl (Or.inl rfl)) (ae (ao (i:=9) cS.nd (ai qj T.F6 hr (aa (pv 7) (aa (pv 6) (ab (pv 8))))))
   (aj (dh (bH K rfl Qa8 Qc4 Qc3 gq (pv 5) (ab (cP (aa (pv 6) (aa (pv 8) (aa (qr (qQ hr) (pv 2) (aV (bJ K rfl) (pv 9) ak (λ_ _=>rfl)) (λ_ _=>rfl)) (ab (qr (qQ hr) (pv 2) (aV (bJ K rfl) (pv 9) ak (λ_ _=>rfl)) (λ_ _=>rfl)))))))))))))))
   (aj (aG (pv 5))))))),?_⟩
 obtain ⟨y,dr,ws,os,rfl,hy,hz,qh,Wm,hd,q⟩:=h
 have hs:=Zs1
 have hnd:=HZ hy Wm
 have hbl:=iJ hy
 have AX:=Wm.1
 have hwf:=qh.jS
 obtain ⟨⟨wt,ot,d1,d2,d3⟩,dO⟩:=id hd
 walk_at "wk"
 intro d nd
 refine ⟨_,rfl,_,rfl,y,dr,ws,os,rfl,hy,hz,by omega,hd.same (aq.upd nd),λp1 ps H1 n1 vU A4 qu Yr s1=>?_⟩
 have hd1:=s1 _ _ (ah (H:=H) (a:=d) (o:=HO.dT []))
 have Qa:aq H H1:=(aq.upd nd).trans s1
 have iU:(ps:)=(mF y os:):=by rw[<-qu,kb]
 refine ⟨p1,rfl,⟨_,bB.of vU⟩,?_⟩
 have h1d:p1≠d:=λz=>by rw[z,ah]at n1;cases n1
 refine let gO:Nat->L2.St->Hp->Prop:=(λi σ H'=>∃(aN:List (List Key×V)) (nv pv:Option V),σ=[some (.str (S y)),some (.ref dr),some (.ref d),nv,pv,none,none,none,none,none]/\H' d=some (.dT aN)/\Nums (mF y os) aN i/\(aN:)<=i/\bj d H1 H');D_ (K:=K) (a:=p1) (xs:=JY ps) gO
  ⟨[],none,none,rfl,hd1,λp hp=>absurd hp (by simp),Qar _,bj.refl _ _⟩ (λi σ H' _ ⟨_,_,_,_,_,_,_,h⟩=>bB.of (h _ _ vU h1d)) ?_ ?_
 ·rintro i x σ H2 T hx ⟨aN,nv,pv,rfl,hd2,Md,hkl,s2⟩ nT
  obtain ⟨p,hp,rfl⟩:∃p,ps[i]? =some p/\x=V.ref p.t:=by
   unfold JY at hx
   rw[Qas]at hx
   cases e:ps[i]? with
   | none=>rw[e]at hx;cases hx
   | some p=>rw[e]at hx;cases hx;exact ⟨p,rfl,rfl⟩
  have hi:i<(ps:):=(Og.mp hp).1
  have pk:=(A4 p (Qac hp)).1.tp
  have Ug:p.t≠d:=λz=>by rw[z,hd1]at pk;cases pk
  have hTd:d≠T:=ay hd2 nT
  refine ⟨T,_,rfl,de.of ah,rfl,_,_,rfl,_,_,rfl,rfl,?_⟩
  refine ⟨_,rfl,_,rfl,_,rfl,d,_,rfl,wX.t (k:=xI p.is) (by rw[az hTd];exact hd2) ((aq.upd nT) _ _ (s2 _ _ pk Ug)) (by omega),?_⟩
  exact ⟨_,_,_,rfl,ah,Md.put hnd (UQ qu hp),Qbh (gR _ _ _) (by omega),λa o ea z=>by rw[az z];exact (aq.upd nT) _ _ (s2 a o ea z)⟩
 ·rintro σ H2 ⟨aN,nv,pv,rfl,hd2,Md,hkl,s2⟩
  rw[C6,iU]at Md
  have Nq:∀p∈mF y os,dI aN (xI p)=some (.int ((mF y os).idxOf p:Nat)):=λp hp=>Md p (by rw[Qbe];exact hp)
  have JA:aq H H2:=λa o ea=>s2 a o (Qa a o ea) (ay ea nd)
  walk_at "wk"
  intro p2 n2
  have Y5:=aq.upd (o:= .lst []) n2
  have n20:H p2=none:=aq.free JA n2
  refine ⟨_,rfl,dr,_,0,_,rfl,rfl,de.of (Y5 _ _ (JA _ _ d1)),rfl,?_⟩
  refine ⟨wt,rfl,⟨_,de.of (Y5 _ _ (JA _ _ d2))⟩,?_⟩
  refine let zV:Nat->L2.St->Hp->Prop:=(λj σ H'=>∃(qs:List Q4) (cv wv iv av:Option V),σ=[some (.str (S y)),some (.ref dr),some (.ref d),nv,pv,some (.ref p2),cv,wv,iv,av]/\H' p2=some (.lst (EU qs))/\(∀x∈qs,uq H' x)/\qs.map Q4.v=gU (mF y os) ws j/\(qs:)<=12*j/\aq H2 H');vf (K:=K) (a:=wt) (xs:=bV ws) zV
   ⟨[],none,none,none,none,rfl,ah,λ_ h=>absurd h Qbb,rfl,Qar _,Y5⟩ (λj σ H' _ ⟨_,_,_,_,_,_,_,_,_,_,h⟩=>de.of (h _ _ (JA _ _ d2))) ?_ ?_
  ·rintro j x σ H3 T hx ⟨qs,cv,wv,iv,av,rfl,Fm,Vl,Nr,Y6,s3⟩ nT
   have hj:j<(ws:):=by
    have:=(Og.mp hx).1
    rwa [aY]at this
   rw[rK hj]at hx
   cases hx
   have Qc:ws[j]? =some ws[j]:=Of hj
   obtain ⟨Wn,DC⟩:=qh.all _ (Qb0 hj)
   generalize ws[j]=w at Qc Wn DC ⊢
   have YF:∀l∈w,l<128:=λl hl=>(hy.lt l (Wn l hl)).lt
   have sT:=aq.upd (o:= .tup [.int j,.str (S w)]) nT
   refine ⟨T,_,rfl,de.of ah,rfl,_,_,rfl,_,_,rfl,rfl,?_⟩
   refine ⟨_,rfl,w,rfl,by omega,_,rfl,by omega,by omega,?_⟩
   rw[Qab]
   refine let Va:Nat->L2.St->Hp->Prop:=(λi σ H'=>∃(us:List Q4) (iv av:Option V),σ=[some (.str (S y)),some (.ref dr),some (.ref d),nv,pv,some (.ref p2),some (.int j),some (.str (S w)),iv,av]/\H' p2=some (.lst (EU us))/\(∀x∈us,uq H' x)/\us.map Q4.v=gU (mF y os) ws j++oE (mF y os) j w i/\(us:)<=12*j+i/\aq H2 H');eY Va
    ⟨qs,iv,av,rfl,sT _ _ Fm,λx hx=>(Vl x hx).ts (fU.of sT),by rw[Nr];show _=_++[];rw[Qa1],by omega,s3.trans sT⟩ ?_ ?_
   ·rintro i σ H4 hi ⟨us,iv4,av4,rfl,Wo,Az,Af,Np,s4⟩
    show Kd _ _ _ _ _
    refine He λDx Vm=>?_
    have e1:w[Ad (w:) i]? =some (w.getD (Ad (w:) i) 0):=by rw[Qaj,Of (Bs hi)];rfl
    have e2:w[i]? =some (w.getD i 0):=by rw[Qaj,Of hi];rfl
    have m1:=Nq _ (H_ hy Wm Qc e1 (Wn _ (Qac e1)) (.inr rfl))
    have m2:=Nq _ (H_ hy Wm Qc e2 (Wn _ (Qac e2)) (.inl rfl))
    refine ⟨_,rfl,_,rfl,_,rfl,w,j,i,by rw[Qc5];rfl,YF,hi,by omega,λt t1 t2 H5 ht Qb Su s5=>?_⟩
    have Vf:=s5 _ _ Wo
    have hd5:=s5 _ _ (s4 _ _ hd2)
    refine ⟨_,rfl,.inl ⟨rfl,_,bB.of Vf⟩,_,rfl,_,rfl,?_⟩
    refine ⟨_,rfl,_,rfl,t,_,0,_,rfl,rfl,de.of ht,rfl,d,_,rfl,by rw[<-m1];exact q_.t hd5 Qb,?_⟩
    refine ⟨_,rfl,_,rfl,t,_,1,_,rfl,rfl,de.of ht,rfl,d,_,rfl,by rw[<-m2];exact q_.t hd5 Su,?_⟩
    rw[Qc5]
    refine ⟨by show 4<=sizeLine;decide,λtq ntq=>?_⟩
    have s6:=s5.trans (aq.upd (o:= .tup [.int j,.int i,.int ((mF y os).idxOf (j,Ad (w:) i,aA (w.getD (Ad (w:) i) 0)):Nat),.int ((mF y os).idxOf (j,i,w.getD i 0):Nat)]) ntq)
    have Y7:=s6 _ _ Wo
    refine ⟨p2,_,_,rfl,rfl,Y7,by rw[C8];omega,?_⟩
    refine Vm _ _ ⟨us++[⟨tq,lH (mF y os) j w i⟩],_,_,rfl,by rw[ah];exact congrArg (λx=>some (HO.lst x)) (Ib us ⟨tq,lH (mF y os) j w i⟩),λx hx=>?_,by rw[Qak,Af,zt,VI];rfl,by rw[QD];show (us:)+1<=_;omega,λa o ea=>by rw[az (ay ea n2)];exact s6 _ _ (s4 a o ea)⟩
    rcases Qao.mp hx with g | g
    ·exact (Az x g).ts ((fU.of s6).trans (fU.KP Y7))
    ·have e3:=ZI.mp g
     subst e3
     exact (fU.KP Y7) _ _ ah
   ·rintro σ H4 ⟨us,iv4,av4,rfl,Wo,Az,Af,Np,s4⟩
    exact ⟨us,_,_,_,_,rfl,Wo,Az,by rw[Af,xJ Qc],by omega,s4⟩
  ·rintro σ H3 ⟨qs,cv,wv,iv,av,rfl,Fm,Vl,Nr,Y6,s3⟩
   rw[aY]at Nr
   exact ⟨_,rfl,q p2 qs H3 n20 Fm Vl Nr (JA.trans s3)⟩
theorem uD:bo P w K mg base dS 1 QM Rx ["words","band"] (lI K):=by
 refine T.F11.fn.ok c_ (λvs H Q E h=>se h) (λ_ _ _ _ H vs Q E hr h=>?_)
 refine let Z4:TS:=_;let Z3:TS:=_;let Z2:TS:=_;let Z1:TS:=_;let Z0:TS:=_;⟨_,(ae (ao (i:=2) c_.nd (da bM))
   (ag Z0 (ae (cH PassesOwn.never rfl (yN K rfl rfl T.z_enumerate (ab (pv 0))) (gQ (n:=2) K rfl rfl (bA (aE (i:=3) c_.nd rfl (Or.inl rfl)) (bA (aE (i:=4) c_.nd rfl (Or.inl rfl)) fX))) (ag Z1 (aj (cH PassesOwn.never rfl (GB rfl T.z_enumerate (ab (pv 4))) (gQ (n:=2) K rfl rfl (bA (aE (i:=5) c_.nd rfl (Or.inl rfl)) (bA (aE (i:=6) c_.nd rfl (Or.inl rfl)) fX))) (ag Z2 (aj (cG (aM dF (fz K rfl Qax Qfi Qfh qU (pv 6)) (pv 1) (aK _)) (ag Z3 (aj (dh (bH K rfl Qa8 Qc4 Qc3 gq (pv 2) (ab (cP (aa (pv 3) (ab (pv 5))))))))) bX)))))))
   (ag Z4 (aj (aG (pv 2))))))),?_⟩
 obtain ⟨wt,ws,band,rfl,qg,hf,hw,hb,q⟩:=h
 have hs:=Zs1
 walk_at "wk"
 intro p1 n1
 refine ⟨_,rfl,wt,rfl,⟨_,de.of ((aq.upd n1) _ _ qg)⟩,?_⟩
 refine let gO:Nat->L2.St->Hp->Prop:=(λj σ H'=>∃(ps:List Pr) (cv wv pv lv:Option V),σ=[some (.ref wt),some (.str (S [band])),some (.ref p1),cv,wv,pv,lv]/\H' p1=some (.lst (vP ps))/\(∀p∈ps,p9 H' p)/\ps.map Pr.pair=du band ws j/\(ps:)<=12*j/\aq H H');vf (K:=K) (a:=wt) (xs:=bV ws) gO
  ⟨[],none,none,none,none,rfl,ah,λ_ h=>absurd h Qbb,rfl,Qar _,aq.upd n1⟩ (λj σ H' _ ⟨_,_,_,_,_,_,_,_,_,_,h⟩=>de.of (h _ _ qg)) ?_ ?_
 ·rintro j x σ H1 T hx ⟨ps,cv,wv,pv,lv,rfl,hp,A4,qu,iU,s1⟩ nT
  have hj:j<(ws:):=by
   have:=(Og.mp hx).1
   rwa [aY]at this
  rw[rK hj]at hx
  cases hx
  have Qc:ws[j]? =some ws[j]:=Of hj
  obtain ⟨uY,DC⟩:=hw _ (Qb0 hj)
  generalize ws[j]=w at Qc uY DC ⊢
  refine ⟨T,_,rfl,de.of ah,rfl,_,_,rfl,_,_,rfl,rfl,?_⟩
  have sT:=aq.upd (o:= .tup [.int j,.str (S w)]) nT
  refine ⟨_,rfl,w,rfl,?_⟩
  refine let zV:Nat->L2.St->Hp->Prop:=(λm σ H'=>∃(us:List Pr) (pv lv:Option V),σ=[some (.ref wt),some (.str (S [band])),some (.ref p1),some (.int j),some (.str (S w)),pv,lv]/\H' p1=some (.lst (vP us))/\(∀p∈us,p9 H' p)/\us.map Pr.pair=du band ws j++jh band j w m/\(us:)<=12*j+m/\aq H H');GC (l:=w) zV
   ⟨ps,pv,lv,rfl,sT _ _ hp,λp vq=>(A4 p vq).same sT,by rw[qu];show _=_++[];rw[Qa1],(),s1.trans sT⟩ ?_ ?_
  ·rintro m l σ H2 T2 hm ⟨us,pv2,lv2,rfl,rh,Az,Af,Np,s2⟩ nT2
   have hmw:m<(w:):=(Og.mp hm).1
   have Ma:=uY l (Qac hm)
   have es:=Bp (band:=band) (c:=j) hm
   have Wq:=aq.upd (o:= .tup [.int m,.str (S [l])]) nT2
   refine ⟨T2,_,rfl,de.of ah,rfl,_,_,rfl,_,_,rfl,rfl,?_⟩
   refine ⟨_,rfl,rfl,l,rfl,rfl,Ma.lt,_,rfl,[PyProof.Rows.lo1 l],[band],rfl,rfl,_,rfl,?_⟩
   have ev:decide ([PyProof.Rows.lo1 l]=[band])=Bo band l:=by rw[<-HX hb Ma];simp
   rw[ev]
   have Qd:=Wq _ _ rh
   walk_at"j"
   ·rw[if_pos z]at es
    refine ⟨_,rfl,.inl ⟨rfl,_,bB.of Qd⟩,_,rfl,_,rfl,by show 2<=sizeLine;decide,λt nt=>?_⟩
    have Fm:=(aq.upd (o:= .tup [.int j,.int m]) nt) _ _ Qd
    have s3:=Wq.trans (aq.upd (o:= .tup [.int j,.int m]) nt)
    refine ⟨p1,_,_,rfl,rfl,Fm,by rw[xH];lia,?_⟩
    refine ⟨us++[⟨t,j,m⟩],_,_,rfl,by rw[ah];exact congrArg (λx=>some (HO.lst x)) (HS us ⟨t,j,m⟩),λp vq=>?_,by rw[Qak,Af,es,VI];rfl,by rw[QD];show (us:)+1<=_;lia,λa o ea=>by rw[az (ay ea n1)];exact s3 _ _ (s2 a o ea)⟩
    rcases Qao.mp vq with g | g
    ·exact ((Az p g).same s3).ts (fU.KP Fm)
    ·have e2:=ZI.mp g
     subst e2
     exact p9.ts (H:=upd (upd H2 T2 (.tup [.int m,.str (S [l])])) t (.tup [.int j,.int m])) ⟨ah,by show j<1000;lia,by show m<1000;lia⟩ (fU.KP Fm)
   ·rw[if_neg z,Qa1]at es
    exact ⟨us,_,_,rfl,Qd,λp vq=>(Az p vq).same Wq,by rw[Af,es],(),s2.trans Wq⟩
  ·rintro σ H2 ⟨us,pv2,lv2,rfl,rh,Az,Af,Np,s2⟩
   exact ⟨us,_,_,_,_,rfl,rh,Az,by rw[Af,zr Qc],(),s2⟩
 ·rintro σ H1 ⟨ps,cv,wv,pv,lv,rfl,hp,A4,qu,iU,s1⟩
  rw[aY]at qu
  exact ⟨_,rfl,q p1 ps H1 n1 hp A4 qu s1⟩
theorem Fn:bo P w K mg base dS 1 ie tu ["self","strand","way","place"] (vX K aP):=by
 refine T.PY.ok Fc (λvs H Q E h=>Bw h) (λ_ _ _ _ H vs Q E hr h=>?_)
 refine let Z1:TS:=_;let Z0:TS:=_;⟨_,(ae (jJ (pv 0) (pv 1) rfl)
   (ag Z0 (ae (jJ (pv 0) (pv 2) rfl)
   (ag Z1 (aj (jJ (pv 0) (pv 3) rfl)))))),?_⟩
 obtain ⟨x,dx,t,w',p,rfl,hx,q⟩:=h
 refine ⟨_,rfl,_,rfl,x,aP,dx,_,rfl,hx,T.dW,T.n_Seen_strand,by show 0<1000;decide,?_⟩
 refine ⟨_,rfl,_,rfl,x,aP,dx,_,rfl,ah,T.dW,T.n_Seen_way,Qbm (dv _ _ _) (by show 0+1<1000;decide),?_⟩
 refine ⟨_,rfl,_,rfl,x,aP,dx,_,rfl,ah,T.dW,T.n_Seen_place,Qbm (dv _ _ _) (Qbm (Qde (dv _ _ _)) (by show 0+1+1<1000;decide)),?_⟩
 exact q _ ah λb o e z=>by rw[az z,az z,az z];exact e
theorem tL:bo P w K mg base dS 3 QY RL ["words","ways","strand"] (kj K aZ aP):=by
 have z8:=Fn (P:=P) (w:=w) (base:=base) T
 refine T.F25.fn.ok gL (λvs H Q E h=>qc h) (λ_ _ _ _ H vs Q E hr h=>?_)
 refine let Z3:TS:=_;let Z2:TS:=_;let Z1:TS:=_;let Z0:TS:=_;⟨_,(ae (ao (i:=3) gL.nd (aV (bJ K rfl) (pv 0) (aV (bJ K rfl) (pv 2) ak (λ_ _=>rfl)) (λ_ _=>rfl)))
   (ag Z0 (ae (ao (i:=4) gL.nd (aV (bJ K rfl) (pv 2) ak (λ_ _=>rfl)))
   (ag Z1 (ae (cG (g9 (fz K rfl Qax Qe7 Qe6 lX (aV jz (pv 3) (pv 4) (λ_ _=>rfl)))) (ag Z2 (aj (aG (qm T.Jn z8 (hr.mono ∅) rfl T.Jm T.Jo .nil gP (aa (pv 2) (aa (aV (bJ K rfl) (aV (b9 K rfl) (pv 1) (aV (bJ K rfl) (pv 2) ak (λ_ _=>rfl)) (λ_ _=>rfl)) ak (λ_ _=>rfl)) (ab (pv 4)))))))) bX)
   (ag Z3 (aj (aG (qm T.Jn z8 (hr.mono ∅) rfl T.Jm T.Jo .nil gP (aa (pv 2) (aa (aV (bJ K rfl) (aV (b9 K rfl) (pv 1) (aV (bJ K rfl) (pv 2) ak (λ_ _=>rfl)) (λ_ _=>rfl)) ak (λ_ _=>rfl)) (ab (aB cI (aB cI (aI aT rfl T.z_len Qbf (ab (pv 3))) ak) (pv 4)))))))))))))),?_⟩
 obtain ⟨y,lg,wt,vt,st,w',ws,nP,p,c,i,rfl,hy,qg,Wr,kZ,hw,hp,ok,hi,q⟩:=h
 have hs:=Zs1
 have DC:=ok.on.uz
 have hlz:=ok.on.lz
 have Fs:=ok.on.sw
 have h8:(rd w' i)<128:=(hy.lt _ (Fs.rd _)).lt
 have hc:(bV ws)[c]? =some (V.str (S w')):=by
  have hl:=(Og.mp hw).1
  rw[rK hl,(Og.mp hw).2]
 refine ⟨_,rfl,_,rfl,st,_,0,_,rfl,rfl,de.of kZ,rfl,wt,_,_,_,rfl,rfl,de.of qg,dj hc,?_⟩
 refine ⟨_,rfl,st,_,1,_,rfl,rfl,de.of kZ,rfl,?_⟩
 refine ⟨_,rfl,_,rfl,w',_,_,rfl,rfl,(),by rw[CL () ()],?_⟩
 have made:∀(x dx:Addr) (H':Hp) (t w2:Addr) (pl:Nat),H x=none->H dx=none->dx≠x->bj x (L2.upd (L2.upd H dx (.own x)) x (.ins aP dx [])) H'->aq H H':=λx dx H' t w2 pl nx PL ne sm a o e=>by
  refine sm a o ?_ (ay e nx)
  rw[az (ay e nx),az (ay e PL)]
  exact e
 refine ⟨rfl,_,rfl,rfl,h8,?_⟩
 walk_at "rd"
 walk_at"j"
 ·refine ⟨_,rfl,_,rfl,_,rfl,st,_,0,_,rfl,rfl,de.of kZ,rfl,vt,_,_,_,rfl,rfl,bB.of Wr,dj (ID hp),p.t,_,0,_,rfl,rfl,de.of ok.tp,rfl,_,rfl,λx dx nx PL ne=>⟨x,dx,st,p.a,i,rfl,ah,λH' hx sm=>⟨rfl,?_⟩⟩⟩
  have Qe:=made x dx H' st p.a i nx PL ne sm
  exact q ⟨x,st,p.a,c,i,w',i,p.r⟩ H' ⟨rfl,rfl,by rw[if_pos z],by rw[if_pos z]⟩ rfl ⟨⟨dx,hx⟩,Qe _ _ kZ,ok.on.same Qe,hi⟩ nx Qe
 ·have ei:((w':):Int) - 1 - i=(((w':) - 1 - i:Nat):Int):=by lia
  refine ⟨_,rfl,_,rfl,_,rfl,st,_,0,_,rfl,rfl,de.of kZ,rfl,vt,_,_,_,rfl,rfl,bB.of Wr,dj (ID hp),p.t,_,1,_,rfl,rfl,de.of ok.tp,rfl,_,rfl,w',rfl,(),_,_,rfl,rfl,_,rfl,_,_,rfl,rfl,λx dx nx PL ne=>⟨x,dx,st,p.b,(w':) - 1 - i,by rw[<-ei];rfl,ah,λH' hx sm=>⟨rfl,?_⟩⟩⟩
  have Qe:=made x dx H' st p.b 0 nx PL ne sm
  exact q ⟨x,st,p.b,c,i,dU w',(w':) - 1 - i,p.q⟩ H' ⟨rfl,rfl,by rw[if_neg z],by rw[if_neg z]⟩ rfl ⟨⟨dx,hx⟩,Qe _ _ kZ,ok.bk.same Qe,by show (w':) - 1 - i<(dU w':);rw[bZ];lia⟩ nx Qe
theorem uE:bo P w K mg base dS 5 QZ RM ["words","ways","band"] (lJ K aZ aP):=by
 have yh:=uD (P:=P) (w:=w) (base:=base) T
 have uF:=tL (P:=P) (w:=w) (base:=base) T
 have tM:=qe (P:=P) (w:=w) (base:=base) T
 refine T.F26.fn.ok fE (λvs H Q E h=>so h) (λ_ _ _ _ H vs Q E hr h=>?_)
 refine ⟨_,(ae (ao (i:=3) fE.nd (da bM))
   (ae (cH PassesOwn.never rfl (cV K rfl (ai yh T.F11 hr (aa (pv 0) (ab (pv 2))))) (aE (i:=4) fE.nd rfl (Or.inl rfl)) (ae (ao (i:=5) fE.nd (ai uF T.F25 hr (aa (pv 0) (aa (pv 1) (ab (pv 4))))))
   (aj (dh (bH K rfl Qa8 PySem.F.slot_list_insert PySem.F.type_list_insert Eh (pv 3) (aa (ai tM T.F24 hr (aa (pv 3) (ab (pv 5)))) (ab (pv 5))))))))
   (aj (aG (cX (gz K rfl) rfl T.z_tuple boot_tuple (ab (bW ["seen"] [none] (cV K rfl (pv 3)) trivial (λ_ _ _ _=>(aE (i:=0) (by decide+kernel:List.Nodup (["seen"]:List Str)) rfl (Or.inl rfl))) (λ_ _ _ _=>fR) (λ_ _ _ _=>(bO K rfl (pv 0) rfl))))))))),?_⟩
 obtain ⟨y,lg,wt,vt,ws,nP,band,rfl,hy,hz,qg,Y8,qh,hb,Wr,uY,Vn,q⟩:=h
 have hs:=Zs1
 walk_at "rd"
 intro a na
 have s0:=aq.upd (o:= .lst []) na
 refine ⟨_,rfl,_,rfl,wt,ws,band,rfl,s0 _ _ qg,Y8,λw hw=>⟨λc hc=>hy.lt c ((qh w hw).1.cu c hc),(qh w hw).2⟩,hb,λb ps H1 nb Fu A4 qu s1=>?_⟩
 have Qa:=s0.trans s1
 have hba:b≠a:=λz=>by rw[z,ah]at nb;cases nb
 have aap:(ps:)<=48:=by
  have h1:(ps.map Pr.pair:)<=48:=by
   rw[qu]
   have:=km band (λw hw=>(qh w hw).2) (ws:) (ZH _)
   lia
  rwa [kb]at h1
 have pin:∀p∈ps,∃w,ws[p.c]? =some w/\p.i<(w:)/\Bo band (rd w p.i)=true:=λp hp=>by
  have hm:p.pair∈du band ws (ws:):=by rw[<-qu];exact Qa3.mpr ⟨p,hp,rfl⟩
  exact BA hm
 refine ⟨b,rfl,⟨_,bB.of Fu⟩,?_⟩
 refine let gO:Nat->L2.St->Hp->Prop:=(λk σ H'=>∃(ss:List Sn) (sv nv:Option V),σ=[some (.ref wt),some (.ref vt),some (.str (S [band])),some (.ref a),sv,nv]/\H' a=some (.lst (Dk ss))/\(∀s∈ss,kf H' aZ aP y lg s/\rd s.u s.p=band/\∃w,ws[s.c]? =some w/\Bz w s.c s.i s/\s.i<(w:))/\(ss.map λs=>(s.c,s.i)).Perm ((ps.take k).map Pr.pair)/\E3 y (2*lg) ss/\bj a H1 H');il (K:=K) (a:=b) (xs:=vP ps) gO
  ⟨[],none,none,rfl,s1 _ _ ah,λ_ h=>absurd h Qbb,.nil,List.Pairwise.nil,bj.refl _ _⟩ (λk σ H' _ ⟨_,_,_,_,_,_,_,_,h⟩=>bB.of (h _ _ Fu hba)) ?_ ?_
 ·rintro k x σ H2 hx ⟨ss,sv,nv,rfl,ha,Fe,tT,Sv,s2⟩
  show Kd _ _ _ _ _
  refine He λDx Vm=>?_
  obtain ⟨p,hp,rfl⟩:=HU hx
  have hk:k<(ps:):=(Og.mp hp).1
  have Vo:=Qac hp
  obtain ⟨w,hw,hi,ho⟩:=pin p Vo
  have hwm:=Qac hw
  have OM:p.c<(nP:):=by rw[uY];exact (Og.mp hw).1
  have b8:=Vn p.c w nP[p.c] hw (Of OM)
  have go:∀c o,H c=some o->H2 c=some o:=λc o e=>s2 _ _ (Qa c o e) (ay e na)
  have Y9:=(A4 p Vo).tp
  have OT:p.t≠a:=λz=>by rw[z,s1 _ _ ah]at Y9;cases Y9
  have Y_:=s2 _ _ Y9 OT
  have ssl:(ss:)=k:=by
   have:=tT.length_eq
   rw[kb,kb,Qaa]at this
   lia
  refine ⟨_,rfl,_,rfl,_,rfl,y,lg,wt,vt,p.t,w,ws,nP,nP[p.c],p.c,p.i,rfl,hy,go _ _ qg,go _ _ Wr,Y_,hw,Of OM,b8.same go,hi,λs H3 Nt kZ hso hnn s3=>?_⟩
  have T5:=Nt.band hy (qh w hwm).1 hi hb ho
  refine ⟨_,rfl,.inl ⟨rfl,_,bB.of (s3 _ _ ha)⟩,_,rfl,_,rfl,y,lg,a,ss,s,rfl,hy,hz,s3 _ _ ha,λt ht=>⟨(Fe t ht).1.same s3,by rw[(Fe t ht).2.1,T5]⟩,hso,Sv,(),λn H4 hn h1 h2 s4=>?_⟩
  have ha4:=s4 _ _ (s3 _ _ ha)
  refine ⟨_,rfl,a,_,n,_,rfl,rfl,ha4,by rw[nu];exact hn,by rw[nu];lia,?_⟩
  have e1:(Dk ss).take n++V.ref s.a::(Dk ss).drop n=Dk (ss.take n++s::ss.drop n):=by
   unfold Dk
   rw[Qak,List.map_take,Qa0,List.map_drop]
  rw[e1]
  have su:∀t,kf H4 aZ aP y lg t->kf (L2.upd H4 a (.lst (Dk (ss.take n++s::ss.drop n)))) aZ aP y lg t:=λt ot=>by
   have ne:∀{c:Addr} {o:HO},H4 c=some o->(∀l,o≠ .lst l)->c≠a:=λ{c o} e no z=>by rw[z,ha4]at e;exact no _ (Qad e).symm
   obtain ⟨dx,eo⟩:=ot.ob
   obtain ⟨dw,ew⟩:=ot.wy.ob
   exact ⟨⟨dx,by rw[az (ne eo (λl z=>by cases z))];exact eo⟩,by rw[az (ne ot.st (λl z=>by cases z))];exact ot.st,⟨⟨dw,by rw[az (ne ew (λl z=>by cases z))];exact ew⟩,ot.wy.sw,ot.wy.uz,ot.wy.lz,ot.wy.rt⟩,ot.pz⟩
  refine Vm _ _ ⟨ss.take n++s::ss.drop n,_,_,rfl,ah,λt ht=>?_,?_,PK Sv h1 h2,λc o e z=>by rw[az z];exact s4 _ _ (s3 _ _ (s2 c o e z))⟩
  ·have:t=s\/t∈ss:=by
    rcases Qao.mp ht with r | r
    ·exact .inr (Qcx r)
    ·rcases Qam.mp r with r | r
     ·exact .inl r
     ·exact .inr (Qcy r)
   rcases this with r | r
   ·subst r
    refine ⟨su _ (hso.same s4),T5,w,?_,?_,?_⟩
    ·rw[Nt.ec];exact hw
    ·rw[Nt.ec,Nt.ei];exact Nt
    ·rw[Nt.ei];exact hi
   ·exact ⟨su _ (((Fe t r).1.same s3).same s4),(Fe t r).2⟩
  ·rw[Qak,Qa0, <-take_snoc hp,Qak,Nt.ec,Nt.ei]
   have p1:(ss.take n).map (λs=>(s.c,s.i))++(p.c,p.i)::(ss.drop n).map (λs=>(s.c,s.i)) |>.Perm ((p.c,p.i)::ss.map λs=>(s.c,s.i)):=by
    refine List.perm_middle.trans (List.Perm.cons _ ?_)
    rw[<-Qak,Qal]
   exact p1.trans ((List.Perm.cons _ tT).trans (Qex _ _).symm)
 ·rintro σ H2 ⟨ss,sv,nv,rfl,ha,Fe,tT,Sv,s2⟩
  rw[xH,Qbe,qu]at tT
  have ssl:(ss:)<=48:=by
   have:=tT.length_eq
   rw[kb, <-qu,kb]at this
   lia
  have JA:aq H H2:=λc o e=>s2 _ _ (Qa c o e) (ay e na)
  refine ⟨_,rfl,a,rfl,⟨_,bB.of ha⟩,?_⟩
  refine let zV:Nat->List V->Hp->Prop:=(λi acc H'=>H'=H2/\acc=(ss.take i).map λs=>V.ref s.t);gu (K:=K) (a:=a) (xs:=Dk ss) zV (by rw[nu];lia) (λi acc H' h=>by rw[h.1];exact bB.of ha) ⟨rfl,rfl⟩ ?_ ?_
  ·rintro i x acc H3 Nx hi hx hl ⟨rfl,rfl⟩ nx
   obtain ⟨t,ht,rfl⟩:=LN hx
   obtain ⟨dx,e⟩:=(Fe t (Qac ht)).1.ob
   refine ⟨trivial,eL ⟨_,rfl,t.a,aP,dx,_,_,rfl,e,T.dW,T.n_Seen_strand,vW,nx _ _ (by simpa using hl) ⟨rfl,?_⟩⟩⟩
   rw[<-take_snoc ht,Qak]
   rfl
  ·rintro acc H3 D hl ⟨rfl,rfl⟩ hD
   rw[nu,Qbe]
   refine ⟨D,_,rfl,.inl ⟨bB.of ah,λt nt=>?_⟩⟩
   have sA:=(aq.upd (o:= .lst (ss.map λs=>V.ref s.t)) hD).trans (aq.upd (o:= .tup (ss.map λs=>V.ref s.t)) nt)
   have ep:(ss.map λs=>(⟨s.t,s.c,s.i⟩:Pr)).map Pr.pair=ss.map λs=>(s.c,s.i):=by rw[Qbx];rfl
   refine q t (ss.map λs=>(⟨s.t,s.c,s.i⟩:Pr)) _ (aq.free (JA.trans (aq.upd hD)) nt) (by rw[ah];unfold vP;rw[Qbx];rfl) (λp hp=>?_) (by rw[ep];exact tT) ?_ (JA.trans sA)
   ·obtain ⟨s,Tr,rfl⟩:=Qa3.mp hp
    obtain ⟨ok,_,w,hw,_,hi⟩:=Fe s Tr
    have h1:=(Og.mp hw).1
    have h2:=(qh w (Qac hw)).2
    exact ⟨sA _ _ ok.st,by show s.c<1000;lia,by show s.i<1000;lia⟩
   ·rw[ep]
    unfold E4
    rw[Qch]
    refine Qe9 (λ{s t} h1 h2 h=>?_) Sv
    obtain ⟨o1,_,w1,e1,i1,l1⟩:=Fe s h1
    obtain ⟨o2,_,w2,e2,i2,l2⟩:=Fe t h2
    have g1:ws.getD s.c []=w1:=by rw[Qaj,e1];rfl
    have g2:ws.getD t.c []=w2:=by rw[Qaj,e2];rfl
    rw[<-Dm hy (qh w1 (Qac e1)).1 l1 g1 i1 o1.wy.rt, <-Dm hy (qh w2 (Qac e2)).1 l2 g2 i2 o2.wy.rt]
    exact h
theorem tN:bo P w K mg base dS 2 QN Ry ["word","place"] (jZ K):=by
 walk_at"A"
 refine T.F12.fn.ok tD (λvs H Q E h=>p7 h) (λ_ _ _ _ H vs Q E hr h=>?_)
 refine ⟨_,(aj (aG (cP (aa (ai bU T.F0 hr (ab (aV jz (pv 0) (aB cI (pv 1) ak) (λ_ _=>rfl)))) (ab (aV jz (pv 0) (pv 1) (λ_ _=>rfl))))))),?_⟩
 obtain ⟨w,i,rfl,hl,hz,hi,q⟩:=h
 have hs:=Zs1
 have dE:w≠[]:=λz=>by rw[z]at hi;simp at hi
 refine ⟨_,rfl,_,rfl,_,_,rfl,rfl,w,_,_,rfl,rfl,(),CL () (),_,rfl,(hl _ (rR dE _)).lt,?_⟩
 refine ⟨_,rfl,_,rfl,w,_,_,rfl,rfl,(),CL () (),by show 2<=sizeLine;decide,λt nt=>?_⟩
 exact q t _ nt ah (aq.upd nt)
theorem tP:bo P w K mg base dS 1 f3 d3 ["yard","start","end"] (jX K):=by
 refine T.F3.fn.ok tw (λvs H Q E h=>pZ h) (λ_ _ _ _ H vs Q E hr h=>?_)
 refine ⟨_,(aj (aG (aB eZ (aB cI (bH K rfl Qax PySem.F.slot_str_find PySem.F.type_str_find yG (pv 0) (ab (pv 2))) (bH K rfl Qax PySem.F.slot_str_find PySem.F.type_str_find yG (pv 0) (ab (pv 1)))) (aI aT rfl T.z_len Qbf (ab (pv 0)))))),?_⟩
 obtain ⟨y,a,b,rfl,ha,hb,hz,q⟩:=h
 have hs:(1000:Nat)<sizeLine:=by decide
 have hp:(0:Int)<((y:):Int):=by have:=List.length_pos_of_mem ha;lia
 refine ⟨_,rfl,rfl,_,rfl,y,b,rfl,rfl,?_⟩
 rw[if_pos hb]
 refine ⟨_,rfl,rfl,_,rfl,y,a,rfl,rfl,?_⟩
 rw[if_pos ha]
 exact ⟨_,_,rfl,rfl,_,rfl,y,rfl,(),_,_,rfl,rfl,hp,q⟩
theorem qk:bo P w K mg base dS 3 QT RE ["yard","word","place"] (jk K):=by
 have uG:=tN (P:=P) (w:=w) (base:=base) T
 have uH:=tP (P:=P) (w:=w) (base:=base) T
 refine T.V5.fn.ok jt (λvs H Q E h=>oJ h) (λ_ _ _ _ H vs Q E hr h=>?_)
 refine let Z0:TS:=_;⟨_,(ae (ao (i:=3) jt.nd (ai uG T.F12 hr (aa (pv 1) (ab (pv 2)))))
   (ag Z0 (aj (aG (ai uH T.F3 hr (aa (pv 0) (aa (aV (bJ K rfl) (pv 3) ak (λ_ _=>rfl)) (ab (aV (bJ K rfl) (pv 3) ak (λ_ _=>rfl)))))))))),?_⟩
 obtain ⟨y,w,i,rfl,hy,hz,hw,DC,hi,q⟩:=h
 refine ⟨_,rfl,_,rfl,w,i,rfl,λc hc=>hy.lt c (hw.cu c hc),DC,hi,λp H1 np hp s1=>?_⟩
 refine ⟨_,rfl,_,rfl,p,_,0,_,rfl,rfl,de.of hp,rfl,_,rfl,p,_,1,_,rfl,rfl,de.of hp,rfl,y,_,_,rfl,hy.cl _ (hw.rd _),hw.rd _,(),?_⟩
 have rg:=fk (hy.cl _ (hw.rd ((i:Int) - 1))) (hw.rd i) (Ne.symm (hw.red i))
 obtain ⟨n,hn⟩:∃n:Nat,cst y w i=n:=⟨(cst y w i).toNat,by have:=rg.1;unfold cst;lia⟩
 have:=rg.2.1
 have e:zj y (aA (rd w ((i:Int) - 1))) (rd w i)=n:=hn
 have key:=q n H1 hn () s1
 rw[<-e]at key
 exact key
theorem JB:bo P w K mg base dS 6 lQ zS ["self","yard","word","longest"] (zA K aZ):=by
 have Qf:=L6 (P:=P) (w:=w) (base:=base) T
 have mC:=x9 (P:=P) (w:=w) (base:=base) T
 have kB:=o5 (P:=P) (w:=w) (base:=base) T
 have tQ:=qk (P:=P) (w:=w) (base:=base) T
 refine T.U2.ok tI (λvs H Q E h=>E2 h) (λ_ _ _ _ H vs Q E hr h=>?_)
 refine let Z5:TS:=_;let Z4:TS:=_;let Z3:TS:=_;let Z2:TS:=_;let Z1:TS:=_;let Z0:TS:=_;⟨_,(ae (jJ (pv 0) (aI aT rfl T.z_len Qbf (aa (pv 2) bM)) rfl)
   (ag Z0 (ae (jJ (pv 0) (aI aT rfl T.z_len Qbf (aa (aV (bJ K rfl) (kE Qf (hr.mono ∅) rfl T.V4.mg T.V4.fn.kp T.V4.bd .nil gP (aa (pv 2) bM)) ak (λ_ _=>rfl)) bM)) rfl)
   (ag Z1 (ae (jJ (pv 0) (cE wO (kE mC (hr.mono ∅) rfl T.J3.mg T.J3.fn.kp T.J3.bd .nil gP (aa (pv 2) bM)) (kE mC (hr.mono ∅) rfl T.J3.mg T.J3.fn.kp T.J3.bd .nil gP (aa (kE kB (hr.mono ∅) rfl T.F1.mg T.F1.fn.kp T.F1.bd .nil gP (aa (pv 2) bM)) bM)) (aK _)) rfl)
   (ag Z2 (ae (Ah (i:=4) tI.nd rfl (Or.inl rfl) (bH K rfl Qax Qdv Qdu (jN K rfl) (jy [] ⋯) (aa (bW ["place","yard","word"] [none,some 1,some 2] (dY rfl T.z_range (aa (aI aT rfl T.z_len Qbf (aa (pv 2) bM)) bM)) ⟨⟨rfl,rfl,by first | exact .inl rfl | exact .inr rfl⟩,⟨⟨rfl,rfl,by first | exact .inl rfl | exact .inr rfl⟩,trivial⟩⟩ (λ_ _ _ _=>(aE (i:=0) (by decide+kernel:List.Nodup (["place","yard","word"]:List Str)) rfl (Or.inl rfl))) (λ_ _ _ _=>fR) (λ_ _ _ _=>(cX Eg rfl T.z_str boot_str (aa (kE tQ (hr.mono ∅) rfl T.V5.mg T.V5.fn.kp T.V5.bd .nil gP (aa (pv 1) (aa (pv 2) (aa (pv 0) bM)))) bM)))) bM)))
   (ag Z3 (ae (Ah (i:=5) tI.nd rfl (Or.inl rfl) (aB a_ ak (aB dq (pv 3) (aI (uO rfl) rfl T.z_max boot_max (aa (aI aT rfl T.z_len Qbf (aa (pv 2) bM)) (aa ak bM))))))
   (ag Z4 (ae (jJ (pv 0) (aB wQ (pv 4) (pv 5)) rfl)
   (ag Z5 (aj (jJ (pv 0) (aB wQ (K5 (pv 4) (bF (jd fP ak))) (pv 5)) rfl)))))))))))))),?_⟩
 obtain ⟨x,dx,y,w',lg,rfl,hx,hy,hz,hw,uY,Ws,q⟩:=h
 have hs:=Zs1
 have cf:∀c∈w',Lt c:=λc hc=>hy.lt c (hw.cu c hc)
 have h8:∀c∈w',c<128:=λc hc=>(cf c hc).lt
 have ht:=hw.dU hy
 have htl:∀c∈dU w',Lt c:=λc hc=>hy.lt c (ht.cu c hc)
 have h1:1<=(w':):=ZJ.mpr hw.ne
 have rl:=nj (lg:=lg) h1
 obtain ⟨rt,Wt⟩:=CO hw.ne
 refine ⟨_,rfl,w',rfl,(),_,rfl,x,aZ,dx,_,rfl,hx,T.g6,T.n_Way_size,by show 0<1000;decide,?_⟩
 refine ⟨_,rfl,w',rfl,cf,(),λp1 s1 H1 n1 vU JV U8=>?_⟩
 obtain ⟨er,el⟩:=EM hy hw JV Wt
 subst er
 have et:((bQ w').take s1:)=s1:=by
  rw[Qaa,el]
  rcases Wt with ⟨z,_⟩ | ⟨_,h2,_⟩
  ·exact absurd z hw.ne
  ·lia
 have aaq:s1<=(w':):=by
  rcases Wt with ⟨z,_⟩ | ⟨_,h2,_⟩
  ·exact absurd z hw.ne
  ·exact h2
 have hx1:=U8 _ _ (ah (H:=H) (a:=x))
 refine ⟨p1,_,0,_,rfl,rfl,de.of vU,rfl,_,rfl,by rw[et];lia,_,rfl,x,aZ,dx,_,rfl,hx1,T.g6,T.n_Way_root_size,Qbm (dv _ _ _) (by show 0+1<1000;decide),?_⟩
 rw[et]
 refine ⟨_,rfl,w',rfl,cf,(),λH2 s2=>⟨_,rfl,w',rfl,h8,(),λH3 s3=>⟨dU w',rfl,htl,by rw[bZ];lia,λH4 s4=>?_⟩⟩⟩
 have s24:=s2.trans (s3.trans s4)
 have hx4:=s24 _ _ (ah (a:=x))
 refine ⟨_,_,rfl,rfl,_,rfl,x,aZ,dx,_,rfl,hx4,T.g6,T.n_Way_leads,Qbm (dv _ _ _) (Qbm (Qde (dv _ _ _)) (by show 0+1+1<1000;decide)),?_⟩
 have eld:decide (bQ w'<bQ (dU w'))=leads w':=by
  unfold leads
  rw[hw.bQ hy,ht.bQ hy]
 refine ⟨rfl,_,rfl,w',rfl,(),_,rfl,(),(),?_⟩
 rw[Qab]
 refine let gO:Nat->List V->Hp->Prop:=(λi acc H'=>aq _ H'/\acc=cx ((stx y w').take i));q0 gO () ⟨aq.refl _,rfl⟩ ?_ ?_
 ·rintro i acc H5 Nx hi hl ⟨s5,rfl⟩ nx
  refine ⟨⟨rfl,rfl,trivial⟩,eL ⟨_,rfl,_,rfl,_,rfl,y,w',i,by rw[Qc5];rfl,hy,hz,hw,(),hi,λn H6 hn h8' s6=>⟨n,rfl,(),nx _ _ (by simpa using hl) ⟨s5.trans s6,?_⟩⟩⟩⟩
  have eg:(stx y w')[i]? =some (48+n):=by
   unfold stx
   rw[Qas,List.getElem?_range hi]
   show some (Ae (cst y w' i))=_
   rw[hn]
   unfold Ae
   congr 1
  rw[PD n (),fI,take_snoc eg]
 ·rintro acc H5 D hl ⟨s5,rfl⟩ hD
  have Vi:(stx y w').take (w':)=stx y w':=Qae (by rw[dA];exact ZH _)
  rw[Vi]at hl ⊢
  refine ⟨D,(stx y w').map λc=>[c],rfl,rfl,bB.of (by rw[ah, <-iB]),by rw[Ey,dA];lia,?_⟩
  rw[vz]
  have Sr:=s5.trans (aq.upd (o:= .lst (cx (stx y w'))) hD)
  have Za:=Sr _ _ (ah (a:=x))
  have Zb:(if (1:Int)>((w':):Int) then (1:Int) else ((w':):Int))=(max (w':) 1:Nat):=by split<;>lia
  have Qg:(3:Int)+(lg:Int) / (if (1:Int)>((w':):Int) then (1:Int) else ((w':):Int))=(ke lg (w':):Nat):=by
   rw[Zb]
   unfold ke
   rw[Qbs,Qen]
   rfl
  have rb:ke lg (w':)<=1003:=by unfold ke;have:=Nat.div_le_self lg (max (w':) 1);lia
  refine ⟨_,rfl,_,rfl,w',rfl,(),_,_,rfl,_,_,rfl,rfl,⟨by rw[Zb];lia,by rw[Zb];lia⟩,_,_,rfl,rfl,?_⟩
  have l3:∀(a b c:V),(eF "leads" a (eF "root_size" b (eF "size" c [])):)<=3:=λa b c=>Qbh (dv _ _ _) (Qde (Qbh (dv _ _ _) (Qde (dv _ _ _))))
  refine ⟨_,rfl,_,rfl,stx y w',_,rfl,rfl,⟨by rw[Qg];lia,by rw[Qg];lia⟩,by rw[Qg,Qab,dA];lia,_,rfl,x,aZ,dx,_,rfl,Za,T.g6,T.n_Way_onward,Qbm (l3 _ _ _) ∅,?_⟩
  refine ⟨_,rfl,1,rfl,_,rfl,rfl,stx y w',rfl,by rw[dA];lia,_,rfl,(stx y w').reverse,_,rfl,rfl,⟨by rw[Qg];lia,by rw[Qg];lia⟩,by rw[Qg,Qab,Qat,dA];lia,_,rfl,x,aZ,dx,_,rfl,ah,T.g6,T.n_Way_backward,Qbm (dv _ _ _) (Qbm (Qde (l3 _ _ _)) ∅),?_⟩
  refine q s1 _ Wt ?_ λb o eb zb=>?_
  ·rw[ah]
   unfold oH
   rw[<-eld,Qg,Qab]
  ·rw[az zb,az zb]
   refine Sr _ _ ?_
   rw[az zb]
   refine s24 _ _ ?_
   rw[az zb]
   refine U8 _ _ ?_
   rw[az zb]
   exact eb
theorem Me:bo P w K mg base dS 8 Q0 RN ["yard","words"] (Dp K):=by
 have kB:=o5 (P:=P) (w:=w) (base:=base) T
 have yf:=zZ (P:=P) (w:=w) (base:=base) T
 have yi:=uE (P:=P) (w:=w) (base:=base) T
 have DD:=JB (P:=P) (w:=w) (base:=base) T
 refine T.F27.fn.ok xZ (λvs H Q E h=>IG h) (λ_ _ _ _ H vs Q E hr h=>?_)
 refine let Z1:TS:=_;let Z0:TS:=_;⟨_,(ae (ao (i:=2) xZ.nd (K9 K rfl rfl rfl T.z_max (ab (bW ["word"] [none] (mQ K rfl (pv 1)) trivial (λ_ _ _ _=>(aE (i:=0) (by decide+kernel:List.Nodup (["word"]:List Str)) rfl (Or.inl rfl))) (λ_ _ _ _=>fR) (λ_ _ _ _=>(aI aT rfl T.z_len Qbf (ab (pv 0))))))))
   (ag Z0 (ae (ao (i:=3) xZ.nd (bW ["word","yard","longest"] [none,some 0,some 2] (mQ K rfl (pv 1)) ⟨⟨rfl,rfl,by first | exact .inl rfl | exact .inr rfl⟩,⟨⟨rfl,rfl,by first | exact .inl rfl | exact .inr rfl⟩,trivial⟩⟩ (λ_ _ _ _=>(aE (i:=0) (by decide+kernel:List.Nodup (["word","yard","longest"]:List Str)) rfl (Or.inl rfl))) (λ_ _ _ _=>fR) (λ_ _ _ _=>(cP (aa (qm T.Nj DD (hr.mono ∅) rfl T.Ni T.Nk .nil gP (aa (pv 1) (aa (pv 0) (ab (pv 2))))) (ab (qm T.Nj DD (hr.mono ∅) rfl T.Ni T.Nk .nil gP (aa (pv 1) (aa (ai kB T.F1 hr (ab (pv 0))) (ab (pv 2)))))))))))
   (ag Z1 (aj (aG (cP (aa (cX (gz K rfl) rfl T.z_tuple boot_tuple (ab (pv 1))) (ab (cX (gz K rfl) rfl T.z_tuple boot_tuple (ab (bW ["band","words","ways"] [none,some 1,some 3] (lZ (ai yf T.F2 hr (ab (pv 0)))) ⟨⟨rfl,rfl,by first | exact .inl rfl | exact .inr rfl⟩,⟨⟨rfl,rfl,by first | exact .inl rfl | exact .inr rfl⟩,trivial⟩⟩ (λ_ _ _ _=>(aE (i:=0) (by decide+kernel:List.Nodup (["band","words","ways"]:List Str)) rfl (Or.inl rfl))) (λ_ _ _ _=>fR) (λ_ _ _ _=>(ai yi T.F26 hr (aa (pv 1) (aa (pv 2) (ab (pv 0)))))))))))))))))),?_⟩
 obtain ⟨y,wt,ws,rfl,hy,hz,qg,Y8,qh,q⟩:=h
 have hs:=Zs1
 have Wj:∀c∈y,c<128:=y_ hy.lt
 have hbl:=iJ hy
 obtain ⟨lg,elg,aar,Ws⟩:=BB λw hw=>(qh w hw).2
 refine ⟨_,rfl,wt,rfl,⟨_,de.of qg⟩,?_⟩
 refine let gO:Nat->List V->Hp->Prop:=(λi acc H'=>H'=H/\acc=(LO (ws.take i)).map V.int);mR (K:=K) (a:=wt) (xs:=bV ws) gO (by rw[aY];omega) (λi acc H' h=>by rw[h.1];exact de.of qg) ⟨rfl,rfl⟩ ?_ ?_
 ·rintro i x acc H1 Nx hi hx hl ⟨rfl,rfl⟩ nx
  rw[aY]at hi
  rw[rK hi]at hx
  cases hx
  have J5:=qh ws[i] (Qb0 hi)
  refine ⟨trivial,eL ⟨_,rfl,ws[i],rfl,by omega,nx _ _ (by simpa using hl) ⟨rfl,?_⟩⟩⟩
  rw[<-take_snoc (Of hi)]
  unfold LO
  rw[Qak,Qak]
  rfl
 ·rintro acc H1 D hl ⟨rfl,rfl⟩ hD
  rw[aY,Qbe]
  refine ⟨D,LO ws,rfl,bB.of ah,?_⟩
  rw[elg]
  have sD:=aq.upd (o:= .lst ((LO ws).map V.int)) hD
  refine ⟨_,rfl,wt,rfl,⟨_,de.of (sD _ _ qg)⟩,?_⟩
  refine let zV:Nat->List V->Hp->Prop:=(λi acc H'=>aq H1 H'/\∃nP:List Wp,acc=J0 nP/\(nP:)=i/\∀(c:Nat) (w:c0) (p:Wp),ws[c]? =some w->nP[c]? =some p->xN H' aZ y lg w p);mR (K:=K) (a:=wt) (xs:=bV ws) zV (by rw[aY];omega) (λi acc H' h=>de.of (h.1 _ _ qg)) ⟨sD,[],rfl,rfl,λc w p _ h=>by simp at h⟩ ?_ ?_
  ·rintro i x acc H2 Nx hi hx Fq ⟨s2,nP,rfl,uY,Vn⟩ nx
   rw[aY]at hi
   rw[rK hi]at hx
   cases hx
   have J5:=qh ws[i] (Qb0 hi)
   have hge:ws[i]? =some ws[i]:=Of hi
   have Ff:=Ws ws[i] (Qb0 hi)
   generalize ws[i]=w' at J5 hge Ff ⊢
   have h8:∀c∈w',c<128:=λc hc=>(hy.lt c (J5.1.cu c hc)).lt
   refine ⟨⟨rfl,rfl,trivial⟩,eL ?_⟩
   refine ⟨_,rfl,_,rfl,_,rfl,λx1 dx1 nx1 Zc ne1=>⟨x1,dx1,y,w',lg,rfl,ah,hy,hz,J5.1,Ff,by omega,λr H3 hr Y3 sm3=>⟨rfl,?_⟩⟩⟩
   have s23:=v3 nx1 Zc sm3
   refine ⟨_,rfl,_,rfl,w',rfl,h8,by omega,λH4 s34=>⟨_,rfl,λx2 dx2 nx2 Zd ne2=>⟨x2,dx2,y,dU w',lg,rfl,ah,hy,hz,J5.1.dU hy,by rw[bZ];exact Ff,by omega,λr2 H5 Uz Za sm5=>⟨rfl,?_⟩⟩⟩⟩
   have s45:=v3 nx2 Zd sm5
   refine ⟨by show 2<=sizeLine;decide,λt nt=>?_⟩
   have s5t:=aq.upd (o:= .tup [.ref x1,.ref x2]) nt
   have s35:=s34.trans (s45.trans s5t)
   have all:=s23.trans s35
   refine nx _ _ (by simpa using Fq) ⟨s2.trans all,nP++[⟨t,x1,x2,r,r2⟩],IE nP ⟨t,x1,x2,r,r2⟩,by rw[QD,uY];rfl,LQ uY (λc w p a b=>(Vn c w p a b).same all) hge ⟨ah,⟨⟨dx1,s35 _ _ Y3⟩,J5.1,Ff,by omega,hr⟩,⟨⟨dx2,s5t _ _ Za⟩,J5.1.dU hy,by rw[bZ];exact Ff,by omega,Uz⟩⟩⟩
  ·rintro acc H2 D2 Fq ⟨s2,nP,rfl,uY,Vn⟩ Sj
   rw[aY]at uY
   have sD2:=aq.upd (o:= .lst (J0 nP)) Sj
   have JA:=s2.trans sD2
   refine ⟨_,rfl,wt,_,rfl,.inr ⟨de.of (JA _ _ qg),?_⟩⟩
   refine ⟨_,rfl,y,rfl,Wj,by omega,λl' H3 B7 Y1 s3=>?_⟩
   have el:=C5 B7 Y1
   subst el
   refine ⟨_,rfl,?_⟩
   have Wl:=JA.trans s3
   have hv3:=s3 _ _ (ah (H:=H2) (a:=D2) (o:=HO.lst (J0 nP)))
   refine let Va:Nat->List V->Hp->Prop:=(λi acc H'=>aq H3 H'/\∃os:List Od,acc=LD os/\(∀o∈os,ET H' o)/\(os:)=i/\(∀(j:Nat) (o:Od) (b:Nat),os[j]? =some o->(fS y)[j]? =some b->(o.ps.map Pr.pair).Perm (du b ws (ws:)))/\∀o∈os,E4 y ws (2*lg) (o.ps.map Pr.pair));iq (xs:=cx (fS y)) Va (by rw[aX];omega) ⟨aq.refl _,[],rfl,λ_ h=>absurd h Qbb,rfl,λj o b h=>by simp at h,λ_ h=>absurd h Qbb⟩ ?_ ?_
   ·rintro i x acc H4 Nx hi hx ju ⟨s4,os,rfl,Ua,AX,Ze,Zf⟩ nx
    obtain ⟨b,hb,rfl⟩:=f_ hx
    have hbs:=zD hy (Qac hb)
    refine ⟨⟨rfl,rfl,trivial⟩,eL ?_⟩
    refine ⟨_,rfl,_,rfl,_,rfl,y,lg,wt,D2,ws,nP,b,rfl,hy,hz,s4 _ _ (Wl _ _ qg),Y8,qh,hbs,s4 _ _ hv3,uY,λc w p a1 a2=>(Vn c w p a1 a2).same (sD2.trans (s3.trans s4)),λt ps H5 nt ht A4 tT Sv s5=>?_⟩
    have hlz:(ps:)<=100:=by
     have h1:=tT.length_eq
     have h2:=km b (λw hw=>(qh w hw).2) (ws:) (ZH _)
     rw[kb]at h1
     omega
    refine nx _ _ (by simpa using ju) ⟨s4.trans s5,os++[⟨t,ps⟩],HV os ⟨t,ps⟩,λo ho=>?_,by rw[QD,AX];rfl,λj o b' ho M3=>?_,λo ho=>?_⟩
    ·rcases Qao.mp ho with g | g
     ·exact (Ua o g).same s5
     ·rw[ZI.mp g]
      exact ⟨ht,A4,hlz⟩
    ·by_cases z:j<(os:)
     ·rw[Qbg z]at ho
      exact Ze j o b' ho M3
     ·rw[Qav (by omega)]at ho
      have:j=i:=by
       have:=(Og.mp ho).1
       simp at this
       omega
      subst this
      rw[AX,Qdl]at ho
      cases ho
      rw[hb]at M3
      cases M3
      exact tT
    ·rcases Qao.mp ho with g | g
     ·exact Zf o g
     ·rw[ZI.mp g]
      exact Sv
   ·rintro acc H4 D3 ju ⟨s4,os,rfl,Ua,AX,Ze,Zf⟩ Wf
    rw[aX]at AX
    refine ⟨D3,_,rfl,.inl ⟨bB.of ah,λt nt=>?_⟩⟩
    refine ⟨by show 2<=sizeLine;decide,λdr Zg=>?_⟩
    have sA:=(aq.upd (o:= .lst (LD os)) Wf).trans ((aq.upd (o:= .tup (LD os)) nt).trans (aq.upd (o:= .tup [.ref wt,.ref t]) Zg))
    have htd:t≠dr:=λz=>by rw[<-z,ah]at Zg;cases Zg
    have s04:=Wl.trans s4
    exact q dr os _ ⟨⟨wt,t,ah,sA _ _ (s04 _ _ qg),by rw[az htd,ah]⟩,λo ho=>(Ua o ho).same sA⟩ ⟨2*lg,λw hw v hv=>by have:=Ws w hw;have:=Ws v hv;omega,⟨AX,Ze⟩,Zf⟩ (s04.trans sA)
theorem JC:bo P w K mg base dS 9 Q3 RO ["yard","words"] (zF K):=by
 have o6:=nJ (P:=P) (w:=w) (base:=base) T
 have Fo:=BZ (P:=P) (w:=w) (base:=base) T
 have Qh:=Me (P:=P) (w:=w) (base:=base) T
 refine T.F28.fn.ok Jq (λvs H Q E h=>E7 h) (λ_ _ _ _ H vs Q E hr h=>?_)
 refine ⟨_,(aj (aG (ai o6 T.F10 hr (ab (ai Fo T.F7 hr (aa (pv 0) (ab (ai Qh T.F27 hr (aa (pv 0) (ab (pv 1))))))))))),?_⟩
 obtain ⟨y,wt,ws,rfl,hy,hz,hk,qg,q⟩:=h
 refine ⟨_,rfl,_,rfl,_,rfl,y,wt,ws,rfl,hy,hz,qg,hk.jS,hk.sw,λdr os H1 VV ht s1=>?_⟩
 obtain ⟨nd,e⟩:=E5 hy (λw hw=>(hk.sw w hw).1) ht
 obtain ⟨M,_,ok,_⟩:=id ht
 refine ⟨y,dr,ws,os,rfl,hy,hz,hk.ok,ok,VV,λp qs H2 np hp Vl Nr s2=>?_⟩
 have hl:=E6 (os:=os) hk
 have Y6:(qs:)<=24:=by rw[<-Nr,kb]at hl;omega
 refine ⟨p,qs,rfl,hp,Vl,Y6,by rw[Nr];exact nd,λH3 s3=>?_⟩
 rw[Nr]
 exact q _ H3 (s1.trans (s2.trans s3)) e
theorem Qi:bo P w K mg base dS 10 Q5 RP ["yard","word"] (IT K):=by
 have Mf:=JC (P:=P) (w:=w) (base:=base) T
 refine T.F29.fn.ok PZ (λvs H Q E h=>len_own h) (λ_ _ _ _ H vs Q E hr h=>?_)
 refine ⟨_,(aj (aG (ai Mf T.F28 hr (aa (pv 0) (ab (cP (ab (pv 1)))))))),?_⟩
 obtain ⟨y,w',rfl,hy,hz,hw,DC,q⟩:=h
 refine ⟨_,rfl,_,rfl,by show 1<=sizeLine;decide,λt nt=>?_⟩
 refine ⟨y,t,[w'],rfl,hy,hz,LV hw DC,ah,λn H1 s1 e=>?_⟩
 exact q n H1 ((aq.upd nt).trans s1) (e.trans (IS y w'))
theorem B2:bo P w K mg base dS 11 Q6 RQ ["yard","word"] (sH K):=by
 have mB:=pN (P:=P) (w:=w) (base:=base) T
 have Vp:=Qi (P:=P) (w:=w) (base:=base) T
 refine T.F30.fn.ok tE (λvs H Q E h=>zK h) (λ_ _ _ _ H vs Q E hr h=>?_)
 refine let Z0:TS:=_;⟨_,(ae (ao (i:=2) tE.nd (ai mB T.Yz hr (ab (pv 1))))
   (ag Z0 (aj (aG (Ag (cE nY (pv 2) (jy [] ⋯) (aK _)) (wA (cE wN (ai Vp T.F29 hr (aa (pv 0) (ab (pv 2)))) ak (aK _)))))))),?_⟩
 obtain ⟨y,w',c,rfl,hy,hz,hc,q⟩:=h
 have hs:=Zs1
 have jS:=hc.jS
 refine ⟨_,rfl,w',rfl,hc.lt,by omega,λH1 s1=>?_⟩
 rw[hc.is]
 refine ⟨_,rfl,_,_,rfl,rfl,_,rfl,?_⟩
 rcases hc.sw with e | Fs
 ·refine jB (by rw[decide_eq_true e];rfl) ?_
  have:=q H1 s1 (λz=>absurd e z.ne)
  unfold J2 at this
  rw[decide_eq_true e]at this
  exact this
 ·have hn:=Fs.ne
  refine uk (by rw[decide_eq_false (show ¬c=[] from hn)];rfl) ?_
  refine ⟨_,rfl,_,rfl,y,c,rfl,hy,hz,Fs,hc.len,λn H2 s2 e=>?_⟩
  refine ⟨_,_,rfl,rfl,?_⟩
  have ed:decide ((n:Int)=0)=J2 y c:=by
   unfold J2 kN
   rw[decide_eq_false (show ¬c=[] from hn)]
   exact decide_eq_decide.mpr ⟨λz=>by omega,λz=>by omega⟩
  show Q (.bl (decide ((n:Int)=0))) H2
  rw[ed]
  exact q H2 (s1.trans s2) (λ_=>⟨n,e⟩)
theorem uI:bo P w K mg base dS 12 Q9 RU ["yard","length"] (lO K):=by
 have yj:=uA (P:=P) (w:=w) (base:=base) T
 have Qj:=Mc (P:=P) (w:=w) (base:=base) T
 have Fp:=B2 (P:=P) (w:=w) (base:=base) T
 refine T.U0.fn.ok dN (λvs H Q E h=>sR h) (λ_ _ _ _ H vs Q E hr h=>?_)
 refine let Z4:TS:=_;let Z3:TS:=_;let Z2:TS:=_;let Z1:TS:=_;let Z0:TS:=_;⟨_,(ae (ao (i:=2) dN.nd (da bM))
   (ag Z0 (ae (ao (i:=3) dN.nd (da (ab (jy [] ⋯))))
   (ag Z1 (ae (cH PassesOwn.never rfl (dY rfl T.z_range (ab (pv 1))) (aE (i:=4) dN.nd rfl (Or.inl rfl)) (ag Z2 (ae (ao (i:=3) dN.nd (ai yj T.F32 hr (aa (pv 0) (ab (pv 3)))))
   (ag Z3 (aj (dh (bH K rfl Qa8 Qea Qd9 kF (pv 2) (ab (aI (lF K rfl) rfl T.z_sorted boot_sorted (ab (bW ["word","yard"] [none,some 0] (cV K rfl (pv 3)) ⟨⟨rfl,rfl,by first | exact .inl rfl | exact .inr rfl⟩,trivial⟩ (λ_ _ _ _=>(aE (i:=0) (by decide+kernel:List.Nodup (["word","yard"]:List Str)) rfl (Or.inl rfl))) (λ_ _ _ _=>(jK (PW.pt (nR (aM dF (ai Qj T.F16 hr (ab (pv 0))) (pv 0) (aK _)) (kC (g9 (ai Fp T.F30 hr (aa (pv 1) (ab (pv 0)))))))))) (λ_ _ _ _=>(pv 0)))))))))))))
   (ag Z4 (aj (aG (pv 2))))))))),?_⟩
 obtain ⟨y,m,rfl,hy,dE,hz,hm,J4,q⟩:=h
 have hs:=Zs1
 have L_:1<=(y:):=ZJ.mpr dE
 refine ⟨by show 0<=sizeLine;decide,λp n=>?_⟩
 have s0:=aq.upd (o:= .lst []) n
 have Sk:upd H p (.lst []) p=some (.lst (bV [])):=ah
 generalize upd H p (.lst [])=H0 at s0 Sk ⊢
 refine ⟨by show 1<=sizeLine;decide,λp2 n2=>?_⟩
 have s1:=aq.upd (o:= .lst [.str (S [])]) n2
 have rh:upd H0 p2 (.lst [.str (S [])]) p2=some (.lst (bV [[]])):=ah
 generalize upd H0 p2 (.lst [.str (S [])])=H1 at s1 rh ⊢
 have vU:=s1 _ _ Sk
 refine ⟨_,rfl,_,rfl,by omega,by omega,?_⟩
 rw[Qab]
 refine let gO:Nat->L2.St->Hp->Prop:=(λi σ H'=>∃(wt:Addr) (ws ls:List c0) (iv:Option V),σ=[some (.str (S y)),some (.int m),some (.ref p),some (.ref wt),iv]/\H' p=some (.lst (bV ls))/\H' wt=some (.lst (bV ws))/\zN fB y i ws/\(ws:)<=(y:) ^ i/\BG y i ls/\(ls:)<=4096*i/\aq H H');eY gO
  ⟨p2,[[]],[],none,rfl,vU,rh,Yw _ _,ZH _,rfl,Qar _,s0.trans s1⟩ ?_ ?_
 ·rintro i σ H2 hi ⟨wt,ws,ls,iv,rfl,iU,qg,qh,uY,P6,Ma,s2⟩
  have h1:(y:) ^ i<=4096:=nG L_ (by omega) J4
  have h2:(y:) ^ (i+1)<=4096:=nG L_ (by omega) J4
  refine ⟨_,rfl,_,rfl,y,wt,ws,rfl,y_ hy.lt,hy.nd,hz,qg,λl hl=>⟨((qh.mem l).mp hl).1,by have:=((qh.mem l).mp hl).2.1;omega⟩,by omega,λt ms H3 nt ht hg s3=>?_⟩
  have V9:=qh.next hg
  have U3:(ms:)<=(y:) ^ (i+1):=by
   refine Qbh hg.jS ?_
   rw[Qgb,Qb5]
   exact Qep _ uY
  have pt:p≠t:=ay iU nt
  have Ql:=s3 _ _ iU
  refine ⟨_,rfl,.inl ⟨rfl,_,bB.of Ql⟩,_,rfl,t,rfl,⟨_,bB.of ht⟩,?_⟩
  refine let zV:Nat->List V->Hp->Prop:=(λj acc H'=>aq H3 H'/\acc=bV ((ms.take j).filter λw=>sL w&&kN y w));gu (K:=K) (a:=t) (xs:=bV ms) zV (by rw[aY];omega) (λj acc H' h=>bB.of (h.1 _ _ ht)) ⟨aq.refl _,rfl⟩ ?_ ?_
  ·rintro j x acc H4 Nx hj hx ju ⟨s4,rfl⟩ nx
   obtain ⟨v,hv,rfl⟩:=iZ hx
   obtain ⟨P7,Sm,_⟩:=(V9.mem v).mp (Qac hv)
   have So:v≠[]:=λz=>by rw[z]at Sm;simp at Sm
   have out:∀H',aq H3 H'-> ¬(sL v&&kN y v)=true->Nx (bV ((ms.take j).filter λw=>sL w&&kN y w)) H':=λH' s' no=>nx _ _ (by omega) ⟨s',by
    rw[<-take_snoc hv,Qa9,sO _ v no,Qa1]⟩
   refine ⟨⟨rfl,trivial⟩,?_⟩
   refine ⟨_,rfl,v,rfl,λd hd=>hy.lt d (P7 d hd),by omega,λH5 s5=>?_⟩
   walk_at"z"
   ·have z':sL v=true:=z
    have sw:=Dy hy So P7 z'
    refine ⟨_,rfl,_,rfl,y,v,v,rfl,hy,hz,Jc hy sw (by omega),λH6 s6 _=>⟨_,rfl,cM (λz2=>?_) (λz2=>?_)⟩⟩
    ·rw[xS So]at z2
     refine ⟨_,rfl,nx _ _ (by simpa using ju) ⟨s4.trans (s5.trans s6),?_⟩⟩
     rw[fJ, <-take_snoc hv,Qa9,sN _ v (by rw[z',z2];rfl)]
    ·rw[xS So]at z2
     exact out H6 (s4.trans (s5.trans s6)) (by rw[z'];exact z2)
   ·exact out H5 (s4.trans s5) λh=>z (by
     have:=(Qbr _ _▸h:sL v=true/\kN y v=true).1
     exact this)
  ·rintro acc H4 D ju ⟨s4,rfl⟩ hD
   rw[aY,Qbe]
   have P0:((ms.filter λw=>sL w&&kN y w):)<=(ms:):=Qcf _ _
   have s5:=s4.trans (aq.upd (o:= .lst (bV (ms.filter λw=>sL w&&kN y w))) hD)
   have P8:upd H4 D (.lst (bV (ms.filter λw=>sL w&&kN y w))) D=some (.lst (bV (ms.filter λw=>sL w&&kN y w))):=ah
   generalize upd H4 D (.lst (bV (ms.filter λw=>sL w&&kN y w)))=H5 at s5 P8 ⊢
   refine ⟨D,_,rfl,.inl (bB.of P8),by omega,λr Sw nr pr asc=>?_⟩
   have hb:PV y (i+1) Sw:=Jf hy V9 (λw=>PX hy) (λw _=>by rw[Qbr]) pr asc
   have s6:=s5.trans (aq.upd (o:= .lst (bV Sw)) nr)
   have hpr:p≠r:=ay (s5 _ _ Ql) nr
   have pl:=pr.length_eq
   refine ⟨p,r,_,_,rfl,rfl,s6 _ _ Ql,ah,by rw[aY];show _+(bV Sw:)<=_;rw[aY];omega,?_⟩
   exact ⟨t,ms,ls++Sw,_,rfl,by rw[ah];exact congrArg (λx=>some (HO.lst x)) (qE ls Sw),by rw[az (Ne.symm pt)];exact s6 _ _ ht,V9,U3,⟨ls,Sw,rfl,P6,hb⟩,by rw[QD];omega,aq.Yv ((s2.trans s3).trans s6) n⟩
 ·rintro σ H2 ⟨wt,ws,ls,iv,rfl,iU,qg,qh,uY,P6,Ma,s2⟩
  exact ⟨_,rfl,q p ls H2 n iU P6 Ma s2⟩
theorem z9:bo P w K mg base dS 1 Ra RW ["_law_box_here","_law_many"] (y7 K):=by
 refine T.Sg.fn.ok tF (λvs H Q E h=>Ew h) (λ_ _ _ _ H vs Q E hr h=>?_)
 refine let Z5:TS:=_;let Z4:TS:=_;let Z3:TS:=_;let Z2:TS:=_;let Z1:TS:=_;let Z0:TS:=_;⟨_,(ae (cG (aM uN (aV (b9 K rfl) (pv 0) ak (λ_ _=>rfl)) ak (aK _)) (ag Z0 (ae (ao (i:=2) tF.nd (aB eZ (aV (b9 K rfl) (pv 0) ak (λ_ _=>rfl)) (pv 1)))
   (ag Z1 (ae (lV (aB dq (aV (b9 K rfl) (pv 0) ak (λ_ _=>rfl)) (pv 1)) (FK (pv 0) ak set_list))
   (ag Z2 (aj (aG (pv 2)))))))) bX)
   (ag Z3 (ae (ao (i:=3) tF.nd (aB eZ (aB nS (aV (b9 K rfl) (pv 0) ak (λ_ _=>rfl)) ak) ak))
   (ag Z4 (ae (lV (aB a_ (aB eZ (aB a_ (aB nS (pv 3) ak) ak) ak) ak) (FK (pv 0) ak set_list))
   (ag Z5 (aj (aG (aB eZ (aB dq (aB a_ (aB nS (pv 3) ak) (aV (b9 K rfl) (pv 0) ak (λ_ _=>rfl))) ak) (pv 1)))))))))),?_⟩
 obtain ⟨b,m,rfl,⟨x,y,hb⟩,h1,h2,q⟩:=h
 have fin:∀(r x' y':Int),0<=r->r<m->Q (.int r) (upd H b (.lst [.int x',.int y'])):=λr x' y' h3 h4=>by
  have e:r=((r.toNat:Nat):Int):=by lia
  rw[e]
  exact q r.toNat _ () ⟨x',y',ah⟩ (bj.upd b H _)
 refine ⟨_,rfl,b,_,0,_,rfl,rfl,bB.of hb,rfl,_,_,rfl,rfl,_,rfl,cM (λe=>?_) (λe=>?_)⟩
 ·refine ⟨_,rfl,b,_,0,_,rfl,rfl,bB.of hb,rfl,_,rfl,_,_,rfl,rfl,(by lia:0<m),?_⟩
  refine ⟨_,rfl,b,_,0,_,rfl,rfl,bB.of hb,rfl,_,rfl,_,_,rfl,rfl,⟨(),()⟩,_,rfl,b,_,0,0,rfl,rfl,hb,rfl,_,rfl,?_⟩
  exact fin (x%m) (x / m) y (Qcn _ ()) (Qcc _ ())
 ·refine ⟨_,rfl,b,_,1,_,rfl,rfl,bB.of hb,rfl,_,_,rfl,rfl,.inr ⟨∅,∅⟩,_,_,rfl,rfl,(by decide:(0:Int)<2147483647),?_⟩
  refine ⟨_,rfl,_,_,rfl,rfl,.inr ⟨∅,∅⟩,_,_,rfl,rfl,_,_,rfl,rfl,(by decide:(0:Int)<2147483629),_,_,rfl,rfl,_,rfl,b,_,1,1,rfl,rfl,hb,rfl,?_⟩
  refine ⟨_,rfl,_,_,rfl,rfl,.inr ⟨∅,∅⟩,_,rfl,b,_,1,_,rfl,rfl,bB.of ah,rfl,_,_,rfl,rfl,_,_,rfl,rfl,⟨∅,∅⟩,_,rfl,_,_,rfl,rfl,(by lia:0<m),?_⟩
  exact fin _ _ _ (Qcn _ ()) (Qcc _ ())
theorem JD:bo P w K mg base dS 2 Rc RY ["_law_box_here","_law_few","_law_top"] (y8 K):=by
 have kR:=z9 (P:=P) (w:=w) (base:=base) T
 walk_at"q"
 refine T.F37.fn.ok fN (λvs H Q E h=>Ex h) (λ_ _ _ _ H vs Q E hr h=>?_)
 refine ⟨_,(ae (ao (i:=3) fN.nd (cX (qS rfl) rfl T.z_list boot_list (ab (jy [97,98,99,100,101,102,103,104,105,106,107,108,109,110,111,112,113,114,115,116,117,118,119,120,121,122] ⋯))))
   (ae (ao (i:=4) fN.nd (da bM))
   (ae (cH PassesOwn.never rfl (dY rfl T.z_range (ab (aB a_ (pv 1) (ai kR T.Sg hr (aa (pv 0) (ab (aB a_ (aB cI (pv 2) (pv 1)) ak))))))) (aE (i:=5) fN.nd rfl (Or.inl rfl)) (ae (ao (i:=6) fN.nd (bH K rfl Qa8 Qem Qel qO (pv 3) (ab (ai kR T.Sg hr (aa (pv 0) (ab (gn K T.z_len (pv 3))))))))
   (aj (ao (i:=4) fN.nd (aB N_ (pv 4) (da (aa (pv 6) (ab (ai cL T.Nh hr (ab (pv 6)))))))))))
   (ae (ao (i:=7) fN.nd (jy [] ⋯))
   (ae (cY PassesOwn.never (aM uN (gn K T.z_len (pv 4)) ak (aK _)) (aj (ao (i:=7) fN.nd (aB fu (pv 7) (bH K rfl Qa8 Qem Qel qO (pv 4) (ab (ai kR T.Sg hr (aa (pv 0) (ab (gn K T.z_len (pv 4)))))))))))
   (aj (aG (pv 7)))))))),?_⟩
 obtain ⟨b,jS,top,rfl,hb,h1,h2,h3,q⟩:=h
 have hs:=Zs1
 walk_at "rd"
 intro p1 n1
 walk_at "rd"
 intro p2 n2
 have s1:aq H (upd (upd H p1 (.lst (cx br))) p2 (.lst [])):=(aq.upd n1).trans (aq.upd n2)
 have Wu:p1≠b:=hb.ne n1
 have YL:H p2=none:=aq.free (aq.upd n1) n2
 have bp2:p2≠b:=hb.ne YL
 have p12:p1≠p2:=λz=>by rw[<-z,ah]at n2;cases n2
 walk_at "rd"
 refine ⟨b,_,rfl,hb.same s1,(),(),λn H1 hn Fu s2=>?_⟩
 walk_at "rd"
 refine let gO:Nat->L2.St->Hp->Prop:=(λi σ H'=>∃(pe:Addr) (L E:c0) (kv lv:Option V),σ=[some (.ref b),some (.int jS),some (.int top),some (.ref p1),some (.ref pe),kv,lv,none]/\O5 i L E/\H' p1=some (.lst (cx L))/\H' pe=some (.lst (cx E))/\p1≠pe/\H pe=none/\gA H' b/\bj b H H');eY gO
  ⟨p2,br,[],none,none,rfl,O5.start,s2 _ _ (by rw[az p12,ah];rfl) Wu,s2 _ _ ah bp2,p12,YL,Fu,(bj.of s1).trans s2⟩ ?_ ?_
 ·rintro i σ H2 hi ⟨pe,L,E,kv,lv,rfl,yw,vU,qu,n1e,Wv,yl,s3⟩
  show Kd _ _ _ _ _
  refine He λDx Vm=>?_
  have Ft:i<26:=by simp at hi;lia
  have Ma:=yw.ll
  have Ww:=yw.el
  refine ⟨_,rfl,.inl ⟨rfl,_,bB.of vU⟩,?_⟩
  walk_at "rd"
  refine ⟨p1,_,rfl,.inl (bB.of vU),b,_,rfl,yl,by rw[aX];lia,by rw[aX];lia,λr H3 hr3 Mi s4=>?_⟩
  rw[aX]at hr3
  have Vq:r<L.length:=by lia
  have Zh:=s4 _ _ vU Wu
  have Zi:=s4 _ _ qu (hb.ne Wv)
  refine ⟨p1,_,_,r,_,rfl,rfl,Zh,(),(),by rw[aX,seqIndex_of () (),Qab],Hc Vq,?_⟩
  rw[vA]
  have cf:Lt L[r]:= .inl (yw.sm _ (Qb0 Vq))
  have Vr:(upd H3 p1 (.lst (cx (L.eraseIdx r)))) pe=some (.lst (cx E)):=by rw[az (Ne.symm n1e)];exact Zi
  walk_at "rd"
  intro p3 n3
  have e3:pe≠p3:=ay Vr n3
  refine ⟨pe,p3,_,_,rfl,rfl,by rw[az e3];exact Vr,ah,by rw[aX];show E.length+2<=_;lia,λp4 n4=>?_⟩
  have n3':H p3=none:=((s3.trans s4).rH n1).none n3 (Mi.rH Wu |>.ne n3)
  have Vs:=(Mi.rH (o:= .lst (cx (L.eraseIdx r))) Wu).rH (o:= .lst [V.str (S [L[r]]),V.str (S [aA L[r]])]) (hb.ne n3')
  have sx3:=((s3.trans s4).rH (o:= .lst (cx (L.eraseIdx r))) n1).rH (o:= .lst [V.str (S [L[r]]),V.str (S [aA L[r]])]) n3'
  have Zj:H p4=none:=sx3.none n4 (Vs.ne n4)
  have h14:p1≠p4:=λz=>by rw[<-z]at n4;by_cases z3:p1=p3<;>simp[upd,z3]at n4
  have h13:p1≠p3:=λz=>by rw[<-z,ah]at n3;cases n3
  refine Vm _ _ ⟨p4,L.eraseIdx r,E++[L[r],aA L[r]],_,_,rfl,yw.turn Ft Vq,by rw[az h14,az h13,ah],?_,h14,Zj,Vs.rH (hb.ne Zj),sx3.rH Zj⟩
  rw[ah, <-Ld]
  rfl
 ·rintro σ H2 ⟨pe,L,E,kv,lv,rfl,yw,vU,qu,n1e,Wv,yl,s3⟩
  have Ww:=yw.el
  have JG:=hb.ne Wv
  walk_at "rd"
  refine ⟨λm σ H'=>∃F E':c0,σ=[some (.ref b),some (.int jS),some (.int top),some (.ref p1),some (.ref pe),kv,lv,some (.str (S F))]/\m=E'.length/\(F++E').Perm E/\H' pe=some (.lst (cx E'))/\gA H' b/\bj b H H',⟨_,[],E,rfl,rfl,Qez _,qu,yl,s3⟩,?_⟩
  rintro m σ H3 ⟨F,E',rfl,rfl,tT,Mj,Mi,s4⟩
  have hlen:=tT.length_eq
  rw[QD]at hlen
  have tY:(jS:Int)+n<=9:=by lia
  have aas:E.length<=100:=by rw[Ww];lia
  walk_at "rd"
  refine ⟨pe,_,rfl,.inl (bB.of Mj),_,_,rfl,rfl,_,rfl,cM (λe=>?_) (λe=>?_)⟩
  ·have e':(0:Int)<((cx E':):Nat):=of_decide_eq_true e
   rw[aX]at e'
   refine ⟨_,rfl,_,rfl,.inl ⟨rfl,_,bB.of Mj⟩,?_⟩
   walk_at "rd"
   refine ⟨pe,_,rfl,.inl (bB.of Mj),b,_,rfl,Mi,by rw[aX];lia,by rw[aX];lia,λr H4 Vq Zk s5=>?_⟩
   rw[aX]at Vq
   have hr5:r<E'.length:=by lia
   refine ⟨pe,_,_,r,_,rfl,rfl,s5 _ _ Mj JG,(),(),by rw[aX,seqIndex_of () (),Qab],Hc hr5,?_⟩
   rw[vA]
   have hp:=mf (Of hr5)
   have iU:=hp.length_eq
   rw[Qa5]at iU
   refine ⟨F,_,rfl,rfl,by show F.length+1<=_;lia,(E'.eraseIdx r:),(),F++[E'[r]],E'.eraseIdx r,rfl,rfl,?_,ah,Zk.rH JG,(s4.trans s5).rH Wv⟩
   rw[VI]
   exact (Qb8 F hp).trans tT
  ·have e':E'=[]:=by
    cases E' with
    | nil=>rfl
    | cons c r=>exact absurd (decide_eq_true (by rw[aX];show (0:Int)<(((r:)+1:Nat):Int);lia)) e
   subst e'
   rw[Qa1]at tT
   have Fq:=tT.length_eq
   refine ⟨_,rfl,q F H3 (yw.yd.perm tT.symm) ?_ ?_ Mi s4⟩
   ·rw[Fq,Ww];lia
   ·rw[Fq,Ww];lia
theorem Ml:bo P w K mg base dS 1 Q_ RV ["_law_script","_law_k"] (Cy K):=by
 refine T.F34.fn.ok nI (λvs H Q E h=>Hb h) (λ_ _ _ _ H vs Q E hr h=>?_)
 refine let Z5:TS:=_;let Z4:TS:=_;let Z3:TS:=_;let Z2:TS:=_;let Z1:TS:=_;let Z0:TS:=_;⟨_,(ae (ao (i:=2) nI.nd (aB a_ (aB nS ak (pv 1)) ak))
   (ag Z0 (ae (cG (aM o7 (pv 1) (gn K T.z_len (pv 0)) (aK _)) (ag Z1 (aj (ao (i:=2) nI.nd (aV (b9 K rfl) (pv 0) (pv 1) (λ_ _=>rfl))))) (ag Z2 (aj (cG (aM uN (gn K T.z_len (pv 0)) ak (aK _)) (ag Z3 (aj (ao (i:=2) nI.nd (aB a_ (pv 2) (aB nS (aB eZ (aV (b9 K rfl) (pv 0) (aB eZ (pv 1) (gn K T.z_len (pv 0))) (λ_ _=>rfl)) ak) ak))))) bX))))
   (ag Z4 (ae (ao (i:=3) nI.nd (aB eZ (aB FP (aB a_ (aB a_ (aB eZ (pv 2) ak) (aB nS ak (pv 1))) ak) ak) ak))
   (ag Z5 (aj (aG (da (aa (aV (b9 K rfl) (da (aa ak (ab (pv 2)))) (cX uQ rfl T.z_int boot_int (ab (cE FR (pv 2) (aB FP ak ak) (aK _)))) (λ_ _=>rfl)) (ab (aB a_ (aB eZ (pv 3) ak) ak)))))))))))),?_⟩
 obtain ⟨a,ns,k,rfl,hS,hk,q⟩:=h
 have hp:(0:Int)<2147483629:=by decide
 walk_at "rd"
 refine ⟨a,_,rfl,.inl hS,?_⟩
 walk_at "rd"
 refine cM (λe=>?_) (λe=>?_)
 ·have e':(k:Int)<((ns.map V.int:):Nat):=of_decide_eq_true e
  rw[kb]at e'
  obtain ⟨z,hz⟩:=CA (ns:=ns) (i:=k) ()
  walk_at "rd"
  refine ⟨a,_,k,_,rfl,rfl,hS,dj hz,?_⟩
  walk_at "rd"
  refine λp1 n1=>?_
  walk_at "rd"
  refine .inr ⟨_,rfl,?_⟩
  obtain ⟨y,hy⟩:=A7 _ z
  refine ⟨p1,_,_,_,rfl,rfl,bB.of ah,hy,?_⟩
  walk_at "rd"
  walk_at"x"
 ·walk_at "rd"
  refine ⟨a,_,rfl,.inl hS,?_⟩
  walk_at "rd"
  refine cM (λe2=>?_) (λe2=>?_)
  ·have e':(0:Int)<((ns.map V.int:):Nat):=of_decide_eq_true e2
   have hl:(0:Int)<((ns:):Int):=by rw[kb]at e';exact e'
   have m1:0<=(k:Int)%((ns:):Int):=Qcn _ ()
   have m2:(k:Int)%((ns:):Int)<((ns:):Int):=Qcc _ hl
   obtain ⟨z,hz⟩:=CA (ns:=ns) (i:=((k:Int)%((ns:):Int)).toNat) ()
   have K1:qp (ns.map V.int) ((k:Int)%((ns.map V.int:):Nat))=some (V.int z):=by
    have:=dj hz
    rw[Qet m1]at this
    rw[kb]
    exact this
   walk_at "rd"
   refine ⟨a,_,rfl,.inl hS,?_⟩
   walk_at "rd"
   refine ⟨a,_,_,_,rfl,rfl,hS,K1,?_⟩
   walk_at "rd"
   refine λp1 n1=>?_
   walk_at "rd"
   refine .inr ⟨_,rfl,?_⟩
   obtain ⟨y,hy⟩:=A7 _ _
   refine ⟨p1,_,_,_,rfl,rfl,bB.of ah,hy,?_⟩
   walk_at "rd"
   walk_at"x"
  ·walk_at "rd"
   refine λp1 n1=>?_
   walk_at "rd"
   refine .inr ⟨_,rfl,?_⟩
   obtain ⟨y,hy⟩:=A7 _ _
   refine ⟨p1,_,_,_,rfl,rfl,bB.of ah,hy,?_⟩
   walk_at "rd"
   walk_at"x"
theorem Qm:bo P w K mg base dS 13 Rv Sf ["_law_script"] (nV K):=by
 have Qn:=Ml (P:=P) (w:=w) (base:=base) T
 have Mm:=JD (P:=P) (w:=w) (base:=base) T
 have kR:=z9 (P:=P) (w:=w) (base:=base) T
 have wq:=BY (P:=P) (w:=w) (base:=base) T
 have gp:=uI (P:=P) (w:=w) (base:=base) T
 refine T.F53.fn.ok jb (λvs H Q E h=>Lc h) (λ_ _ _ _ H vs Q E hr h=>?_)
 refine let YO:TS:=_;let YQ:TS:=_;let YR:TS:=_;let Z9:TS:=_;let Z8:TS:=_;let Z7:TS:=_;let Z6:TS:=_;let Z5:TS:=_;let Z4:TS:=_;let Z3:TS:=_;let Z2:TS:=_;let Z1:TS:=_;let Z0:TS:=_;⟨_,(ae (ao (i:=1) jb.nd (ai Qn T.F34 hr (aa (pv 0) (ab ak))))
   (ag Z0 (ae (ao (i:=2) jb.nd (ai Mm T.F37 hr (aa (pv 1) (aa ak (ab ak)))))
   (ag Z1 (ae (ao (i:=3) jb.nd (aV (b9 K rfl) (da (aa ak (aa ak (aa ak (aa ak (ab ak)))))) (aB dq (aI aT rfl T.z_len Qbf (ab (pv 2))) ak) (λ_ _=>rfl)))
   (ag Z2 (ae (ao (i:=4) jb.nd (aV (b9 K rfl) (da (aa (pv 3) (aa (aI (kD rfl) rfl T.z_min boot_min (aa ak (ab (pv 3)))) (ab (ai kR T.Sg hr (aa (pv 1) (ab (aB a_ (pv 3) ak)))))))) (ai kR T.Sg hr (aa (pv 1) (ab ak))) (λ_ _=>rfl)))
   (ag Z3 (ae (ao (i:=5) jb.nd (ai wq T.YE hr (aa (pv 2) (ab (pv 4)))))
   (ag Z4 (ae (ao (i:=6) jb.nd (ai gp T.U0 hr (aa (pv 2) (ab (pv 4)))))
   (ag Z5 (ae (cG (PW.pt (Mz (NL (g9 (aI (yO K rfl) rfl T.z_isinstance boot_isinstance (aa (pv 6) (ab (Kc (v:= .ty "list") rfl T.z_list boot_list rfl)))))) (FJ (aM (AL K rfl hr) (pv 6) (pv 5) (aK _))))) (ag Z6 (aj (aG B9))) bX)
   (ag Z7 (ae (dh (bH K rfl Qa8 Qc4 Qc3 gq (pv 6) (ab (jy [] ⋯))))
   (ag Z8 (ae (ao (i:=7) jb.nd (aB fu (aB fu (bK jA (pv 2) (bF ak) (bF ak)) (bK jA (pv 2) dz (bF ak))) (bK jA (pv 2) (bF ak) dz)))
   (ag Z9 (ae (ao (i:=8) jb.nd (aI (kD rfl) rfl T.z_min boot_min (aa (pv 4) (ab ak))))
   (ag YR (ae (cG (PW.pt (Mz (aM (AL K rfl hr) (ai gp T.U0 hr (aa (pv 7) (ab (pv 8)))) (ai wq T.YE hr (aa (pv 7) (ab (pv 8)))) (aK _)) (FJ (aM (AL K rfl hr) (ai gp T.U0 hr (aa (pv 2) (ab ak))) (da bM) (aK _))))) (ag YQ (aj (aG B9))) bX)
   (ag YO (aj (aG (cE (Ow K rfl hr) (ai gp T.U0 hr (aa (pv 2) (ab (pv 8)))) (bW ["_law_word","_law_less"] [none,some 8] (cV K rfl (pv 5)) ⟨⟨rfl,rfl,by first | exact .inl rfl | exact .inr rfl⟩,trivial⟩ (λ_ _ _ _=>(aE (i:=0) (by decide+kernel:List.Nodup (["_law_word","_law_less"]:List Str)) rfl (Or.inl rfl))) (λ_ _ _ _=>(jK (aM ME (aI aT rfl T.z_len Qbf (ab (pv 0))) (pv 1) (aK _)))) (λ_ _ _ _=>(pv 0))) (aK _)))))))))))))))))))))))))),?_⟩
 obtain ⟨a,ns,rfl,hS,hl,q⟩:=h
 have hs:=Zs1
 refine ⟨_,rfl,a,ns,0,rfl,hS,∅,λb H1 nb bx s1=>?_⟩
 refine ⟨_,rfl,b,1,4,rfl,bx,∅,∅,∅,λy H2 hy L_ hy2 bx2 s2=>?_⟩
 have dE:y≠[]:=λz=>by rw[z]at L_;simp at L_
 obtain ⟨T0,eT,hT6,hTp⟩:=Yy hy L_ (by omega)
 refine ⟨by show 5<=sizeLine;decide,λp1 n1=>?_⟩
 have vU:upd H2 p1 (.lst [.int 0,.int 6,.int 6,.int 4,.int 3]) p1=some (.lst [V.int 0,.int 6,.int 6,.int 4,.int 3]):=ah
 have Vs:=bx2.same (aq.upd (o:= .lst [.int 0,.int 6,.int 6,.int 4,.int 3]) n1)
 generalize upd H2 p1 (.lst [.int 0,.int 6,.int 6,.int 4,.int 3])=H3 at vU Vs ⊢
 refine ⟨_,rfl,y,rfl,by omega,_,_,rfl,rfl,⟨∅,∅⟩,p1,_,_,_,rfl,rfl,bB.of vU,eT,?_⟩
 refine ⟨_,rfl,_,rfl,_,_,rfl,_,rfl,_,rfl,_,_,rfl,rfl,b,_,rfl,Vs,by omega,by omega,λk1 H4 tR bx4 s4=>?_⟩
 refine ⟨by show 3<=sizeLine;decide,λp2 n2=>?_⟩
 have hm3:(if (T0:Int)<3 then (T0:Int) else 3)=((min T0 3:Nat):Int):=by split<;>omega
 rw[hm3]
 have rh:upd H4 p2 (.lst [V.int T0,.int ((min T0 3:Nat):Int),.int k1]) p2=some (.lst [V.int T0,.int ((min T0 3:Nat):Int),.int k1]):=ah
 have bx5:=bx4.same (aq.upd (o:= .lst [V.int T0,.int ((min T0 3:Nat):Int),.int k1]) n2)
 have pb2:p2≠b:=λe=>by obtain ⟨x1,x2,g⟩:=bx4;rw[e,g]at n2;cases n2
 generalize upd H4 p2 (.lst [V.int T0,.int ((min T0 3:Nat):Int),.int k1])=H5 at rh bx5 ⊢
 refine ⟨_,rfl,b,3,rfl,bx5,∅,∅,λk2 H6 nZ bx6 s6=>?_⟩
 obtain ⟨N,eN,hN⟩:∃N:Nat,qp [V.int T0,.int ((min T0 3:Nat):Int),.int k1] (k2:Int)=some (.int (N:Int))/\N<=T0:=by
  obtain rfl | rfl | rfl:k2=0\/k2=1\/k2=2:=by omega
  ·exact ⟨T0,rfl,ZH _⟩
  ·exact ⟨min T0 3,rfl,Nat.min_le_left _ _⟩
  ·exact ⟨k1,rfl,by omega⟩
 refine ⟨p2,_,_,_,rfl,rfl,bB.of (s6 _ _ rh pb2),eN,?_⟩
 have hN6:N<=6:=by omega
 have Zl:(y:) ^ N<=4096:=nG (by omega) hN hTp
 refine ⟨_,rfl,_,rfl,y,N,rfl,hy,dE,by omega,hN6,Zl,λt1 ls H7 nt1 Qb Fu Wa s7=>?_⟩
 refine ⟨_,rfl,_,rfl,y,N,rfl,hy,dE,by omega,hN6,Zl,λt2 ls2 H8 Wd Su yl Fq s8=>?_⟩
 obtain rfl:=Fu.uniq yl
 have Vt:=s8 _ _ Qb
 have t12:t1≠t2:=ay Qb Wd
 refine ⟨_,rfl,t2,_,rfl,Su,_,rfl,?_⟩
 refine jB rfl ?_
 refine ⟨_,rfl,_,rfl,_,_,.lst (bB.of Su) (fL _),.lst (bB.of Vt) (fL _),⟨oO hy Fu,oO hy Fu⟩,BJ _,_,rfl,jB (by rw[BK];rfl) ?_⟩
 refine ⟨_,rfl,.inl ⟨rfl,_,bB.of Su⟩,t2,_,_,rfl,rfl,Su,by rw[aY];omega,?_⟩
 have Vu:upd H8 t2 (.lst (bV ls++[.str (S [])])) t1=some (.lst (bV ls)):=by rw[az t12];exact Vt
 generalize upd H8 t2 (.lst (bV ls++[.str (S [])]))=H9 at Vu ⊢
 obtain ⟨tT,aat,aau⟩:=Jh L_
 have hzp:(y:)<=8:=by omega
 refine ⟨_,rfl,_,rfl,_,rfl,_,rfl,by omega,_,rfl,_,rfl,_,rfl,by omega,_,_,rfl,rfl,by omega,_,rfl,_,rfl,_,rfl,by omega,_,_,rfl,rfl,by omega,?_⟩
 have hz:Yd (cut y (some 1) (some 2)++cut y none (some 1)++cut y (some 2) none):=hy.same tT.symm
 have Vv:=tT.length_eq
 generalize cut y (some 1) (some 2)++cut y none (some 1)++cut y (some 2) none=z at hz Vv ⊢
 have hzn:z≠[]:=λe=>by rw[e]at Vv;simp at Vv;omega
 refine ⟨_,rfl,_,_,rfl,?_⟩
 have hl3:(if (3:Int)<(N:Int) then (3:Int) else (N:Int))=((min N 3:Nat):Int):=by split<;>omega
 rw[hl3]
 have Zm:min N 3<=N:=Nat.min_le_left _ _
 generalize min N 3=L at Zm ⊢
 have Zn:(y:) ^ L<=4096:=nG (by omega) Zm Zl
 refine ⟨_,rfl,_,rfl,z,L,rfl,hz,hzn,by omega,by omega,by rw[Vv];exact Zn,λt3 l3 H10 nt3 ht3 Mi hl3 Nl=>?_⟩
 refine ⟨_,rfl,_,rfl,z,L,rfl,hz,hzn,by omega,by omega,by rw[Vv];exact Zn,λt4 l4 YV nt4 ht4 Zk hl4 Sq=>?_⟩
 obtain rfl:=Mi.uniq Zk
 have Zo:=Sq _ _ (Nl _ _ Vu)
 refine ⟨_,_,.lst (bB.of (Sq _ _ ht3)) (fL _),.lst (bB.of ht4) (fL _),⟨oO hz Mi,oO hz Mi⟩,BJ _,_,rfl,jB (by rw[BK];rfl) ?_⟩
 refine ⟨_,rfl,y,0,rfl,hy,dE,by omega,∅,by rw[Nat.pow_zero];decide,λt5 l5 Wh nt5 ht5 hb5 _ Wg=>?_⟩
 have e5:l5=[]:=hb5
 subst e5
 refine ⟨by show 0<=sizeLine;decide,λp6 n6=>?_⟩
 have s6':=aq.upd (o:= .lst []) n6
 refine ⟨_,_,.lst (bB.of (s6' _ _ ht5)) (fL []),.lst (bB.of ah) .nil,⟨rfl,rfl⟩,∅,_,rfl,jB rfl ?_⟩
 have Vw:=s6' _ _ (Wg _ _ Zo)
 generalize upd Wh p6 (.lst [])=H13 at Vw ⊢
 refine ⟨_,rfl,_,rfl,y,L,rfl,hy,dE,by omega,by omega,Zn,λt7 l7 Wi nt7 ht7 Zp hl7 Ss=>?_⟩
 have Vx:=Ss _ _ Vw
 refine ⟨_,rfl,t1,rfl,⟨_,bB.of Vx⟩,?_⟩
 refine let gO:Nat->List V->Hp->Prop:=(λj acc H'=>H'=Wi/\acc=bV ((ls.take j).filter λw=>decide ((w:)<=L)));gu (K:=K) (a:=t1) (xs:=bV ls) gO (by rw[aY];omega) (λj acc H' h=>by rw[h.1];exact bB.of Vx) ⟨rfl,rfl⟩ ?_ ?_
 ·rintro j x acc YZ Nx hj hx ju ⟨rfl,rfl⟩ nx
  obtain ⟨v,hv,rfl⟩:=iZ hx
  have Sm:=(Fu.len v (Qac hv)).2
  refine ⟨⟨rfl,trivial⟩,?_⟩
  refine ⟨_,rfl,v,rfl,by omega,_,rfl,_,_,rfl,rfl,_,rfl,cM (λz=>?_) (λz=>?_)⟩
  ·have z3:decide ((v:)<=L)=true:=decide_eq_true (by have:=of_decide_eq_true z;omega)
   refine ⟨_,rfl,nx _ _ (by simpa using ju) ⟨rfl,?_⟩⟩
   rw[fJ, <-take_snoc hv,Qa9,sN _ v z3]
  ·have z3: ¬decide ((v:)<=L)=true:=λq=>z (decide_eq_true (by have:=of_decide_eq_true q;omega))
   refine nx _ _ (by omega) ⟨rfl,?_⟩
   rw[<-take_snoc hv,Qa9,sO _ v z3,Qa1]
 ·rintro acc YZ D ju ⟨rfl,rfl⟩ hD
  rw[aY,Qbe]
  obtain rfl:=Zp.uniq (Fu.UY Zm)
  have sD:=aq.upd (o:= .lst (bV (ls.filter λw=>decide ((w:)<=L)))) hD
  refine ⟨_,_,.lst (bB.of (sD _ _ ht7)) (fL _),.lst (bB.of ah) (fL _),⟨oO hy Zp,oO hy Zp⟩,BJ _,?_⟩
  rw[BK]
  exact q _
end
theorem bL{M:List Value->Prop}(h:M []):∀us:List Value,(us:)=0->M us
 | [],_=>h
theorem aJ{M:List Value->Prop}{n:Nat}(h:∀(a:Value) (us:List Value),(us:)=n->M (a::us)):∀us:List Value,(us:)=n+1->M us
 | a::us,e=>h a us (Nat.succ.inj e)
def Dn(K:c7)(x:Str)(st:Stmt)(f:Addr)(fd:FuncData):Prop:=PySem.W.nsIn K mainGlobals x=some (some (.ref f))/\Ku K x x st f fd
theorem dn{K:c7}{x:Str}{st:Stmt}{f:Addr}{oc:Value}{od an:Option Addr}{JL:Array (Option Value)}{kV doc pm cw ct:Value}(a:PySem.W.nsIn K mainGlobals x=some (some (.ref f)))(l:K.lookup f=some ⟨oc,od,.func (PySem.W.fnOf x x (fZ st) (ft st) (au st) .none kV doc pm an cw ct),JL⟩)(c:PySem.W.codeIn K cw x=true)(k:PySem.W.keepIn K (.ref f)=true):Dn K x st f (PySem.W.fnOf x x (fZ st) (ft st) (au st) .none kV doc pm an cw ct):=⟨a,AB l c k⟩
theorem fF{K:c7}{h:Heap}{mg:Str->Option Value}{x:Str}{st:Stmt}{f:Addr}{fd:FuncData}{ps:List Str}(X:K.In h)(G:h.Ns mainGlobals mg)(a:Dn K x st f fd)(b:∀(kV doc pm:Value) (an:Option Addr) (cw ct:Value) (us:List Value),(us:)=(ps:)->bindArgs (PySem.W.fnOf x x (fZ st) (ft st) (au st) .none kV doc pm an cw ct) ⟨us,[]⟩=pure (ps.zip us)):aU K mg x st ps f fd:=⟨a.2,Qf3 X G a.1,a.2.binds b⟩
theorem all_mk{l:PySem.W.OpenLaw}{w:World}{K:c7}{h:Heap}{mg:Str->Option Value}{fa f0 f1 f2 f3 f4 f5 f6 f7 f8 f9 QL QM QN QO QP QQ QR QS QT Jk Jl QU QV QW QX QY QZ Q0 Q3 Q5 Q6 Q7 Q8 Q9 Q_ Ra Rb Rc Rf Rg Rh Ri Rj Rk Rl Rm Rn Ro Rp Rq Rr Rt Ru Rv aP aZ lQ ie:Addr}(X:K.In h)(G:h.Ns mainGlobals mg)(VY:mg "law"=some (.ref fa))
  {d0 d1 d2 d3 d4 d5 d6 d7 d8 d9 Rw Rx Ry Rz RA RB RC RD RE RF RG RH RI RJ RK RL RM RN RO RP RQ RS RT RU RV RW RX RY RZ R0 R1 R3 R4 R5 R6 R7 R8 R9 R_ Sa Sb Sd Se Sf:FuncData}
  {Qo Qp Mn Mo:Option Addr} {Qq Mp:Array (Option Value)} {Qr Qs Qt Qu JE Qv Mq Mr Ms Mt DE Mu:Value}
  (a0:Dn K "contrary" ml f0 d0)
  (a1:Dn K "turned" sU f1 d1)
  (a2:Dn K "bands" xT f2 d2)
  (a3:Dn K "steps_round" hW f3 d3)
  (a4:Dn K "strands_at" i0 f4 d4)
  (a5:Dn K "points" sV f5 d5)
  (a6:Dn K "corner_points" fT f6 d6)
  (a7:Dn K "corners" oP f7 d7)
  (a8:Dn K "chord_starts" gI f8 d8)
  (a9:Dn K "number_in" ku f9 d9)
  (a10:Dn K "count_meetings" fm QL Rw)
  (a11:Dn K "strands_in" i3 QM Rx)
  (a12:Dn K "corner_ends" hX QN Ry)
  (a13:Dn K "shortened" kx QO Rz)
  (a14:Dn K "shortest" mm QP RA)
  (a15:Dn K "ring" BL QQ RB)
  (a16:Dn K "loop" BM QR RC)
  (a17:Dn K "root" BN QS RD)
  (a18:Dn K "corner_steps" gJ QT RE)
  (a19:Dn K "steps_ahead" hZ Jk RF)
  (a20:Dn K "steps_back" i4 Jl RG)
  (a21:Dn K "parting" oQ QU RH)
  (a22:Dn K "side_of" oR QV RI)
  (a23:Dn K "comes_ahead" h7 QW RJ)
  (a24:Dn K "number_among" gK QX RK)
  (a25:Dn K "seen_strand" h_ QY RL)
  (a26:Dn K "taut_order" i5 QZ RM)
  (a27:Dn K "taut" BO Q0 RN)
  (a28:Dn K "least" xU Q3 RO)
  (a29:Dn K "own" Ji Q5 RP)
  (a30:Dn K "is_lone" oS Q6 RQ)
  (a31:Dn K "may_follow" i6 Q7 RS)
  (a32:Dn K "one_longer" i7 Q8 RT)
  (a33:Dn K "lone_loops" i8 Q9 RU)
  (a34:Dn K "_law_box" BP Q_ RV)
  (a35:Dn K "_law_take" xV Ra RW)
  (a36:Dn K "_law_other" sW Rb RX)
  (a37:Dn K "_law_yard" xW Rc RY)
  (a38:Dn K "_law_shortened" i9 Rf RZ)
  (a39:Dn K "_law_shortest" ky Rg R0)
  (a40:Dn K "_law_ray" BQ Rh R1)
  (a41:Dn K "_law_letter" oT Ri R3)
  (a42:Dn K "_law_round" sZ Rj R4)
  (a43:Dn K "_law_parted" oU Rk R5)
  (a44:Dn K "_law_sense" s_ Rl R6)
  (a45:Dn K "_law_meets" tf Rm R7)
  (a46:Dn K "_law_between" mq Rn R8)
  (a47:Dn K "_law_own" BR Ro R9)
  (a48:Dn K "_law_is_lone" oV Rp R_)
  (a49:Dn K "_law_ring" xX Rq Sa)
  (a50:Dn K "_law_about" tm Rr Sb)
  (a51:Dn K "_law_loop" xY Rt Sd)
  (a52:Dn K "_law_listed" oW Ru Se)
  (a53:Dn K "law" Jj Rv Sf)
  (q_Seen:PySem.W.nsIn K mainGlobals "Seen"=some (some (.ref aP)))
  (pg_Seen:PySem.W.plainGet K aP Str.empty=true)
  (hd_Seen:PySem.W.hasDictIn K aP=true)
  (po_Seen:PySem.W.plainOver K aP=true)
  (sa_Seen:PySem.W.findIn K (.ref aP) "__setattr__"=some (some (.builtin "object.__setattr__")))
  (n_Seen_strand:PySem.W.findIn K (.ref aP) "strand"=some none)
  (n_Seen_way:PySem.W.findIn K (.ref aP) "way"=some none)
  (n_Seen_place:PySem.W.findIn K (.ref aP) "place"=some none)
  (q_Way:PySem.W.nsIn K mainGlobals "Way"=some (some (.ref aZ)))
  (pg_Way:PySem.W.plainGet K aZ Str.empty=true)
  (hd_Way:PySem.W.hasDictIn K aZ=true)
  (po_Way:PySem.W.plainOver K aZ=true)
  (sa_Way:PySem.W.findIn K (.ref aZ) "__setattr__"=some (some (.builtin "object.__setattr__")))
  (n_Way_size:PySem.W.findIn K (.ref aZ) "size"=some none)
  (n_Way_root_size:PySem.W.findIn K (.ref aZ) "root_size"=some none)
  (n_Way_leads:PySem.W.findIn K (.ref aZ) "leads"=some none)
  (n_Way_onward:PySem.W.findIn K (.ref aZ) "onward"=some none)
  (n_Way_backward:PySem.W.findIn K (.ref aZ) "backward"=some none)
  (mk_Way:PySem.W.makesIn K aZ=true)
  (qi_Way:PySem.W.findIn K (.ref aZ) "__init__"=some (some (.ref lQ)))
  (fi_Way:PySem.W.isFn K (.ref lQ)=true)
  (kc_Way:PySem.W.keepIn K (.ref aZ)=true)
  (li_Way:K.lookup lQ=some ⟨Qr,Qo,.func (PySem.W.fnOf "__init__" "Way.__init__" (fZ kO) (ft kO) (au kO) .none Qs Qt Qu Qp JE Qv),Qq⟩)
  (ci_Way:PySem.W.codeIn K JE "Way.__init__"=true)
  (ki_Way:PySem.W.keepIn K (.ref lQ)=true)
  (mk_Seen:PySem.W.makesIn K aP=true)
  (qi_Seen:PySem.W.findIn K (.ref aP) "__init__"=some (some (.ref ie)))
  (fi_Seen:PySem.W.isFn K (.ref ie)=true)
  (kc_Seen:PySem.W.keepIn K (.ref aP)=true)
  (li_Seen:K.lookup ie=some ⟨Mq,Mn,.func (PySem.W.fnOf "__init__" "Seen.__init__" (fZ iP) (ft iP) (au iP) .none Mr Ms Mt Mo DE Mu),Mp⟩)
  (ci_Seen:PySem.W.codeIn K DE "Seen.__init__"=true)
  (ki_Seen:PySem.W.keepIn K (.ref ie)=true)
  (z_enumerate:PySem.W.nsIn K mainGlobals "enumerate"=some none)
  (z_int:PySem.W.nsIn K mainGlobals "int"=some none)
  (z_isinstance:PySem.W.nsIn K mainGlobals "isinstance"=some none)
  (z_len:PySem.W.nsIn K mainGlobals "len"=some none)
  (z_list:PySem.W.nsIn K mainGlobals "list"=some none)
  (z_max:PySem.W.nsIn K mainGlobals "max"=some none)
  (z_min:PySem.W.nsIn K mainGlobals "min"=some none)
  (z_range:PySem.W.nsIn K mainGlobals "range"=some none)
  (z_reversed:PySem.W.nsIn K mainGlobals "reversed"=some none)
  (z_set:PySem.W.nsIn K mainGlobals "set"=some none)
  (z_sorted:PySem.W.nsIn K mainGlobals "sorted"=some none)
  (z_str:PySem.W.nsIn K mainGlobals "str"=some none)
  (z_tuple:PySem.W.nsIn K mainGlobals "tuple"=some none):
  ∃fd:FuncData,(∀(s:Shared) (v:Value),BindsTo s fd ⟨[v],[]⟩ [("_law_script",v)])/\∀base:Heap,K.In base->base.Ns mainGlobals mg->bo l.prog w K mg base dS 13 fa fd ["_law_script"] (nV K):=by
 have e:=VY.symm.trans (Qf3 X G a53.1)
 cases e
 obtain ⟨_,_,_,_,_,_,_,_,_,rfl,_⟩:=a53.2.ex
 have JF:=AB (st:=kO) li_Way ci_Way ki_Way
 have Qw:=JF.binds (ps:=["self","yard","word","longest"]) λ_ _ _ _ _ _=>aJ λ_=>aJ λ_=>aJ λ_=>aJ λ_=>bL rfl
 have DF:=AB (st:=iP) li_Seen ci_Seen ki_Seen
 have Mv:=DF.binds (ps:=["self","strand","way","place"]) λ_ _ _ _ _ _=>aJ λ_=>aJ λ_=>aJ λ_=>aJ λ_=>bL rfl
 have T:Txt K mg _ _ _ _ _ _ _ _ _ _ _ _ _ _ _ _ _ _ _ _ _ _ _ _ _ _ _ _ _ _ _ _ _ _ _ _ _ _ _ _ _ _ _ _ _ _ _ _ _ _ _ _ _ _ _ _ _ _ _ _ _ _ _ _ _ _ _ _ _ _ _ _ _ _ _ _ _ _ _ _ _ _ _ _ _ _ _ _ _ _ _ _ _ _ _ _ _ _ _ _ _ _ _ _ _ _ _ _ _ _ _ _ _ _:=⟨fF X G a0 λ_ _ _ _ _ _=>aJ λ_=>bL rfl,fF X G a1 λ_ _ _ _ _ _=>aJ λ_=>bL rfl,fF X G a2 λ_ _ _ _ _ _=>aJ λ_=>bL rfl,fF X G a3 λ_ _ _ _ _ _=>aJ λ_=>aJ λ_=>aJ λ_=>bL rfl,fF X G a4 λ_ _ _ _ _ _=>aJ λ_=>aJ λ_=>aJ λ_=>bL rfl,fF X G a5 λ_ _ _ _ _ _=>aJ λ_=>aJ λ_=>bL rfl,fF X G a6 λ_ _ _ _ _ _=>aJ λ_=>aJ λ_=>aJ λ_=>bL rfl,fF X G a7 λ_ _ _ _ _ _=>aJ λ_=>aJ λ_=>bL rfl,fF X G a8 λ_ _ _ _ _ _=>aJ λ_=>bL rfl,fF X G a9 λ_ _ _ _ _ _=>aJ λ_=>aJ λ_=>bL rfl,fF X G a10 λ_ _ _ _ _ _=>aJ λ_=>bL rfl,fF X G a11 λ_ _ _ _ _ _=>aJ λ_=>aJ λ_=>bL rfl,fF X G a12 λ_ _ _ _ _ _=>aJ λ_=>aJ λ_=>bL rfl,fF X G a13 λ_ _ _ _ _ _=>aJ λ_=>bL rfl,fF X G a14 λ_ _ _ _ _ _=>aJ λ_=>bL rfl,fF X G a15 λ_ _ _ _ _ _=>aJ λ_=>bL rfl,fF X G a16 λ_ _ _ _ _ _=>aJ λ_=>bL rfl,fF X G a17 λ_ _ _ _ _ _=>aJ λ_=>bL rfl,fF X G a18 λ_ _ _ _ _ _=>aJ λ_=>aJ λ_=>aJ λ_=>bL rfl,fF X G a19 λ_ _ _ _ _ _=>aJ λ_=>aJ λ_=>aJ λ_=>bL rfl,fF X G a20 λ_ _ _ _ _ _=>aJ λ_=>aJ λ_=>aJ λ_=>bL rfl,fF X G a21 λ_ _ _ _ _ _=>aJ λ_=>aJ λ_=>aJ λ_=>aJ λ_=>bL rfl,fF X G a22 λ_ _ _ _ _ _=>aJ λ_=>bL rfl,fF X G a23 λ_ _ _ _ _ _=>aJ λ_=>aJ λ_=>bL rfl,fF X G a24 λ_ _ _ _ _ _=>aJ λ_=>aJ λ_=>bL rfl,fF X G a25 λ_ _ _ _ _ _=>aJ λ_=>aJ λ_=>aJ λ_=>bL rfl,fF X G a26 λ_ _ _ _ _ _=>aJ λ_=>aJ λ_=>aJ λ_=>bL rfl,fF X G a27 λ_ _ _ _ _ _=>aJ λ_=>aJ λ_=>bL rfl,fF X G a28 λ_ _ _ _ _ _=>aJ λ_=>aJ λ_=>bL rfl,fF X G a29 λ_ _ _ _ _ _=>aJ λ_=>aJ λ_=>bL rfl,fF X G a30 λ_ _ _ _ _ _=>aJ λ_=>aJ λ_=>bL rfl,fF X G a31 λ_ _ _ _ _ _=>aJ λ_=>aJ λ_=>bL rfl,fF X G a32 λ_ _ _ _ _ _=>aJ λ_=>aJ λ_=>bL rfl,fF X G a33 λ_ _ _ _ _ _=>aJ λ_=>aJ λ_=>bL rfl,fF X G a34 λ_ _ _ _ _ _=>aJ λ_=>aJ λ_=>bL rfl,fF X G a35 λ_ _ _ _ _ _=>aJ λ_=>aJ λ_=>bL rfl,fF X G a36 λ_ _ _ _ _ _=>aJ λ_=>bL rfl,fF X G a37 λ_ _ _ _ _ _=>aJ λ_=>aJ λ_=>aJ λ_=>bL rfl,fF X G a38 λ_ _ _ _ _ _=>aJ λ_=>bL rfl,fF X G a39 λ_ _ _ _ _ _=>aJ λ_=>bL rfl,fF X G a40 λ_ _ _ _ _ _=>aJ λ_=>aJ λ_=>aJ λ_=>bL rfl,fF X G a41 λ_ _ _ _ _ _=>aJ λ_=>aJ λ_=>bL rfl,fF X G a42 λ_ _ _ _ _ _=>aJ λ_=>aJ λ_=>aJ λ_=>aJ λ_=>bL rfl,fF X G a43 λ_ _ _ _ _ _=>aJ λ_=>aJ λ_=>aJ λ_=>bL rfl,fF X G a44 λ_ _ _ _ _ _=>aJ λ_=>aJ λ_=>aJ λ_=>aJ λ_=>bL rfl,fF X G a45 λ_ _ _ _ _ _=>aJ λ_=>aJ λ_=>aJ λ_=>aJ λ_=>aJ λ_=>bL rfl,fF X G a46 λ_ _ _ _ _ _=>aJ λ_=>aJ λ_=>aJ λ_=>bL rfl,fF X G a47 λ_ _ _ _ _ _=>aJ λ_=>aJ λ_=>bL rfl,fF X G a48 λ_ _ _ _ _ _=>aJ λ_=>aJ λ_=>bL rfl,fF X G a49 λ_ _ _ _ _ _=>aJ λ_=>bL rfl,fF X G a50 λ_ _ _ _ _ _=>aJ λ_=>bL rfl,fF X G a51 λ_ _ _ _ _ _=>aJ λ_=>bL rfl,fF X G a52 λ_ _ _ _ _ _=>aJ λ_=>aJ λ_=>bL rfl,fF X G a53 λ_ _ _ _ _ _=>aJ λ_=>bL rfl,Qf3 X G q_Seen,⟨pg_Seen,hd_Seen,po_Seen,sa_Seen⟩,n_Seen_strand,n_Seen_way,n_Seen_place,Qf3 X G q_Way,⟨pg_Way,hd_Way,po_Way,sa_Way⟩,n_Way_size,n_Way_root_size,n_Way_leads,n_Way_onward,n_Way_backward,⟨mk_Way,qi_Way,fi_Way,kc_Way⟩,JF,Qw,⟨mk_Seen,qi_Seen,fi_Seen,kc_Seen⟩,DF,Mv,Qb2 X G z_enumerate,Qb2 X G z_int,Qb2 X G z_isinstance,Qb2 X G z_len,Qb2 X G z_list,Qb2 X G z_max,Qb2 X G z_min,Qb2 X G z_range,Qb2 X G z_reversed,Qb2 X G z_set,Qb2 X G z_sorted,Qb2 X G z_str,Qb2 X G z_tuple⟩
 exact ⟨_,λs v=> .of_eq rfl,λbase _ _=>Qm T⟩
theorem walk{l:PySem.W.OpenLaw}{q:Program}{loose:List Str}{XP:(Str->Option Value)->Heap->Prop}{YP:World->Heap->Prop}{d:DefRec}{K:Params->c7}(hn:l.most=some 63)(Ti:d.params.defaults=[])
  (hY:∀(w:World) (h:Heap),YP w h->(K w.params).In h)
  (F:∀(w:World) (mg:Str->Option Value) (fa:Addr) (h:Heap),(K w.params).In h->h.Ns mainGlobals mg->mg d.name=some (.ref fa)->
   ∃fd:FuncData,(∀(s:Shared) (u:Value),BindsTo s fd ⟨[u],[]⟩ [("_law_script",u)])/\∀base:Heap,(K w.params).In base->base.Ns mainGlobals mg->bo l.prog w (K w.params) mg base dS 13 fa fd ["_law_script"] (nV (K w.params))):
  PySem.W.WalkO q loose XP YP l.row.toRowW d [] (λf vs=>PySem.call f vs):=
 L2.Ci (n:=63) (k:=13) (x:="_law_script") (CX:=λ_=>dS) (sp:=λw=>nV (K w.params)) hn ∅ Ti ⟨rfl,∅,∅,rfl⟩ hY F (λ_ _ a ns hl _ hS=>⟨a,ns,rfl,hS,hl,λ_=>rfl⟩) λ_ _ _ _ _ z=>z
end My
structure PySem.W.Fast:Prop where (tw10028924770257798240 tw10139339651857036014 tw10185420109627472278 tw10186397452836504079 tw10209182327536686997 tw10337957452307600624 tw10483403204288287951 tw10529512248148072150 tw10633358842297258076 tw10822166449913467758 tw10833054334648613066 tw11154738230984171238 tw11207313363242378919 tw11272392659576592017 tw11339810172317071475 tw11400519653798614450 tw11400544478213140473 tw11491492958457662184 tw11710645133425622981 tw11756893236974888274 tw11891209019316553108 tw12015951846217409858 tw12112090478587222341 tw12216073115318336015 tw12223548342926976885 tw12639077433066860940 tw12719319506363809504 tw12736723642906234951 tw12803566022737919661 tw12890172609806318502 tw13025836364444058943 tw13091298483961243537 tw13225455453558892593 tw13303289365808912532 tw13398185680547156213 tw13417872837690302232 tw1343116555633083641 tw13452034604703193895 tw13485545504967821835 tw13632949556535626997 tw13634017798536270884 tw13680740120241487397 tw13695132758423027258 tw13697073654505065689 tw13702909238578121206 tw13978403483015516854 tw14050971724037463977 tw14115600218571317701 tw14139347995835952727 tw14203998113118448697 tw14361412762537199864 tw1437740420474548367 tw14524326164551151959 tw14550804888528880914 tw1501683189483507590 tw15107212638762049253 tw15200594147549205010 tw15503859928403141729 tw15572144561320517022 tw15871275534365011169 tw15923604711669500038 tw16018620380622948729 tw16031071426341609063 tw16058900997729669528 tw16346515640628003434 tw16535312438511176680 tw16566195568229623993 tw16631807931916303120 tw1663759489655477617 tw16684528285584448168 tw1672161014170853239 tw16817479924721508934 tw16902761691600135100 tw16913745003488307846 tw1694462282001793618 tw17182781454950552809 tw17405273246137617218 tw17460478656182679419 tw17540582275895864828 tw17622502144121114849 tw17775339050587679478 tw17888026674001884054 tw17977240597360836590 tw18080536901213986145 tw18091403440946690746 tw18121425843941459491 tw181531456834313890 tw18249191322544185793 tw1836459564669390939 tw18399775023079783889 tw1905700098041194095 tw191259431906297617 tw1954868796816409916 tw2221119272653302646 tw2228027555114064500 tw2419488165483831132 tw2437348246821966597 tw2492972253504016991 tw2544422528333035268 tw2575774020425251079 tw2613720262277424751 tw266273278303790604 tw2664871040055560482 tw2933778250669717157 tw3055421565308809340 tw318113386683994000 tw3236724475217353966 tw3265567208974438787 tw3285815211199331902 tw33772124266509079 tw3377756849633739860 tw3402833298630221857 tw3483127083123137531 tw3680948430116269499 tw3692211872945716557 tw3754836156972177128 tw3789664003547707058 tw3839000360895556951 tw392054589100418439 tw3988818904464596600 tw4043660084924356235 tw4063149580172791935 tw4233524198726456004 tw4357709315739022086 tw4368831826907297351 tw4547867378370635695 tw4613450250889264549 tw4623407768690937635 tw4813035448981072179 tw4850212235852611905 tw5014222234419276717 tw5274865724622417512 tw5567357930304749280 tw5579759314664508182 tw558134866895224843 tw5646709047658833161 tw5666695511226770792 tw567991852258777977 tw5850845305172046966 tw6012447837286433511 tw6038223268423010079 tw6094339021759441374 tw6354553951962174576 tw6447916486927424496 tw6500001367877366133 tw6541394123855117098 tw6552636558739284219 tw655341881251672731 tw664205533023692113 tw6746775565050261080 tw6836976967981485605 tw6935587820518405143 tw6981339266052054386 tw6998876339656367666 tw702057446028549793 tw7076229698208741263 tw7134676157196061930 tw7193668228826374134 tw7348290624120992074 tw7503388911545441084 tw7516292923887077074 tw7522615818428287395 tw7578759054272875871 tw7584603061135037678 tw7630391140611660764 tw763793840239177761 tw7808637706724112163 tw7845393811578157549 tw8319018892108069095 tw8388686395484599954 tw8450194109305030980 tw8548160812239086894 tw8768891321525709318 tw8771147052008197912 tw8779308421987919260 tw8805861526857713557 tw8924209961901509507 tw8980456249787857146 tw8994116210274793455 tw9055153052822453468 tw9128447184307339646 tw9140432339516537772 tw9162808802287248937 tw9196445544824741092 tw9248704429368630752 tw9249505202236070941 tw9267220167783568526 tw9307565243364855591 tw9309841774480626290 tw9372989635609108167 tw9461832508367999647 tw9467934260188765052 tw9479568412376578773 tw9520207081826697854 tw9637194286643397148 tw9685282361599318129 tw9707174934268313292 tw9777554080611336876 tw9867673665790271003 tw9971930507586149673:True)
open PySem PySem.W PyProof.Rows
set_option maxRecDepth 100000 in
set_option maxHeartbeats 0 in
theorem PySem.Challenge.cw_mustmeet_k40_lone_loops_told_holds : PySem.Challenge.rw_mustmeet_k40_lone_loops_told.Holds := by
 w_on;o_law;k_head;(case hw=>w_witness2)
 k_fill
 refine My.walk (l:=PySem.Challenge.rw_mustmeet_k40_lone_loops_told) rfl rfl (fun w h Y=>PySem.W.kIn_of Y) ?F
 case F=>
  intro w mg fa h KX G hmg
  refine' My.all_mk KX G hmg (My.dn ?a0 ?l0 ?c0 ?k0) (My.dn ?a1 ?l1 ?c1 ?k1) (My.dn ?a2 ?l2 ?c2 ?k2) (My.dn ?a3 ?l3 ?c3 ?k3) (My.dn ?a4 ?l4 ?c4 ?k4) (My.dn ?a5 ?l5 ?c5 ?k5) (My.dn ?a6 ?l6 ?c6 ?k6) (My.dn ?a7 ?l7 ?c7 ?k7) (My.dn ?a8 ?l8 ?c8 ?k8) (My.dn ?a9 ?l9 ?c9 ?k9) (My.dn ?a10 ?l10 ?c10 ?k10) (My.dn ?a11 ?l11 ?c11 ?k11) (My.dn ?a12 ?l12 ?c12 ?k12) (My.dn ?a13 ?l13 ?c13 ?k13) (My.dn ?a14 ?l14 ?c14 ?k14) (My.dn ?a15 ?l15 ?c15 ?k15) (My.dn ?a16 ?l16 ?c16 ?k16) (My.dn ?a17 ?l17 ?c17 ?k17) (My.dn ?a18 ?l18 ?c18 ?k18) (My.dn ?a19 ?l19 ?c19 ?k19) (My.dn ?a20 ?l20 ?c20 ?k20) (My.dn ?a21 ?l21 ?c21 ?k21) (My.dn ?a22 ?l22 ?c22 ?k22) (My.dn ?a23 ?l23 ?c23 ?k23) (My.dn ?a24 ?l24 ?c24 ?k24) (My.dn ?a25 ?l25 ?c25 ?k25) (My.dn ?a26 ?l26 ?c26 ?k26) (My.dn ?a27 ?l27 ?c27 ?k27) (My.dn ?a28 ?l28 ?c28 ?k28) (My.dn ?a29 ?l29 ?c29 ?k29) (My.dn ?a30 ?l30 ?c30 ?k30) (My.dn ?a31 ?l31 ?c31 ?k31) (My.dn ?a32 ?l32 ?c32 ?k32) (My.dn ?a33 ?l33 ?c33 ?k33) (My.dn ?a34 ?l34 ?c34 ?k34) (My.dn ?a35 ?l35 ?c35 ?k35) (My.dn ?a36 ?l36 ?c36 ?k36) (My.dn ?a37 ?l37 ?c37 ?k37) (My.dn ?a38 ?l38 ?c38 ?k38) (My.dn ?a39 ?l39 ?c39 ?k39) (My.dn ?a40 ?l40 ?c40 ?k40) (My.dn ?a41 ?l41 ?c41 ?k41) (My.dn ?a42 ?l42 ?c42 ?k42) (My.dn ?a43 ?l43 ?c43 ?k43) (My.dn ?a44 ?l44 ?c44 ?k44) (My.dn ?a45 ?l45 ?c45 ?k45) (My.dn ?a46 ?l46 ?c46 ?k46) (My.dn ?a47 ?l47 ?c47 ?k47) (My.dn ?a48 ?l48 ?c48 ?k48) (My.dn ?a49 ?l49 ?c49 ?k49) (My.dn ?a50 ?l50 ?c50 ?k50) (My.dn ?a51 ?l51 ?c51 ?k51) (My.dn ?a52 ?l52 ?c52 ?k52) (My.dn ?a53 ?l53 ?c53 ?k53) ?q_Seen ?pg_Seen ?hd_Seen ?po_Seen ?sa_Seen ?n_Seen_strand ?n_Seen_way ?n_Seen_place ?q_Way ?pg_Way ?hd_Way ?po_Way ?sa_Way ?n_Way_size ?n_Way_root_size ?n_Way_leads ?n_Way_onward ?n_Way_backward ?mk_Way ?qi_Way ?fi_Way ?kc_Way ?li_Way ?ci_Way ?ki_Way ?mk_Seen ?qi_Seen ?fi_Seen ?kc_Seen ?li_Seen ?ci_Seen ?ki_Seen ?z_enumerate ?z_int ?z_isinstance ?z_len ?z_list ?z_max ?z_min ?z_range ?z_reversed ?z_set ?z_sorted ?z_str ?z_tuple
  case a0|l0|c0|k0|a1|l1|c1|k1|a2|l2|c2|k2|a3|l3|c3|k3|a4|l4|c4|k4|a5|l5|c5|k5|a6|l6|c6|k6|a7|l7|c7|k7|a8|l8|c8|k8|a9|l9|c9|k9|a10|l10|c10|k10|a11|l11|c11|k11|a12|l12|c12|k12|a13|l13|c13|k13|a14|l14|c14|k14|a15|l15|c15|k15|a16|l16|c16|k16|a17|l17|c17|k17|a18|l18|c18|k18|a19|l19|c19|k19|a20|l20|c20|k20|a21|l21|c21|k21|a22|l22|c22|k22|a23|l23|c23|k23|a24|l24|c24|k24|a25|l25|c25|k25|a26|l26|c26|k26|a27|l27|c27|k27|a28|l28|c28|k28|a29|l29|c29|k29|a30|l30|c30|k30|a31|l31|c31|k31|a32|l32|c32|k32|a33|l33|c33|k33|a34|l34|c34|k34|a35|l35|c35|k35|a36|l36|c36|k36|a37|l37|c37|k37|a38|l38|c38|k38|a39|l39|c39|k39|a40|l40|c40|k40|a41|l41|c41|k41|a42|l42|c42|k42|a43|l43|c43|k43|a44|l44|c44|k44|a45|l45|c45|k45|a46|l46|c46|k46|a47|l47|c47|k47|a48|l48|c48|k48|a49|l49|c49|k49|a50|l50|c50|k50|a51|l51|c51|k51|a52|l52|c52|k52|a53|l53|c53|k53|q_Seen|pg_Seen|hd_Seen|po_Seen|sa_Seen|n_Seen_strand|n_Seen_way|n_Seen_place|q_Way|pg_Way|hd_Way|po_Way|sa_Way|n_Way_size|n_Way_root_size|n_Way_leads|n_Way_onward|n_Way_backward|mk_Way|qi_Way|fi_Way|kc_Way|li_Way|ci_Way|ki_Way|mk_Seen|qi_Seen|fi_Seen|kc_Seen|li_Seen|ci_Seen|ki_Seen|z_enumerate|z_int|z_isinstance|z_len|z_list|z_max|z_min|z_range|z_reversed|z_set|z_sorted|z_str|z_tuple=>k_is
