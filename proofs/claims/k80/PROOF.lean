import PyProof.Rows.All
import Wide.All
import OpenK.AllK
import Wide.FinOn
import Lean
import PyProof.EqAt
import PyProof.EqKinds
import PyProof.TupleCall
import PySem.Challenge.RW_mustmeet_k80_whole_lone_loops_of_crossed
set_option maxHeartbeats 4000000
set_option Elab.async false
set_option linter.all false
set_option maxRecDepth 100000
set_option hygiene false
open PySem.W renaming Frag→c8
abbrev c7:=List Nat
local macro_rules|`(term|($x :))=>`(($x).length)
local macro_rules|`(term|())=>`(by lia)
local macro_rules|`(term|$a|||$b)=>`(List.getD $a $b [])
local macro_rules|`(term|∅)=>`(by decide)
local macro_rules|`(term|⋯)=>`(by decide +kernel)
local macro_rules|`(tactic|walk_at"a")=>`(tactic|intro X hP hw hK hc i pins s σ H E I hf st hg)
local macro_rules|`(tactic|walk_at"b")=>`(tactic|have s0:∀(w:c7) (i:Int),sq w i 0=rd w i:=λw i=>by unfold sq;rw[show i+0=i by lia])
local macro_rules|`(tactic|walk_at"c")=>`(tactic|intro pins s σ H x y v u Q I rx ry h)
local macro_rules|`(tactic|walk_at"d")=>`(tactic|obtain ⟨f0,f1,f2,f3,f4,f5⟩:=hf it (by simp))
local macro_rules|`(tactic|walk_at"e")=>`(tactic|obtain ⟨t,rfl⟩:=rx)
local macro_rules|`(tactic|walk_at"f")=>`(tactic|intro pins s σ H Q I h)
local macro_rules|`(tactic|walk_at"g")=>`(tactic|intro pins s σ H xs us Q I r h)
local macro_rules|`(tactic|walk_at"h")=>`(tactic|refine ⟨λi m σ H=>m=(xs:) - i/\i<=(xs:)/\Pv i σ H,⟨(xs:),by simp,Qau _,h0⟩,?_⟩)
local macro_rules|`(tactic|walk_at"i")=>`(tactic|have b0:∀(w:c7) (i:Int),bq w i 0=ay (rd w i):=λw i=>by unfold bq;rw[show i - 0=i by lia])
local macro_rules|`(tactic|walk_at"j")=>`(tactic|refine cZ (λz=>?_) (λz=>?_))
local macro_rules|`(tactic|walk_at"k")=>`(tactic|refine wpAny_bind (wpAny_callSpecial?_slot (name:=Str.ofString "__next__") hi.typeIs F.slot_tuple_iterator_next (wpAny_call_entry F.slot_tuple_iterator_next hi.typeIs F.entry_tuple_iterator_next ?_ (F.args_tuple_iterator_next_1 _))))
local macro_rules|`(tactic|walk_at"l")=>`(tactic|refine Call_ (gR I hg hm boot_enumerate (Qcm (cD (ha pos pins s σ H _ I h) λus s1 ⟨vs,H1,I1,r1,q1⟩=>?_) hs rfl)))
local macro_rules|`(tactic|walk_at"m")=>`(tactic|have RJ:∀y∈scope.names,y.2= .free->∃c,X.env.cells.lookup y.1=some c:=λy hy e=>I.ok.has y.1 (Gh y hy e))
local macro_rules|`(tactic|walk_at"n")=>`(tactic|have W:=WalksT.enumerateD D e Ci (by simp;exact ⟨Ci,Ne.symm Ut⟩) (by simp))
local macro_rules|`(tactic|walk_at"o")=>`(tactic|exact aE (λ_=>wpS_pure ⟨rfl,oX,El,b5,l5⟩) (λ_=>wpS_bind (A5 L C oX b5 () λst6 UW UX b6 l6 _=>aE (λz=>by cases z) (λz=>wpS_pure ⟨rfl,UX,UW,b6,l6.trans l5⟩))))
local macro_rules|`(tactic|walk_at"p")=>`(tactic|intro pins s σ H x xs v us Q I rx rv h)
local macro_rules|`(tactic|walk_at"q")=>`(tactic|have gF:(10000:Nat)<sizeLine:=by decide)
local macro_rules|`(tactic|walk_at"r")=>`(tactic|intro pins s σ H D I h)
local macro_rules|`(tactic|walk_at"s")=>`(tactic|refine wpS_bind (wpS_lift (wpAny_rule ⟨rfl,?_⟩)))
local macro_rules|`(tactic|walk_at"t")=>`(tactic|exact λp2 n2=>q p2 _ (az.free (az.upd n1) n2) ⟨_,_,ae⟩ ((az.upd n1).trans (az.upd n2)))
local macro_rules|`(tactic|walk_at"u")=>`(tactic|refine wpS_bind (wpS_get ?_))
local macro_rules|`(tactic|walk_at"v")=>`(tactic|refine wpAny_bind (wpAny_pure ?_))
local macro_rules|`(tactic|walk_at"x")=>`(tactic|have bZ:=dY (P:=P) (w:=w) (base:=base) T)
local macro_rules|`(tactic|walk_at"y")=>`(tactic|have mB:∀{x:Str} {c:Addr},(jn X.env scope.names []).lookup x=some c->X.env.cells.lookup x=some c:=λ{x c} e=>nN scope.names [] (λy d q=>by simp at q) e)
local macro_rules|`(tactic|walk_at"z")=>`(tactic|have e1:=h.Nu (a:=(ay (f (-1)),a)) (b:=(ay (g (-1)),a')) (c:=(f 0,b)) (by simp) (by simp) (by simp) (by show ay _=ay _;rw[z1]) (cq ya (hf.bO 0) (Ne.symm r1)))
local macro_rules|`(tactic|walk_at"A")=>`(tactic|intro pins s σ H x vs v us Q I rx rv h)
local macro_rules|`(tactic|walk_at"B")=>`(tactic|rw[show eB f v ((k,x)::r)=(if k=f then (k,v)::r else (k,x)::eB f v r) from rfl])
local macro_rules|`(tactic|walk_at"C")=>`(tactic|refine W.go elts k pos i T { s with heap:=h',toks:=tk } _ _ yI λh2 yJ tG=>?_)
local macro_rules|`(tactic|walk_at"D")=>`(tactic|rw[show (0:Int)=b7 (w:) (v:) (λ_ _=>0) by unfold b7;rw[show (λ_:Int=>sm (v:) λ_=>0)=λ_=>0 from funext λ_=>fT _,fT]])
local macro_rules|`(tactic|walk_at"E")=>`(tactic|have h2:=Qcj k (b:=((w:):Int)) ())
local macro_rules|`(tactic|walk_at"F")=>`(tactic|have h1:=Qcp k (b:=((w:):Int)) ())
local macro_rules|`(tactic|walk_at"G")=>`(tactic|have hle:lt (arr.toList[base+j]) (arr.toList[base+i])=false:=A3 L hs Fq (by rw[Qa5 (),Qbk];exact OD K1) (by rw[Qa5 hj,Qbk];exact OD O6))
local macro_rules|`(tactic|walk_at"H")=>`(tactic|intro value slice pins s σ H x y v u Q I rx ry h hs)
local macro_rules|`(tactic|walk_at"I")=>`(tactic|obtain ⟨z,aK,n,r,hl,e⟩:=I.AB hH)
local macro_rules|`(tactic|walk_at"J")=>`(tactic|exact I1.tM (Qaa _) (I1.bU.fresh (Qaa _)))
local macro_rules|`(tactic|walk_at"K")=>`(tactic|have e2:=h.same (a:=(ay (f (-1)),a)) (b:=(g 0,b')) (c:=(f 0,b)) (by simp) (by simp) (by simp) z0.symm (cq ya (hf.bO 0) (Ne.symm r1)))
local macro_rules|`(tactic|walk_at"L")=>`(tactic|refine wpAny_bind (wpAny_rule ?_))
local macro_rules|`(tactic|walk_at"M")=>`(tactic|refine aE (λg=>?_) (λg=>?_))
local macro_rules|`(tactic|walk_at"N")=>`(tactic|show jn env r (if (k==NameKind.free)=true then (match env.cells.lookup n with | some a=>(n,a)::acc | none=>acc) else acc)=_)
local macro_rules|`(tactic|walk_at"O")=>`(tactic|refine W.done s _ _ ?_ λh' tk hk=>⟨rfl,I.wH (t':=tk) hk hf⟩)
local macro_rules|`(tactic|walk_at"P")=>`(tactic|have I1:Inv X pins σ H { s with heap:=h',toks:=tk }:=I.turned (λb o hb e=>kk b o (by simpa using hb) e) f0 f1 f3 f4 f5)
local macro_rules|`(tactic|walk_at"Q")=>`(tactic|refine cD (hl pins s σ H _ I h) λv s1 ⟨x,H1,I1,r1,q1⟩=>?_)
local macro_rules|`(tactic|walk_at"R")=>`(tactic|obtain ⟨t,rfl⟩:=r1)
local macro_rules|`(tactic|walk_at"S")=>`(tactic|have I1:Inv X pins σ H { s with heap:=h' }:=I.turned (t':=s.toks) (λb o hb e=>(sb.2 b hb).trans e) f0 f1 f3 f4 f5)
local macro_rules|`(tactic|walk_at"T")=>`(tactic|refine ⟨_,rfl,_,_,rfl,rfl,_,rfl,cZ (λz=>?_) (λz=>?_)⟩)
local macro_rules|`(tactic|walk_at"U")=>`(tactic|exact ⟨o,e,λv z=>by rw[d]at z;cases z⟩)
local macro_rules|`(tactic|walk_at"V")=>`(tactic|obtain ⟨t',rfl⟩:=ry)
local macro_rules|`(tactic|walk_at"W")=>`(tactic|intro pins s σ H R I h)
open List renaming getElem?_eq_some_iff→OC,getElem?_eq_getElem→OD,append_assoc→RI,length_append→T6,length_map→Wh,mem_singleton→Wi,length_pos_iff→Qab,mem_cons_self→Qac,length_take→Qad,mem_cons_of_mem→Qae,mem_cons→Qaf,take_append_drop→Qag,size_toArray→Qah,take_of_length_le→Qai,not_mem_nil→Qaj,idxOf_lt_length_of_mem→Qak,mem_append_right→Qam,getD_eq_getElem?_getD→Qao,mem_append→Qap,map_append→Qaq,getElem?_map→Qar,mem_of_getElem?→Qas,length_drop→Qat,getElem?_append_right→Qaw,mem_map→Qay,length_reverse→Qa0,map_cons→Qa3,append_nil→Qa4,getElem?_take_of_lt→Qa5,pairwise_append→Qa9,length_cons→Qba,getElem?_append_left→Qbc,take_append_of_le_length→Qbf,map_map→Qbh,drop_of_length_le→Qbi,filter_cons_of_neg→Qbj,getElem?_drop→Qbk,mem_flatMap→Qbp,mem_filter→Qbq,mem_range→Qbr,take_length→Qbv,flatMap_cons→Qbw,filter_cons_of_pos→Qbx,perm_append_comm→Qby,drop_eq_getElem_cons→Qbz,map_congr_left→Qb0,lookup_cons→Qb2,getElem_mem→Qb3,nodup_cons→Qb5,pairwise_singleton→Qb6,length_eq_zero_iff→Qb7,pairwise_map→Qb8,mem_of_mem_take→Qb9,mem_append_left→Qca,filter_append→Qcc,flatMap_append→Qcd,mem_reverse→Qcf,all_eq_true→Qcg,mem_of_mem_drop→Qch,nodup_append→Qcn,range_succ→Qco,pairwise_iff_getElem→Qcs,eq_nil_of_length_eq_zero→Qct,lt_irrefl→Qcu,drop_zero→Qcv,foldl_cons→Qcw,getElem_idxOf→Qcx,dropLast_concat→Qc0,flatten_cons→Qc3,any_eq_true→Qc4,getElem?_of_mem→Qc5,reverse_append→Qc7,cons_append→Qda,pairwise_cons→Qdb,length_filter_le→Qdd,getElem?_eq_none→Qde,nil_append→Qdg,find?_cons→Qdh,sum_cons→Qdo,getElem_of_mem→Qdq,nodup_nil→Qds,not_lt→Qdu,drop_append_of_le_length→Qdv,getElem?_reverse→Qd1,length_range→Qd2,ext_getElem?→Qd3,map_reverse→Qd7,map_id→Qec,take_succ_eq_append_getElem→Qeg,flatMap_singleton→Qeh,drop_eq_nil_of_le→Qei,le_trans→Qeq,any_cons→Qer,forIn_cons→Qev,mem_map_of_mem→Qex,perm_append_singleton→Qe3,getElem?_take→Qe4,drop_left→Qe5,drop_drop→Qe6,rel_of_pairwise_cons→Qe9,getLast?_eq_getElem?→Qfa,take_add_one→Qfb,reverse_perm→Qfc,idxOf_append→Qfd,foldl_append→Qfe,lt_trans→Qfh,getElem_map→Qfj,flatten_nil→Qfk,eraseIdx_cons_succ→Qfl,drop_append→Qfm,head?_eq_getElem?→Qfv,of_mem_zip→Qfz,length_nil→Qf0,idxOf_cons→Qf1,cons_lt_cons_iff→Qf4,reverse_reverse→Qf6,length_dropLast→Qf7,flatten_append→Qf9,filterMap_cons→Qga,map_take→Qgd,take_sublist→Qgk,reverse_cons→Qgl,filter_congr→Qgm,any_eq_false→Qgn,take_append→Qgt,le_antisymm→Qgu,flatMap_nil→Qgv,filter_cons→Qgw
open PySem.Heap renaming get?_push_of_some→kb,get?_push_size→Qav,lt_size→Qax,get?_update_other→Qbe,get?_update_self→Qcy,size_push→Qdz
open Nat renaming le_refl→Qaa,zero_le→Qau,ne_of_lt→Qa1,lt_of_lt_of_le→Qa2,le_trans→Qa7,lt_of_le_of_lt→Qbm,add_sub_cancel_left→Qbo,min_eq_left→Qbs,le_of_lt→Qbu,lt_irrefl→Qb1,zero_add→Qcq,min_eq_right→Qcr,lt_succ_self→Qcz,lt_succ_of_lt→Qc6,mul_comm→Qc8,succ_le_succ→Qc9,le_antisymm→Qdf,sub_zero→Qdi,sub_self→Qdj,le_succ→Qdk,add_zero→Qdl,mod_eq_of_lt→Qdr,lt_or_gt_of_ne→Qdw,not_lt_zero→Qdx,max_eq_left→Qdy,eq_of_beq_eq_true→Qd0,mod_lt→Qd4,max_eq_right→Qd5,lt_trans→Qd6,add_assoc→Qeb,ne_of_gt→Qed,eq_zero_of_not_pos→Qee,dvd_of_mod_eq_zero→Qef,succ_ne_zero→Qep,pow_le_pow_right→Qet,div_add_mod→Qeu,succ_mul→Qey,lt_asymm→Qez,pos_of_ne_zero→Qe2,succ_ne_self→Qfi,le_of_eq→Qfu,mod_add_div→Qfy,le_of_ble_eq_true→Qf2,div_lt_iff_lt_mul→Qf3,le_of_dvd→Qgc,zero_mul→Qgi,succ_pos→Qgj,succ_lt_succ→Qgs,mul_add→Qgy
open Option.some renaming inj→Qal
open Int renaming toNat_natCast→Qan,emod_eq_of_lt→Qbg,natCast_add→Qbl,emod_lt_of_pos→Qcj,emod_nonneg→Qcp,add_emod_right→Qdc,natCast_emod→Qdt,zero_add→Qd8,add_zero→Qek,add_assoc→Qes,sub_zero→Qe0,add_mul_emod_self_left→Qe7,natCast_ediv→Qfn,emod_add_mul_ediv→Qf5,emod_emod_of_dvd→Qf8,natCast_nonneg→Qgh,sub_emod→Qgp,emod_sub_emod→Qgq,emod_add_emod→Qgr
open Array renaming toList_append→Qaz,length_toList→Qa6,getElem?_toList→Qbb,perm_iff_toList_perm→Qbt,toList_push→Qcb,toList_reverse→Qc1,toList_inj→Qd9
open Bool renaming false_ne_true→Qa8,and_eq_true→Qb4,false_eq_true→Qck,eq_iff_iff→Qew,decide_or→Qe8,not_true→Qgf,false_or→Qgg,or_eq_true→Qg0,decide_and→Qg1
open PySem.F renaming plainAttrs_str→Qbd,plainAttrs_list→Qbn,plain_max_loop→Qc2,type_list_append→Qdm,slot_list_append→Qdn,type_str_join→Qel,type_list_pop→Qem,slot_str_join→Qen,slot_list_pop→Qeo,type_str_islower→Qff,slot_str_islower→Qfg,type_str_lower→Qfp,type_str_index→Qfq,slot_str_lower→Qfr,slot_str_index→Qfs,entry_max_loop→Qft
open PySem renaming boot_len→Qce,mem_of_lookup→Qea
open PySem.W renaming mg_none_of→Qci,callWith_K→Qe1,cellsFrom_some→Qfo,mg_of→Qgb
open List.Perm renaming append_left→Qcl,refl→Qej,append_right→Qfw,of_eq→Qgz
open PyProof.Rows renaming callWith_type1→Qcm
open List.Pairwise renaming imp_of_mem→Qdp,imp→Qgo
open Option renaming map_some→Qfx
open Int.ofNat renaming inj→Qge
open PySem.Heap.SameBut renaming update→Qgx
open Array.Perm renaming refl→Qg2
namespace L2
open PySem PySem.Spec PyProof.Rows
abbrev Key:=Sum Int Str
noncomputable def uy:Key->Value->Bool
 | .inl k,v=>Value.isInt k v
 | .inr x,v=>Value.isStrOf x v
noncomputable def W8(w:World):Key->Int
 | .inl k=>hashInt k
 | .inr x=>hashStr w x
theorem cw:∀{k:Key} {v:Value},uy k v=true->(∃i t,k=Sum.inl i/\v=Value.int i t)\/(∃x t,k=Sum.inr x/\v=Value.str x t)
 | .inl i,v,h=>by
  obtain ⟨t,e⟩:=Value.isInt_shape (k:=i) (v:=v) h
  exact .inl ⟨i,t,rfl,e⟩
 | .inr x,v,h=>by
  obtain ⟨t,e⟩:=Value.isStrOf_shape (x:=x) (v:=v) h
  exact .inr ⟨x,t,rfl,e⟩
theorem DH(i:Int)(t:Tok):uy (.inl i) (.int i t)=true:=by simp[uy,Value.isInt]
theorem DI(x:Str)(t:Tok):uy (.inr x) (.str x t)=true:=by simp[uy,Value.isStrOf]
theorem NX(a b:Int):decide ((Sum.inl a:Key)=Sum.inl b)=(a==b):=by
 by_cases e:a=b
 ·subst e;simp
 ·have h: ¬(Sum.inl a:Key)=Sum.inl b:=λq=>e (Sum.inl.inj q)
  rw[decide_eq_false h]
  exact (beq_eq_false_iff_ne.mpr e).symm
theorem NY(a b:Str):decide ((Sum.inr a:Key)=Sum.inr b)=decide (a=b):=by
 by_cases e:a=b
 ·subst e;simp
 ·have h: ¬(Sum.inr a:Key)=Sum.inr b:=λq=>e (Sum.inr.inj q)
  rw[decide_eq_false h,decide_eq_false e]
theorem NZ(a:Int)(b:Str):decide ((Sum.inl a:Key)=Sum.inr b)=false:=decide_eq_false (λq=>nomatch q)
theorem N0(a:Str)(b:Int):decide ((Sum.inr a:Key)=Sum.inl b)=false:=decide_eq_false (λq=>nomatch q)
noncomputable def cM(prog:Program)(w:World):PySem.KeyKind prog w Key where
 is:=uy
 hash:=W8 w
 inj:=λv a b ha hb=>by
  rcases cw ha with ⟨i,t,rfl,rfl⟩ | ⟨x,t,rfl,rfl⟩
  ·rcases cw hb with ⟨j,u,rfl,e⟩ | ⟨y,u,rfl,e⟩
   ·injection e with e1 _;rw[e1]
   ·exact nomatch e
  ·rcases cw hb with ⟨j,u,rfl,e⟩ | ⟨y,u,rfl,e⟩
   ·exact nomatch e
   ·injection e with e1 _;rw[e1]
 byValue:=λk v h=>by
  rcases cw h with ⟨i,t,rfl,rfl⟩ | ⟨x,t,rfl,rfl⟩<;>rfl
 pyHash:=λhv h=>by
  rcases cw hv with ⟨i,t,rfl,rfl⟩ | ⟨x,t,rfl,rfl⟩
  ·exact wpAny_pyHash_int h
  ·exact wpAny_pyHash_str h
 eqBool:=λhu hv h=>by
  rcases cw hu with ⟨i,t,rfl,rfl⟩ | ⟨x,t,rfl,rfl⟩
  ·rcases cw hv with ⟨j,u,rfl,rfl⟩ | ⟨y,u,rfl,rfl⟩
   ·rw[NX]at h;exact wpAny_eqBool_int h
   ·rw[NZ]at h;exact SeqAt.EqAt.int_str i t y u _ _ _ _ h
  ·rcases cw hv with ⟨j,u,rfl,rfl⟩ | ⟨y,u,rfl,rfl⟩
   ·rw[N0]at h;exact SeqAt.EqAt.str_int x t j u _ _ _ _ h
   ·rw[NY]at h;exact wpAny_eqBool_str h
 «strs» :=λk x t v h=>by
  rcases cw h with ⟨i,u,rfl,e⟩ | ⟨y,u,rfl,e⟩
  ·exact nomatch e
  ·injection e with e1 _
   subst e1
   cases v<;>rfl
theorem yj(prog:Program)(w:World)(i:Int)(t:Tok):(cM prog w).is (.inl i) (.int i t)=true:=DH i t
theorem yk(prog:Program)(w:World)(x:Str)(t:Tok):(cM prog w).is (.inr x) (.str x t)=true:=DI x t
inductive V where
 | gz | bl (b:Bool) | int (i:Int) | str (x:Str) | B4 (b:Array UInt8) | V8 (b:UInt64) | ref (a:Addr) | ty (n:String)
 deriving DecidableEq
def RelV:V->Value->Prop
 | .gz,u=>u=Value.none
 | .bl b,u=>u=Value.bool b
 | .int i,u=>∃t,u=Value.int i t
 | .str x,u=>∃t,u=Value.str x t
 | .B4 b,u=>∃t,u=Value.bytes b t
 | .V8 b,u=>∃t,u=Value.float b t
 | .ref a,u=>u=Value.ref a
 | .ty n,u=>u=Value.type n
abbrev Vals:List V->List Value->Prop:=Paired RelV
variable{xs:List V}{us:List Value}
theorem Vals.length(r:Vals xs us):(xs:)=(us:):=Paired.length r
theorem Vals.get:∀{xs:List V} {us:List Value} {i:Nat} {x:V},Vals xs us->xs[i]? =some x->∃u,us[i]? =some u/\RelV x u
 | _,_,_,_,.nil,e=>by simp at e
 | _,_,0,_,.cons r _,e=>by simp at e;subst e;exact ⟨_,rfl,r⟩
 | _,_,i+1,x,.cons _ t,e=>by
  obtain ⟨u,h1,h2⟩:=Vals.get (i:=i) (x:=x) t (by simpa using e)
  exact ⟨u,by simpa using h1,h2⟩
variable{u:Value}
theorem Vals.set{x:V}(r:RelV x u):∀{xs:List V} {us:List Value} (i:Nat),Vals xs us->Vals (xs.set i x) (us.set i u)
 | _,_,_,.nil=> .nil
 | _,_,0,.cons _ t=> .cons r t
 | _,_,i+1,.cons q t=> .cons q (Vals.set r i t)
theorem Vals.append:∀{xs ys:List V} {us ws:List Value},Vals xs us->Vals ys ws->Vals (xs++ys) (us++ws)
 | _,_,_,_,.nil,s=>s
 | _,_,_,_,.cons r t,s=> .cons r (Vals.append t s)
theorem Vals.take:∀{xs:List V} {us:List Value} (n:Nat),Vals xs us->Vals (xs.take n) (us.take n)
 | _,_,0,_=> .nil
 | _,_,_+1,.nil=> .nil
 | _,_,n+1,.cons r t=> .cons r (Vals.take n t)
theorem Vals.drop:∀{xs:List V} {us:List Value} (n:Nat),Vals xs us->Vals (xs.drop n) (us.drop n)
 | _,_,0,r=>r
 | _,_,_+1,.nil=> .nil
 | _,_,n+1,.cons _ t=>Vals.drop n t
def nF:Option V->Option Value->Prop
 | some v,some u=>RelV v u
 | none,none=>True
 | _,_=>False
def KV{κ:Type}:List (κ×V)->List (κ×Value)->Prop:=Paired λ(p:κ×V) (q:κ×Value)=>p.1=q.1/\RelV p.2 q.2
noncomputable def kV:Key->V
 | .inl i=> .int i
 | .inr x=> .str x
inductive HO where
  | lst (xs:List V)
  | tup (xs:List V)
  | dK (aI:List (Key×V)) | dT (aI:List (List Key×V))
  | set (S:Int->Bool) (n:Nat)
  | ins (C dx:Addr) (fs:List (Str×V))
  | own (x:Addr)
  | xd (fs:List (Str×V))
  | met (f x:Addr)
  | W9 (lo hi:Int)
  | DJ (o:Obj) (u:HO)
  | o_ (ps:Array Value)
  | ext (φ:Heap->Prop)
abbrev Hp:=Addr->Option HO
noncomputable def upd(H:Hp)(a:Addr)(o:HO):Hp:=λb=>if b=a then some o else H b
variable{H:Hp}{a:Addr}{o:HO}
theorem ae:upd H a o a=some o:=by unfold upd;rw[if_pos rfl]
variable{b:Addr}
theorem au(h:b≠a):upd H a o b=H b:=by unfold upd;rw[if_neg h]
theorem Td{u:HO}(h:H a=some o)(h':H b=some u)(d:o≠u):a≠b:=by
 intro e;subst e;rw[h]at h';exact d (Qal h')
theorem ao(h:H a=some o)(h':H b=none):a≠b:=by
 intro e;subst e;rw[h]at h';cases h'
section
variable(P:Program)(w:World)
def cC(H:Hp)(h:Heap)(a:Addr):HO->Prop
 | .lst xs=>(xs:)<=sizeLine/\∃(aK:List Value) (n:Nat),Vals xs aK/\h.get? a=some { cls:= .type "list",data:= .seq aK.toArray n }
 | .tup xs=>(xs:)<=sizeLine/\∃aK:List Value,Vals xs aK/\IsTup h a aK.toArray
 | .dK aI=>(aI:)<=sizeLine/\(a==sysModules)=false/\∃vs,KV aI vs/\h.DictOf (cM P w) a vs
 | .dT aI=>(aI:)<=sizeLine/\(a==sysModules)=false/\∃xs:List (List Key×Addr×Value),
   Paired (λ(p:List Key×V) (q:List Key×Addr×Value)=>p.1=q.1/\H q.2.1=some (.tup (p.1.map kV))/\RelV p.2 q.2.2) aI xs/\
   ∃o es ep,h.get? a=some o/\o.ExactDict/\o.data= .dict es ep/\es.toList=xs.map (entryOfKey (tupleKind (cM P w)))/\(xs.map (·.1)).Nodup
 | .set S n=>h.SetOf (intKind P w) a S n
 | .ins C dx fs=>H dx=some (.own a)/\(fs:)<=1000/\dx≠a/\h.get? a=some (PySem.W.instObj C dx)/\
   ∃mA,h.Ns1 dx mA/\(∀f,nF (fs.lookup f) (mA f))/\PySem.Within mA (fs.map (·.1))
 | .own _=>∃o,h.get? a=some o
 | .xd fs=>∃mA,h.Ns1 a mA/\∀f,nF (fs.lookup f) (mA f)
 | .W9 lo hi=>∃t u v,h.get? a=some { cls:= .type "range",data:= .fields #[.int lo t,.int hi u,.int 1 v] }
 | .DJ o u=>h.get? a=some o/\cC H h a u
 | .o_ ps=>h.get? a=some { cls:= .none,data:= .fields ps }
 | .met f x=>h.get? a=some (PySem.W.methodObj (.ref f) (.ref x))
 | .ext φ=>φ h/\(∃o,h.get? a=some o)/\∀h1 h2:Heap,φ h1->(∀o,h1.get? a=some o->h2.get? a=some o)->φ h2
def lO(H:Hp)(h:Heap):Prop:=∀a o,H a=some o->cC P w H h a o
end
section
variable{P:Program}{w:World}{H H':Hp}{h h':Heap}{a:Addr}{o:HO}
theorem cC.lt(x:cC P w H h a o):a<h.objs.size:=by
 cases o with
 | lst xs=>obtain ⟨_,_,_,_,e⟩:=x;exact Qax e
 | tup xs=>obtain ⟨_,_,_,p⟩:=x;exact p.lt
 | dK aI=>obtain ⟨_,_,_,_,o,_,_,e,_⟩:=x;exact Qax e
 | dT aI=>obtain ⟨_,_,_,_,o,_,_,e,_⟩:=x;exact Qax e
 | set S n=>obtain ⟨o,_,_,_,e,_⟩:=x;exact Qax e
 | ins C dx fs=>obtain ⟨_,_,_,e,_⟩:=x;exact Qax e
 | own y=>obtain ⟨_,e⟩:=x;exact Qax e
 | xd fs=>obtain ⟨_,⟨_,_,_,e,_⟩,_⟩:=x;exact Qax e
 | W9 lo hi=>obtain ⟨_,_,_,e⟩:=x;exact Qax e
 | DJ ob u=>obtain ⟨e,_⟩:=x;exact Qax e
 | o_ ps=>exact Qax (show h.get? a=some _ from x)
 | met f y=>exact Qax (show h.get? a=some _ from x)
 | ext φ=>obtain ⟨_,⟨_,e⟩,_⟩:=x;exact Qax e
theorem Paired.N1{α β:Type}{F G:α->β->Prop}:∀{l₁:List α} {l₂:List β},Paired F l₁ l₂->(∀a b,F a b->G a b)->Paired G l₁ l₂
 | _,_,.nil,_=> .nil
 | _,_,.cons r t,f=> .cons (f _ _ r) (Paired.N1 t f)
theorem cC.tI(x:cC P w H h a o)(k:∀b u,(b=a\/H b=some (.own a))->h.get? b=some u->h'.get? b=some u)
  (ho:∀b,H b=some (.own a)->H' b=some (.own a)) (ht:∀b xs,H b=some (.tup xs)->H' b=some (.tup xs)):cC P w H' h' a o:=by
 induction o with
 | lst xs=>obtain ⟨z,aK,n,r,e⟩:=x;exact ⟨z,aK,n,r,k _ _ (.inl rfl) e⟩
 | tup xs=>obtain ⟨z,aK,r,ob,e,c⟩:=x;exact ⟨z,aK,r,ob,k _ _ (.inl rfl) e,c⟩
 | dK aI=>obtain ⟨z,y,vs,r,ob,es,ep,e,c⟩:=x;exact ⟨z,y,vs,r,ob,es,ep,k _ _ (.inl rfl) e,c⟩
 | dT aI=>
  obtain ⟨z,y,xs,r,ob,es,ep,e,c⟩:=x
  exact ⟨z,y,xs,Paired.N1 r λp q z=>⟨z.1,ht _ _ z.2.1,z.2.2⟩,ob,es,ep,k _ _ (.inl rfl) e,c⟩
 | set S n=>obtain ⟨ob,es,ep,t,e,c⟩:=x;exact ⟨ob,es,ep,t,k _ _ (.inl rfl) e,c⟩
 | ins C dx fs=>
  obtain ⟨d,z,ne,e,mA,⟨od,es,ep,e2,c⟩,r⟩:=x
  exact ⟨ho _ d,z,ne,k _ _ (.inl rfl) e,mA,⟨od,es,ep,k _ _ (.inr d) e2,c⟩,r⟩
 | own y=>obtain ⟨ob,e⟩:=x;exact ⟨ob,k _ _ (.inl rfl) e⟩
 | xd fs=>obtain ⟨mA,⟨od,es,ep,e,c⟩,r⟩:=x;exact ⟨mA,⟨od,es,ep,k _ _ (.inl rfl) e,c⟩,r⟩
 | W9 lo hi=>obtain ⟨t,u,v,e⟩:=x;exact ⟨t,u,v,k _ _ (.inl rfl) e⟩
 | DJ ob u ih=>obtain ⟨e,q⟩:=x;exact ⟨k _ _ (.inl rfl) e,ih q⟩
 | o_ ps=>
  have e:h.get? a=some { cls:= .none,data:= .fields ps }:=x
  show h'.get? a=some { cls:= .none,data:= .fields ps }
  exact k a _ (.inl rfl) e
 | met f y=>
  have e:h.get? a=some (PySem.W.methodObj (.ref f) (.ref y)):=x
  show h'.get? a=some (PySem.W.methodObj (.ref f) (.ref y))
  exact k a _ (.inl rfl) e
 | ext φ=>obtain ⟨p,⟨o,e⟩,st⟩:=x;exact ⟨st _ _ p λo q=>k _ _ (.inl rfl) q,⟨o,k _ _ (.inl rfl) e⟩,st⟩
theorem lO.lt(x:lO P w H h)(e:H a=some o):a<h.objs.size:=(x a o e).lt
theorem lO.fresh(x:lO P w H h)(e:h.objs.size<=a):H a=none:=by
 cases q:H a with
 | none=>rfl
 | some u=>exact absurd (Qa2 (x.lt q) e) (Qb1 _)
theorem lO.kept(x:lO P w H h)(k:∀b u,h.get? b=some u->h'.get? b=some u):lO P w H h':=λa o e=>
 (x a o e).tI (λb u _ q=>k b u q) (λ_ q=>q) λ_ _ q=>q
theorem lO.laid(x:lO P w H h)(k:∀b u,h.get? b=some u->h'.get? b=some u)(hp:h.objs.size<=a)(new:cC P w (upd H a o) h' a o):lO P w (upd H a o) h':=λb u e=>by
 have hn:=x.fresh hp
 by_cases hb:b=a
 ·subst hb;rw[ae]at e;cases e;exact new
 ·rw[au hb]at e
  exact (x b u e).tI (λc v _ q=>k c v q) (λc q=>by rw[au (ao q hn)];exact q) λc xs q=>by rw[au (ao q hn)];exact q
end
def Rd(H:Hp)(a:Addr)(u:HO):Prop:=H a=some u\/∃o,H a=some (.DJ o u)
theorem Rd.ok{P:Program}{w:World}{h:Heap}{u:HO}(r:Rd H a u)(x:lO P w H h):cC P w H h a u:=by
 rcases r with r | ⟨o,r⟩
 ·exact x a u r
 ·obtain ⟨_,q⟩:=x a _ r
  exact q
def Te:Option HO->Prop
 | some (.lst _)=>True
 | some (.dK _)=>True
 | some (.dT _)=>True
 | some (.set _ _)=>True
 | some (.ins _ _ _)=>True
 | some (.ext _)=>True
 | _=>False
section
variable{P:Program}{w:World}{H:Hp}{h h':Heap}{x e:Addr}{o':HO}
theorem lO.write(ok:lO P w H h)(mu:Te (H x))(he:e=x\/H e=some (.own x))(k:∀b u,b≠e->h.get? b=some u->h'.get? b=some u)(RB:∃u,h'.get? e=some u)
  (new:cC P w (upd H x o') h' x o'):lO P w (upd H x o') h':=λb u q=>by
 have Tf:∀c y,H c=some (.own y)->c≠x:=λc y r z=>by subst z;rw[r]at mu;exact mu
 have W_:∀c xs,H c=some (.tup xs)->c≠x:=λc xs r z=>by subst z;rw[r]at mu;exact mu
 by_cases hb:b=x
 ·subst hb;rw[ae]at q;cases q;exact new
 ·rw[au hb]at q
  by_cases N2:b=e
  ·have q':H b=some (.own x):=by
    rcases he with z | z
    ·exact absurd (N2.trans z) hb
    ·rw[N2];exact z
   rw[q]at q';cases q'
   obtain ⟨v,hv⟩:=RB
   exact ⟨v,by rw[N2];exact hv⟩
  ·refine (ok b u q).tI (λc v hc r=>k c v ?_ r) (λc r=>by rw[au (Tf c b r)];exact r) λc xs r=>by rw[au (W_ c xs r)];exact r
   rcases hc with rfl | hc
   ·exact N2
   ·rintro rfl
    rcases he with z | z
    ·exact Tf c b hc z
    ·rw[hc]at z;cases z;exact hb rfl
end
structure Un(fs ex:List Addr)(H H':Hp)(h h':Heap):Prop where
 keep:∀b o,h.get? b=some o->H b=none->b∉fs->b∉ex->h'.get? b=some o
 slot:∀b o,h.get? b=some o->H b=none->b∈fs->b∉ex->∃sl,h'.get? b=some { o with slots:=sl }
 free:∀b o,h.get? b=some o->H b=none->b∉ex->H' b=none
 there:∀b o,h.get? b=some o->b∉ex->∃o',h'.get? b=some o'
 nG:∀b xs,H b=some (.tup xs)->H' b=some (.tup xs)
 qy:∀b o u,H b=some (.DJ o u)->H' b=some (.DJ o u)
 tJ:∀b ps,H b=some (.o_ ps)->∃more,H' b=some (.o_ (ps++more))
section
variable{fs fs' ex ex':List Addr}{H H1 H2:Hp}{h h1 h2 h':Heap}{a x e:Addr}{o:HO}
theorem Un.any(u:Un fs ex H H1 h h1){ob:Obj}(q:h.get? b=some ob)(n:H b=none)(hx:b∉ex):∃sl,h1.get? b=some { ob with slots:=sl }:=by
 by_cases hb:b∈fs
 ·exact u.slot b ob q n hb hx
 ·exact ⟨ob.slots,u.keep b ob q n hb hx⟩
theorem Un.kept(k:∀b u,h.get? b=some u->h'.get? b=some u):Un fs ex H H h h':=
 ⟨λb ob q _ _ _=>k b ob q,λb ob q _ _ _=>⟨ob.slots,k b ob q⟩,λ_ _ _ n _=>n,λb ob q _=>⟨ob,k b ob q⟩,λ_ _ q=>q,λ_ _ _ q=>q,λ_ ps q=>⟨#[],by rw[q];simp⟩⟩
theorem Un.refl:Un fs ex H H h h:=Un.kept λ_ _ q=>q
theorem Un.laid(k:∀b u,h.get? b=some u->h'.get? b=some u)(hp:h.objs.size<=a)(hn:H a=none):Un fs ex H (upd H a o) h h' where
 keep:=λb u q _ _ _=>k b u q
 slot:=λb u q _ _ _=>⟨u.slots,k b u q⟩
 free:=λb u q n _=>by rw[au (Qa1 (Qa2 (Qax q) hp))];exact n
 there:=λb u q _=>⟨u,k b u q⟩
 nG:=λb xs q=>by rw[au (ao q hn)];exact q
 qy:=λb u xs q=>by rw[au (ao q hn)];exact q
 tJ:=λb ps q=>⟨#[],by rw[au (ao q hn),q];simp⟩
theorem Un.write(mu:Te (H x))(he:e=x\/H e=some (.own x))(k:∀b u,b≠e->h.get? b=some u->h'.get? b=some u)(RB:∃u,h'.get? e=some u):Un fs ex H (upd H x o) h h':=by
 have hx:∀b,H b=none->b≠x:=λb n z=>by subst z;rw[n]at mu;exact mu
 have hb:∀b,H b=none->b≠e:=λb n z=>by
  subst z
  rcases he with r | r
  ·exact hx b n r
  ·rw[n]at r;cases r
 have hm:∀b u,H b=some u-> ¬Te (some u)->b≠x:=λb u q nm z=>by subst z;rw[q]at mu;exact nm mu
 refine ⟨λb u q n _ _=>k b u (hb b n) q,λb u q n _ _=>⟨u.slots,k b u (hb b n) q⟩,λb u q n _=>by rw[au (hx b n)];exact n,λb u q _=>?_,
  λb xs q=>by rw[au (hm b _ q λz=>z)];exact q,λb u xs q=>by rw[au (hm b _ q λz=>z)];exact q,λb ps q=>⟨#[],by rw[au (hm b _ q λz=>z),q];simp⟩⟩
 by_cases N2:b=e
 ·subst N2;exact RB
 ·exact ⟨u,k b u N2 q⟩
end
noncomputable def V9(h:Heap)(H:Hp):List Addr:=(List.range h.objs.size).filter λa=>(H a).isSome
noncomputable def tK(h:Heap)(H:Hp):Heap:=PySem.W.hideAll h (V9 h H)
theorem DK(h:Heap)(H:Hp):(tK h H).objs.size=h.objs.size:=PySem.W.hideAll_size _ _
theorem FG{h:Heap}{o:Obj}(e:h.get? b=some o)(n:H b=none):(tK h H).get? b=some o:=
 PySem.W.hideAll_get _ e λhm=>by
  have q:(H b).isSome=true:=(Qbq.mp hm).2
  rw[n]at q;simp at q
theorem Ke{h:Heap}{o:Obj}(e:(tK h H).get? b=some o):h.get? b=some o/\H b=none:=by
 have e':h.get? b=some o:=PySem.W.of_hideAll (V9 h H) e
 refine ⟨e',?_⟩
 cases q:H b with
 | none=>rfl
 | some x=>
  have hm:b∈V9 h H:=Qbq.mpr ⟨Qbr.mpr (Qax e'),by simp[q]⟩
  have z:(tK h H).get? b=none:=PySem.W.hideAll_none (V9 h H) hm
  rw[z]at e;cases e
structure Mod(K:c8)(mg:Str->Option Value)(base:Heap):Prop where
 RC:K.In base
 glob:base.Ns mainGlobals mg
 blt:∃mb,base.Ns builtinsNs mb/\∀x:Str,x≠"__name__"->mb x=bootBuiltins x
 nolimit:base.NoLimit
structure Cx where
 prog:Program
 w:World
 K:c8
 mg:Str->Option Value
 base:Heap
 A:Around
 N:List Str
 s₀:Shared
 H₀:Hp
 env:Env
 outer:List Env
 stack:List Env
 ex:List Addr
 fn:Str->Bool
 calm:Bool
 pn:List (Addr×Obj)
 xe:Value->Shared->Prop
noncomputable def B5(l:List Env):List Addr:=l.filterMap (·.frame)
noncomputable abbrev Cx.fs(X:Cx):List Addr:=B5 X.outer
def Tg(sc:Scope)(x:Str):Prop:=sc.names.lookup x=some .local\/sc.names.lookup x=some .cell\/sc.names.lookup x=some .free
def Loc(sc:Scope)(x:Str):Prop:=sc.names.lookup x=some .local\/sc.names.lookup x=some .cell
def Look(env:Env)(h:Heap)(m:Str->Option Value)(x:Str)(u:Value):Prop:=
 (env.kindOf x=some .local/\m x=some u)\/((env.kindOf x=some .cell\/env.kindOf x=some .free)/\∃c,env.cells.lookup x=some c/\h.IsCell c (some u))
structure Cx.Ok(X:Cx):Prop where
 mod:Mod X.K X.mg X.base
 kind:X.env.scope.kind= .function
 glob:X.env.globals=mainGlobals
 blt:X.env.builtins=builtinsNs
 above:X.s₀.heap.objs.size<=X.env.locals
 inj:∀x y c,X.env.cells.lookup x=some c->X.env.cells.lookup y=some c->x=y
 has:∀x,(X.env.kindOf x=some .cell\/X.env.kindOf x=some .free)->∃c,X.env.cells.lookup x=some c
 Th:∀x c,X.fn x=true->X.env.cells.lookup x=some c->X.s₀.heap.objs.size<=c
 hd:X.calm=true->X.A.handled=none
 frames:X.A.frames=some X.stack
 V_:X.stack=X.outer\/(X.stack=X.env::X.outer/\X.env.frame=some X.env.locals)
 ZZ:∀b∈X.ex,b≠X.env.locals/\∀x c,X.env.cells.lookup x=some c->c≠b
 bs:∀b o,X.base.get? b=some o->X.s₀.heap.get? b=some o/\X.H₀ b=none
 JT:X.base.objs.size<=X.s₀.heap.objs.size
 FH:∀b o,X.base.get? b=some o->b∉X.ex
 Kf:∀b∈X.ex,b∉X.fs
 nH:X.s₀.heap.FunFrames X.base X.outer
 MO:∀b∈X.fs,X.H₀ b=none
structure Inv(X:Cx)(pins:List (Addr×Obj))(σ:List (Option V))(H:Hp)(s:Shared):Prop where
 ok:X.Ok
 os:s.os=X.s₀.os
 bare:AllBare s.gens
 base:Un X.fs X.ex X.H₀ H X.s₀.heap s.heap
 loc:∃m,s.heap.Ns X.env.locals m/\∀(i:Nat) (x:Str) (v:V),X.N[i]? =some x->σ[i]? =some (some v)->Tg X.env.scope x->∃u,RelV v u/\Look X.env s.heap m x u
 cell:∀x c,X.env.cells.lookup x=some c->∃v,s.heap.IsCell c v
 free:H X.env.locals=none
 jr:∀x c,X.env.cells.lookup x=some c->H c=none
 pin:∀p∈X.pn++pins,s.heap.get? p.1=some p.2/\H p.1=none/\p.1≠X.env.locals/\p.1∉X.fs/\∀v,p.2.data≠ .cell v
 bU:lO X.prog X.w H s.heap
 len:σ.length=X.N.length
variable{x:Str}{g':Array GenState}{t' i j:Nat}{d':Drawn}{ch:List Addr}{it:Addr}{N:List Str}{M:Model}{A:Around}{E:Value->Shared->Prop}{v:V}{s':Shared}
section
variable{X:Cx}{pins:List (Addr×Obj)}{σ:List (Option V)}{H H':Hp}{s:Shared}{h':Heap}
theorem Cx.Ok.Xa(ok:X.Ok){o:Obj}(e:X.base.get? b=some o):b∉X.fs:=λhb=>by
 have:=(ok.nH.mem hb).1
 rw[e]at this;cases this
theorem Inv.bs(I:Inv X pins σ H s):∀b o,X.base.get? b=some o->s.heap.get? b=some o/\H b=none:=λb o e=>
 ⟨I.base.keep b o (I.ok.bs b o e).1 (I.ok.bs b o e).2 (I.ok.Xa e) (I.ok.FH b o e),I.base.free b o (I.ok.bs b o e).1 (I.ok.bs b o e).2 (I.ok.FH b o e)⟩
theorem Inv.bk(I:Inv X pins σ H s):∀b o,X.base.get? b=some o->s.heap.get? b=some o:=λb o e=>(I.bs b o e).1
theorem Inv.mod(I:Inv X pins σ H s):Mod X.K X.mg X.base:=I.ok.mod
theorem Inv.Ak(I:Inv X pins σ H s):X.K.In s.heap:=I.ok.mod.RC.keeps I.bk
theorem Inv.lt(I:Inv X pins σ H s):X.env.locals<s.heap.objs.size:=let ⟨_,hn,_⟩:=I.loc;hn.lt
theorem Inv.sz(I:Inv X pins σ H s):X.s₀.heap.objs.size<=s.heap.objs.size:=Qa7 I.ok.above (Qbu I.lt)
theorem Inv.Kg(I:Inv X pins σ H s)(h:s.heap.objs.size<=a):a∉X.fs:=λhb=>by
 obtain ⟨_,o,ho,_⟩:=I.ok.nH.mem hb
 exact absurd (Qa2 (Qax ho) (Qa7 I.sz h)) (Qb1 _)
theorem Inv.N3(I:Inv X pins σ H s):∀x c,X.env.cells.lookup x=some c->c≠X.env.locals:=λx c e z=>by
 obtain ⟨v,o,ho,hd⟩:=I.cell x c e
 obtain ⟨m,⟨o',es,ep,B6,Xb,_⟩,_⟩:=I.loc
 rw[z,B6]at ho;cases ho;rw[Xb]at hd;cases hd
theorem Inv.nH(I:Inv X pins σ H s):s.heap.FunFrames X.base X.outer:=by
 have all:∀(l:List Env),(∀b∈B5 l,b∈X.fs)->X.s₀.heap.FunFrames X.base l->s.heap.FunFrames X.base l:=by
  intro l
  induction l with
  | nil=>intro _ _;trivial
  | cons env r ih=>
   intro hs hl
   obtain ⟨hk,⟨L,o,hf,hn,ho,hd⟩,hr⟩:=hl
   have hL:L∈X.fs:=hs L (by unfold B5;rw[Qga,hf];exact Qac)
   obtain ⟨sl,e⟩:=I.base.slot L o ho (I.ok.MO L hL) hL λz=>I.ok.Kf L z hL
   exact ⟨hk,⟨L,_,hf,hn,e,hd⟩,ih (λb hb=>hs b (by unfold B5;rw[Qga,hf];exact Qae _ hb)) hr⟩
 exact all X.outer (λ_ hb=>hb) I.ok.nH
theorem Inv.stack(I:Inv X pins σ H s):s.heap.FunFrames X.base X.stack:=by
 rcases I.ok.V_ with e | ⟨e,hf⟩
 ·rw[e];exact I.nH
 ·rw[e]
  obtain ⟨m,hn,_⟩:=I.loc
  refine .cons (by rw[I.ok.kind];decide) hf hn ?_ I.nH
  exact Heap.get?_none_of_le (Qa7 I.ok.JT I.ok.above)
theorem Inv.qz(I:Inv X pins σ H s):∀b∈B5 X.stack,b∈X.env.locals::X.fs:=λb hb=>by
 rcases I.ok.V_ with e | ⟨e,hf⟩
 ·rw[e]at hb;exact Qae _ hb
 ·rw[e]at hb
  unfold B5 at hb
  rw[Qga,hf]at hb
  exact hb
theorem Inv.B7(I:Inv X pins σ H s):∀b∈B5 X.stack,H b=none:=λb hb=>by
 rcases Qaf.mp (I.qz b hb) with e | hb
 ·rw[e];exact I.free
 ·obtain ⟨_,o,ho,_⟩:=I.ok.nH.mem hb
  exact I.base.free b o ho (I.ok.MO b hb) λz=>I.ok.Kf b z hb
theorem Inv.step(I:Inv X pins σ H s)
  (JU:∀b∈ch,(b∈X.ex\/X.s₀.heap.objs.size<=b)/\b≠X.env.locals/\(∀x c,X.env.cells.lookup x=some c->c≠b)/\∀p∈X.pn++pins,p.1≠b)
  (keep:∀b o,b≠X.env.locals->b∉X.fs->b∉ch->s.heap.get? b=some o->H b=none->h'.get? b=some o)
  (slot:∀b o,b≠X.env.locals->b∈X.fs->b∉ch->s.heap.get? b=some o->H b=none->∃sl,h'.get? b=some { o with slots:=sl }) (free:∀b o,b∉ch->s.heap.get? b=some o->H b=none->H' b=none)
  (there:∀b o,b∉ch->s.heap.get? b=some o->∃o',h'.get? b=some o')
  (nG:∀b xs,H b=some (.tup xs)->H' b=some (.tup xs)) (qy:∀b o u,H b=some (.DJ o u)->H' b=some (.DJ o u)) (tJ:∀b ps,H b=some (.o_ ps)->∃more,H' b=some (.o_ (ps++more)))
  (ns:∀m,s.heap.Ns X.env.locals m->h'.Ns X.env.locals m) (bU:lO X.prog X.w H' h') (hg:AllBare g'):
  Inv X pins σ H' { s with heap:=h',gens:=g',drawn:=d',toks:=t' }:=by
 have Z_:∀b o,X.s₀.heap.get? b=some o->b≠X.env.locals:=λb o e=>Qa1 (Qa2 (Qax e) I.ok.above)
 have N4:∀b o,X.s₀.heap.get? b=some o->b∉X.ex->b∉ch:=λb o e hx hb=>by
  rcases (JU b hb).1 with z | z
  ·exact hx z
  ·exact absurd (Qa2 (Qax e) z) (Qb1 _)
 have cellK:∀x c,X.env.cells.lookup x=some c->∀v,s.heap.IsCell c v->h'.IsCell c v:=λx c e v ⟨o,ho,hd⟩=>by
  have Ti:c∉ch:=λz=>(JU c z).2.2.1 x c e rfl
  by_cases hc:c∈X.fs
  ·obtain ⟨sl,q⟩:=slot c o (I.N3 x c e) hc Ti ho (I.jr x c e)
   exact ⟨_,q,hd⟩
  ·exact ⟨o,keep c o (I.N3 x c e) hc Ti ho (I.jr x c e),hd⟩
 refine ⟨I.ok,I.os,hg,⟨λb o e n hb hx=>?_,λb o e n hb hx=>?_,λb o e n hx=>?_,λb o e hx=>?_,λb xs e=>nG b xs (I.base.nG b xs e),λb o xs e=>qy b o xs (I.base.qy b o xs e),λb ps e=>?_⟩,?_,λx c e=>?_,?_,λx c e=>?_,λp hp=>?_,bU,I.len⟩
 ·exact keep b o (Z_ b o e) hb (N4 b o e hx) (I.base.keep b o e n hb hx) (I.base.free b o e n hx)
 ·obtain ⟨sl,e1⟩:=I.base.slot b o e n hb hx
  obtain ⟨sl',e2⟩:=slot b _ (Z_ b o e) hb (N4 b o e hx) e1 (I.base.free b o e n hx)
  exact ⟨sl',e2⟩
 ·obtain ⟨o',e1⟩:=I.base.there b o e hx
  exact free b o' (N4 b o e hx) e1 (I.base.free b o e n hx)
 ·obtain ⟨o',e1⟩:=I.base.there b o e hx
  exact there b o' (N4 b o e hx) e1
 ·obtain ⟨m1,e1⟩:=I.base.tJ b ps e
  obtain ⟨m2,e2⟩:=tJ b _ e1
  exact ⟨m1++m2,by rw[e2,Array.append_assoc]⟩
 ·obtain ⟨m,hn,hl⟩:=I.loc
  refine ⟨m,ns m hn,λi x v e1 e2 e3=>?_⟩
  obtain ⟨u,r,l⟩:=hl i x v e1 e2 e3
  refine ⟨u,r,?_⟩
  rcases l with l | ⟨k,c,e,z⟩
  ·exact .inl l
  ·exact .inr ⟨k,c,e,cellK x c e _ z⟩
 ·obtain ⟨v,z⟩:=I.cell x c e
  exact ⟨v,cellK x c e v z⟩
 ·obtain ⟨m,⟨o,_,_,ho,_⟩,_⟩:=I.loc
  exact free _ o (λz=>(JU _ z).2.1 rfl) ho I.free
 ·obtain ⟨v,o,ho,hd⟩:=I.cell x c e
  exact free c o (λz=>(JU c z).2.2.1 x c e rfl) ho (I.jr x c e)
 ·obtain ⟨e,n,ne,nf,d⟩:=I.pin p hp
  have Ti:p.1∉ch:=λz=>(JU p.1 z).2.2.2 p hp rfl
  exact ⟨keep p.1 p.2 ne nf Ti e n,free p.1 p.2 Ti e n,ne,nf,d⟩
theorem Inv.un(I:Inv X pins σ H s)(u:Un X.fs [] H H' s.heap h')(bU:lO X.prog X.w H' h'):Inv X pins σ H' { s with heap:=h',toks:=t' }:=by
 obtain ⟨m,⟨o,es,ep,ho,r⟩,_⟩:=id I.loc
 obtain ⟨sl,hL⟩:=u.any ho I.free (by simp)
 exact I.step (g':=s.gens) (d':=s.drawn) (ch:=[]) (λ_ z=>nomatch z) (λb o _ hb _ e n=>u.keep b o e n hb (by simp)) (λb o _ hb _ e n=>u.slot b o e n hb (by simp)) (λb o _ e n=>u.free b o e n (by simp)) (λb o _ e=>u.there b o e (by simp)) u.nG u.qy u.tJ (λm' hm=>by
  obtain ⟨o',Xc,N5,B6,r'⟩:=hm
  rw[ho]at B6;cases B6
  exact ⟨_,Xc,N5,hL,r'⟩) bU I.bare
theorem Inv.call(I:Inv X pins σ H s)(u:Un (B5 X.stack) ch H H' s.heap h')(bU:lO X.prog X.w H' h')(hg:AllBare g')
  (JU:∀b∈ch,(b∈X.ex\/X.s₀.heap.objs.size<=b)/\b≠X.env.locals/\(∀x c,X.env.cells.lookup x=some c->c≠b)/\∀p∈X.pn++pins,p.1≠b):
  Inv X pins σ H' { s with heap:=h',gens:=g',drawn:=d',toks:=t' }:=by
 obtain ⟨m,⟨o,es,ep,ho,r⟩,_⟩:=id I.loc
 obtain ⟨sl,hL⟩:=u.any ho I.free λz=>(JU _ z).2.1 rfl
 exact I.step (ch:=ch) JU (λb o hL hb hc e n=>u.keep b o e n (λz=>(Qaf.mp (I.qz b z)).elim hL hb) hc) (λb o _ _ hc e n=>u.any e n hc) (λb o hc e n=>u.free b o e n hc) (λb o hc e=>u.there b o e hc) u.nG u.qy u.tJ (λm' hm=>by
  obtain ⟨o',Xc,N5,B6,r'⟩:=hm
  rw[ho]at B6;cases B6
  exact ⟨_,Xc,N5,hL,r'⟩) bU hg
theorem Inv.turned(I:Inv X pins σ H s)(k:∀b o,b≠it->s.heap.get? b=some o->h'.get? b=some o)(hn:H it=none)(hL:it≠X.env.locals)
  (h1:it∈X.ex\/X.s₀.heap.objs.size<=it) (h2:∀x c,X.env.cells.lookup x=some c->c≠it) (h3:∀p∈X.pn++pins,p.1≠it):Inv X pins σ H { s with heap:=h',toks:=t' }:=by
 have MP:∀b u,H b=some u->b≠it:=λb u e z=>by rw[z,hn]at e;cases e
 refine I.step (g':=s.gens) (d':=s.drawn) (ch:=[it]) (λb hb=>?_) (λb o _ _ hc e _=>k b o (λz=>hc (by simp[z])) e) (λb o _ _ hc e _=>⟨o.slots,k b o (λz=>hc (by simp[z])) e⟩) (λ_ _ _ _ n=>n)
  (λb o hc e=>⟨o,k b o (λz=>hc (by simp[z])) e⟩) (λ_ _ e=>e) (λ_ _ _ e=>e) (λb ps e=>⟨#[],by rw[e];simp⟩) (λm hm=>?_) (λb u e=>?_) I.bare
 ·have e:b=it:=by simpa using hb
  subst e
  exact ⟨h1,hL,h2,h3⟩
 ·obtain ⟨o,es,ep,ho,r⟩:=hm
  exact ⟨o,es,ep,k _ o (Ne.symm hL) ho,r⟩
 ·refine (I.bU b u e).tI (λc v hc q=>k c v ?_ q) (λ_ q=>q) λ_ _ q=>q
  rcases hc with z | z
  ·rw[z];exact MP b u e
  ·exact MP c _ z
theorem Inv.tok(I:Inv X pins σ H s)(t:Nat):Inv X pins σ H { s with toks:=t }:=I.un (h':=s.heap) (t':=t) Un.refl I.bU
theorem Inv.kept(I:Inv X pins σ H s)(k:∀b u,s.heap.get? b=some u->h'.get? b=some u):Inv X pins σ H { s with heap:=h',toks:=t' }:=I.un (Un.kept k) (I.bU.kept k)
theorem Inv.laid(I:Inv X pins σ H s)(k:∀b u,s.heap.get? b=some u->h'.get? b=some u)(hp:s.heap.objs.size<=a)(new:cC X.prog X.w (upd H a o) h' a o):
  Inv X pins σ (upd H a o) { s with heap:=h',toks:=t' }:=I.un (Un.laid k hp (I.bU.fresh hp)) (I.bU.laid k hp new)
theorem Inv.write{x e:Addr}(I:Inv X pins σ H s)(mu:Te (H x))(he:e=x\/H e=some (.own x))(k:∀b u,b≠e->s.heap.get? b=some u->h'.get? b=some u)(RB:∃u,h'.get? e=some u)
  (new:cC X.prog X.w (upd H x o) h' x o):Inv X pins σ (upd H x o) { s with heap:=h',toks:=t' }:=I.un (Un.write mu he k RB) (I.bU.write mu he k RB new)
theorem Inv.weak{σ':List (Option V)}(I:Inv X pins σ H s)(hl:σ'.length=σ.length)(w:∀(i:Nat) v,σ'[i]? =some (some v)->σ[i]? =some (some v)):Inv X pins σ' H s:=
 ⟨I.ok,I.os,I.bare,I.base,let ⟨m,hn,Ac⟩:=I.loc;⟨m,hn,λi x v e1 e2 e3=>Ac i x v e1 (w i v e2) e3⟩,I.cell,I.free,I.jr,I.pin,I.bU,hl.trans I.len⟩
theorem Inv.fP{B8:List (Addr×Obj)}(I:Inv X pins σ H s)(h:∀p∈B8,s.heap.get? p.1=some p.2/\H p.1=none/\p.1≠X.env.locals/\p.1∉X.fs/\∀v,p.2.data≠ .cell v):Inv X B8 σ H s:=
 ⟨I.ok,I.os,I.bare,I.base,I.loc,I.cell,I.free,I.jr,λp hp=>(Qap.mp hp).elim (λz=>I.pin p (Qca _ z)) (h p),I.bU,I.len⟩
theorem yl(hN:N.Nodup)(a:N[i]? =some x)(b:N[j]? =some x):i=j:=by
 obtain ⟨h1,e1⟩:=OC.mp a
 obtain ⟨h2,e2⟩:=OC.mp b
 exact (List.getElem_inj hN).mp (e1.trans e2.symm)
theorem DL{Q:Unit->Shared->Prop}(I:Inv X pins σ H s)(hN:X.N.Nodup)(hi:X.N[i]? =some x)(hx:Loc X.env.scope x)(r:RelV v u)
  (h:∀s',Inv X pins (σ.set i (some v)) H s'->(∃a,Heap.SameBut a s.heap s'.heap/\(a=X.env.locals\/X.env.cells.lookup x=some a))->Q Unit.unit s') (hf:X.fn x=true\/X.env.scope.names.lookup x=some .local:=by first | exact .inl rfl | exact .inr rfl | assumption):wpAny M A (storeName X.env x u) Q E s:=by
 obtain ⟨m,hn,hl⟩:=id I.loc
 have Xd:(X.env.scope.kind== .class||(X.env.scope.kind== .module&&X.env.locals != X.env.globals))=false:=by rw[I.ok.kind];rfl
 have hiσ:i<σ.length:=by rw[I.len];exact (OC.mp hi).1
 have N3:=I.N3
 have tracked:∀{a:Addr} {h':Heap},(∃o,s.heap.get? a=some o/\H a=none)->Heap.SameBut a s.heap h'->lO X.prog X.w H h':=λ{a h'} ha hs b ob e=>by
  obtain ⟨_,_,MQ⟩:=ha
  refine (I.bU b ob e).tI (λc w' hc q=>(hs.2 c ?_).trans q) (λ_ q=>q) λ_ _ q=>q
  rintro rfl
  rcases hc with rfl | hc
  ·rw[MQ]at e;cases e
  ·rw[MQ]at hc;cases hc
 rcases hx with hk | hk
 ·refine wpAny_storeName_local hk hn (λh' Wa hs=>?_) Xd
  obtain ⟨oL,_,_,FI,_⟩:=id hn
  refine h _ ⟨I.ok,I.os,I.bare,⟨λb o e n hb hx=>?_,λb o e n hb hx=>?_,I.base.free,λb o e hx=>?_,I.base.nG,I.base.qy,I.base.tJ⟩,⟨_,Wa,λj y v' e1 e2 e3=>?_⟩,λy c e=>?_,I.free,I.jr,λp hp=>?_,tracked ⟨oL,FI,I.free⟩ hs,by simpa using I.len⟩ ⟨_,hs,.inl rfl⟩
  ·exact (hs.2 b (Qa1 (Qa2 (Qax e) I.ok.above))).trans (I.base.keep b o e n hb hx)
  ·obtain ⟨sl,e1⟩:=I.base.slot b o e n hb hx
   exact ⟨sl,(hs.2 b (Qa1 (Qa2 (Qax e) I.ok.above))).trans e1⟩
  ·obtain ⟨o',e1⟩:=I.base.there b o e hx
   exact ⟨o',(hs.2 b (Qa1 (Qa2 (Qax e) I.ok.above))).trans e1⟩
  ·by_cases hj:j=i
   ·subst hj
    rw[hi]at e1;cases e1
    rw[List.getElem?_set_self hiσ]at e2
    cases e2
    exact ⟨u,r,.inl ⟨hk,by simp⟩⟩
   ·rw[List.getElem?_set_ne (Ne.symm hj)]at e2
    obtain ⟨u',r',q⟩:=hl j y v' e1 e2 e3
    refine ⟨u',r',?_⟩
    rcases q with ⟨k,e⟩ | ⟨k,c,e,z⟩
    ·refine .inl ⟨k,?_⟩
     have:y≠x:=λe=>hj (yl hN e1 (e▸hi))
     simp[this,e]
    ·exact .inr ⟨k,c,e,z.sameBut hs (N3 y c e)⟩
  ·obtain ⟨w',z⟩:=I.cell y c e
   exact ⟨w',z.sameBut hs (N3 y c e)⟩
  ·obtain ⟨e,n,ne,nf,d⟩:=I.pin p hp
   exact ⟨(hs.2 p.1 ne).trans e,n,ne,nf,d⟩
 ·have Xe:X.fn x=true:=by
   rcases hf with z | z
   ·exact z
   ·rw[z]at hk;cases hk
  obtain ⟨c,hc⟩:=I.ok.has x (.inl hk)
  obtain ⟨w',z⟩:=I.cell x c hc
  refine wpAny_storeName_cell I.ok.kind hk hc z (λh' tL hs=>?_)
  obtain ⟨oc,Wb,Xf⟩:=id z
  refine h { s with heap:=h' } ⟨I.ok,I.os,I.bare,⟨λb o e n hb hx=>?_,λb o e n hb hx=>?_,I.base.free,λb o e hx=>?_,I.base.nG,I.base.qy,I.base.tJ⟩,⟨m,hn.sameBut hs (Ne.symm (N3 x c hc)),λj y v' e1 e2 e3=>?_⟩,λy c' e=>?_,I.free,I.jr,λp hp=>?_,tracked ⟨oc,Wb,I.jr x c hc⟩ hs,by simpa using I.len⟩ ⟨c,hs,.inr hc⟩
  ·exact (hs.2 b (Qa1 (Qa2 (Qax e) (I.ok.Th x c Xe hc)))).trans (I.base.keep b o e n hb hx)
  ·obtain ⟨sl,e1⟩:=I.base.slot b o e n hb hx
   exact ⟨sl,(hs.2 b (Qa1 (Qa2 (Qax e) (I.ok.Th x c Xe hc)))).trans e1⟩
  ·obtain ⟨o',e1⟩:=I.base.there b o e hx
   exact ⟨o',(hs.2 b (Qa1 (Qa2 (Qax e) (I.ok.Th x c Xe hc)))).trans e1⟩
  ·by_cases hj:j=i
   ·subst hj
    rw[hi]at e1;cases e1
    rw[List.getElem?_set_self hiσ]at e2
    cases e2
    exact ⟨u,r,.inr ⟨.inl hk,c,hc,tL⟩⟩
   ·rw[List.getElem?_set_ne (Ne.symm hj)]at e2
    obtain ⟨u',r',q⟩:=hl j y v' e1 e2 e3
    refine ⟨u',r',?_⟩
    rcases q with q | ⟨k,c',e,z'⟩
    ·exact .inl q
    ·refine .inr ⟨k,c',e,z'.sameBut hs ?_⟩
     rintro rfl
     exact hj (yl hN e1 (I.ok.inj _ _ _ e hc▸hi))
  ·by_cases RD:c'=c
   ·subst RD;exact ⟨_,tL⟩
   ·obtain ⟨w2,z2⟩:=I.cell y c' e
    exact ⟨w2,z2.sameBut hs RD⟩
  ·obtain ⟨e,n,ne,nf,d⟩:=I.pin p hp
   refine ⟨(hs.2 p.1 ?_).trans e,n,ne,nf,d⟩
   intro q
   rw[q,Wb]at e
   have q':oc=p.2:=Qal e
   exact d w' (by rw[<-q'];exact Xf)
theorem hJ{Q:Unit->Shared->Prop}(I:Inv X pins σ H s)(hN:X.N.Nodup)(hi:X.N[i]? =some x)(hx:Loc X.env.scope x)(r:RelV v u)
  (h:∀s',Inv X pins (σ.set i (some v)) H s'->Q Unit.unit s') (hf:X.fn x=true\/X.env.scope.names.lookup x=some .local:=by first | exact .inl rfl | exact .inr rfl | assumption):wpAny M A (storeName X.env x u) Q E s:=
 DL I hN hi hx r (λs' I' _=>h s' I') hf
theorem Inv.Tj(I:Inv X pins σ H s)(ho:s'.os=s.os)(u:Un (B5 X.stack) ch H H' s.heap s'.heap)(bU:lO X.prog X.w H' s'.heap)(hg:AllBare s'.gens)
  (JU:∀b∈ch,(b∈X.ex\/X.s₀.heap.objs.size<=b)/\b≠X.env.locals/\(∀x c,X.env.cells.lookup x=some c->c≠b)/\∀p∈X.pn++pins,p.1≠b):Inv X pins σ H' s':=by
 obtain ⟨h',g',d',t',o'⟩:=s'
 have e:o'=s.os:=ho
 subst e
 exact I.call (g':=g') (t':=t') (d':=d') u bU hg JU
end
abbrev XK:=Value->Option Addr->Hp->Prop
abbrev St:=List (Option V)
abbrev VK:=V->Hp->Prop
abbrev TE:=St->Hp->VK->Prop
abbrev TT:=St->Hp->(Bool->Hp->Prop)->Prop
abbrev TA:=St->Hp->(List V->Hp->Prop)->Prop
structure Ends where
 nx:St->Hp->Prop
 rt:VK
 bk:St->Hp->Prop:=λ_ _=>False
 ct:St->Hp->Prop:=λ_ _=>False
abbrev TS:=Ends->St->Hp->Prop
def EP(X:Cx)(pins:List (Addr×Obj))(σ:St)(Q:VK)(u:Value)(s':Shared):Prop:=∃v H',Inv X pins σ H' s'/\RelV v u/\Q v H'
def TP(X:Cx)(pins:List (Addr×Obj))(σ:St)(Q:Bool->Hp->Prop)(b:Bool)(s':Shared):Prop:=∃H',Inv X pins σ H' s'/\Q b H'
def AP(X:Cx)(pins:List (Addr×Obj))(σ:St)(Q:List V->Hp->Prop)(us:List Value)(s':Shared):Prop:=∃vs H',Inv X pins σ H' s'/\Vals vs us/\Q vs H'
def SP(X:Cx)(pins:List (Addr×Obj))(D:Ends)(f:Flow)(s':Shared):Prop:=
 match f with
 | .next=>∃σ' H',Inv X pins σ' H' s'/\D.nx σ' H'
 | .brk=>∃σ' H',Inv X pins σ' H' s'/\D.bk σ' H'
 | .cont=>∃σ' H',Inv X pins σ' H' s'/\D.ct σ' H'
 | .ret u=>∃v σ' H',Inv X pins σ' H' s'/\RelV v u/\D.rt v H'
def PE(X:Cx)(e:Expr)(t:TE):Prop:=
 ∀(pins:List (Addr×Obj)) (s:Shared) (σ:St) (H:Hp) (Q:VK),Inv X pins σ H s->t σ H Q->wpAny (model X.prog X.w) X.A (eval e X.env) (EP X pins σ Q) X.xe s
def PT(X:Cx)(e:Expr)(t:TT):Prop:=
 ∀(pins:List (Addr×Obj)) (s:Shared) (σ:St) (H:Hp) (Q:Bool->Hp->Prop),Inv X pins σ H s->t σ H Q->wpAny (model X.prog X.w) X.A (isTrue e X.env (eval e X.env)) (TP X pins σ Q) X.xe s
def PW(X:Cx)(e:Expr)(t:TT):Prop:=
 ∀(whole:Sem Value) (pins:List (Addr×Obj)) (s:Shared) (σ:St) (H:Hp) (Q:Bool->Hp->Prop),Inv X pins σ H s->t σ H Q->wpAny (model X.prog X.w) X.A (isTrue e X.env whole) (TP X pins σ Q) X.xe s
variable{X:Cx}{e:Expr}
theorem PW.pt{t:TT}(h:PW X e t):PT X e t:=h _
def PA(X:Cx)(es:List Expr)(t:TA):Prop:=
 ∀(pos:Pos) (pins:List (Addr×Obj)) (s:Shared) (σ:St) (H:Hp) (Q:List V->Hp->Prop),Inv X pins σ H s->t σ H Q->wpAny (model X.prog X.w) X.A (spliced (backTo pos (starEach es X.env))) (AP X pins σ Q) X.xe s
def PS(X:Cx)(st:Stmt)(t:TS):Prop:=
 ∀(pins:List (Addr×Obj)) (s:Shared) (σ:St) (H:Hp) (D:Ends),Inv X pins σ H s->t D σ H->wpAny (model X.prog X.w) X.A (exec st X.env) (SP X pins D) X.xe s
def x6(X:Cx)(st:List Stmt)(t:TS):Prop:=
 ∀(pins:List (Addr×Obj)) (s:Shared) (σ:St) (H:Hp) (D:Ends),Inv X pins σ H s->t D σ H->wpAny (model X.prog X.w) X.A (execs st X.env) (SP X pins D) X.xe s
variable{s:Shared}
theorem cD{α:Type}{t:Sem α}{Q Q':α->Shared->Prop}(h:wpAny M A t Q E s)(hQ:∀a s,Q a s->Q' a s):wpAny M A t Q' E s:=wpAny_mono h hQ λ_ _ x=>x
variable{Q:Value->Shared->Prop}{pins:List (Addr×Obj)}{σ:St}
section
variable{X:Cx}
inductive FJ(i:Nat)(σ:St)(H:Hp)(Q:VK):Prop
 | mk (v:V) (_:σ[i]? =some (some v)) (_:Q v H):FJ i σ H Q
def N6(i:Nat):TE:=FJ i
def tC(v:V):TE:=λ_ H Q=>Q v H
theorem Al{pos:Pos}(hN:X.N[i]? =some x)(hv:Tg X.env.scope x)(hd:(x==("__debug__":Str))=false:=by decide)(kT:(x==("__classdict__":Str))=false:=by decide):PE X (.Name x pos) (N6 i):=by
 walk_at"f"
 obtain ⟨v,e,h⟩:=h
 obtain ⟨m,hn,hl⟩:=I.loc
 obtain ⟨u,r,l⟩:=hl i x v hN e hv
 have fin:EP X pins σ Q u s:=⟨v,H,I,r,h⟩
 rcases l with ⟨hk,hm⟩ | ⟨hk,c,hc,hU⟩
 ·exact wpAny_Name (wpAny_loadName_local I.ok.kind hk hn hm fin) hd
 ·rcases hk with hk | hk
  ·exact wpAny_Name (wpAny_loadName_cell I.ok.kind hk hc hU fin) hd
  ·exact wpAny_Name (wpAny_loadName_free I.ok.kind hk hc hU fin kT) hd
theorem aq{i j pos}:PE X (.Constant (.int i) j pos) (tC (.int i)):=λ_ _ _ H _ I h=>wpAny_Constant_int ⟨.int i,H,I.tok _,⟨_,rfl⟩,h⟩
theorem qA{b j pos}:PE X (.Constant (.bool b) j pos) (tC (.bl b)):=λ_ _ _ H _ I h=>Constant_bool ⟨.bl b,H,I,rfl,h⟩
theorem N7{x j pos}:PE X (.Constant (.str x) j pos) (tC (.str x)):=λ_ _ _ H _ I h=>Calls.Constant_str ⟨.str x,H,I.tok _,⟨_,rfl⟩,h⟩
def Gl(X:Cx)(x:Str):Prop:=X.env.kindOf x=some .globalImplicit
theorem v_{pos:Pos}(I:Inv X pins σ H s)(hg:Gl X x)(hm:X.mg x=some u)(h:Q u s)
  (hd:(x==("__debug__":Str))=false:=by decide):wpAny (model X.prog X.w) X.A (eval (.Name x pos) X.env) Q E s:=
 Calls.Name_function_global I.ok.kind hg (Calls.loadGlobal_global (by rw[I.ok.glob];exact I.mod.glob.keeps I.bk) hm h) hd
theorem gR{pos:Pos}(I:Inv X pins σ H s)(hg:Gl X x)(hm:X.mg x=none)(hv:bootBuiltins x=some u)(h:Q u s)
  (hn:x≠"__name__":=by decide) (hd:(x==("__debug__":Str))=false:=by decide):wpAny (model X.prog X.w) X.A (eval (.Name x pos) X.env) Q E s:=by
 obtain ⟨mb,h1,h2⟩:=I.mod.blt
 exact Calls.Name_function_global I.ok.kind hg (Calls.loadGlobal_builtin (by rw[I.ok.glob];exact I.mod.glob.keeps I.bk) hm (by rw[I.ok.blt];exact h1.keeps I.bk) ((h2 x hn).trans hv) h) hd
theorem B9{pos:Pos}(hg:Gl X x)(hm:X.mg x=some u)(r:RelV v u)(hd:(x==("__debug__":Str))=false:=by decide):PE X (.Name x pos) (tC v):=
 λ_ _ _ H _ I h=>v_ I hg hm ⟨v,H,I,r,h⟩ hd
inductive I2(x y:V)(H:Hp)(k:Int->Int->Hp->Prop):Prop
 | mk (i j:Int) (_:x= .int i) (_:y= .int j) (_:k i j H):I2 x y H k
inductive IB(x:V)(H:Hp)(Q:Bool->Hp->Prop):Prop
 | mk (c:Bool) (_:x= .bl c) (_:Q c H):IB x H Q
variable{a b:Expr}{ta tb:TE}{pos:Pos}
def tB(t:TE):TT:=λσ H Q=>t σ H λx H1=>IB x H1 Q
theorem js{t:TE}(h:PE X e t)(he:∀whole,isTrue e X.env whole=(do let v <-whole;standAt e.pos;holding [v] (truthy v)):=by intro _;rfl):PT X e (tB t):=by
 intro pins s σ H Q I hw
 refine isTrue_plain (cD (h pins s σ H _ I hw) λv s1 ⟨x,H1,I1,r1,q1⟩=>?_) (he _)
 obtain ⟨d,rfl,q⟩:=q1
 cases r1
 exact wpAny_truthy_bool ⟨H1,I1,q⟩
variable{tA tB':TT}{rest:List Expr}
def Xg(t u:TT):TT:=λσ H Q=>t σ H λc H1=>if c=true then u σ H1 Q else Q false H1
theorem p6(ha:PT X a tA):PW X (.BoolOp .And [a] pos) tA:=by
 intro wh pins s σ H Q I h
 refine isTrue_and (cD (ha pins s σ H Q I h) λc s1 e=>?_)
 cases c with
 | true=>exact isTrue_and_nil e
 | false=>exact e
theorem wa(ha:PT X a tA)(hb:PW X (.BoolOp .And (b::rest) pos) tB'):PW X (.BoolOp .And (a::b::rest) pos) (Xg tA tB'):=by
 intro wh pins s σ H Q I h
 refine isTrue_and (cD (ha pins s σ H _ I h) λc s1 ⟨H1,I1,q1⟩=>?_)
 cases c with
 | true=>exact hb wh pins s1 σ H1 Q I1 q1
 | false=>exact ⟨H1,I1,q1⟩
def Tn(ta tb:TE):TE:=λσ H Q=>ta σ H λx H1=>∃c,x= .bl c/\if c=true then tb σ H1 Q else Q (.bl false) H1
def Xh(ta tb:TE):TE:=λσ H Q=>ta σ H λx H1=>∃c,x= .bl c/\if c=true then Q (.bl true) H1 else tb σ H1 Q
theorem Am{op}{t:TE}(h:PE X a t):PE X (.BoolOp op [a] pos) t:=λpins s σ H Q I hw=>BoolOp_one (h pins s σ H Q I hw)
theorem FL(ha:PE X a ta)(hb:PE X (.BoolOp .And (b::rest) pos) tb):PE X (.BoolOp .And (a::b::rest) pos) (Tn ta tb):=by
 walk_at"f"
 refine BoolOp_and (cD (ha pins s σ H _ I h) λv s1 ⟨x,H1,I1,r1,q1⟩=>?_)
 obtain ⟨c,rfl,q1⟩:=q1
 cases r1
 refine wpAny_truthy_bool ?_
 cases c with
 | true=>exact hb pins s1 σ H1 Q I1 q1
 | false=>exact ⟨.bl false,H1,I1,rfl,q1⟩
theorem To(ha:PE X a ta)(hb:PE X (.BoolOp .Or (b::rest) pos) tb):PE X (.BoolOp .Or (a::b::rest) pos) (Xh ta tb):=by
 walk_at"f"
 refine BoolOp_or (cD (ha pins s σ H _ I h) λv s1 ⟨x,H1,I1,r1,q1⟩=>?_)
 obtain ⟨c,rfl,q1⟩:=q1
 cases r1
 refine wpAny_truthy_bool ?_
 cases c with
 | false=>exact hb pins s1 σ H1 Q I1 q1
 | true=>exact ⟨.bl true,H1,I1,rfl,q1⟩
end
def bL(K:c8)(H:Hp)(a:Addr)(xs:List V):Prop:=
 Rd H a (.lst xs)\/
  ∃(o:Obj) (aK:Array Value) (n:Nat),K.lookup a=some o/\o.cls= .type "list"/\o.dict=none/\o.data= .seq aK n/\aK.size<=sizeLine/\Vals xs aK.toList
def di(K:c8)(H:Hp)(a:Addr)(xs:List V):Prop:=
 Rd H a (.tup xs)\/
  ∃(o:Obj) (aK:Array Value) (n:Nat),K.lookup a=some o/\o.cls= .type "tuple"/\o.data= .seq aK n/\aK.size<=sizeLine/\Vals xs aK.toList
noncomputable def Xi:Value->Option V
 | .none=>some .gz
 | .bool b=>some (.bl b)
 | .int i _=>some (.int i)
 | .str x _=>some (.str x)
 | .bytes b _=>some (.B4 b)
 | .float b _=>some (.V8 b)
 | .ref a=>some (.ref a)
 | .type n=>some (.ty n)
 | _=>none
theorem RelV.abs{x:V}(r:RelV x u):Xi u=some x:=by
 cases x with
 | gz=>cases r;rfl
 | bl _=>cases r;rfl
 | int _=>obtain ⟨t,rfl⟩:=r;rfl
 | str _=>obtain ⟨t,rfl⟩:=r;rfl
 | B4 _=>obtain ⟨t,rfl⟩:=r;rfl
 | V8 _=>obtain ⟨t,rfl⟩:=r;rfl
 | ref _=>cases r;rfl
 | ty _=>cases r;rfl
variable{y:V}
theorem RelV.inj{x:V}(r:RelV x u)(q:RelV y u):x=y:=Qal (r.abs.symm.trans q.abs)
theorem Vals.inj:∀{xs ys:List V} {us:List Value},Vals xs us->Vals ys us->xs=ys
 | _,_,_,.nil,.nil=>rfl
 | _,_,_,.cons r t,.cons r' t'=>by rw[r.inj r',Vals.inj t t']
variable{K:c8}
section
variable{X:Cx}{pins:List (Addr×Obj)}{σ:St}{H:Hp}{s:Shared}{a:Addr}{xs ys:List V}
theorem bL.of(h:H a=some (.lst xs)):bL K H a xs:= .inl (.inl h)
theorem di.of(h:H a=some (.tup xs)):di K H a xs:= .inl (.inl h)
theorem Inv.list(I:Inv X pins σ H s)(h:bL X.K H a xs):∃aK:List Value,Vals xs aK/\PlainL s.heap a aK.toArray/\(xs:)<=sizeLine:=by
 rcases h with h | ⟨o,aK,n,hk,hc,hd,hs,hz,r⟩
 ·obtain ⟨z,aK,n,r,e⟩:=h.ok I.bU
  exact ⟨aK,r,⟨_,n,e,rfl,rfl,rfl⟩,z⟩
 ·refine ⟨aK.toList,r,⟨o,n,I.Ak a o hk,hc,hd,by simpa using hs⟩,?_⟩
  have e:=(r:)
  simp only[Qa6]at e
  lia
theorem Inv.tuple(I:Inv X pins σ H s)(h:di X.K H a xs):∃aK:List Value,Vals xs aK/\IsTup s.heap a aK.toArray/\(xs:)<=sizeLine:=by
 rcases h with h | ⟨o,aK,n,hk,hc,hs,hz,r⟩
 ·obtain ⟨z,aK,r,p⟩:=h.ok I.bU
  exact ⟨aK,r,p,z⟩
 ·refine ⟨aK.toList,r,⟨o,I.Ak a o hk,hc,n,by simpa using hs⟩,?_⟩
  have e:=(r:)
  simp only[Qa6]at e
  lia
theorem Inv.ym(I:Inv X pins σ H s)(h:bL X.K H a xs)(h':bL X.K H a ys):xs=ys:=by
 obtain ⟨aK,r,⟨o,n,e,_,_,d⟩,_⟩:=I.list h
 obtain ⟨its',r',⟨o',n',e',_,_,d'⟩,_⟩:=I.list h'
 rw[e]at e';cases e'
 rw[d]at d'
 injection d' with d1 _
 have:aK=its':=by simpa using congrArg Array.toList d1
 subst this
 exact r.inj r'
theorem Inv.uA(I:Inv X pins σ H s)(h:di X.K H a xs)(h':di X.K H a ys):xs=ys:=by
 obtain ⟨aK,r,⟨o,e,_,n,d⟩,_⟩:=I.tuple h
 obtain ⟨its',r',⟨o',e',_,n',d'⟩,_⟩:=I.tuple h'
 rw[e]at e';cases e'
 rw[d]at d'
 injection d' with d1 _
 have:aK=its':=by simpa using congrArg Array.toList d1
 subst this
 exact r.inj r'
end
noncomputable abbrev Cx.qB(X:Cx)(E:Value->Shared->Prop):Cx:={ X with xe:=E }
noncomputable abbrev Cx.JV(X:Cx):Cx:=X.qB λ_ _=>False
theorem Cx.Ok.qB(ok:X.Ok)(E:Value->Shared->Prop):(X.qB E).Ok:=
 ⟨ok.mod,ok.kind,ok.glob,ok.blt,ok.above,ok.inj,ok.has,ok.Th,ok.hd,ok.frames,ok.V_,ok.ZZ,ok.bs,ok.JT,ok.FH,ok.Kf,ok.nH,ok.MO⟩
theorem Cx.Ok.iK(ok:(X.qB E).Ok):X.Ok:=
 ⟨ok.mod,ok.kind,ok.glob,ok.blt,ok.above,ok.inj,ok.has,ok.Th,ok.hd,ok.frames,ok.V_,ok.ZZ,ok.bs,ok.JT,ok.FH,ok.Kf,ok.nH,ok.MO⟩
variable{D:Ends}
section
variable{X:Cx}{pins:List (Addr×Obj)}{σ:St}{H:Hp}{s:Shared}{E:Value->Shared->Prop}
theorem Inv.qB(I:Inv X pins σ H s)(E:Value->Shared->Prop):Inv (X.qB E) pins σ H s:=⟨I.ok.qB E,I.os,I.bare,I.base,I.loc,I.cell,I.free,I.jr,I.pin,I.bU,I.len⟩
theorem Inv.iK(I:Inv (X.qB E) pins σ H s):Inv X pins σ H s:=⟨I.ok.iK,I.os,I.bare,I.base,I.loc,I.cell,I.free,I.jr,I.pin,I.bU,I.len⟩
theorem SP.iK{f:Flow}(h:SP (X.qB E) pins D f s'):SP X pins D f s':=by
 cases f with
 | next=>obtain ⟨σ',H',I,q⟩:=h;exact ⟨σ',H',I.iK,q⟩
 | brk=>obtain ⟨σ',H',I,q⟩:=h;exact ⟨σ',H',I.iK,q⟩
 | cont=>obtain ⟨σ',H',I,q⟩:=h;exact ⟨σ',H',I.iK,q⟩
 | ret u=>obtain ⟨v,σ',H',I,r,q⟩:=h;exact ⟨v,σ',H',I.iK,r,q⟩
theorem PE.JV{t:TE}(h:PE X.JV e t):PE X e t:=λpins s σ H Q I hw=>
 wpAny_mono (h pins s σ H Q (I.qB _) hw) (λ_ _ ⟨v,H',I',r,q⟩=>⟨v,H',I'.iK,r,q⟩) λ_ _ z=>False.elim z
theorem x6.JV{st:List Stmt}{t:TS}(h:x6 X.JV st t):x6 X st t:=λpins s σ H D I hw=>
 wpAny_mono (h pins s σ H D (I.qB _) hw) (λ_ _ q=>q.iK) λ_ _ z=>False.elim z
end
section
variable{X:Cx}{st:Stmt}{rest:List Stmt}{t u:TS}{e:Expr}{te:TE}{pos:Pos}
def Tp:TS:=λD σ H=>D.nx σ H
def N8(t u:TS):TS:=λD σ H=>t { D with nx:=u D } σ H
theorem b9:x6 X [] Tp:=λ_ _ σ H _ I h=>wpAny_execs_nil ⟨σ,H,I,h⟩
theorem aa(h1:PS X st t)(h2:x6 X rest u):x6 X (st::rest) (N8 t u):=by
 walk_at"r"
 refine wpAny_execs_cons (cD (h1 pins s σ H { D with nx:=u D } I h) λf s1 q=>?_)
 cases f with
 | next=>
  obtain ⟨σ',H',I',q⟩:=q
  exact h2 pins s1 σ' H' D I' q
 | ret v=>exact q
 | brk=>exact q
 | cont=>exact q
theorem aj(h1:PS X st t):x6 X [st] t:=by
 walk_at"r"
 refine wpAny_execs_cons (cD (h1 pins s σ H D I h) λf s1 q=>?_)
 cases f with
 | next=>exact wpAny_execs_nil q
 | ret v=>exact q
 | brk=>exact q
 | cont=>exact q
theorem Inv.quiet(I:Inv X pins σ H s):interactive X.env=false:=by simp[interactive,I.ok.kind]
def Tq(te:TE):TS:=λD σ H=>te σ H λ_ H1=>D.nx σ H1
theorem d_(he:PE X e te)(hs:swapsWith e none pos.line X.env=pure false:=by rfl):PS X (.Expr e pos) (Tq te):=by
 walk_at"r"
 exact wpAny_Expr_any (cD (he pins s σ H _ I h) λv s1 ⟨x,H1,I1,r1,q1⟩=>⟨σ,H1,I1,q1⟩) I.quiet hs
def Xj(te:TE):TS:=λD σ H=>te σ H D.rt
theorem aM(he:PE X e te):PS X (.Return (some e) pos) (Xj te):=by
 walk_at"r"
 exact wpAny_Return_some (cD (he pins s σ H _ I h) λv s1 ⟨x,H1,I1,r1,q1⟩=>⟨x,σ,H1,I1,r1,q1⟩)
def Xk(c:TT)(t u:TS):TS:=λD σ H=>c σ H λb H1=>if b=true then t D σ H1 else u D σ H1
theorem c_{c:Expr}{a b:List Stmt}{tc:TT}(hc:PT X c tc)(ha:x6 X a t)(hb:x6 X b u):PS X (.If c a b pos) (Xk tc t u):=by
 walk_at"r"
 refine wpAny_If (cD (hc pins s σ H _ I h) λd s1 ⟨H1,I1,q1⟩=>?_)
 cases d with
 | true=>exact ha pins s1 σ H1 D I1 q1
 | false=>exact hb pins s1 σ H1 D I1 q1
end
abbrev TG:=V->St->Hp->(St->Hp->Prop)->Prop
abbrev MR:=List V->St->Hp->(St->Hp->Prop)->Prop
def PG(X:Cx)(target:Expr)(t:TG):Prop:=
 ∀(pins:List (Addr×Obj)) (s:Shared) (σ:St) (H:Hp) (v:V) (u:Value) (Q:St->Hp->Prop),Inv X pins σ H s->RelV v u->t v σ H Q->
  wpAny (model X.prog X.w) X.A (assign target X.env u) (λ_ s'=>∃σ' H',Inv X pins σ' H' s'/\Q σ' H') X.xe s
def Tr(X:Cx)(ts:List Expr)(t:MR):Prop:=
 ∀(pins:List (Addr×Obj)) (s:Shared) (σ:St) (H:Hp) (vs:List V) (us:List Value) (Q:St->Hp->Prop),Inv X pins σ H s->Vals vs us->t vs σ H Q->
  wpAny (model X.prog X.w) X.A (assignInOrder ((assignEach ts X.env).map (·.2)) us) (λ_ s'=>∃σ' H',Inv X pins σ' H' s'/\Q σ' H') X.xe s
abbrev N9:=V->V->V->Hp->(Hp->Prop)->Prop
def Ts(X:Cx)(t:N9):Prop:=
 ∀(pins:List (Addr×Obj)) (s:Shared) (σ:St) (H:Hp) (o i v:V) (ov iv u:Value) (Q:Hp->Prop),Inv X pins σ H s->RelV o ov->RelV i iv->RelV v u->t o i v H Q->
  wpAny (model X.prog X.w) X.A (setItem ov iv u) (λ_ s'=>∃H',Inv X pins σ H' s'/\Q H') X.xe s
abbrev Wc:=V->V->Hp->VK->Prop
def Tt(X:Cx)(op:Operator)(t:Wc):Prop:=
 ∀(pins:List (Addr×Obj)) (s:Shared) (σ:St) (H:Hp) (x y:V) (v u:Value) (Q:VK),Inv X pins σ H s->RelV x v->RelV y u->t x y H Q->
  wpAny (model X.prog X.w) X.A (inplaceOp op v u) (EP X pins σ Q) X.xe s
variable{es:List Expr}{n:Nat}{tg:Expr}{te:TE}{ta:TA}
section
variable{X:Cx}{pos:Pos}
def uC(i:Nat):TG:=λv σ H Q=>Q (σ.set i (some v)) H
theorem aV(hN:X.N.Nodup)(hi:X.N[i]? =some x)(hx:Loc X.env.scope x)(hf:X.fn x=true\/X.env.scope.names.lookup x=some .local:=by first | exact .inl rfl | exact .inr rfl | assumption):PG X (.Name x pos) (uC i):=by
 intro pins s σ H v u Q I r h
 exact wpAny_assign_Name (hJ I hN hi hx r (λs' I'=>⟨_,H,I',h⟩) hf)
def Xl:MR:=λvs σ H Q=>vs=[]/\Q σ H
def Tu(t:TG)(u:MR):MR:=λvs σ H Q=>∃v r,vs=v::r/\t v σ H λσ' H'=>u r σ' H' Q
theorem p7:Tr X [] Xl:=by
 intro pins s σ H vs us Q I r h
 obtain ⟨e,h⟩:=h
 subst e
 cases r
 exact assignInOrder_nil ⟨σ,H,I,h⟩
theorem fq{t:TG}{u:MR}(h1:PG X e t)(h2:Tr X es u)
  (hs:(assignEach (e::es) X.env).map (·.2)=assign e X.env::(assignEach es X.env).map (·.2):=by rfl):Tr X (e::es) (Tu t u):=by
 intro pins s σ H vs us Q I r h
 obtain ⟨v,vr,e1,h⟩:=h
 subst e1
 cases r with
 | cons r rr=>
  rw[hs]
  refine assignInOrder_cons (cD (h1 pins s σ H _ _ _ I r h) λ_ s1 ⟨σ1,H1,I1,q1⟩=>?_)
  exact h2 pins s1 σ1 H1 _ _ Q I1 rr q1
def Tv(K:c8)(n:Nat)(t:MR):TG:=λv σ H Q=>∃a xs,v= .ref a/\di K H a xs/\(xs:)=n/\t xs σ H Q
theorem N_{k:Nat}{t:MR}(hc:X.calm=true)(h:Tr X es t)
  (hn:(assignEach es X.env:)=n:=by rfl) (oS:(assignEach es X.env).findIdx? (·.1)=none:=by rfl):PG X (.Tuple es k pos) (Tv X.K n t):=by
 intro pins s σ H v u Q I r hw
 obtain ⟨a,xs,e1,hq,hl,hw⟩:=hw
 subst e1
 cases r
 obtain ⟨aK,rv,ht,hz⟩:=I.tuple hq
 refine assign_Tuple_tuple (I.ok.hd hc) ht (by simp[hn, <-hl,(rv:)]) oS λh' hx=>?_
 have I1:Inv X pins σ H { s with heap:=h' }:=I.kept (t':=s.toks) λb o e=>hx b o (Qa1 (Qax e)) e
 exact h pins _ σ H xs _ Q I1 (by simpa using rv) hw
def Xm(to ti:TE)(t:N9):TG:=λv σ H Q=>to σ H λo H1=>ti σ H1 λi H2=>t o i v H2 λH3=>Q σ H3
theorem FN{o i:Expr}{to ti:TE}{t:N9}(ho:PE X o to)(hi:PE X i ti)(hs:Ts X t)
  (ha:∀v,assign (.Subscript o i pos) X.env v=(do
   let ov <-holding [v] (eval o X.env)
   let iv <-holding [v,ov] (eval i X.env)
   standAt pos
   holding [v,ov,iv] (setItem ov iv v)
   release [v,ov,iv] []):=by intro _;rfl):PG X (.Subscript o i pos) (Xm to ti t):=by
 intro pins s σ H v u Q I r h
 rw[ha]
 refine wpAny_bind (wpAny_holding (cD (ho pins s σ H _ I h) λov s1 ⟨x,H1,I1,r1,q1⟩=>?_))
 refine wpAny_bind (wpAny_holding (cD (hi pins s1 σ H1 _ I1 q1) λiv s2 ⟨y,H2,I2,r2,q2⟩=>?_))
 refine wpAny_bind (wpAny_standAt (wpAny_bind (wpAny_holding (cD (hs pins s2 σ H2 x y v ov iv u _ I2 r1 r2 r q2) λ_ s3 ⟨H3,I3,q3⟩=>?_))))
 exact wpAny_release ⟨σ,H3,I3,q3⟩
def FO(te:TE)(g:TG):TS:=λD σ H=>te σ H λx H1=>g x σ H1 D.nx
theorem FP{g:TG}(he:PE X e te)(hg:PG X tg g)(hs:swapsWithSole [tg] e pos.line X.env=pure false:=by rfl)(hw:swappedStores [tg] e X.env=pure none:=by rfl)
  (h1:(assignEach [tg] X.env).map (·.2)=[assign tg X.env]:=by rfl):PS X (.Assign [tg] e pos) (FO te g):=by
 walk_at"r"
 refine wpAny_Assign_stores (cD (he pins s σ H _ I h) λv s1 ⟨x,H1,I1,r1,q1⟩=>?_) hs hw
 rw[h1]
 exact cD (hg pins s1 σ H1 x v _ I1 r1 q1) λ_ s2 q=>q
theorem An{pos':Pos}(hN:X.N.Nodup)(hi:X.N[i]? =some x)(hx:Loc X.env.scope x)(he:PE X e te)(hs:swapsWith e (some (.Name x pos')) pos.line X.env=pure false:=by rfl)(hf:X.fn x=true\/X.env.scope.names.lookup x=some .local:=by first | exact .inl rfl | exact .inr rfl | assumption):
  PS X (.Assign [.Name x pos'] e pos) (FO te (uC i)):=by
 walk_at"r"
 refine wpAny_Assign_Name (cD (he pins s σ H _ I h) λv s1 ⟨y,H1,I1,r1,q1⟩=>?_) hs
 exact hJ I1 hN hi hx r1 (λs2 I2=>⟨_,H1,I2,q1⟩) hf
def Xn(i j:Nat)(ta:TA):TS:=λD σ H=>ta σ H λvs H1=>∃v w,vs=[v,w]/\D.nx ((σ.set i (some v)).set j (some w)) H1
theorem FQ{y:Str}{a b:Expr}{px py pt:Pos}{kt k2 Xo}(hc:X.calm=true)(hN:X.N.Nodup)(hi:X.N[i]? =some x)(hj:X.N[j]? =some y)(Fq:i≠j)
  (hx:X.env.scope.names.lookup x=some .local) (hy:X.env.scope.names.lookup y=some .local) (ha:PA X [a,b] ta)
  (hw:swappedStores [.Tuple [.Name x px, .Name y py] kt pt] (.Tuple [a,b] k2 Xo) X.env=pure (some [x,y]))
  (hs:swapsWithSole [.Tuple [.Name x px, .Name y py] kt pt] (.Tuple [a,b] k2 Xo) pos.line X.env=pure false:=by rfl):
  PS X (.Assign [.Tuple [.Name x px, .Name y py] kt pt] (.Tuple [a,b] k2 Xo) pos) (Xn i j ta):=by
 walk_at"r"
 rw[exec_Assign_arm]
 refine wpAny_bind (wpAny_standAt ?_)
 rw[hs]
 walk_at"v"
 rw[if_neg ∅]
 refine wpAny_bind (Tuple_ (cD (ha _ pins s σ H _ I h) λus s1 ⟨vs,H1,I1,r1,q1⟩=>?_))
 obtain ⟨v,w,e1,q1⟩:=q1
 subst e1
 obtain ⟨u1,u2,rfl,rv,wb⟩:∃u1 u2,us=[u1,u2]/\RelV v u1/\RelV w u2:=by
  cases r1 with
  | cons p q=>
   cases q with
   | cons p' q'=>
    cases q'
    exact ⟨_,_,rfl,p,p'⟩
 refine wpAny_newObj_type ?_ (by show 2<=sizeLine;decide)
 have I2:Inv X pins σ H1 { s1 with heap:=s1.heap.push { cls:= .type "tuple",data:= .seq [u1,u2].toArray } }:=I1.kept (t':=s1.toks) λb o e=>kb _ e
 rw[hw]
 walk_at"v"
 show wpAny (model X.prog X.w) X.A (do rule "assign.swapped-stores";let items <-unpackItems (.ref s1.heap.objs.size) 2 none;assignInOrder [λv=>bindName X.env y v,λv=>bindName X.env x v] items.reverse;pure Flow.next) _ _ _
 refine wpAny_bind (wpAny_rule (wpAny_bind (unpackItems_tuple (items:= #[u1,u2]) (I.ok.hd hc) (IsTup.new s1.heap _) λh' DM=>?_)))
 have I3:=I2.kept (h':=h') (t':=s1.toks) λb o e=>DM b o (Qa1 (Qax e)) e
 show wpAny _ _ (assignInOrder [λv=>bindName X.env y v,λv=>bindName X.env x v] [u2,u1] >>= λ_=>pure Flow.next) _ _ _
 refine wpAny_bind (assignInOrder_cons (wpAny_bindName (hJ I3 hN hj (.inl hy) wb (λs2 I4=>?_) (.inr hy))))
 refine assignInOrder_cons (wpAny_bindName (hJ I4 hN hi (.inl hx) rv (λs3 I5=>assignInOrder_nil (wpAny_pure ?_)) (.inr hx)))
 rw[List.set_comm _ _ (Ne.symm Fq)]at I5
 exact ⟨_,H1,I5,q1⟩
def Xp(i:Nat)(te:TE)(ti:Wc):TS:=λD σ H=>∃x,σ[i]? =some (some x)/\te σ H λy H1=>ti x y H1 λz H2=>D.nx (σ.set i (some z)) H2
theorem lQ{op:Operator}{ti:Wc}{pos':Pos}(hN:X.N.Nodup)(hi:X.N[i]? =some x)(hx:Loc X.env.scope x)(he:PE X e te)(ho:Tt X op ti)(hf:X.fn x=true\/X.env.scope.names.lookup x=some .local:=by first | exact .inl rfl | exact .inr rfl | assumption):
  PS X (.AugAssign (.Name x pos') op e pos) (Xp i te ti):=by
 walk_at"r"
 obtain ⟨v,e1,h⟩:=h
 obtain ⟨m,hn,hl⟩:=I.loc
 have vis:Tg X.env.scope x:=by rcases hx with k | k;exact .inl k;exact .inr (.inl k)
 obtain ⟨u,r,l⟩:=hl i x v hi e1 vis
 refine wpAny_AugAssign_Name ?_
 have go:wpAny (model X.prog X.w) X.A (eval e X.env) (λw s₂=>wpAny (model X.prog X.w) X.A (inplaceOp op u w) (λr s₃=>wpAny (model X.prog X.w) X.A (storeName X.env x r) (λ_=>SP X pins D .next) X.xe s₃) X.xe s₂) X.xe s:=by
  refine cD (he pins s σ H _ I h) λw s1 ⟨y,H1,I1,r1,q1⟩=>?_
  refine cD (ho pins s1 σ H1 v y u w _ I1 r r1 q1) λz s2 ⟨zv,H2,I2,r2,q2⟩=>?_
  exact hJ I2 hN hi hx r2 (λs3 I3=>⟨_,H2,I3,q2⟩) hf
 rcases l with ⟨hk,hm⟩ | ⟨hk,c,hc,hU⟩
 ·exact wpAny_loadName_local I.ok.kind hk hn hm go
 ·rcases hk with hk | hk
  ·exact wpAny_loadName_cell I.ok.kind hk hc hU go
  ·rcases hx with k | k
   ·have:X.env.scope.names.lookup x=some .free:=hk
    rw[k]at this;cases this
   ·have:X.env.scope.names.lookup x=some .free:=hk
    rw[k]at this;cases this
def ipI(f:Int->Int->Int):Wc:=λx y H Q=>∃i j,x= .int i/\y= .int j/\Q (.int (f i j)) H
theorem wc:Tt X .Add (ipI λi j=>i+j):=by
 intro pins s σ H x y v u Q I r1 r2 h
 obtain ⟨i,j,e1,e2,q⟩:=h
 subst e1;subst e2
 walk_at"R"
 obtain ⟨t',rfl⟩:=r2
 exact iadd_int ⟨.int _,H,I.tok _,⟨_,rfl⟩,q⟩
theorem Oa:Tt X .Sub (ipI λi j=>i - j):=by
 intro pins s σ H x y v u Q I r1 r2 h
 obtain ⟨i,j,e1,e2,q⟩:=h
 subst e1;subst e2
 walk_at"R"
 obtain ⟨t',rfl⟩:=r2
 exact isub_int ⟨.int _,H,I.tok _,⟨_,rfl⟩,q⟩
end
structure It where
 go:Nat->Hp->Prop
 FR:Nat->Hp->V->Hp->Prop
 stop:Nat->Hp->Prop
def ph(X:Cx)(pins:List (Addr×Obj))(H:Hp)(b:Addr):Prop:=
 H b=none/\b≠X.env.locals/\b∉X.fs/\(b∈X.ex\/X.s₀.heap.objs.size<=b)/\(∀x c,X.env.cells.lookup x=some c->c≠b)/\∀p∈X.pn++pins,p.1≠b
theorem Inv.tM{H':Hp}(I:Inv X pins σ H s)(hb:s.heap.objs.size<=b)(hn:H' b=none):ph X pins H' b:=by
 refine ⟨hn,Qed (Qa2 I.lt hb),I.Kg hb,.inr (Qa7 I.sz hb),λx c e z=>?_,λp hp z=>?_⟩
 ·obtain ⟨v,q⟩:=I.cell x c e
  exact absurd (Qa2 q.lt (by rw[z];exact hb)) (Qb1 _)
 ·exact absurd (Qa2 (Qax (I.pin p hp).1) (by rw[z];exact hb)) (Qb1 _)
structure Turn(P:Program)(w:World)(K:c8)(tg:Expr)(J:It)(fp:List Addr)(it:Addr)(tn:Nat->Heap->Prop):Prop where
 mem:it∈fp
 obj:∀i h,tn i h->∀b∈fp,∃o,h.get? b=some o/\∀v,o.data≠ .cell v
 keep:∀i h h',tn i h->(∀b∈fp,∀o,h.get? b=some o->h'.get? b=some o)->tn i h'
 item:∀(X:Cx),X.prog=P->X.w=w->X.K=K->X.calm=true->∀(i:Nat) (pins:List (Addr×Obj)) (s:Shared) (σ:St) (H:Hp) (E:Value->Shared->Prop),Inv X pins σ H s->(∀b∈fp,ph X pins H b)->tn i s.heap->J.go i H->
  wpAny (model P w) X.A (pyNext (.ref it)) (λr s1=>∃u,r=some u/\
   wpAny (model P w) X.A (letOwnedTupleGo tg (.ref it) u) (λ_ s2=>∃x H',Inv X pins σ H' s2/\RelV x u/\J.FR i H x H'/\tn (i+1) s2.heap/\∀b∈fp,H' b=none) E s1) E s
 done:∀(X:Cx),X.prog=P->X.w=w->X.K=K->X.calm=true->∀(i:Nat) (pins:List (Addr×Obj)) (s:Shared) (σ:St) (H:Hp) (E:Value->Shared->Prop),Inv X pins σ H s->(∀b∈fp,ph X pins H b)->tn i s.heap->J.stop i H->
  wpAny (model P w) X.A (pyNext (.ref it)) (λr s1=>r=none/\Inv X pins σ H s1) E s
 self:∀(A:Around) (i:Nat) (s:Shared) (Q:Value->Shared->Prop) (E:Value->Shared->Prop),tn i s.heap->Q (.ref it) s->wpAny (model P w) A (pyIter (.ref it)) Q E s
abbrev TI:=St->Hp->(It->Hp->Prop)->Prop
def PIE(X:Cx)(pins:List (Addr×Obj))(σ:St)(tg:Expr)(R:It->Hp->Prop)(Xq:Value)(s2:Shared):Prop:=
 ∃(it:Addr) (fp:List Addr) (tn:Nat->Heap->Prop) (J:It) (H':Hp),Xq= .ref it/\Inv X pins σ H' s2/\Turn X.prog X.w X.K tg J fp it tn/\tn 0 s2.heap/\(∀b∈fp,ph X pins H' b)/\R J H'
def PI(X:Cx)(tg iter:Expr)(wi:TI):Prop:=
 ∀(pins:List (Addr×Obj)) (s:Shared) (σ:St) (H:Hp) (R:It->Hp->Prop),Inv X pins σ H s->wi σ H R->
  wpAny (model X.prog X.w) X.A (eval iter X.env) (λv s1=>wpAny (model X.prog X.w) X.A (pyIter v) (PIE X pins σ tg R) X.xe s1) X.xe s
theorem yn{o:Obj}{n:String}{vs:Array Value}{Q:Unit->Shared->Prop}(ho:s.heap.get? it=some o)(hc:o.cls= .type n)(hd:o.data= .fields vs)
  (hn:["enumerate","zip","dict_itemiterator","dict_reverseitemiterator","odict_iterator","itertools.zip_longest","itertools.pairwise"].contains n=false) (hQ:Q Unit.unit s):wpAny M A (letOwnedTupleGo tg (.ref it) u) Q E s:=by
 unfold letOwnedTupleGo
 cases tg<;>first
  | exact wpAny_pure hQ
  |(cases u<;>first
    | exact wpAny_pure hQ
    |(refine wpAny_bind (wpAny_load ho ?_)
      rw[hc,hd]
      show wpAny M A (if (["enumerate","zip","dict_itemiterator","dict_reverseitemiterator","odict_iterator","itertools.zip_longest","itertools.pairwise"].contains n&&vs[0]? ==some (rawInt _))=true then _ else _) Q E s
      rw[if_neg (by intro h;rw[hn,Bool.false_and]at h;cases h)]
      exact wpAny_pure hQ))
noncomputable def RE(K:c8)(a:Addr):It:=
 ⟨λi H=>∃xs x,bL K H a xs/\xs[i]? =some x,λi H x H'=>H'=H/\∀xs,bL K H a xs->xs[i]? =some x,λi H=>∃xs,bL K H a xs/\(xs:)<=i⟩
noncomputable def Xr(K:c8)(a:Addr):It:=
 ⟨λi H=>∃xs x,di K H a xs/\xs[i]? =some x,λi H x H'=>H'=H/\∀xs,di K H a xs->xs[i]? =some x,λi H=>∃xs,di K H a xs/\(xs:)<=i⟩
noncomputable def MS(lo:Int)(n:Nat):It:=⟨λi _=>i<n,λi H x H'=>H'=H/\x= .int (lo+i),λi _=>n<=i⟩
theorem DN{P:Program}{w:World}(a it:Addr):Turn P w K tg (RE K a) [it] it (λi h=>h.IsListIter it a i) where
 mem:=by simp
 obj:=λi h st b hb=>by
  have e:b=it:=by simpa using hb
  subst e
  obtain ⟨o,e,c,d⟩:=st
  walk_at"U"
 keep:=λi h h' st k=>st.at λo e=>k it (by simp) o e
 item:=by
  walk_at"a"
  subst hP hw hK
  obtain ⟨xs,x,hq,hx⟩:=hg
  obtain ⟨aK,rv,p,hz⟩:=I.list hq
  obtain ⟨u,hu,ru⟩:=rv.get hx
  walk_at"d"
  refine wpAny_pyNext_list_item st p.isList (x:=u) (by simpa using hu) λh' aQ sb=>?_
  walk_at"S"
  obtain ⟨o,e,c,d⟩:=id aQ
  exact ⟨u,rfl,yn (s:={ s with heap:=h' }) e c d ∅ ⟨x,H,I1,ru,⟨rfl,λys hy=>by rw[I.ym hy hq];exact hx⟩,aQ,λb hb=>(hf b hb).1⟩⟩
 done:=by
  walk_at"a"
  subst hP hw hK
  obtain ⟨xs,hq,hx⟩:=hg
  obtain ⟨aK,rv,p,hz⟩:=I.list hq
  walk_at"d"
  have hl:=(rv:)
  exact wpAny_pyNext_list_end (I.ok.hd hc) st p.isList (by simp;lia) λh' eb=>⟨rfl,I.turned (t':=s.toks) (λb o hb e=>eb b o hb e) f0 f1 f3 f4 f5⟩
 self:=λ_ _ _ _ _ st h=>wpAny_pyIter_listiter st h
theorem Ao{P:Program}{w:World}(a it:Addr):Turn P w K tg (Xr K a) [it] it (λi h=>h.IsTupleIter it a i) where
 mem:=by simp
 obj:=λi h st b hb=>by
  have e:b=it:=by simpa using hb
  subst e
  obtain ⟨o,e,c,d⟩:=st
  walk_at"U"
 keep:=λi h h' st k=>st.at λo e=>k it (by simp) o e
 item:=by
  walk_at"a"
  subst hP hw hK
  obtain ⟨xs,x,hq,hx⟩:=hg
  obtain ⟨aK,rv,p,hz⟩:=I.tuple hq
  obtain ⟨u,hu,ru⟩:=rv.get hx
  walk_at"d"
  refine wpAny_pyNext_tuple_item st (show s.heap.IsTuple a aK.toArray from p) (x:=u) (by simpa using hu) λh' aQ sb=>?_
  walk_at"S"
  obtain ⟨o,e,c,d⟩:=id aQ
  exact ⟨u,rfl,yn (s:={ s with heap:=h' }) e c d ∅ ⟨x,H,I1,ru,⟨rfl,λys hy=>by rw[I.uA hy hq];exact hx⟩,aQ,λb hb=>(hf b hb).1⟩⟩
 done:=by
  walk_at"a"
  subst hP hw hK
  obtain ⟨xs,hq,hx⟩:=hg
  obtain ⟨aK,rv,p,hz⟩:=I.tuple hq
  walk_at"d"
  have hl:=(rv:)
  exact wpAny_pyNext_tuple_end (I.ok.hd hc) st (show s.heap.IsTuple a aK.toArray from p) (by simp;lia) λh' eb=>⟨rfl,I.turned (t':=s.toks) (λb o hb e=>eb b o hb e) f0 f1 f3 f4 f5⟩
 self:=λ_ _ _ _ _ st h=>wpAny_pyIter_tupleiter st h
theorem Ap{P:Program}{w:World}(it:Addr)(lo:Int)(n:Nat):Turn P w K tg (MS lo n) [it] it (λi h=>IsRangeIter h it (lo+(i:Nat)*1) ((n:Int) - (i:Nat)) 1) where
 mem:=by simp
 obj:=λi h st b hb=>by
  have e:b=it:=by simpa using hb
  subst e
  exact ⟨_,st,λv z=>by
   have z':Data.fields _=Data.cell v:=z
   cases z'⟩
 keep:=λi h h' st k=>k it (by simp) _ st
 item:=by
  walk_at"a"
  subst hP hw hK
  walk_at"d"
  have W:=Walks.range (prog:=X.prog) (w:=X.w) (I.ok.hd hc) it lo 1 n
  refine W.item i s _ _ hg st λv h' tk hv aQ kk=>?_
  obtain ⟨t,rfl⟩:=hv
  walk_at"P"
  refine ⟨_,rfl,yn (s:={ s with heap:=h',toks:=tk }) (n:="range_iterator") aQ rfl rfl ∅ ⟨.int (lo+i),H,I1,⟨t,?_⟩,⟨rfl,rfl⟩,aQ,λb hb=>(hf b hb).1⟩⟩
  rw[Int.mul_one]
 done:=by
  walk_at"a"
  subst hP hw hK
  walk_at"d"
  exact wpAny_pyNext_range_end (I.ok.hd hc) st (by have:n<=i:=hg;lia) λh' eb=>⟨rfl,I.turned (t':=s.toks) (λb o hb e=>eb b o hb e) f0 f1 f3 f4 f5⟩
 self:=λ_ _ _ _ _ st h=>wpAny_pyIter_rangeiter st h
variable{l:Expr}{p pos:Pos}{fp:List Addr}{body:List Stmt}{tb:TS}
section
variable{X:Cx}{tg:Expr}
def MT(K:c8)(tl:TE):TI:=λσ H R=>tl σ H λx H1=>∃a,x= .ref a/\(∃xs,bL K H1 a xs)/\R (RE K a) H1
def Tw(K:c8)(tl:TE):TI:=λσ H R=>tl σ H λx H1=>∃a,x= .ref a/\(∃xs,di K H1 a xs)/\R (Xr K a) H1
theorem Kh{tl:TE}(hl:PE X l tl):PI X tg l (MT X.K tl):=by
 walk_at"W"
 walk_at"Q"
 obtain ⟨a,e,⟨xs,hq⟩,q⟩:=q1
 subst e
 cases r1
 obtain ⟨aK,rv,p,hz⟩:=I1.list hq
 refine wpAny_pyIter_list p.isList ?_
 refine ⟨s1.heap.objs.size,[s1.heap.objs.size],_,_,H1,rfl,I1.kept (t':=s1.toks) λb o e=>kb _ e,DN a _,⟨_,Qav _ rfl,rfl,rfl⟩,λb hb=>?_,q⟩
 have e:b=s1.heap.objs.size:=by simpa using hb
 subst e
 walk_at"J"
theorem Ob{tl:TE}(hl:PE X l tl):PI X tg l (Tw X.K tl):=by
 walk_at"W"
 walk_at"Q"
 obtain ⟨a,e,⟨xs,hq⟩,q⟩:=q1
 subst e
 cases r1
 obtain ⟨aK,rv,p,hz⟩:=I1.tuple hq
 refine wpAny_pyIter_tuple (show s1.heap.IsTuple a aK.toArray from p) ?_
 refine ⟨s1.heap.objs.size,[s1.heap.objs.size],_,_,H1,rfl,I1.kept (t':=s1.toks) λb o e=>kb _ e,Ao a _,⟨_,Qav _ rfl,rfl,rfl⟩,λb hb=>?_,q⟩
 have e:b=s1.heap.objs.size:=by simpa using hb
 subst e
 walk_at"J"
theorem yo{R:It->Hp->Prop}{lo hi:Int}{t u v:Tok}{tk:Nat}(I:Inv X pins σ H s)(h1: -(2 ^ 62)<=lo)(h2:lo<2 ^ 62)(h3: -(2 ^ 62)<=hi)(h4:hi<2 ^ 62)
  (q:R (MS lo (hi - lo).toNat) H):wpAny (model X.prog X.w) X.A (pyIter (.ref s.heap.objs.size)) (PIE X pins σ tg R) E { s with heap:=s.heap.push { cls:= .type "range",data:= .fields #[.int lo t,.int hi u,.int 1 v] },toks:=tk }:=by
 refine wpAny_pyIter_range (IsRange.new ..) (small_one h1 h2 h3 h4) ?_
 have I1:Inv X pins σ H { s with heap:=s.heap.push { cls:= .type "range",data:= .fields #[.int lo t,.int hi u,.int 1 v] },toks:=tk }:=I.kept λb o e=>kb _ e
 refine ⟨(s.heap.push { cls:= .type "range",data:= .fields #[.int lo t,.int hi u,.int 1 v] }).objs.size,[(s.heap.push { cls:= .type "range",data:= .fields #[.int lo t,.int hi u,.int 1 v] }).objs.size],_,_,H,rfl,
  I1.kept (t':=tk) λb o e=>kb _ e,Ap _ lo (hi - lo).toNat,?_,λb hb=>?_,q⟩
 ·have e1:lo+((0:Nat):Int)*1=lo:=by simp
  have e2:(((hi - lo).toNat:Nat):Int) - ((0:Nat):Int)=Builtin.Range.rangeSize lo hi 1:=by rw[rangeSize_one];split<;>lia
  show IsRangeIter _ _ (lo+((0:Nat):Int)*1) ((((hi - lo).toNat:Nat):Int) - ((0:Nat):Int)) 1
  rw[e1,e2]
  exact Qav _ rfl
 ·have e:b=(s.heap.push { cls:= .type "range",data:= .fields #[.int lo t,.int hi u,.int 1 v] }).objs.size:=by simpa using hb
  subst e
  walk_at"J"
def Tx(ta:TA):TI:=λσ H R=>ta σ H λvs H1=>∃j:Int,vs=[.int j]/\ -(2 ^ 62)<=j/\j<2 ^ 62/\R (MS 0 j.toNat) H1
def Tz(ta:TA):TI:=λσ H R=>ta σ H λvs H1=>∃i j:Int,vs=[.int i,.int j]/\(-(2 ^ 62)<=i/\i<2 ^ 62/\ -(2 ^ 62)<=j/\j<2 ^ 62)/\R (MS i (j - i).toNat) H1
theorem eU{a:Expr}(hg:Gl X "range")(hm:X.mg "range"=none)(ha:PA X [a] ta)(hs:starEach [a] X.env=[(false,eval a X.env)]:=by rfl):PI X tg (.Call (.Name "range" p) [a] [] pos) (Tx ta):=by
 walk_at"W"
 refine Call_ (gR I hg hm boot_range (Qcm (cD (ha pos pins s σ H _ I h) λus s1 ⟨vs,H1,I1,r1,q1⟩=>?_) hs rfl))
 obtain ⟨j,e,q1,q2,q⟩:=q1
 subst e
 cases r1 with
 | cons r rr=>
  cases rr
  obtain ⟨t,rfl⟩:=r
  exact call_range_1 (yo I1 () () q1 q2 (by simpa using q))
theorem uD{a b:Expr}(hg:Gl X "range")(hm:X.mg "range"=none)(ha:PA X [a,b] ta)(hs:starEach [a,b] X.env=[(false,eval a X.env),(false,eval b X.env)]:=by rfl)(TB:starEach [b] X.env=[(false,eval b X.env)]:=by rfl):
  PI X tg (.Call (.Name "range" p) [a,b] [] pos) (Tz ta):=by
 walk_at"W"
 refine Call_ (gR I hg hm boot_range (Qcm (cD (ha pos pins s σ H _ I h) λus s1 ⟨vs,H1,I1,r1,q1⟩=>?_) (by rw[hs,TB]) (by rw[TB];rfl)))
 obtain ⟨i,j,e,⟨q1,q2,q3,q4⟩,q⟩:=q1
 subst e
 cases r1 with
 | cons r rr=>
  cases rr with
  | cons r' rr=>
   cases rr
   obtain ⟨t,rfl⟩:=r
   obtain ⟨t',rfl⟩:=r'
   exact call_range_2 (yo I1 q1 q2 q3 q4 q)
def Xs(wi:TI)(g:TG)(tb:TS):TS:=λD σ H=>wi σ H λJ H1=>∃W:Nat->Nat->St->Hp->Prop,(∃m,W 0 m σ H1)/\∀i m σ H,W i m σ H->(J.stop i H/\D.nx σ H)\/(J.go i H/\∃N:St->Hp->Prop,(∀σ' H',N σ' H'->∃m',m'<m/\W (i+1) m' σ' H')/\∀x H',J.FR i H x H'->g x σ H' λσ2 H2=>tb { D with nx:=N,ct:=N,bk:=D.nx } σ2 H2)
noncomputable def qC(fp:List Addr)(h:Heap):List (Addr×Obj):=fp.filterMap λb=>(h.get? b).map λo=>(b,o)
theorem iL{h:Heap}{o:Obj}(hb:b∈fp)(e:h.get? b=some o):(b,o)∈qC fp h:=List.mem_filterMap.mpr ⟨b,hb,by rw[e];rfl⟩
theorem DO{h:Heap}{p:Addr×Obj}(hp:p∈qC fp h):p.1∈fp/\h.get? p.1=some p.2:=by
 obtain ⟨b,hb,e⟩:=List.mem_filterMap.mp hp
 cases q:h.get? b with
 | none=>rw[q]at e;cases e
 | some o=>
  rw[q]at e
  have e':(b,o)=p:=Qal e
  subst e'
  exact ⟨hb,q⟩
theorem Inv.pinned(I:Inv X pins σ H s)(hf:∀b∈fp,ph X pins H b)(ho:∀b∈fp,∃o,s.heap.get? b=some o/\∀v,o.data≠ .cell v):Inv X (pins++qC fp s.heap) σ H s:=
 I.fP λp hp=>(Qap.mp hp).elim (λz=>I.pin p (Qam _ z)) λz=>by
  obtain ⟨hb,e⟩:=DO z
  obtain ⟨f0,f1,f2,_⟩:=hf p.1 hb
  obtain ⟨o,e',d⟩:=ho p.1 hb
  rw[e]at e';cases e'
  exact ⟨e,f0,f1,f2,d⟩
theorem Inv.jt{pl:List (Addr×Obj)}(I:Inv X (pins++pl) σ H s):Inv X pins σ H s:=I.fP λp hp=>I.pin p (Qam _ (Qca _ hp))
theorem cN{iter:Expr}{wi:TI}{g:TG}(hp:PassesOwn (model X.prog X.w) X.A X.env X.xe)(hc:X.calm=true)(hi:PI X tg iter wi)(hg:PG X tg g)(hb:x6 X body tb)
  (hs:∀x,foldedSetIterable iter X.env x=pure x:=by intro _;rfl):PS X (.For tg iter body [] pos) (Xs wi g tb):=by
 walk_at"r"
 refine wpAny_For (cD (hi pins s σ H _ I h) λv s1 h1=>cD h1 λXq s2 h2=>?_) hs
 obtain ⟨it,fp,tn,J,H2,e,I2,T,jq,f2,W,⟨m0,w0⟩,turn⟩:=h2
 subst e
 -- aaf stays true of Oc Oe objects through Oc loop
 have Of:∀{H':Hp},(∀b∈fp,H' b=none)->∀b∈fp,ph X pins H' b:=λhn b hb=>⟨hn b hb,(f2 b hb).2⟩
 refine codeAny_forLoop_any (λn s'=>∃i σ' H',Inv X pins σ' H' s'/\tn i s'.heap/\(∀b∈fp,H' b=none)/\W i n σ' H') ?_ m0 ⟨0,σ,H2,I2,jq,λb hb=>(f2 b hb).1,w0⟩
 rintro n s3 ⟨i,σ3,H3,I3,Ad,TC,w3⟩
 rcases turn i n σ3 H3 w3 with ⟨stop,qn⟩ | ⟨go,N,hN,step⟩
 ·refine wpAny_passesOwn hp (cD (T.done X rfl rfl rfl hc i pins s3 σ3 H3 X.xe I3 (Of TC) Ad stop) λr s4 ⟨hr,I4⟩=>?_)
  subst hr
  exact wpAny_execs_nil ⟨σ3,H3,I4,qn⟩
 ·refine wpAny_passesOwn hp (cD (T.item X rfl rfl rfl hc i pins s3 σ3 H3 X.xe I3 (Of TC) Ad go) λr s4 ⟨u,hr,h4⟩=>?_)
  subst hr
  refine wpAny_passesOwn hp (cD h4 λ_ s5 ⟨x,H5,I5,r5,y5,nA,Xt⟩=>?_)
  have Xu:=I5.pinned (Of Xt) (T.obj _ _ nA)
  refine wpAny_passesOwn hp (cD (hg _ s5 σ3 H5 x u _ Xu r5 (step x H5 y5)) λ_ s6 ⟨σ6,H6,I6,q6⟩=>?_)
  refine wpAny_passesOwn hp (cD (hb _ s6 σ6 H6 _ I6 q6) λf s7 q7=>?_)
  have again:∀{σ7:St} {H7:Hp},Inv X (pins++qC fp s5.heap) σ7 H7 s7->N σ7 H7->∃m,m<n/\∃i σ' H',Inv X pins σ' H' s7/\tn i s7.heap/\(∀b∈fp,H' b=none)/\W i m σ' H':=λ{σ7 H7} I7 n7=>by
   obtain ⟨m',hm,w7⟩:=hN σ7 H7 n7
   refine ⟨m',hm,i+1,σ7,H7,I7.jt,T.keep _ _ _ nA λb hb o e=>(I7.pin (b,o) (Qam _ (Qam _ (iL hb e)))).1,λb hb=>?_,w7⟩
   obtain ⟨o,e,d⟩:=T.obj _ _ nA b hb
   exact (I7.pin (b,o) (Qam _ (Qam _ (iL hb e)))).2.1
  cases f with
  | next=>obtain ⟨σ7,H7,I7,n7⟩:=q7;exact again I7 n7
  | cont=>obtain ⟨σ7,H7,I7,n7⟩:=q7;exact again I7 n7
  | brk=>obtain ⟨σ7,H7,I7,q7⟩:=q7;exact ⟨σ7,H7,I7.jt,q7⟩
  | ret v=>obtain ⟨x7,σ7,H7,I7,r7,q7⟩:=q7;exact ⟨x7,σ7,H7,I7.jt,r7,q7⟩
end
theorem ju{g:TG}(Pv:Nat->St->Hp->Prop)(h0:Pv 0 σ H)(hl:∀i σ H,i<=(xs:)->Pv i σ H->bL K H a xs)
  (hs:∀i x σ H,xs[i]? =some x->Pv i σ H->g x σ H λσ2 H2=>tb { D with nx:=Pv (i+1),ct:=Pv (i+1),bk:=D.nx } σ2 H2) (hd:∀σ H,Pv (xs:) σ H->D.nx σ H):
  ∃W:Nat->Nat->St->Hp->Prop,(∃m,W 0 m σ H)/\∀i m σ H,W i m σ H->
   ((RE K a).stop i H/\D.nx σ H)\/((RE K a).go i H/\∃N:St->Hp->Prop,(∀σ' H',N σ' H'->∃m',m'<m/\W (i+1) m' σ' H')/\∀x H',(RE K a).FR i H x H'->g x σ H' λσ2 H2=>tb { D with nx:=N,ct:=N,bk:=D.nx } σ2 H2):=by
 walk_at"h"
 rintro i m σ H ⟨rfl,hi,p⟩
 have q:=hl i σ H hi p
 by_cases cU:i<(xs:)
 ·refine .inr ⟨⟨xs,xs[i],q,by simp[cU]⟩,Pv (i+1),λσ' H' p'=>⟨(xs:) - (i+1),(),rfl,cU,p'⟩,λx H' y=>?_⟩
  obtain ⟨e,y⟩:=y
  subst e
  exact hs i x σ _ (y xs q) p
 ·have e:i=(xs:):=by lia
  subst e
  exact .inl ⟨⟨xs,q,Qaa _⟩,hd σ H p⟩
theorem dR{lo:Int}{g:TG}(Pv:Nat->St->Hp->Prop)(h0:Pv 0 σ H)
  (hs:∀i σ H,i<n->Pv i σ H->g (.int (lo+i)) σ H λσ2 H2=>tb { D with nx:=Pv (i+1),ct:=Pv (i+1),bk:=D.nx } σ2 H2) (hd:∀σ H,Pv n σ H->D.nx σ H):
  ∃W:Nat->Nat->St->Hp->Prop,(∃m,W 0 m σ H)/\∀i m σ H,W i m σ H->
   ((MS lo n).stop i H/\D.nx σ H)\/((MS lo n).go i H/\∃N:St->Hp->Prop,(∀σ' H',N σ' H'->∃m',m'<m/\W (i+1) m' σ' H')/\∀x H',(MS lo n).FR i H x H'->g x σ H' λσ2 H2=>tb { D with nx:=N,ct:=N,bk:=D.nx } σ2 H2):=by
 refine ⟨λi m σ H=>m=n - i/\i<=n/\Pv i σ H,⟨n,by simp,Qau _,h0⟩,?_⟩
 rintro i m σ H ⟨rfl,hi,p⟩
 by_cases cU:i<n
 ·refine .inr ⟨cU,Pv (i+1),λσ' H' p'=>⟨n - (i+1),(),rfl,cU,p'⟩,λx H' y=>?_⟩
  obtain ⟨e,y⟩:=y
  subst e y
  exact hs i σ _ cU p
 ·have e:i=n:=by lia
  subst e
  exact .inl ⟨Qaa _,hd σ H p⟩
abbrev R2:=V->V->Hp->VK->Prop
def lR(X:Cx)(f:Value->Value->Sem Value)(r:R2):Prop:=
 ∀(pins:List (Addr×Obj)) (s:Shared) (σ:St) (H:Hp) (x y:V) (v u:Value) (Q:VK),Inv X pins σ H s->RelV x v->RelV y u->r x y H Q->
  wpAny (model X.prog X.w) X.A (f v u) (EP X pins σ Q) X.xe s
def Xv(X:Cx)(f:Value->Sem Value)(r:V->Hp->VK->Prop):Prop:=
 ∀(pins:List (Addr×Obj)) (s:Shared) (σ:St) (H:Hp) (x:V) (v:Value) (Q:VK),Inv X pins σ H s->RelV x v->r x H Q->
  wpAny (model X.prog X.w) X.A (f v) (EP X pins σ Q) X.xe s
def dS(X:Cx)(f:Value)(r:List V->Hp->VK->Prop):Prop:=
 ∀(pins:List (Addr×Obj)) (s:Shared) (σ:St) (H:Hp) (xs:List V) (us:List Value) (Q:VK),Inv X pins σ H s->Vals xs us->r xs H Q->
  wpAny (model X.prog X.w) X.A (call f us) (EP X pins σ Q) X.xe s
def Xw(X:Cx)(r:V->Hp->(Bool->Hp->Prop)->Prop):Prop:=
 ∀(pins:List (Addr×Obj)) (s:Shared) (σ:St) (H:Hp) (x:V) (v:Value) (Q:Bool->Hp->Prop),Inv X pins σ H s->RelV x v->r x H Q->
  wpAny (model X.prog X.w) X.A (truthy v) (TP X pins σ Q) X.xe s
def Wd(r:R2)(ta tb:TE):TE:=λσ H Q=>ta σ H λx H1=>tb σ H1 λy H2=>r x y H2 Q
def tUn(r:V->Hp->VK->Prop)(ta:TE):TE:=λσ H Q=>ta σ H λx H1=>r x H1 Q
def rI(C:Int->Int->Prop)(g:Int->Int->V):R2:=λx y H Q=>I2 x y H λi j H=>C i j/\Q (g i j) H
def Ki(g:Int->Int->V):R2:=λx y H Q=>I2 x y H λi j H=>Q (g i j) H
def rU(g:Int->V):V->Hp->VK->Prop:=λx H Q=>∃i,x= .int i/\Q (g i) H
variable{g:Int->Int->Int}{r:R2}{f:Value->Value->Sem Value}
section
variable{X:Cx}{a b c:Expr}{ta tb tc:TE}{pos:Pos}
theorem Og(ha:PE X a ta)(hb:PE X b tb){R:V->V->Hp->Prop}(I:Inv X pins σ H s)
  (h:ta σ H λx H1=>tb σ H1 λy H2=>R x y H2) {Q:Value->Shared->Prop} {f:Value->Value->Sem Value}
  (hf:∀v u s2 x y H2,Inv X pins σ H2 s2->RelV x v->RelV y u->R x y H2->wpAny (model X.prog X.w) X.A (f v u) Q X.xe s2):
  wpAny (model X.prog X.w) X.A (eval a X.env) (λv s₁=>wpAny (model X.prog X.w) X.A (eval b X.env) (λu s₂=>wpAny (model X.prog X.w) X.A (f v u) Q X.xe s₂) X.xe s₁) X.xe s:=by
 refine cD (ha pins s σ H _ I h) λv s1 ⟨x,H1,I1,r1,q1⟩=>?_
 refine cD (hb pins s1 σ H1 _ I1 q1) λu s2 ⟨y,H2,I2,r2,q2⟩=>?_
 exact hf v u s2 x y H2 I2 r1 r2 q2
theorem aD{op:Operator}(ho:lR X (binaryOp op) r)(ha:PE X a ta)(hb:PE X b tb):PE X (.BinOp a op b pos) (Wd r ta tb):=by
 walk_at"f"
 exact wpAny_BinOp (Og ha hb I h λv u s2 x y H2 I2 rx ry q=>ho pins s2 σ H2 x y v u Q I2 rx ry q)
theorem yp{op:UnaryOp}{r:V->Hp->VK->Prop}(ho:Xv X (unaryOp op) r)(ha:PE X a ta):PE X (.UnaryOp op a pos) (tUn r ta):=by
 walk_at"f"
 exact UnaryOp_ (cD (ha pins s σ H _ I h) λv s1 ⟨x,H1,I1,r1,q1⟩=>ho pins s1 σ H1 x v Q I1 r1 q1)
theorem We{C:Int->Int->Prop}
  (rule:∀(i j:Int) (t u:Tok) (s:Shared) (Q:Value->Shared->Prop) (E:Value->Shared->Prop),C i j->Q (.int (g i j) s.toks) { s with toks:=s.toks+1 }->wpAny (model X.prog X.w) X.A (f (.int i t) (.int j u)) Q E s):
  lR X f (rI C λi j=> .int (g i j)):=by
 walk_at"c"
 obtain ⟨i,j,rfl,rfl,hc,q⟩:=h
 walk_at"e"
 walk_at"V"
 exact rule i j t t' s _ _ hc ⟨.int (g i j),H,I.tok _,⟨_,rfl⟩,q⟩
theorem TF
  (rule:∀(i j:Int) (t u:Tok) (s:Shared) (Q:Value->Shared->Prop) (E:Value->Shared->Prop),Q (.int (g i j) s.toks) { s with toks:=s.toks+1 }->wpAny (model X.prog X.w) X.A (f (.int i t) (.int j u)) Q E s):
  lR X f (Ki λi j=> .int (g i j)):=by
 walk_at"c"
 obtain ⟨i,j,rfl,rfl,q⟩:=h
 walk_at"e"
 walk_at"V"
 exact rule i j t t' s _ _ ⟨.int (g i j),H,I.tok _,⟨_,rfl⟩,q⟩
theorem Kj{g:Int->Int->Bool}
  (rule:∀(i j:Int) (t u:Tok) (s:Shared) (Q:Value->Shared->Prop) (E:Value->Shared->Prop),Q (.bool (g i j)) s->wpAny (model X.prog X.w) X.A (f (.int i t) (.int j u)) Q E s):
  lR X f (Ki λi j=> .bl (g i j)):=by
 walk_at"c"
 obtain ⟨i,j,rfl,rfl,q⟩:=h
 walk_at"e"
 walk_at"V"
 exact rule i j t t' s _ _ ⟨.bl (g i j),H,I,rfl,q⟩
def Xx(i j:Int):Prop:=0<j/\j<1073741824
def Xy(i j:Int):Prop:=0<=j/\j<=1000000/\i.natAbs<2 ^ 64
def Kk(i j:Int):Prop:=(-(2 ^ 64)<i/\i<2 ^ 64)\/(-(2 ^ 64)<j/\j<2 ^ 64)
theorem Kk.ok{i j:Int}(h:Kk i j):IntMulOk i j:=by
 rcases h with ⟨h1,h2⟩ | ⟨h1,h2⟩
 ·exact .of_left (intBits_le_64 h1 h2)
 ·exact .of_right (intBits_le_64 h1 h2)
theorem bo:lR X (binaryOp .Add) (Ki λi j=> .int (i+j)):=TF λ_ _ _ _ _ _ _ q=>add_int q
theorem eh:lR X (binaryOp .Sub) (Ki λi j=> .int (i - j)):=TF λ_ _ _ _ _ _ _ q=>sub_int q
theorem nI:lR X (binaryOp .Mult) (rI Kk λi j=> .int (i*j)):=We λ_ _ _ _ _ _ _ hc q=>mul_int q hc.ok
theorem eV:lR X (binaryOp .Mod) (rI (λ_ j=>0<j) λi j=> .int (i%j)):=We λi j _ _ _ _ _ hc q=>by
 have h1:(0:Int)<j:=hc
 exact mod_int' () (by rw[Int.fmod_eq_emod_of_nonneg i ()];exact q)
theorem FT:lR X (binaryOp .Pow) (rI Xy λi j=> .int (i ^ j.toNat)):=We λ_ _ _ _ _ _ _ hc q=>pow_int_small hc.1 hc.2.1 hc.2.2 q
theorem unI{f:Value->Sem Value}{g:Int->Int}
  (rule:∀(i:Int) (t:Tok) (s:Shared) (Q:Value->Shared->Prop) (E:Value->Shared->Prop),Q (.int (g i) s.toks) { s with toks:=s.toks+1 }->wpAny (model X.prog X.w) X.A (f (.int i t)) Q E s):
  Xv X f (rU λi=> .int (g i)):=by
 intro pins s σ H x v Q I rx h
 obtain ⟨i,rfl,q⟩:=h
 walk_at"e"
 exact rule i t s _ _ ⟨.int (g i),H,I.tok _,⟨_,rfl⟩,q⟩
theorem qD:Xv X (unaryOp .USub) (rU λi=> .int (-i)):=unI λ_ _ _ _ _ q=>neg_int q
end
noncomputable def TH:V->V->Bool
 | .gz,.gz=>true | .gz,.int _=>true | .int _,.gz=>true | .gz,.bl _=>true | .bl _,.gz=>true | .gz,.str _=>true | .str _,.gz=>true
 | .int _,.int _=>true | .bl _,.bl _=>true | .str _,.str _=>true | .B4 _, .B4 _=>true
 | .int _,.str _=>true | .str _,.int _=>true | .bl _,.str _=>true | .str _,.bl _=>true
 | _,_=>false
def rEq:R2:=λx y H Q=>TH x y=true/\Q (.bl (decide (x=y))) H
def rNe:R2:=λx y H Q=>TH x y=true/\Q (.bl (!decide (x=y))) H
theorem B_{i j:Int}:decide (V.int i=V.int j)=(i==j):=by
 rw[Qew]
 simp
theorem FU{i j:Bool}:decide (V.bl i=V.bl j)=(i==j):=by
 rw[Qew]
 simp
theorem Ca{i j:Str}:decide (V.str i=V.str j)=(i==j):=by
 rw[Qew]
 simp
theorem Cb{i j:Array UInt8}:decide (V.B4 i=V.B4 j)=(i.toList==j.toList):=by
 rw[Qew]
 cases i
 cases j
 simp
variable{op:CmpOp}
section
variable{X:Cx}{a b c:Expr}{ta tb tc:TE}{pos:Pos}
theorem bz{Q:VK}{k k':Bool}(I:Inv X pins σ H s)(q:Q (.bl k) H)(e:k=k'):EP X pins σ Q (.bool k') s:=by
 subst e
 exact ⟨.bl k,H,I,rfl,q⟩
theorem MU:lR X (compareOp .Eq) rEq:=by
 walk_at"c"
 obtain ⟨hs,q⟩:=h
 cases x with
 | gz=>
  cases rx
  cases y with
  | gz=>cases ry;exact PySem.EqNone.eq_none_none (bz I q (by simp))
  | bl j=>cases ry;exact PySem.EqNone.eq_none_bool (bz I q (by simp))
  | int j=>obtain ⟨t',rfl⟩:=ry;exact PySem.EqNone.eq_none_int (bz I q (by simp))
  | str j=>obtain ⟨t',rfl⟩:=ry;exact PySem.EqNone.eq_none_str (bz I q (by simp))
  | _=>exact absurd (show false=true from hs) Qa8
 | bl i=>
  cases rx
  cases y with
  | gz=>cases ry;exact PySem.EqNone.eq_bool_none (bz I q (by simp))
  | bl j=>cases ry;exact eq_bool (bz I q FU)
  | str j=>obtain ⟨t',rfl⟩:=ry;exact PySem.EqMixed.eq_bool_str (bz I q (by simp))
  | _=>exact absurd (show false=true from hs) Qa8
 | int i=>
  walk_at"e"
  cases y with
  | gz=>cases ry;exact PySem.EqNone.eq_int_none (bz I q (by simp))
  | int j=>obtain ⟨t',rfl⟩:=ry;exact eq_int (bz I q B_)
  | str j=>obtain ⟨t',rfl⟩:=ry;exact PySem.EqMixed.eq_int_str (bz I q (by simp))
  | _=>exact absurd (show false=true from hs) Qa8
 | str i=>
  walk_at"e"
  cases y with
  | gz=>cases ry;exact PySem.EqNone.eq_str_none (bz I q (by simp))
  | bl j=>cases ry;exact PySem.EqMixed.eq_str_bool (bz I q (by simp))
  | int j=>obtain ⟨t',rfl⟩:=ry;exact PySem.EqMixed.eq_str_int (bz I q (by simp))
  | str j=>obtain ⟨t',rfl⟩:=ry;exact eq_str (bz I q Ca)
  | _=>exact absurd (show false=true from hs) Qa8
 | B4 i=>
  walk_at"e"
  cases y with
  | B4 j=>obtain ⟨t',rfl⟩:=ry;exact PySem.W.eq_bytes (bz I q Cb)
  | _=>exact absurd (show false=true from hs) Qa8
 | _=>cases y<;>exact absurd (show false=true from hs) Qa8
theorem TJ:lR X (compareOp .NotEq) rNe:=by
 walk_at"c"
 obtain ⟨hs,q⟩:=h
 cases x with
 | gz=>
  cases rx
  cases y with
  | gz=>cases ry;exact PySem.EqNone.ne_none_none (bz I q (by simp))
  | bl j=>cases ry;exact PySem.EqNone.ne_none_bool (bz I q (by simp))
  | int j=>obtain ⟨t',rfl⟩:=ry;exact PySem.EqNone.ne_none_int (bz I q (by simp))
  | str j=>obtain ⟨t',rfl⟩:=ry;exact PySem.EqNone.ne_none_str (bz I q (by simp))
  | _=>exact absurd (show false=true from hs) Qa8
 | bl i=>
  cases rx
  cases y with
  | gz=>cases ry;exact PySem.EqNone.ne_bool_none (bz I q (by simp))
  | bl j=>cases ry;exact ne_bool (bz I q (congrArg not FU))
  | str j=>obtain ⟨t',rfl⟩:=ry;exact PySem.EqMixed.ne_bool_str (bz I q (by simp))
  | _=>exact absurd (show false=true from hs) Qa8
 | int i=>
  walk_at"e"
  cases y with
  | gz=>cases ry;exact PySem.EqNone.ne_int_none (bz I q (by simp))
  | int j=>obtain ⟨t',rfl⟩:=ry;exact ne_int (bz I q (congrArg not B_))
  | str j=>obtain ⟨t',rfl⟩:=ry;exact PySem.EqMixed.ne_int_str (bz I q (by simp))
  | _=>exact absurd (show false=true from hs) Qa8
 | str i=>
  walk_at"e"
  cases y with
  | gz=>cases ry;exact PySem.EqNone.ne_str_none (bz I q (by simp))
  | bl j=>cases ry;exact PySem.EqMixed.ne_str_bool (bz I q (by simp))
  | int j=>obtain ⟨t',rfl⟩:=ry;exact PySem.EqMixed.ne_str_int (bz I q (by simp))
  | str j=>obtain ⟨t',rfl⟩:=ry;exact ne_str (bz I q (congrArg not Ca))
  | _=>exact absurd (show false=true from hs) Qa8
 | B4 i=>
  walk_at"e"
  cases y with
  | B4 j=>obtain ⟨t',rfl⟩:=ry;exact PySem.W.ne_bytes (bz I q (congrArg not Cb))
  | _=>exact absurd (show false=true from hs) Qa8
 | _=>cases y<;>exact absurd (show false=true from hs) Qa8
theorem uE:lR X (compareOp .Lt) (Ki λi j=> .bl (decide (i<j))):=Kj λ_ _ _ _ _ _ _ q=>lt_int q
theorem MV:lR X (compareOp .LtE) (Ki λi j=> .bl (decide (i<=j))):=Kj λ_ _ _ _ _ _ _ q=>le_int q
theorem uF:lR X (compareOp .Gt) (Ki λi j=> .bl (decide (j<i))):=Kj λ_ _ _ _ _ _ _ q=>gt_int q
theorem FV:lR X (compareOp .GtE) (Ki λi j=> .bl (decide (j<=i))):=Kj λ_ _ _ _ _ _ _ q=>ge_int q
theorem DP:lR X (compareOp .Lt) (λx y H Q=>∃i j,x= .str i/\y= .str j/\Q (.bl (decide (i.cps.toList<j.cps.toList))) H):=by
 walk_at"c"
 obtain ⟨i,j,rfl,rfl,q⟩:=h
 walk_at"e"
 walk_at"V"
 exact lt_str (bz I q rfl)
theorem DQ:lR X (compareOp .In) (λx y H Q=>∃i j,x= .str i/\y= .str j/\Q (.bl (!(Builtin.Str.occurrences j i 0 (j:) 1).isEmpty)) H):=by
 walk_at"c"
 obtain ⟨i,j,rfl,rfl,q⟩:=h
 walk_at"e"
 walk_at"V"
 exact in_str (bz I q rfl)
theorem aZ(b:Expr)(h:op≠ .In:=by decide)(h2:op≠ .NotIn:=by decide):behindInMarks op b=false:=by
 have e1:(op==CmpOp.In)=false:=by cases op<;>first | rfl | exact absurd rfl h
 have e2:(op==CmpOp.NotIn)=false:=by cases op<;>first | rfl | exact absurd rfl h2
 cases b<;>simp[behindInMarks,e1,e2]
theorem eA(ho:lR X (compareOp op) r)(ha:PE X a ta)(hb:PE X b tb)(hm:behindInMarks op b=false):PE X (.Compare a [op] [b] pos) (Wd r ta tb):=by
 walk_at"f"
 exact wpAny_Compare1 (Og ha hb I h λv u s2 x y H2 I2 rx ry q=>ho pins s2 σ H2 x y v u Q I2 rx ry q) hm
def TK(t:TE):TT:=λσ H Q=>t σ H λx H'=>IB x H' Q
theorem bf(ho:lR X (compareOp op) r)(ha:PE X a ta)(hb:PE X b tb)(hm:behindInMarks op b=false):PT X (.Compare a [op] [b] pos) (TK (Wd r ta tb)):=by
 walk_at"f"
 refine wpAny_isTrue_Compare1 (cD (ha pins s σ H _ I h) λv s1 ⟨x,H1,I1,r1,q1⟩=>cD (hb pins s1 σ H1 _ I1 q1) λu s2 ⟨y,H2,I2,r2,q2⟩=>
  cD (ho pins s2 σ H2 x y v u _ I2 r1 r2 q2) λc s3 ⟨z,H3,I3,r3,k,e,q3⟩=>?_) hm
 subst e
 cases r3
 exact wpAny_truthy_bool ⟨H3,I3,q3⟩
def Xz(K:c8)(x:V)(H:Hp)(k:Bool):Prop:=
 match x with
 | .gz=>k=false
 | .bl b=>k=b
 | .int i=>k=(i != 0)
 | .str y=>(y:)<=sizeLine/\k=(((y:):Int) != 0)
 | .B4 y=>y.size<=sizeLine/\k=((y.size:Int) != 0)
 | .ref p=>(∃xs,bL K H p xs/\k=!xs.isEmpty)\/(∃xs,di K H p xs/\k=!xs.isEmpty)\/∃aI,H p=some (.dK aI)/\k=!aI.isEmpty
 | _=>False
theorem Aq{κ:Type}{aI:List (κ×V)}{vs:List (κ×Value)}(r:KV aI vs):(!vs.isEmpty)=!aI.isEmpty:=by
 cases r<;>rfl
theorem qE{aK:List Value}(r:Vals xs aK):(!aK.toArray.isEmpty)=!xs.isEmpty:=by
 cases r<;>simp
theorem f_:(sizeLine:Nat)<2 ^ 63:=by rw[sizeLine_eq];decide
theorem Oh:Xw X (λx H Q=>∃k,Xz X.K x H k/\Q k H):=by
 intro pins s σ H x v Q I rx h
 obtain ⟨k,e,q⟩:=h
 have hl:=f_
 have hs:sizeLine=16777216:=sizeLine_eq
 cases x with
 | gz=>
  cases rx
  have e':k=false:=e
  subst e'
  exact truthy_none ⟨H,I,q⟩
 | bl b=>
  cases rx
  have e':k=b:=e
  subst e'
  exact wpAny_truthy_bool ⟨H,I,q⟩
 | int i=>
  walk_at"e"
  have e':k=(i != 0):=e
  subst e'
  exact PySem.P.truthy_int ⟨H,I,q⟩
 | str y=>
  walk_at"e"
  obtain ⟨hy,e'⟩:(y:)<=sizeLine/\k=(((y:):Int) != 0):=e
  subst e'
  exact PySem.P.truthy_str () ⟨H,I.tok _,q⟩
 | B4 y=>
  walk_at"e"
  obtain ⟨hy,e'⟩:y.size<=sizeLine/\k=((y.size:Int) != 0):=e
  subst e'
  exact PySem.W.truthy_bytes () ⟨H,I.tok _,q⟩
 | ref p=>
  cases rx
  have e':(∃xs,bL X.K H p xs/\k=!xs.isEmpty)\/(∃xs,di X.K H p xs/\k=!xs.isEmpty)\/∃aI,H p=some (.dK aI)/\k=!aI.isEmpty:=e
  rcases e' with ⟨xs,hx,e'⟩ | ⟨xs,hx,e'⟩ | ⟨aI,hx,e'⟩
  ·subst e'
   obtain ⟨aK,r,pl,hz⟩:=I.list hx
   have hlen:=(r:)
   exact wpAny_truthy_list pl.isList (by simp only[Qah];lia) ⟨H,I.tok _,by rw[qE r];exact q⟩
  ·subst e'
   obtain ⟨aK,r,pl,hz⟩:=I.tuple hx
   have hlen:=(r:)
   exact truthy_tuple pl (by simp only[Qah];lia) ⟨H,I.tok _,by rw[qE r];exact q⟩
  ·subst e'
   obtain ⟨hz,hS,vs,r,m⟩:(aI:)<=sizeLine/\(p==sysModules)=false/\∃vs,KV aI vs/\s.heap.DictOf (cM X.prog X.w) p vs:=I.bU p _ hx
   have hlen:(aI:)=(vs:):=Paired.length r
   exact wpAny_truthy_dict hS m () ⟨H,I.tok _,by rw[Aq r];exact q⟩
 | _=>exact (show False from e).elim
theorem Ar:lR X (binaryOp .Add) (λx y H Q=>∃i j,x= .str i/\y= .str j/\(i:)+(j:)<=sizeLine/\Q (.str (i++j)) H):=by
 walk_at"c"
 obtain ⟨i,j,rfl,rfl,hz,q⟩:=h
 walk_at"e"
 walk_at"V"
 exact add_str (λt' tk=>⟨.str (i++j),H,I.tok _,⟨_,rfl⟩,q⟩) hz
theorem vals1{x:V}(r:Vals [x] us):∃u,us=[u]/\RelV x u:=by
 cases r with
 | cons r1 r2=>cases r2;exact ⟨_,rfl,r1⟩
theorem vals2{x:V}(r:Vals [x,y] us):∃u w',us=[u,w']/\RelV x u/\RelV y w':=by
 cases r with
 | cons r1 r2=>
  cases r2 with
  | cons r3 r4=>cases r4;exact ⟨_,_,rfl,r1,r3⟩
theorem DR(hc:X.calm=true):dS X (.builtin "max") (λxs H Q=>∃i j,xs=[.int i,.int j]/\Q (.int (if j>i then j else i)) H):=by
 walk_at"g"
 obtain ⟨i,j,rfl,q⟩:=h
 obtain ⟨u,w',rfl,⟨t,rfl⟩,⟨t',rfl⟩⟩:=vals2 r
 refine max_two_ints (I.ok.hd hc) λh' tk k=>⟨_,H,I.kept k,?_,q⟩
 by_cases hj:j>i
 ·rw[if_pos hj,if_pos hj];exact ⟨_,rfl⟩
 ·rw[if_neg hj,if_neg hj];exact ⟨_,rfl⟩
theorem ke(hc:X.calm=true):dS X (.builtin "min") (λxs H Q=>∃i j,xs=[.int i,.int j]/\Q (.int (if j<i then j else i)) H):=by
 walk_at"g"
 obtain ⟨i,j,rfl,q⟩:=h
 obtain ⟨u,w',rfl,⟨t,rfl⟩,⟨t',rfl⟩⟩:=vals2 r
 refine min_two_ints (I.ok.hd hc) λh' tk k=>⟨_,H,I.kept k,?_,q⟩
 by_cases hj:j<i
 ·rw[if_pos hj,if_pos hj];exact ⟨_,rfl⟩
 ·rw[if_neg hj,if_neg hj];exact ⟨_,rfl⟩
theorem uG:dS X (.type "int") (λxs H Q=>(∃i,xs=[.int i]/\Q (.int i) H)\/∃k,xs=[.bl k]/\Q (.int (if k then 1 else 0)) H):=by
 walk_at"g"
 rcases h with ⟨i,rfl,q⟩ | ⟨k,rfl,q⟩
 ·obtain ⟨u,rfl,t,rfl⟩:=vals1 r
  exact call_int_int ⟨.int i,H,I,⟨_,rfl⟩,q⟩
 ·obtain ⟨u,rfl,r1⟩:=vals1 r
  cases r1
  exact call_int_bool ⟨.int (if k then 1 else 0),H,I.tok _,⟨_,rfl⟩,q⟩
theorem wd:dS X (.type "str") (λxs H Q=>∃i,xs=[.int i]/\i.natAbs.log2<1920/\Q (.str (toString i)) H):=by
 walk_at"g"
 obtain ⟨i,rfl,hz,q⟩:=h
 obtain ⟨u,rfl,t,rfl⟩:=vals1 r
 exact PySem.P.str_of_int hz ⟨.str _,H,I.tok _,⟨_,rfl⟩,q⟩
end
structure DS(h:Heap)(x dx C:Addr)(mA:Str->Option Value):Prop where
 obj:h.get? x=some (PySem.W.instObj C dx)
 ns:h.Ns1 dx mA
 ne:dx≠x
variable{dx:Addr}{mA:Str->Option Value}
theorem DT{h:Heap}(n:h.Ns1 dx mA):∃od,h.get? dx=some od/\∀name,PySem.W.lookIn name od=some (mA name):=by
 obtain ⟨o,es,ep,ho,hd,hk,_,hm⟩:=n
 refine ⟨o,ho,λname=>?_⟩
 have e:=hm name
 unfold nsFind findBy at e
 rw[<-Array.find?_toList]at e
 unfold PySem.W.lookIn
 rw[hd]
 dsimp only
 split
 ·rename_i y q
  rw[q]at e
  exact congrArg some e
 ·rename_i q
  rw[q]at e
  have a:es.toList.any (·.refKey)=false:=by
   rw[Qgn]
   intro y hy
   obtain ⟨z,t,Kl⟩:=hk y (Array.mem_toList_iff.mp hy)
   simp[DictEntry.refKey,Kl]
  have a': ¬es.toList.any (·.refKey)=true:=by rw[a];exact Qa8
  rw[if_neg a']
  exact congrArg some e
variable{C:Addr}
theorem DS.look{h:Heap}{x:Addr}(I:DS h x dx C mA):∃od,PySem.W.InstAt h x (PySem.W.instObj C dx) C (some od)/\∀name,PySem.W.lookIn name od=some (mA name):=
 let ⟨od,ho,hl⟩:=DT I.ns
 ⟨od,⟨I.obj,rfl,rfl,ho⟩,hl⟩
variable{kw:List (Str×Value)}
section
variable{prog:Program}{w:World}{A:Around}{E:Value->Shared->Prop}{s:Shared}{K:c8}{x dx C f:Addr}{mA:Str->Option Value}{name:Str}{v:Value}
theorem get_map{expr:Bool}(X:K.In s.heap)(I:DS s.heap x dx C mA)(hg:PySem.W.plainGet K C name=true)(hh:PySem.W.hasDictIn K C=true)
  (ha:PySem.W.findIn K (.ref C) name=some none) (hv:mA name=some v) (Wf:PySem.W.handedIn v=true) (h:Q v { s with toks:=s.toks+1 }):
  wpAny (model prog w) A (getAttr (.ref x) name expr) Q E s:=by
 obtain ⟨od,J,hl⟩:=I.look
 exact PySem.W.get_value X J (PySem.W.plainGet_of hg).1 (PySem.W.findObj_own hh ha rfl (by rw[hl,hv])) Wf h
theorem Km{ns:List Str}{Q:Unit->Shared->Prop}(X:K.In s.heap)(I:DS s.heap x dx C mA)
  (hs:PySem.W.findIn K (.ref C) "__setattr__"=some (some (.builtin "object.__setattr__"))) (hp:PySem.W.plainOver K C=true) (ht:PySem.W.takerIn K C name=some none) (hh:PySem.W.hasDictIn K C=true)
  (hw:PySem.Within mA ns) (hsz:(ns:)<=sizeLine)
  (h:∀h',DS h' x dx C (λy=>if y=name then some v else mA y)->Heap.SameBut dx s.heap h'->Q Unit.unit { s with heap:=h',toks:=s.toks+2 }):
  wpAny (model prog w) A (setAttr (.ref x) name v) Q E s:=by
 obtain ⟨od,J,hl⟩:=I.look
 refine PySem.W.set_plain X J hs (PySem.W.osa_open (s:={ s with toks:=s.toks+1 }) (r:=none) X J hp ht λb=>?_)
 obtain ⟨cd,hc,Xb⟩:=PySem.W.any_some hh
 have hx:s.heap.get? x=some ⟨.ref C,some dx,.plain, #[]⟩:=I.obj
 refine wpAny_bind (wpAny_pure (wpAny_bind (wpAny_bind (wpAny_loadPart hx (wpAny_bind (PySem.W.Looks.here (s:={ s with toks:=s.toks+1 }) (PySem.W.looks_clsIn X hc) ?_))))))
 rw[Xb]
 refine wpAny_pure (a:=some dx) (wpAny_bind (wpAny_pure (wpAny_bind ?_)))
 refine wpAny_nsSet1 (s:={ s with toks:=s.toks+1 }) I.ns λh' we TB=>?_
 obtain ⟨oD,esD,epD,hoD,hdD,hcD⟩:=we.count (PySem.Within.cons name v hw)
 refine wpAny_bind (wpAny_lookBehind hoD (by rw[hdD];exact pastItsLine_dict (Qa7 hcD (by rw[Qba];lia))) ?_)
 exact wpAny_pure (h _ ⟨(TB.2 _ (Ne.symm I.ne)).trans I.obj,we,I.ne⟩ TB)
theorem FW{R:Result->Shared->Prop}{vs:List Value}(X:K.In s.heap)(hm:PySem.W.makesIn K C=true)
  (hi:PySem.W.findIn K (.ref C) "__init__"=some (some (.ref f))) (hf:PySem.W.typeIn K (.ref f)=some (.type "function"))
  (h:codeAny (model prog w) (A.under (.builtin "type.__call__" ⟨.ref C::vs,kw⟩)) (.call (.ref f) ⟨.ref (s.heap.objs.size+1)::vs,kw⟩) (PySem.W.InitBack (s.heap.objs.size+1) R)
   { s with heap:=(s.heap.push PySem.W.emptyDict).push (PySem.W.instObj C s.heap.objs.size) }):
  codeAny (model prog w) A (.call (.ref C) ⟨vs,kw⟩) R s:=by
 obtain ⟨hh,g,d,t,os⟩:=s
 exact PySem.W.make_core (PySem.W.makes_of X hm) (PySem.W.looks_findIn X hi) (λself=>PySem.W.bind_fn X self hf) (.inl rfl) h
end
noncomputable def eB(f:Str)(v:V):List (Str×V)->List (Str×V)
 | []=>[(f,v)]
 |(g,x)::r=>if g=f then (g,v)::r else (g,x)::eB f v r
theorem aL(f g:Str)(v:V):∀fs:List (Str×V),(eB f v fs).lookup g=if g=f then some v else fs.lookup g
 | []=>by
  show List.lookup g [(f,v)]=_
  by_cases h:g=f
  ·have hb:(g==f)=true:=beq_iff_eq.mpr h
   simp only[List.lookup,hb,if_pos h]
  ·have hb:(g==f)=false:=beq_eq_false_iff_ne.mpr h
   simp only[List.lookup,hb,if_neg h]
 |(k,x)::r=>by
  have ih:=aL f g v r
  walk_at"B"
  by_cases hk:k=f
  ·rw[if_pos hk]
   by_cases h:g=k
   ·have hb:(g==k)=true:=beq_iff_eq.mpr h
    simp only[List.lookup,hb,if_pos (h.trans hk)]
   ·have hb:(g==k)=false:=beq_eq_false_iff_ne.mpr h
    simp only[List.lookup,hb,if_neg (λe:g=f=>h (e.trans hk.symm))]
  ·rw[if_neg hk]
   by_cases h:g=k
   ·have hb:(g==k)=true:=beq_iff_eq.mpr h
    simp only[List.lookup,hb,if_neg (λe:g=f=>hk (h.symm.trans e))]
   ·have hb:(g==k)=false:=beq_eq_false_iff_ne.mpr h
    simp only[List.lookup,hb]
    exact ih
theorem nJ(f:Str)(v:V):∀fs:List (Str×V),f∈(eB f v fs).map (·.1)/\∀g,g∈fs.map (·.1)->g∈(eB f v fs).map (·.1)
 | []=>⟨by simp[eB],λg h=>by simp at h⟩
 |(k,x)::r=>by
  obtain ⟨i1,i2⟩:=nJ f v r
  walk_at"B"
  by_cases hk:k=f
  ·rw[if_pos hk]
   subst hk
   exact ⟨by simp,λg h=>by simpa using h⟩
  ·rw[if_neg hk]
   refine ⟨?_,λg h=>?_⟩
   ·rw[Qa3]
    exact Qae _ i1
   ·rw[Qa3]at h ⊢
    rcases Qaf.mp h with e | e
    ·exact Qaf.mpr (.inl e)
    ·exact Qae _ (i2 g e)
theorem oT(f:Str)(v:V):∀fs:List (Str×V),(eB f v fs:)<=(fs:)+1
 | []=>by simp[eB]
 |(k,x)::r=>by
  have ih:=oT f v r
  walk_at"B"
  by_cases hk:k=f
  ·rw[if_pos hk,Qba,Qba];lia
  ·rw[if_neg hk,Qba,Qba];lia
theorem nF.some_of{o:Option Value}(r:nF (some v) o):∃u,o=some u/\RelV v u:=by
 cases o with
 | none=>exact (show False from r).elim
 | some u=>exact ⟨u,rfl,r⟩
theorem DU(r:RelV v u):PySem.W.handedIn u=true:=by
 cases v with
 | gz=>cases (show u=Value.none from r);rfl
 | bl b=>cases (show u=Value.bool b from r);rfl
 | int i=>obtain ⟨t,e⟩:=(show ∃t,u=Value.int i t from r);cases e;rfl
 | str x=>obtain ⟨t,e⟩:=(show ∃t,u=Value.str x t from r);cases e;rfl
 | B4 b=>obtain ⟨t,e⟩:=(show ∃t,u=Value.bytes b t from r);cases e;rfl
 | V8 b=>obtain ⟨t,e⟩:=(show ∃t,u=Value.float b t from r);cases e;rfl
 | ref a=>cases (show u=Value.ref a from r);rfl
 | ty n=>cases (show u=Value.type n from r);rfl
section
variable{P:Program}{w:World}{H H':Hp}{h h':Heap}{a C dx:Addr}{fs fs':List (Str×V)}
theorem Cc(bU:lO P w H h)(e:H a=some (.ins C dx fs)):∃mA,DS h a dx C mA/\(∀f,nF (fs.lookup f) (mA f))/\PySem.Within mA (fs.map (·.1))/\(fs:)<=1000/\H dx=some (.own a):=by
 obtain ⟨d,z,ne,ob,mA,n,r,q⟩:=(show cC P w H h a (.ins C dx fs) from bU a _ e)
 exact ⟨mA,⟨ob,n,ne⟩,r,q,z,d⟩
end
structure MW(K:c8)(C:Addr):Prop where
 pg:PySem.W.plainGet K C Str.empty=true
 hd:PySem.W.hasDictIn K C=true
 po:PySem.W.plainOver K C=true
 sa:PySem.W.findIn K (.ref C) "__setattr__"=some (some (.builtin "object.__setattr__"))
theorem MW.get(c:MW K C)(f:Str):PySem.W.plainGet K C f=true:=c.pg
def eE(K:c8)(C:Addr)(f:Str):Prop:=PySem.W.findIn K (.ref C) f=some none
theorem eE.TL{f:Str}(n:eE K C f):PySem.W.takerIn K C f=some none:=by
 unfold PySem.W.takerIn
 rw[show PySem.W.findIn K (.ref C) f=some none from n]
 rfl
section
variable{X:Cx}{pins:List (Addr×Obj)}{σ:St}{H:Hp}{s:Shared}{a C dx:Addr}{fs:List (Str×V)}{f:Str}{v:V}{A:Around}{E:Value->Shared->Prop}
theorem As{b:Bool}(I:Inv X pins σ H s)(e:H a=some (.ins C dx fs))(c:MW X.K C)(n:eE X.K C f)(l:fs.lookup f=some v)
  (h:∀u s',Inv X pins σ H s'->RelV v u->Q u s'):wpAny (model X.prog X.w) A (getAttr (.ref a) f b) Q E s:=by
 obtain ⟨mA,O,r,_,_,_⟩:=Cc I.bU e
 obtain ⟨u,hu,ru⟩:=nF.some_of (v:=v) (o:=mA f) (by rw[<-l];exact r f)
 exact get_map I.Ak O (c.get f) c.hd n hu (DU ru) (h u _ (I.tok _) ru)
theorem Au{Q:Unit->Shared->Prop}(I:Inv X pins σ H s)(e:H a=some (.ins C dx fs))(c:MW X.K C)(n:eE X.K C f)(hl:(fs:)<1000)(ry:RelV y u)
  (h:∀s',Inv X pins σ (upd H a (.ins C dx (eB f y fs))) s'->Q Unit.unit s'):wpAny (model X.prog X.w) A (setAttr (.ref a) f u) Q E s:=by
 obtain ⟨mA,O,r,wi,_,ho⟩:=Cc I.bU e
 have hz:(fs.map (·.1):)<=sizeLine:=by rw[Wh,sizeLine_eq];lia
 refine Km I.Ak O c.sa c.po n.TL c.hd wi hz λh' O' sb=>h _ ?_
 have hd:∃o,h'.get? dx=some o:=let ⟨o,_,_,e',_⟩:=O'.ns;⟨o,e'⟩
 refine I.write (x:=a) (e:=dx) (by rw[e];exact True.intro) (.inr ho) (λb q hb z=>(sb.2 b hb).trans z) hd ?_
 refine ⟨by rw[au O.ne];exact ho,?_,O.ne,O'.obj,_,O'.ns,λg=>?_,λg hg=>?_⟩
 ·have:=oT f y fs;lia
 ·show nF ((eB f y fs).lookup g) (if g=f then some u else mA g)
  rw[aL]
  by_cases q:g=f
  ·rw[if_pos q,if_pos q];exact ry
  ·rw[if_neg q,if_neg q];exact r g
 ·by_cases q:g=f
  ·rw[q];exact (nJ f y fs).1
  ·refine (nJ f y fs).2 g (wi g λz=>hg ?_)
   show (if g=f then some u else mA g)=none
   rw[if_neg q];exact z
theorem Inv.made(I:Inv X pins σ H s):Inv X pins σ (upd (upd H s.heap.objs.size (.own (s.heap.objs.size+1))) (s.heap.objs.size+1) (.ins C s.heap.objs.size []))
  { s with heap:=(s.heap.push PySem.W.emptyDict).push (PySem.W.instObj C s.heap.objs.size) }:=by
 have e1:(s.heap.push PySem.W.emptyDict).get? s.heap.objs.size=some PySem.W.emptyDict:=Qav s.heap rfl
 have e2:((s.heap.push PySem.W.emptyDict).push (PySem.W.instObj C s.heap.objs.size)).get? (s.heap.objs.size+1)=some (PySem.W.instObj C s.heap.objs.size):=by
  have:=Qav (s.heap.push PySem.W.emptyDict) (o:=PySem.W.instObj C s.heap.objs.size) rfl
  rwa [Qdz]at this
 have e3:(s.heap.push PySem.W.emptyDict).Ns s.heap.objs.size (λ_=>none):=⟨PySem.W.emptyDict, #[],_,e1,rfl,(λe he=>absurd he (by simp)),λ_=>rfl⟩
 have I1:=I.laid (a:=s.heap.objs.size) (o:= .own (s.heap.objs.size+1)) (h':=s.heap.push PySem.W.emptyDict) (t':=s.toks) (λb u q=>kb _ q) (Qaa _) ⟨_,e1⟩
 refine I1.laid (a:=s.heap.objs.size+1) (o:= .ins C s.heap.objs.size []) (t':=s.toks) (λb u q=>kb _ q) (Qfu (Qdz _ _)) ?_
 have ne:s.heap.objs.size≠s.heap.objs.size+1:=Qa1 (Qcz _)
 refine ⟨by rw[au ne,ae],Qau _,ne,e2,λ_=>none,(Heap.Ns1.of_empty e3).at λo q=>kb _ q,λ_=>True.intro,λy hy=>absurd rfl hy⟩
theorem Kn{prog:Program}{w:World}{env:Env}{f:Str}{s:Shared}(hb:attributeBase e f env (eval e env)=eval e env)
  (h:wpAny (model prog w) A (eval e env) (λo s₁=>wpAny (model prog w) A (getAttr o f true) Q E s₁) E s):wpAny (model prog w) A (eval (.Attribute e f pos) env) Q E s:=
 Attribute_any_ h (by rw[arm_eval_Attribute,hb])
end
def TM(K:c8)(ta:TE)(f:Str):TE:=λσ H Q=>ta σ H λx H1=>∃a C dx fs v,x= .ref a/\H1 a=some (.ins C dx fs)/\MW K C/\eE K C f/\fs.lookup f=some v/\Q v H1
def XA(K:c8)(ta tv:TE)(f:Str):TS:=λD σ H=>tv σ H λy H1=>ta σ H1 λx H2=>∃a C dx fs,x= .ref a/\H2 a=some (.ins C dx fs)/\MW K C/\eE K C f/\(fs:)<1000/\D.nx σ (upd H2 a (.ins C dx (eB f y fs)))
section
variable{X:Cx}{o e value:Expr}{f:Str}{pos pos' TN:Pos}{ta tv:TE}
theorem Oi(he:PE X e ta)(hb:attributeBase e f X.env (eval e X.env)=eval e X.env):PE X (.Attribute e f pos) (TM X.K ta f):=by
 walk_at"f"
 refine Kn hb (cD (he pins s σ H _ I h) λu s1 ⟨x,H1,I1,rx,a,C,dx,fs,v,ex,ea,c,n,l,q⟩=>?_)
 subst ex
 obtain rfl:u=Value.ref a:=rx
 exact As I1 ea c n l λu' s2 I2 ru=>⟨v,H1,I2,ru,q⟩
theorem jv(ha:PE X o ta)(hv:PE X value tv)(hs:swapsWith value (some (.Attribute o f pos')) pos.line X.env=pure false):PS X (.Assign [.Attribute o f pos'] value pos) (XA X.K ta tv f):=by
 walk_at"r"
 refine plainObj_wpAny_Assign_Attribute (cD (hv pins s σ H _ I h) λu s1 ⟨y,H1,I1,ry,q⟩=>cD (ha pins s1 σ H1 _ I1 q) λov s2 ⟨x,H2,I2,rx,a,C,dx,fs,ex,ea,c,n,l,q2⟩=>?_) hs
 subst ex
 obtain rfl:ov=Value.ref a:=rx
 exact Au I2 ea c n l ry λs3 I3=>⟨σ,_,I3,q2⟩
end
structure cH(k:Nat)(A:Around):Prop where
 hd:A.handled=none
 dp:A.depth+3*k+5<recursionLimit
 un:A.units+16*k+200<cLine
 gd:A.guards=some []
theorem cH.mono{k:Nat}(r:cH k A)(h:j<=k):cH j A:=⟨r.hd,by have:=r.dp;lia,by have:=r.un;lia,r.gd⟩
theorem cH.deeper{k:Nat}(r:cH (k+1) A)(env:Env):cH k (A.deeper env):=
 ⟨r.hd,by have:=r.dp;show A.depth+1+3*k+5<_;lia,by have:=r.un;show A.units+3+16*k+200<_;lia,r.gd⟩
theorem cH.in1{k:Nat}(r:cH (k+1) A):cH k A.in1:=
 ⟨r.hd,by have:=r.dp;show A.depth+3*k+5<_;lia,by have:=r.un;show A.units+1+16*k+200<_;lia,r.gd⟩
theorem Av:(A.under (.builtin "type.__call__" ⟨.ref C::us,kw⟩)).depth=A.depth+1:=by
 first | rfl | simp[Around.under,Code.weight,Code.isCreation,Code.isGuard,Code.isCaller,Code.frames,Code.isFrame,guardIds]
theorem Aw:(A.under (.builtin "type.__call__" ⟨.ref C::us,kw⟩)).units=A.units+1:=by
 first | rfl | simp[Around.under,Code.cUnits,Code.frames,Code.isFrame]
theorem cH.make{k:Nat}(r:cH (k+1) A)(C:Addr)(us:List Value)(kw:List (Str×Value)):cH k (A.under (.builtin "type.__call__" ⟨.ref C::us,kw⟩)):=
 ⟨r.hd,by have:=r.dp;rw[Av];lia,by have:=r.un;rw[Aw];lia,by first | exact r.gd | (simpa [Around.under,Code.guards,Code.isGuard,pushGuards,guardIds]using r.gd)⟩
theorem cH.depth{k:Nat}(r:cH k A):A.depth<recursionLimit:=by have:=r.dp;lia
theorem cH.units{k:Nat}(r:cH k A):A.units+64<cLine:=by have:=r.un;lia
def Oj:TA:=λ_ H Q=>Q [] H
def FX(ta:TE)(tr:TA):TA:=λσ H Q=>ta σ H λx H1=>tr σ H1 λxs H2=>Q (x::xs) H2
section
variable{X:Cx}{e:Expr}{es:List Expr}{te:TE}{t:TA}{pos:Pos}
theorem bW:PA X [] Oj:=λ_ _ _ _ H Q I h=>Calls.spliced_nil ⟨[],H,I,.nil,h⟩
theorem ai(ha:PE X e te)(hr:PA X es t)(hs:starEach (e::es) X.env=(false,eval e X.env)::starEach es X.env:=by rfl):PA X (e::es) (FX te t):=by
 intro pos pins s σ H Q I h
 rw[hs]
 show wpAny _ _ (spliced ((false,eval e X.env)::backTo pos (starEach es X.env))) _ _ s
 refine Calls.spliced_cons (cD (ha pins s σ H _ I h) λu s1 ⟨x,H1,I1,r1,q1⟩=>?_)
 exact cD (hr pos pins s1 σ H1 _ I1 q1) λus s2 ⟨xs,H2,I2,r2,q2⟩=>⟨x::xs,H2,I2,.cons r1 r2,q2⟩
def XB(t:TA):TE:=λσ H Q=>t σ H λxs H1=>(xs:)<=sizeLine/\∀p,H1 p=none->Q (.ref p) (upd H1 p (.tup xs))
def XC(t:TA):TE:=λσ H Q=>t σ H λxs H1=>(xs:)<=sizeLine/\∀p,H1 p=none->Q (.ref p) (upd H1 p (.lst xs))
theorem dz{x1}(h:PA X es t):PE X (.Tuple es x1 pos) (XB t):=by
 intro pins s σ H Q I hq
 refine wpAny_Tuple_spliced (cD (h pos pins s σ H _ I hq) λus s1 ⟨xs,H1,I1,r,z,q⟩=>⟨by rw[<-(r:)];exact z,?_⟩)
 have hf:H1 s1.heap.objs.size=none:=I1.bU.fresh (Qaa _)
 refine ⟨.ref s1.heap.objs.size,upd H1 s1.heap.objs.size (.tup xs),I1.laid (t':=s1.toks) (λb u e=>kb _ e) (Qaa _) ?_,rfl,q _ hf⟩
 exact ⟨z,us,r,⟨_,Qav _ rfl,rfl,_,rfl⟩⟩
theorem dN(h:PA X es t):PE X (.List es pos) (XC t):=by
 intro pins s σ H Q I hq
 refine wpAny_List_spliced (cD (h pos pins s σ H _ I hq) λus s1 ⟨xs,H1,I1,r,z,q⟩=>⟨by rw[<-(r:)];exact z,?_⟩)
 have hf:H1 s1.heap.objs.size=none:=I1.bU.fresh (Qaa _)
 refine ⟨.ref s1.heap.objs.size,upd H1 s1.heap.objs.size (.lst xs),I1.laid (t':=s1.toks) (λb u e=>kb _ e) (Qaa _) ?_,rfl,q _ hf⟩
 exact ⟨z,us,0,r,Qav _ rfl⟩
end
abbrev Sp:=List V->Hp->VK->XK->Prop
abbrev DV:=List Env->Hp->Shared->XK->Value->Shared->Prop
structure tN(P:Program)(w:World)(K:c8)(mg:Str->Option Value)(base:Heap)(A:Around)(outer:List Env)(s:Shared)(H:Hp):Prop where
 frames:A.frames=some outer
 mod:Mod K mg base
 bs:∀b o,base.get? b=some o->s.heap.get? b=some o/\H b=none
 JT:base.objs.size<=s.heap.objs.size
 nH:s.heap.FunFrames base outer
 MO:∀b∈B5 outer,H b=none
 bU:lO P w H s.heap
 bare:AllBare s.gens
def CE(outer:List Env)(P:Program)(w:World)(H:Hp)(s:Shared)(Q:VK)(u:Value)(s':Shared):Prop:=
 ∃v H',s'.os=s.os/\AllBare s'.gens/\Un (B5 outer) [] H H' s.heap s'.heap/\lO P w H' s'.heap/\RelV v u/\Q v H'
def CR(CX:DV)(outer:List Env)(P:Program)(w:World)(H:Hp)(s:Shared)(Q:VK)(E:XK)(r:Result)(s':Shared):Prop:=
 match r with
 | .ok (.ret u)=>CE outer P w H s Q u s'
 | .ok _=>False
 | .error e=>CX outer H s E e s'
structure bD(P:Program)(w:World)(K:c8)(mg:Str->Option Value)(base:Heap)(CX:DV)(k:Nat)(f:Addr)(fd:FuncData)(ps:List Str)(sp:Sp):Prop where
 len:∀vs H Q E,sp vs H Q E->(vs:)=(ps:)
 run:∀(A:Around) (outer:List Env) (s:Shared) (H:Hp) (args:Args) (us:List Value) (vs:List V) (Q:VK) (E:XK),cH k A->tN P w K mg base A outer s H->BindsTo s fd args (ps.zip us)->Vals vs us->sp vs H Q E->
  codeAny (model P w) A (.call (.ref f) args) (CR CX outer P w H s Q E) s
variable{mg:Str->Option Value}{base:Heap}{outer:List Env}
theorem tN.make{P:Program}{w:World}(e:tN P w K mg base A outer s H)(C:Addr)(us:List Value)(kw:List (Str×Value)):
  tN P w K mg base (A.under (.builtin "type.__call__" ⟨.ref C::us,kw⟩)) outer s H:=⟨by first | exact e.frames | (simpa [Around.under,Code.envs,Code.isFrame,pushEnvs]using e.frames),e.mod,e.bs,e.JT,e.nH,e.MO,e.bU,e.bare⟩
theorem tN.in1{P:Program}{w:World}(e:tN P w K mg base A outer s H):
  tN P w K mg base A.in1 outer s H:=⟨e.frames,e.mod,e.bs,e.JT,e.nH,e.MO,e.bU,e.bare⟩
section
variable{X:Cx}{pins:List (Addr×Obj)}{σ:St}{H:Hp}{s s':Shared}
theorem Inv.Ol(I:Inv X pins σ H s):tN X.prog X.w X.K X.mg X.base X.A X.stack s H:=
 ⟨I.ok.frames,I.ok.mod,I.bs,Qa7 I.ok.JT I.sz,I.stack,I.B7,I.bU,I.bare⟩
theorem Inv.after{Q:VK}(I:Inv X pins σ H s)(h:CE X.stack X.prog X.w H s Q u s'):EP X pins σ Q u s':=by
 obtain ⟨v,H',os,bare,un,bU,r,q⟩:=h
 obtain ⟨hh,g,d,t,os'⟩:=s'
 obtain rfl:os'=s.os:=os
 exact ⟨v,H',I.call (h':=hh) (g':=g) (d':=d) (t':=t) (ch:=[]) un bU bare (λb z=>absurd z (by simp)),r,q⟩
end
def MX(sp:Sp)(dvs:List V)(E:XK)(t:TA):TE:=λσ H Q=>t σ H λvs H1=>sp (vs++dvs) H1 Q E
def TQ(C:Addr)(sp:Sp)(dvs:List V)(E:XK)(t:TA):TE:=λσ H Q=>t σ H λvs H1=>∀x dx,H1 x=none->H1 dx=none->dx≠x->sp (.ref x::(vs++dvs)) (upd (upd H1 dx (.own x)) x (.ins C dx [])) (λv H2=>v= .gz/\Q (.ref x) H2) E
def Binds(K:c8)(fd:FuncData)(ps:List Str)(ds:List Value):Prop:=
 ∀(s:Shared) (us:List Value),K.In s.heap->(us++ds:)=(ps:)->BindsTo s fd ⟨us,[]⟩ (ps.zip (us++ds))
variable{ps:List Str}
theorem Binds.all{fd:FuncData}(h:∀us:List Value,(us:)=(ps:)->bindArgs fd ⟨us,[]⟩=pure (ps.zip us)):Binds K fd ps []:=λs us _ hl=>by
 rw[Qa4]at hl ⊢
 exact .of_eq (h us hl)
def Passes(CX:DV)(X:Cx)(E:XK):Prop:=∀(pins:List (Addr×Obj)) (σ:St) (H:Hp) (s:Shared) (e:Value) (s':Shared),Inv X pins σ H s->CX X.stack H s E e s'->X.xe e s'
variable{vs:List V}
section
variable{X:Cx}{CX:DV}{k:Nat}{f C:Addr}{fd:FuncData}{ps:List Str}{sp:Sp}{dvs:List V}{ds:List Value}{E:XK}{x m:Str}{p pos apos:Pos}{e o:Expr}{es:List Expr}{ta:TE}{t:TA}
theorem Ax{Q:VK}(F:bD X.prog X.w X.K X.mg X.base CX k f fd ps sp)(hr:cH k X.A)(hb:Binds X.K fd ps ds)(hd:Vals dvs ds)(hx:Passes CX X E)
  (I:Inv X pins σ H s) (r:Vals vs us) (h:sp (vs++dvs) H Q E):wpAny (model X.prog X.w) X.A (call (.ref f) us) (EP X pins σ Q) X.xe s:=by
 have r2:Vals (vs++dvs) (us++ds):=r.append hd
 have hl:(us++ds:)=(ps:):=by rw[<-(r2:)];exact F.len _ _ _ _ h
 refine wpAny_call (codeAny_mono (F.run X.A X.stack s H ⟨us,[]⟩ (us++ds) (vs++dvs) Q E hr I.Ol (hb s us I.Ak hl) r2 h) λr s' hq=>?_)
 cases r with
 | error e=>exact hx pins σ H s e s' I hq
 | ok fl=>
  cases fl with
  | ret u=>exact I.after hq
  | next=>exact False.elim hq
  | brk=>exact False.elim hq
  | cont=>exact False.elim hq
theorem kf(F:bD X.prog X.w X.K X.mg X.base CX k f fd ps sp)(hr:cH k X.A)(hg:Gl X x)(hm:X.mg x=some (.ref f))(hk:PySem.W.keepIn X.K (.ref f)=true)(hb:Binds X.K fd ps ds)(hd:Vals dvs ds)(hx:Passes CX X E)
  (ha:PA X (e::es) t) (Om:(x==("__debug__":Str))=false:=by decide) (he:starEach (e::es) X.env=(false,eval e X.env)::starEach es X.env:=by rfl) (kU:(backTo pos (starEach es X.env)).any (·.1)=false:=by rfl):
  PE X (.Call (.Name x p) (e::es) [] pos) (MX sp dvs E t):=by
 walk_at"f"
 refine wpAny_Call_Name_kw (v_ I hg hm ?_ Om)
 refine Qe1 (h₀:=X.base) I.ok.mod.RC hk (cD (ha pos pins s σ H _ I h) λus s1 ⟨vs,H1,I1,r,q⟩=>⟨I1.Ak,?_⟩) he kU
 exact Ax F hr hb hd hx I1 r q
structure Mk(K:c8)(C f:Addr):Prop where
 makes:PySem.W.makesIn K C=true
 init:PySem.W.findIn K (.ref C) "__init__"=some (some (.ref f))
 fn:PySem.W.isFn K (.ref f)=true
 kp:PySem.W.keepIn K (.ref C)=true
theorem FY{Q:VK}(M:Mk X.K C f)(F:bD X.prog X.w X.K X.mg X.base CX k f fd ps sp)(hr:cH (k+1) X.A)(hb:Binds X.K fd ps ds)(hd:Vals dvs ds)
  (hx:Passes CX X E) (I:Inv X pins σ H s) (r:Vals vs us)
  (h:∀x dx,H x=none->H dx=none->dx≠x->sp (.ref x::(vs++dvs)) (upd (upd H dx (.own x)) x (.ins C dx [])) (λv H2=>v= .gz/\Q (.ref x) H2) E):
  wpAny (model X.prog X.w) X.A (call (.ref C) us) (EP X pins σ Q) X.xe s:=by
 have hq:=h (s.heap.objs.size+1) s.heap.objs.size (I.bU.fresh (Qdk _)) (I.bU.fresh (Qaa _)) (Qa1 (Qcz _))
 have I2:=Inv.made (C:=C) I
 have r2:Vals (V.ref (s.heap.objs.size+1)::(vs++dvs)) (Value.ref (s.heap.objs.size+1)::(us++ds)):= .cons rfl (r.append hd)
 have hl:((Value.ref (s.heap.objs.size+1)::us++ds):)=(ps:):=by
  have e:=(r2:)
  rw[F.len _ _ _ _ hq]at e
  exact e.symm
 refine wpAny_call (FW (f:=f) I.Ak M.makes M.init (beq_iff_eq.mp M.fn) (codeAny_mono (F.run _ X.stack _ _ ⟨Value.ref (s.heap.objs.size+1)::us,[]⟩ (Value.ref (s.heap.objs.size+1)::(us++ds)) _ _ E (hr.make C us [])
  (I2.Ol.make C us []) (hb _ (Value.ref (s.heap.objs.size+1)::us) I2.Ak hl) r2 hq) λr s' TR=>?_))
 cases r with
 | error e=>exact hx pins σ _ _ e s' I2 TR
 | ok fl=>
  cases fl with
  | ret u=>
   obtain ⟨v,H',I3,rv,ev,q3⟩:=I2.after TR
   subst ev
   exact ⟨rv,⟨V.ref (s.heap.objs.size+1),H',I3,rfl,q3⟩⟩
  | next=>exact False.elim TR
  | brk=>exact False.elim TR
  | cont=>exact False.elim TR
theorem p8(M:Mk X.K C f)(F:bD X.prog X.w X.K X.mg X.base CX k f fd ps sp)(hr:cH (k+1) X.A)(hg:Gl X x)(hm:X.mg x=some (.ref C))(hb:Binds X.K fd ps ds)(hd:Vals dvs ds)(hx:Passes CX X E)
  (ha:PA X (e::es) t) (Om:(x==("__debug__":Str))=false:=by decide) (he:starEach (e::es) X.env=(false,eval e X.env)::starEach es X.env:=by rfl) (kU:(backTo pos (starEach es X.env)).any (·.1)=false:=by rfl):
  PE X (.Call (.Name x p) (e::es) [] pos) (TQ C sp dvs E t):=by
 walk_at"f"
 refine wpAny_Call_Name_kw (v_ I hg hm ?_ Om)
 refine Qe1 (h₀:=X.base) I.ok.mod.RC M.kp (cD (ha pos pins s σ H _ I h) λus s1 ⟨vs,H1,I1,r,q⟩=>⟨I1.Ak,?_⟩) he kU
 exact FY M F hr hb hd hx I1 r q
end
structure aH(N P:List Str)(sc:Scope):Prop where
 kind:sc.kind= .function
 co:sc.isCoroutine=false
 gen:sc.isGenerator=false
 nd:N.Nodup
 pre:N.take P.length=P
 par:∀x∈P,sc.names.lookup x=some .local\/sc.names.lookup x=some .cell
 Oo:∀y∈sc.names,y.2≠ .free
theorem uH{kindOf:Str->Option NameKind}{x:Str}:∀{binds:List (Str×Value)} {m:Str->Option Value},(∀v,(x,v)∉binds)->bindL kindOf binds m x=m x
 | [],_,_=>rfl
 |(n,v)::r,m,h=>by
  unfold bindL
  rw[uH λw hw=>h w (Qae _ hw)]
  split
  ·have:x≠n:=by rintro rfl;exact h v Qac
   simp[this]
  ·rfl
theorem uI{kindOf:Str->Option NameKind}{x:Str}:∀{binds:List (Str×Value)} {m:Str->Option Value},(∀v,(x,v)∉binds)->bindC kindOf binds m x=m x
 | [],_,_=>rfl
 |(n,v)::r,m,h=>by
  unfold bindC
  rw[uI λw hw=>h w (Qae _ hw)]
  split
  ·rfl
  ·have:x≠n:=by rintro rfl;exact h v Qac
   simp[this]
theorem uJ{kindOf:Str->Option NameKind}{x:Str}{v:Value}:∀{P:List Str} {vs:List Value} {i:Nat} {m:Str->Option Value},P.Nodup->P[i]? =some x->vs[i]? =some v->kindOf x=some .local->
  bindL kindOf (P.zip vs) m x=some v
 | [],_,_,_,_,h,_,_=>by simp at h
 | _::_,[],_,_,_,_,h,_=>by simp at h
 | p::P,w::vs,0,m,nd,h1,h2,hk=>by
  simp at h1 h2;subst h1;subst h2
  show bindL kindOf ((p,w)::P.zip vs) m p=_
  unfold bindL
  rw[uH λv hv=>(Qb5.mp nd).1 (Qfz hv).1,if_pos hk]
  simp
 | p::P,w::vs,i+1,m,nd,h1,h2,hk=>by
  show bindL kindOf ((p,w)::P.zip vs) m x=_
  unfold bindL
  exact uJ (i:=i) (Qb5.mp nd).2 (by simpa using h1) (by simpa using h2) hk
theorem uK{kindOf:Str->Option NameKind}{x:Str}{v:Value}:∀{P:List Str} {vs:List Value} {i:Nat} {m:Str->Option Value},P.Nodup->P[i]? =some x->vs[i]? =some v->kindOf x≠some .local->
  bindC kindOf (P.zip vs) m x=some v
 | [],_,_,_,_,h,_,_=>by simp at h
 | _::_,[],_,_,_,_,h,_=>by simp at h
 | p::P,w::vs,0,m,nd,h1,h2,hk=>by
  simp at h1 h2;subst h1;subst h2
  show bindC kindOf ((p,w)::P.zip vs) m p=_
  unfold bindC
  rw[uI λv hv=>(Qb5.mp nd).1 (Qfz hv).1,if_neg hk]
  simp
 | p::P,w::vs,i+1,m,nd,h1,h2,hk=>by
  show bindC kindOf ((p,w)::P.zip vs) m x=_
  unfold bindC
  exact uK (i:=i) (Qb5.mp nd).2 (by simpa using h1) (by simpa using h2) hk
noncomputable def start(N:List Str)(vs:List V):St:=vs.map some++List.replicate (N.length - (vs:)) none
noncomputable def wg(CX:DV)(P:Program)(w:World)(K:c8)(mg:Str->Option Value)(base:Heap)(N:List Str)(qual:Str)(scope:Scope)(f:Addr)(cd:Value)(A:Around)(outer:List Env)(s:Shared)(H:Hp)(E:XK):Cx where
 prog:=P
 w:=w
 K:=K
 mg:=mg
 base:=base
 A:=A.deeper (envOfC qual scope s.heap.objs.size f cd)
 N:=N
 s₀:=s
 H₀:=H
 env:=envOfC qual scope s.heap.objs.size f cd
 outer:=outer
 stack:=envOfC qual scope s.heap.objs.size f cd::outer
 ex:=[]
 calm:=true
 fn:=λ_=>true
 pn:=[]
 xe:=λe s'=>wpAny (model P w) (A.deeper (envOfC qual scope s.heap.objs.size f cd)) (leaving (envOfC qual scope s.heap.objs.size f cd) e) (λ_ TU=>CX outer H s E e TU) (λe' TU=>CX outer H s E e' TU) s'
theorem yq{sc:Scope}(h:sc.names.lookup x=some .cell):∃c,(cellsFrom n sc.names []).lookup x=some c:=by
 have q:=Qfo sc.names n [] (.inl h)
 exact Option.isSome_iff_exists.mp q
theorem uL{CX:DV}{P:Program}{w:World}{qual:Str}{scope:Scope}{f:Addr}{cd:Value}{s1:Shared}{E:XK}
  (S:aH N ps scope) (hd:A.handled=none) (e0:tN P w K mg base A outer s H) (hl:(vs:)=(ps:)) (r:Vals vs us)
  (x:InCallC s s.heap.objs.size (bindL (envOfC qual scope s.heap.objs.size f cd).kindOf (ps.zip us) λ_=>none) (cellsFrom (s.heap.objs.size+1) scope.names []) (bindC (envOfC qual scope s.heap.objs.size f cd).kindOf (ps.zip us) λ_=>none) s1):
  Inv (wg CX P w K mg base N qual scope f cd A outer s H E) [] (start N vs) H s1:=by
 have kU:(ps:)<=N.length:=by have:=congrArg List.length S.pre;rw[Qad]at this;lia
 obtain ⟨h1,tk,rfl,hk⟩:=x.done
 have TV:∀b:Addr,b∉(wg CX P w K mg base N qual scope f cd A outer s H E).ex:=λb z=>absurd (show b∈([]:List Addr) from z) (by simp)
 refine ⟨⟨e0.mod,S.kind,rfl,rfl,Qaa _,λy z c h1 h2=>?_,λy hy=>?_,λy c _ h=>?_,λ_=>hd,Around.frames_deeper e0.frames,.inr ⟨rfl,rfl⟩,λb z=>absurd z (TV b),e0.bs,e0.JT,λb _ _=>TV b,λb z=>absurd z (TV b),e0.nH,e0.MO⟩,
  rfl,e0.bare,Un.kept hk,⟨_,x.toInCall.ns,λi y v h1 h2 h3=>?_⟩,λy c h=>⟨_,x.cell y c h⟩,e0.bU.fresh (Qaa _),λy c h=>?_,λp hp=>absurd (show p∈([]:List (Addr×Obj)) from hp) (by simp),e0.bU.kept hk,?_⟩
 ·exact name_of_addr x.apart (Qea h1) (Qea h2)
 ·have hy:scope.names.lookup y=some .cell\/scope.names.lookup y=some .free:=hy
  rcases hy with hy | hy
  ·exact yq hy
  ·exact absurd rfl (S.Oo _ (Qea hy))
 ·exact Qbu (x.above y c (Qea h))
 ·have hi:i<(vs:):=by
   unfold start at h2
   by_cases hi:i<(vs:)
   ·exact hi
   ·rw[Qaw (by simpa using hi)]at h2
    rw[List.getElem?_replicate]at h2
    split at h2<;>cases h2
  have ha:vs[i]? =some v:=by
   unfold start at h2
   rw[Qbc (by simpa using hi),Qar]at h2
   cases e:vs[i]? with
   | none=>rw[e]at h2;cases h2
   | some a=>rw[e]at h2;cases h2;rfl
  obtain ⟨u,hu,rv⟩:=r.get ha
  have hp:ps[i]? =some y:=by
   rw[<-S.pre,Qa5 ()];exact h1
  have ndP:ps.Nodup:=by rw[<-S.pre];exact S.nd.sublist (Qgk _ _)
  refine ⟨u,rv,?_⟩
  rcases S.par y (Qas hp) with k | k
  ·exact .inl ⟨k,uJ ndP hp hu k⟩
  ·obtain ⟨c,e⟩:=yq (n:=s.heap.objs.size+1) k
   refine .inr ⟨.inl k,c,e,?_⟩
   have q:=x.cell y c e
   rw[uK ndP hp hu (by show scope.names.lookup y≠_;rw[k];decide)]at q
   exact q
 ·exact e0.bU.fresh (Qbu (x.above y c (Qea h)))
 ·unfold start
  show _=N.length
  rw[T6,Wh,List.length_replicate]
  lia
theorem MY{CX:DV}{P:Program}{w:World}{k:Nat}{f:Addr}{name qual:Str}{params:Arguments}{scope:Scope}{dV kV doc pm cY ct oc:Value}{an od:Option Addr}
  {x8:Array (Option Value)} {N ps:List Str} {sp:Sp} (lk:K.lookup f=some ⟨oc,od,.func (PySem.W.fnOf name qual params body scope dV kV doc pm an cY ct),x8⟩) (kT:PySem.W.codeIn K cY qual=true) (S:aH N ps scope)
  (len:∀vs H Q E,sp vs H Q E->(vs:)=(ps:))
  (qF:∀(A:Around) (outer:List Env) (s:Shared) (H:Hp) (vs:List V) (Q:VK) (E:XK),cH k (A.deeper (envOfC qual scope s.heap.objs.size f cY))->sp vs H Q E->
   ∃t,x6 (wg CX P w K mg base N qual scope f cY A outer s H E) body t/\t { nx:=λ_ H'=>Q .gz H',rt:=Q } (start N vs) H):
  bD P w K mg base CX (k+1) f (PySem.W.fnOf name qual params body scope dV kV doc pm an cY ct) ps sp:=by
 refine ⟨len,λA outer s H args us vs Q E hr e0 hb r yr=>?_⟩
 have hl:=len _ _ _ _ yr
 have KX:K.In s.heap:=e0.mod.RC.keeps λb o e=>(e0.bs b o e).1
 have lim:s.heap.NoLimit:=e0.mod.nolimit.keeps λb o e=>(e0.bs b o e).1
 have gD:∀y∈ps.zip us,scope.names.lookup y.1=some .local\/(scope.names.lookup y.1=some .cell/\((cellsFrom (s.heap.objs.size+1) scope.names []).lookup y.1).isSome=true):=λ⟨n,v⟩ hy=>by
  rcases S.par n (Qfz hy).1 with q | q
  ·exact .inl q
  ·exact .inr ⟨q,Qfo _ _ _ (.inl q)⟩
 refine codeAny_call_function hr.depth (KX _ _ lk) rfl S.co S.gen rfl (PySem.W.codeRec_of KX kT) (hb _ _ _ _ ?_)
 refine wpAny_newFunctionEnv_cells S.kind gD λenv he s1 x=>?_
 subst he
 refine ⟨lim.keeps x.toInCall.keep,codeAny_func ?_⟩
 obtain ⟨t,ht,hq⟩:=qF A outer s H vs Q E (hr.deeper _) yr
 have I:Inv (wg CX P w K mg base N qual scope f cY A outer s H E) [] (start N vs) H s1:=uL S hr.hd e0 hl r x
 refine wpAny_mono (ht [] s1 (start N vs) H _ I hq) (λfl s' hs=>?_) λe s' hs=>hs
 have fin:∀{σ':St} {H':Hp} {v:V} {u:Value},Inv (wg CX P w K mg base N qual scope f cY A outer s H E) [] σ' H' s'->RelV v u->Q v H'->CE outer P w H s Q u s':=
  λ{σ' H' v u} J rv q=>⟨v,H',J.os,J.bare,J.base,J.bU,rv,q⟩
 cases fl with
 | ret u=>
  obtain ⟨v,σ',H',J,rv,q⟩:=hs
  exact fin J rv q
 | next=>
  obtain ⟨σ',H',J,q⟩:=hs
  exact fin (v:=V.gz) (u:=Value.none) J rfl q
 | brk=>
  obtain ⟨_,_,_,q⟩:=hs
  exact False.elim q
 | cont=>
  obtain ⟨_,_,_,q⟩:=hs
  exact False.elim q
section
variable{X:Cx}{x:Str}{p pos:Pos}{e:Expr}{es:List Expr}{t:TA}{id T:String}{r:List V->Hp->VK->Prop}
def XD(r:List V->Hp->VK->Prop)(t:TA):TE:=λσ H Q=>t σ H λvs H1=>r vs H1 Q
theorem aY(hc:dS X (.builtin id) r)(hg:Gl X x)(hm:X.mg x=none)(hv:bootBuiltins x=some (.builtin id))(ha:PA X (e::es) t)(hn:x≠"__name__":=by decide)(Om:(x==("__debug__":Str))=false:=by decide)
  (he:starEach (e::es) X.env=(false,eval e X.env)::starEach es X.env:=by rfl) (kU:(backTo pos (starEach es X.env)).any (·.1)=false:=by rfl):PE X (.Call (.Name x p) (e::es) [] pos) (XD r t):=by
 walk_at"f"
 refine wpAny_Call_Name_kw (gR I hg hm hv ?_ hn Om)
 exact PyProof.Rows.callWith_builtin1 (cD (ha pos pins s σ H _ I h) λus s1 ⟨vs,H1,I1,r1,q1⟩=>hc pins s1 σ H1 vs us Q I1 r1 q1) he kU
theorem dU(hc:dS X (.type T) r)(hg:Gl X x)(hm:X.mg x=none)(hv:bootBuiltins x=some (.type T))(ha:PA X (e::es) t)(hn:x≠"__name__":=by decide)(Om:(x==("__debug__":Str))=false:=by decide)
  (he:starEach (e::es) X.env=(false,eval e X.env)::starEach es X.env:=by rfl) (kU:(backTo pos (starEach es X.env)).any (·.1)=false:=by rfl):PE X (.Call (.Name x p) (e::es) [] pos) (XD r t):=by
 walk_at"f"
 refine wpAny_Call_Name_kw (gR I hg hm hv ?_ hn Om)
 exact Qcm (cD (ha pos pins s σ H _ I h) λus s1 ⟨vs,H1,I1,r1,q1⟩=>hc pins s1 σ H1 vs us Q I1 r1 q1) he kU
end
end L2
namespace HT
open PySem PyProof.Rows
section
variable{prog:Program}{w:World}{A:Around}{E:Value->Shared->Prop}{s:Shared}
noncomputable def kg(n d:Nat):Option Int->Nat
 | none=>d
 | some v=>if v<0 then (v+(n:Int)).toNat else min v.toNat n
theorem yt(n d:Nat):kg n d none=d:=rfl
theorem gE(n d k:Nat):kg n d (some (k:Int))=min k n:=by
 show (if (k:Int)<0 then ((k:Int)+(n:Int)).toNat else min (k:Int).toNat n)=min k n
 rw[if_neg (),Qan]
theorem Oq(n d:Nat)(hd:d<=n)(o:Option Int):kg n d o<=n:=by
 cases o with
 | none=>exact hd
 | some v=>
  show (if v<0 then (v+(n:Int)).toNat else min v.toNat n)<=n
  by_cases hv:v<0
  ·rw[if_pos hv];lia
  ·rw[if_neg hv];exact Nat.min_le_right _ _
end
end HT
namespace L2
open PySem PySem.Spec PyProof.Rows
abbrev TO:=St->Hp->(Option Int->Hp->Prop)->Prop
def PO(X:Cx)(e:Option Expr)(t:TO):Prop:=
 ∀(pins:List (Addr×Obj)) (s:Shared) (σ:St) (H:Hp) (Q:Option Int->Hp->Prop),Inv X pins σ H s->t σ H Q->
  wpAny (model X.prog X.w) X.A (evalPart e X.env) (λu s'=>∃o H',Inv X pins σ H' s'/\IsPart u o/\Q o H') X.xe s
def Ko:TO:=λ_ H Q=>Q none H
def TX(t:TE):TO:=λσ H Q=>t σ H λx H1=>∃i,x= .int i/\Q (some i) H1
section
variable{X:Cx}{e:Expr}{te:TE}{lo hi:Option Expr}{tl th:TO}{pos p2:Pos}
theorem fQ:PO X none Ko:=by
 walk_at"f"
 rw[evalPart_none]
 exact wpAny_pure ⟨none,H,I,.none,h⟩
theorem ck(h:PE X e te):PO X (some e) (TX te):=by
 intro pins s σ H Q I hw
 rw[evalPart_some]
 refine cD (h pins s σ H _ I hw) λu s1 ⟨x,H1,I1,r1,q1⟩=>?_
 obtain ⟨i,rfl,q⟩:=q1
 walk_at"R"
 exact ⟨some i,H1,I1,.int i t,q⟩
def Wg(X:Cx)(r:V->Option Int->Option Int->Hp->VK->Prop):Prop:=
 ∀(pins:List (Addr×Obj)) (s:Shared) (σ:St) (H:Hp) (x:V) (v vl vu:Value) (lo hi:Option Int) (sl:Addr) (Q:VK),Inv X pins σ H s->RelV x v->s.heap.IsSliceOf sl vl vu .none->IsPart vl lo->IsPart vu hi->r x lo hi H Q->
  ∃T id,typeLookup (.type T) "__getitem__"=pure (some (.builtin id))/\s.TypeIs v T/\wpAny (model X.prog X.w) X.A (getItem v (.ref sl)) (EP X pins σ Q) X.xe s
def tSl(r:V->Option Int->Option Int->Hp->VK->Prop)(te:TE)(tl th:TO):TE:=λσ H Q=>te σ H λx H1=>tl σ H1 λl H2=>th σ H2 λu H3=>r x l u H3 Q
theorem cI{r:V->Option Int->Option Int->Hp->VK->Prop}(hr:Wg X r)(he:PE X e te)(hl:PO X lo tl)(hu:PO X hi th):PE X (.Subscript e (.Slice lo hi none p2) pos) (tSl r te tl th):=by
 walk_at"f"
 refine Subscript_ (cD (he pins s σ H _ I h) λv s1 ⟨x,H1,I1,r1,q1⟩=>?_)
 refine wpAny_Slice (cD (hl pins s1 σ H1 _ I1 q1) λvl s2 ⟨l,H2,I2,pl,q2⟩=>cD (hu pins s2 σ H2 _ I2 q2) λvu s3 ⟨u,H3,I3,pu,q3⟩=>?_)
 rw[evalPart_none]
 refine wpAny_pure ?_
 have I4:Inv X pins σ H3 { s3 with heap:=s3.heap.push { cls:= .type "slice",data:= .fields #[vl,vu,.none] } }:=I3.kept (t':=s3.toks) λb ob q=>kb _ q
 obtain ⟨T,id,hT,ht,hg⟩:=hr pins { s3 with heap:=s3.heap.push { cls:= .type "slice",data:= .fields #[vl,vu,.none] } } σ H3 x v vl vu l u s3.heap.objs.size Q I4 r1 (Heap.IsSliceOf.new ..) pl pu q3
 show wpAny (model X.prog X.w) X.A (subscriptTail e (.Slice lo hi none p2) v (.ref s3.heap.objs.size)) (EP X pins σ Q) X.xe { s3 with heap:=s3.heap.push { cls:= .type "slice",data:= .fields #[vl,vu,.none] } }
 exact tail_any (ops:=[.ref s3.heap.objs.size,v]) ht hT hg (by with_unfolding_all rfl)
noncomputable def nK(xs:List V)(lo hi:Option Int):List V:=(xs.drop (HT.kg (xs:) 0 lo)).take (HT.kg (xs:) (xs:) hi - HT.kg (xs:) 0 lo)
theorem yu(xs:List V)(lo hi:Option Int):(nK xs lo hi:)<=(xs:):=by
 unfold nK
 rw[Qad,Qat]
 lia
end
noncomputable def JW(n:Nat)(i:Int):Option Nat:=if 0<=i then (if i<n then some i.toNat else none) else if -(n:Int)<=i then some (i+n).toNat else none
noncomputable def tF{α:Type}(xs:List α)(i:Int):Option α:=(JW (xs:) i).bind λj=>xs[j]?
variable{n j:Nat}{i:Int}
theorem Cd(h:JW n i=some j):seqIndex? i n=some j/\j<n/\ -(n:Int)<=i/\i<n:=by
 unfold JW at h
 by_cases h0:0<=i
 ·rw[if_pos h0]at h
  by_cases h1:i<n
  ·rw[if_pos h1]at h
   have e:i.toNat=j:=Qal h
   exact ⟨by rw[seqIndex_of h0 h1,e],(),(),h1⟩
  ·rw[if_neg h1]at h;cases h
 ·rw[if_neg h0]at h
  by_cases h1: -(n:Int)<=i
  ·rw[if_pos h1]at h
   have e:(i+n).toNat=j:=Qal h
   exact ⟨by rw[seqIndex_neg () h1,e],(),h1,()⟩
  ·rw[if_neg h1]at h;cases h
theorem wj{α:Type}{xs:List α}{v:α}(h:tF xs i=some v):∃j,seqIndex? i (xs:)=some j/\xs[j]? =some v/\j<(xs:)/\ -((xs:):Int)<=i/\i<(xs:):=by
 unfold tF at h
 cases e:JW (xs:) i with
 | none=>rw[e]at h;cases h
 | some j=>
  rw[e]at h
  obtain ⟨h1,h2,h3,h4⟩:=Cd e
  exact ⟨j,h1,h,h2,h3,h4⟩
theorem dj{α:Type}{xs:List α}{v:α}(h:xs[j]? =some v):tF xs (j:Int)=some v:=by
 have hj:j<(xs:):=(OC.mp h).1
 have e:JW (xs:) (j:Int)=some j:=by
  unfold JW
  rw[if_pos (),if_pos ()];simp
 unfold tF;rw[e];exact h
theorem yv{α:Type}(xs:List α)(v:α):tF (xs++[v]) (-1)=some v:=by
 have hl:(xs++[v]:)=(xs:)+1:=by simp
 have e:JW (xs++[v]:) (-1)=some (xs:):=by
  unfold JW
  rw[hl,if_neg ∅,if_pos ()]
  congr 1
  lia
 unfold tF
 rw[e]
 show (xs++[v])[(xs:)]? =some v
 simp
def Kp(b:Expr):Prop:=∀o i,subscripted b false o i=operate [o,i] (getItem o i)
def Ot(X:Cx)(r:R2):Prop:=
 ∀(value slice:Expr) (pins:List (Addr×Obj)) (s:Shared) (σ:St) (H:Hp) (x y:V) (v u:Value) (Q:VK),Inv X pins σ H s->RelV x v->RelV y u->r x y H Q->
  subscripted slice false v u=operate [v,u] (getItem v u)->wpAny (model X.prog X.w) X.A (subscriptTail value slice v u) (EP X pins σ Q) X.xe s
def DW(X:Cx)(id:String)(r:V->List V->Hp->VK->Prop):Prop:=
 ∀(pins:List (Addr×Obj)) (s:Shared) (σ:St) (H:Hp) (x:V) (xs:List V) (v:Value) (us:List Value) (Q:VK),Inv X pins σ H s->RelV x v->Vals xs us->r x xs H Q->
  wpAny (model X.prog X.w) X.A (call (.builtin id) (v::us)) (EP X pins σ Q) X.xe s
variable{pins:List (Addr×Obj)}{σ:St}{H:Hp}{s:Shared}{p:Addr}{xs:List V}{aK its':List Value}
section
variable{X:Cx}{a b:Expr}{ta tb:TE}{pos:Pos}
theorem bj{r:R2}(hr:Ot X r)(ha:PE X a ta)(hb:PE X b tb)(hs:Kp b):PE X (.Subscript a b pos) (Wd r ta tb):=by
 walk_at"f"
 exact Subscript_ (Og ha hb I h λv u s2 x y H2 I2 rx ry q=>hr a b pins s2 σ H2 x y v u Q I2 rx ry q (hs _ _))
inductive FZ(K:c8)(x:V)(y:V)(H:Hp)(Q:VK):Prop
 | mk (p:_) (xs:_) (i:_) (v:_) (_:x= .ref p) (_:y= .int i) (_:bL K H p xs) (_:tF xs i=some v) (_:Q v H):FZ K x y H Q
def TY(K:c8):R2:=FZ K
inductive F_(K:c8)(x:V)(y:V)(H:Hp)(Q:VK):Prop
 | mk (p:_) (xs:_) (i:_) (v:_) (_:x= .ref p) (_:y= .int i) (_:di K H p xs) (_:tF xs i=some v) (_:Q v H):F_ K x y H Q
def TZ(K:c8):R2:=F_ K
inductive Ga(x:V)(y:V)(H:Hp)(Q:VK):Prop
 | mk (z:_) (i:_) (c:_) (_:x= .str z) (_:y= .int i) (_:(z:)<=sizeLine) (_:tF z.cps.toList i=some c) (_:Q (.str ⟨#[c]⟩) H):Ga x y H Q
def XE:R2:=Ga
theorem Kq:Ot X (TY X.K):=by
 walk_at"H"
 obtain ⟨p,xs,i,z,rfl,rfl,hq,he,q⟩:=h
 cases rx
 obtain ⟨t,rfl⟩:=ry
 obtain ⟨aK,r,pl,hz⟩:=I.list hq
 obtain ⟨j,h1,h2,h3,h4,h5⟩:=wj he
 obtain ⟨w,ew,wb⟩:=r.get h2
 have hl:=(r:)
 have hn:=f_
 have fin:EP X pins σ Q w s:=⟨z,H,I,wb,q⟩
 by_cases h0:0<=i
 ·have hj:i.toNat=j:=by
   rw[seqIndex_of h0 h5]at h1
   exact Qal h1
  exact item_listR pl.isList h0 () (by rw[hj];simpa using ew) fin hs
 ·have hj:(i+(aK.toArray.size:Int)).toNat=j:=by
   rw[seqIndex_neg () h4]at h1
   rw[Qah, <-hl]
   exact Qal h1
  exact subscriptTail_builtinR (x:=w) pl.isList.typeIs slot_list_getitem.lookup
   (wpAny_getItem_list_neg (Q:=λr s'=>r=w/\EP X pins σ Q r s') pl.isList () (by rw[Qah]<;>lia) () (by rw[hj];simpa using ew) ⟨rfl,fin⟩) hs
theorem Ou:Ot X (TZ X.K):=by
 walk_at"H"
 obtain ⟨p,xs,i,z,rfl,rfl,hq,he,q⟩:=h
 cases rx
 obtain ⟨t,rfl⟩:=ry
 obtain ⟨aK,r,pl,hz⟩:=I.tuple hq
 obtain ⟨j,h1,h2,h3,h4,h5⟩:=wj he
 obtain ⟨w,ew,wb⟩:=r.get h2
 have hl:=(r:)
 have hn:=f_
 have fin:EP X pins σ Q w s:=⟨z,H,I,wb,q⟩
 exact subscriptTail_builtinR (x:=w) pl.typeIs slot_tuple_getitem.lookup
  (getItem_tuple (j:=j) (Q:=λr s'=>r=w/\EP X pins σ Q r s') pl () () (by rw[Qah, <-hl];exact h1) (by simpa using ew) ⟨rfl,fin⟩) hs
theorem Ov:Ot X XE:=by
 walk_at"H"
 obtain ⟨z,i,c,rfl,rfl,hz,he,q⟩:=h
 walk_at"e"
 walk_at"V"
 obtain ⟨j,h1,h2,h3,h4,h5⟩:=wj he
 have hl:(z.cps.toList:)=(z:):=by simp[Str.length]
 rw[hl]at h1 h4 h5
 have hn:=f_
 exact tail_any (typeIs_str s z t) slot_str_getitem.lookup (getItem_str (c:=c) (by
  have e1:decide (i< -(2 ^ 63:Int))=false:=decide_eq_false ()
  have e2:decide (i ≥ 2 ^ 63)=false:=decide_eq_false ()
  rw[e1,e2,Bool.or_false]) (by rw[h1];simpa using h2) ⟨.str ⟨#[c]⟩,H,I.tok _,⟨_,rfl⟩,q⟩) hs
theorem Ay(aK:List Value)(n j:Nat)(u:Value):Obj.mapSeq (·.setIfInBounds j u) { cls:= .type "list",data:= .seq aK.toArray n }={ cls:= .type "list",data:= .seq (aK.set j u).toArray n }:=by
 simp[Obj.mapSeq]
theorem Inv.lst(I:Inv X pins σ H s)(h:H p=some (.lst xs)):
  ∃(aK:List Value) (n:Nat),Vals xs aK/\s.heap.get? p=some { cls:= .type "list",data:= .seq aK.toArray n }/\(xs:)<=sizeLine:=by
 obtain ⟨z,aK,n,r,e⟩:=I.bU p _ h
 exact ⟨aK,n,r,e,z⟩
theorem Inv.Ow{ys:List V}{n':Nat}{f:Obj->Obj}(I:Inv X pins σ H s)(h:H p=some (.lst xs))
  (ho:s.heap.get? p=some { cls:= .type "list",data:= .seq aK.toArray n }) (hf:f { cls:= .type "list",data:= .seq aK.toArray n }={ cls:= .type "list",data:= .seq its'.toArray n' }) (r:Vals ys its') (hz:(ys:)<=sizeLine) (t:Nat):
  Inv X pins σ (upd H p (.lst ys)) { s with heap:=s.heap.update p f,toks:=t }:=by
 have e:(s.heap.update p f).get? p=some { cls:= .type "list",data:= .seq its'.toArray n' }:=by
  rw[Qcy f ho (by rw[hf]<;>rfl),hf]
 refine I.write (x:=p) (e:=p) (by rw[h];trivial) (.inl rfl) (λb u hb q=>(Qbe _ _ (Ne.symm hb)).trans q) ⟨_,e⟩ ?_
 exact ⟨hz,its',n',r,e⟩
inductive Ce(o:V)(i:V)(v:V)(H:Hp)(Q:(Hp->Prop)):Prop
 | mk (p:_) (xs:_) (k:_) (j:_) (_:o= .ref p) (_:i= .int k) (_:H p=some (.lst xs)) (_:JW (xs:) k=some j) (_:Q (upd H p (.lst (xs.set j v)))):Ce o i v H Q
def T1:V->V->V->Hp->(Hp->Prop)->Prop:=Ce
theorem set_list:Ts X T1:=by
 intro pins s σ H o i v ov iv u Q I ro ri rv h
 obtain ⟨p,xs,k,j,rfl,rfl,hp,hj,q⟩:=h
 cases ro
 obtain ⟨t,rfl⟩:=ri
 obtain ⟨aK,n,r,ho,hz⟩:=I.lst hp
 obtain ⟨h1,h2,h3,h4⟩:=Cd hj
 have hl:=(r:)
 have hn:=f_
 have I':Inv X pins σ (upd H p (.lst (xs.set j v))) { s with heap:=s.heap.update p (Obj.mapSeq (·.setIfInBounds j u)) }:=
  I.Ow hp ho (Ay aK n j u) (r.set rv j) (by rw[List.length_set];exact hz) s.toks
 by_cases h0:0<=k
 ·have hk:k.toNat=j:=by
   rw[seqIndex_of h0 h4]at h1
   exact Qal h1
  exact PySem.W.ki_setAt ho h0 () (by rw[Qah, <-hl];exact h4) (by rw[hk];exact ⟨_,I',q⟩)
 ·have hk:(k+(aK.toArray.size:Int)).toNat=j:=by
   rw[seqIndex_neg () h3]at h1
   rw[Qah, <-hl]
   exact Qal h1
  exact PySem.W.ki_setBack ho () (by rw[Qah, <-hl];exact h3) () (by rw[hk];exact ⟨_,I',q⟩)
theorem wm(lo hi:Option Int)(n:Nat):(sliceBounds lo hi none n).1=((HT.kg n 0 lo:Nat):Int)/\(sliceBounds lo hi none n).2.1=((HT.kg n n hi:Nat):Int)/\(sliceBounds lo hi none n).2.2=1:=by
 refine ⟨?_,?_,rfl⟩
 ·cases lo with
  | none=>simp[sliceBounds,HT.kg]
  | some i=>
   simp only[sliceBounds,HT.kg,Option.getD_none,show (1:Int)>0 by decide,if_true]
   by_cases h:i<0
   ·simp only[h,if_true]<;>lia
   ·simp only[h,if_false]<;>lia
 ·cases hi with
  | none=>simp[sliceBounds,HT.kg]
  | some i=>
   simp only[sliceBounds,HT.kg,Option.getD_none,show (1:Int)>0 by decide,if_true]
   by_cases h:i<0
   ·simp only[h,if_true]<;>lia
   ·simp only[h,if_false]<;>lia
theorem tP(aK:List Value)(lo hi:Option Int):slicePick aK.toArray lo hi none=((aK.drop (HT.kg (aK:) 0 lo)).take (HT.kg (aK:) (aK:) hi - HT.kg (aK:) 0 lo)).toArray:=by
 obtain ⟨h1,h2,h3⟩:=wm lo hi aK.toArray.size
 unfold slicePick
 rw[h1,h2,h3]
 simp only[sliceRange_one,pick_run,Qah]<;>rfl
inductive Gb(K:c8)(x:V)(lo:Option Int)(hi:Option Int)(H:Hp)(Q:VK):Prop
 | mk (a:_) (xs:_) (_:x= .ref a) (_:bL K H a xs) (_:∀p,H p=none->Q (.ref p) (upd H p (.lst (nK xs lo hi)))):Gb K x lo hi H Q
def T3(K:c8):V->Option Int->Option Int->Hp->VK->Prop:=Gb K
theorem Kr:Wg X (T3 X.K):=by
 intro pins s σ H x v vl vu lo hi sl Q I rx hs pl pu h
 obtain ⟨a,xs,rfl,hx,q⟩:=h
 cases rx
 obtain ⟨aK,r,ht,hz⟩:=I.list hx
 have hlen:=(r:)
 refine ⟨"list",_,slot_list_getitem.lookup,ht.isList.typeIs,?_⟩
 refine wpAny_getItem_list_slice ht.isList hs pl pu .none (by simp) ?_ (by rw[Qah]<;>lia)
 rw[tP, <-hlen]
 refine ⟨.ref s.heap.objs.size,_,I.laid (t':=s.toks) (o:= .lst (nK xs lo hi)) (λb ob q=>kb _ q) (Qaa _) ?_,rfl,q _ (I.bU.fresh (Qaa _))⟩
 exact ⟨Qa7 (yu xs lo hi) hz,_,0,(r.drop (HT.kg (xs:) 0 lo)).take (HT.kg (xs:) (xs:) hi - HT.kg (xs:) 0 lo),Qav _ rfl⟩
theorem wo:dS X (.builtin "len") (λxs H Q=>∃p ys,xs=[.ref p]/\(bL X.K H p ys\/di X.K H p ys)/\Q (.int (ys:)) H):=by
 walk_at"g"
 obtain ⟨p,ys,rfl,hq,q⟩:=h
 obtain ⟨u,rfl,rx⟩:=vals1 r
 cases rx
 have hn:=f_
 rcases hq with hq | hq
 ·obtain ⟨aK,r',pl,hz⟩:=I.list hq
  have hlen:=(r':)
  exact Calls.call_len_list pl.isList (by simp only[Qah]<;>lia) ⟨.int (ys:),H,I.tok _,⟨s.toks+1,by rw[Qah,hlen]⟩,q⟩
 ·obtain ⟨aK,r',pl,hz⟩:=I.tuple hq
  have hlen:=(r':)
  exact len_tuple pl (by simp only[Qah]<;>lia) ⟨.int (ys:),H,I.tok _,⟨s.toks+1,by rw[Qah,hlen]⟩,q⟩
theorem wq:dS X (.builtin "len") (λxs H Q=>∃z,xs=[.str z]/\(z:)<=sizeLine/\Q (.int (z:)) H):=by
 walk_at"g"
 obtain ⟨z,rfl,hz,q⟩:=h
 obtain ⟨u,rfl,t,rfl⟩:=vals1 r
 have hn:=f_
 exact len_str () ⟨.int (z:),H,I.tok _,⟨_,rfl⟩,q⟩
theorem wu:dS X (.type "list") (λxs H Q=>∃p ys,xs=[.ref p]/\(bL X.K H p ys\/di X.K H p ys)/\∀l,H l=none->Q (.ref l) (upd H l (.lst ys))):=by
 walk_at"g"
 obtain ⟨p,ys,rfl,hq,q⟩:=h
 obtain ⟨u,rfl,rx⟩:=vals1 r
 cases rx
 have fin:∀(aK:List Value),Vals ys aK->(ys:)<=sizeLine->∀(h':Heap) (c':Nat),(∀b o',s.heap.get? b=some o'->h'.get? b=some o')->
   h'.get? s.heap.objs.size=some { cls:= .type "list",dict:=none,data:= .seq aK.toArray c',slots:= #[] }->EP X pins σ Q (.ref s.heap.objs.size) { s with heap:=h' }:=λaK r' hz h' c' kp e=>
  ⟨.ref s.heap.objs.size,_,I.laid (t':=s.toks) kp (Qaa _) (show cC X.prog X.w _ h' _ (.lst ys) from ⟨hz,aK,c',r',e⟩),rfl,q _ (I.bU.fresh (Qaa _))⟩
 rcases hq with hq | hq
 ·obtain ⟨aK,r',pl,hz⟩:=I.list hq
  have hlen:=(r':)
  obtain ⟨o,ho,hc,n,hd⟩:=pl.isList
  exact call_list_seq p (.inl rfl) ho hc hd (λh' c' kp e=>fin aK r' hz h' c' kp e) (by simp only[Qah]<;>lia)
 ·obtain ⟨aK,r',pl,hz⟩:=I.tuple hq
  have hlen:=(r':)
  obtain ⟨o,ho,hc,n,hd⟩:=pl
  exact call_list_seq p (.inr rfl) ho hc hd (λh' c' kp e=>fin aK r' hz h' c' kp e) (by simp only[Qah]<;>lia)
theorem tQ:dS X (.type "tuple") (λxs H Q=>∃p ys,xs=[.ref p]/\((bL X.K H p ys/\∀l,H l=none->Q (.ref l) (upd H l (.tup ys)))\/(di X.K H p ys/\Q (.ref p) H))):=by
 walk_at"g"
 obtain ⟨p,ys,rfl,h⟩:=h
 obtain ⟨u,rfl,rx⟩:=vals1 r
 cases rx
 rcases h with ⟨hq,q⟩ | ⟨hq,q⟩
 ·obtain ⟨aK,r',pl,hz⟩:=I.list hq
  have hlen:=(r':)
  refine call_tuple_list pl.isList (λh' kp=>?_) (by simp only[Qah]<;>lia)
  have I1:Inv X pins σ H { s with heap:=h' }:=I.kept (t':=s.toks) kp
  have I2:Inv X pins σ (upd H h'.objs.size (.tup ys)) { s with heap:=h'.push { cls:= .type "tuple",data:= .seq aK.toArray } }:=
   I1.laid (t':=s.toks) (λb o e=>kb _ e) (Qaa _) (show cC X.prog X.w _ _ _ (.tup ys) from ⟨hz,aK,r',IsTup.new _ _⟩)
  exact ⟨.ref h'.objs.size,_,I2,rfl,q _ (I1.bU.fresh (Qaa _))⟩
 ·obtain ⟨aK,r',pl,hz⟩:=I.tuple hq
  exact call_tuple_same pl ⟨.ref p,H,I,rfl,q⟩
def XF(K:c8)(T:String)(x:V)(H:Hp):Prop:=match x with
 | .str _=>T="str"
 | .int _=>T="int"
 | .ref p=>(T="list"/\∃xs,bL K H p xs)\/(T="tuple"/\∃o,K.lookup p=some o/\o.cls= .type "tuple"/\o.dict=none)\/
   (T="dict"/\((∃aI,H p=some (.dK aI))\/∃aI,H p=some (.dT aI)))\/(T="set"/\∃S n,H p=some (.set S n))
 | _=>False
theorem Gd{T:String}{x:V}{v:Value}(I:Inv X pins σ H s)(r:RelV x v)(ty:XF X.K T x H):
  s.TypeIs v T/\∀a,v= .ref a->∃ob,s.heap.get? a=some ob/\ob.dict=none:=by
 cases x with
 | str z=>
  obtain ⟨t,rfl⟩:=r
  cases (show T="str" from ty)
  exact ⟨typeIs_str s z t,λ_ e=>nomatch e⟩
 | int i=>
  obtain ⟨t,rfl⟩:=r
  cases (show T="int" from ty)
  exact ⟨typeIs_int s i t,λ_ e=>nomatch e⟩
 | ref p=>
  cases r
  rcases ty with ⟨rfl,xs,hq⟩ | ⟨rfl,o,hk,hc,hd⟩ | ⟨rfl,hk⟩ | ⟨rfl,S,n,hk⟩
  ·obtain ⟨aK,_,pl,_⟩:=I.list hq
   refine ⟨pl.isList.typeIs,λa e=>?_⟩
   cases e
   obtain ⟨o,n,e,c,hd,_⟩:=pl
   exact ⟨o,e,hd⟩
  ·refine ⟨⟨o,I.Ak p o hk,hc⟩,λa e=>?_⟩
   cases e
   exact ⟨o,I.Ak _ o hk,hd⟩
  ·have z:∃o,s.heap.get? p=some o/\o.ExactDict:=by
    rcases hk with ⟨aI,hk⟩ | ⟨aI,hk⟩
    ·obtain ⟨_,_,_,_,o,_,_,e,ex,_⟩:=I.bU p _ hk
     exact ⟨o,e,ex⟩
    ·obtain ⟨_,_,_,_,o,_,_,e,ex,_⟩:=I.bU p _ hk
     exact ⟨o,e,ex⟩
   obtain ⟨o,e,ex⟩:=z
   refine ⟨⟨o,e,ex.1⟩,λa e2=>?_⟩
   cases e2
   exact ⟨o,e,ex.2.1⟩
  ·obtain ⟨o,_,_,_,e,ex,_⟩:=I.bU p _ hk
   refine ⟨⟨o,e,ex.1⟩,λa e2=>?_⟩
   cases e2
   exact ⟨o,e,ex.2.1⟩
 | _=>exact False.elim ty
def T4(K:c8)(T:String)(r:V->List V->Hp->VK->Prop)(to:TE):TE:=λσ H Q=>to σ H λx H1=>XF K T x H1/\r x [] H1 Q
def tBM(K:c8)(T:String)(r:V->List V->Hp->VK->Prop)(to:TE)(t:TA):TE:=λσ H Q=>to σ H λx H1=>XF K T x H1/\t σ H1 λxs H2=>r x xs H2 Q
variable{o e:Expr}{es:List Expr}{to:TE}{t:TA}{name:Str}{apos jm:Pos}{T id:String}{r:V->List V->Hp->VK->Prop}
theorem Ox(pa:PlainAttrs T)(slot:Slot T name id)(Oy:typeOf (.builtin id)=pure (.type "method_descriptor"))(hm:DW X id r)(ho:PE X o to)
  (qG:attributeBase o name X.env (eval o X.env)=eval o X.env:=by rfl) (gF:(apos.endLine==jm.line)=true:=by rfl):PE X (.Call (.Attribute o name apos) [] [] jm) (T4 X.K T r to):=by
 walk_at"f"
 refine wpAny_Call_method0_late qG gF (cD (ho pins s σ H _ I h) λv s1 ⟨x,H1,I1,r1,ty,q1⟩=>?_)
 obtain ⟨h1,h2⟩:=Gd I1 r1 ty
 exact ⟨T,id,pa,slot,Oy,h1,h2,Calls.callWith_builtin rfl (PySem.evalArgs_none (hm pins s1 σ H1 x [] v [] Q I1 r1 .nil q1))⟩
theorem T5(pa:PlainAttrs T)(slot:Slot T name id)(Oy:typeOf (.builtin id)=pure (.type "method_descriptor"))(hm:DW X id r)(ho:PE X o to)(ha:PA X (e::es) t)
  (qG:attributeBase o name X.env (eval o X.env)=eval o X.env:=by rfl)
  (Ks:((backTo jm (starEach (e::es) X.env)).all (λx=>!x.1)&&(backToKw jm (keywordEach [] X.env)).all (λx=>x.1.isSome)
   &&decide (((e::es):)+(([]:List Keyword):)+(if ([]:List Keyword).isEmpty then 0 else 1)<30))=true:=by rfl)
  (gF:(apos.endLine==jm.line)=true:=by rfl) (hs:starEach (e::es) X.env=(false,eval e X.env)::starEach es X.env:=by rfl) (Az:(backTo jm (starEach es X.env)).any (·.1)=false:=by rfl):
  PE X (.Call (.Attribute o name apos) (e::es) [] jm) (tBM X.K T r to t):=by
 walk_at"f"
 refine wpAny_Call_method_late qG Ks gF rfl (cD (ho pins s σ H _ I h) λv s1 ⟨x,H1,I1,r1,ty,q1⟩=>?_)
 obtain ⟨h1,h2⟩:=Gd I1 r1 ty
 refine ⟨T,id,pa,slot,Oy,h1,h2,?_⟩
 have hA:=ha jm pins s1 σ H1 _ I1 q1
 rw[hs]at hA ⊢
 refine Calls.callWith_builtin (by show (false||(backTo jm (starEach es X.env)).any (·.1))=false;rw[Az]<;>rfl) (Calls.evalArgs_plain ?_)
 exact cD hA λus s2 ⟨vs,H2,I2,r2,q2⟩=>hm pins s2 σ H2 x vs v us Q I2 r1 r2 q2
end
def RF(X:Cx)(id:String)(r:V->List V->Hp->VK->Prop):Prop:=
 ∀(pins:List (Addr×Obj)) (s:Shared) (σ:St) (H:Hp) (x:V) (xs:List V) (v:Value) (us:List Value) (Q:VK),Inv X pins σ H s->RelV x v->Vals xs us->r x xs H Q->
  wpAny (model X.prog X.w) X.A (call (.builtin id) (v::us)) (EP X pins σ Q) X.xe s
theorem Vals.one:∀{x:V} {us:List Value},Vals [x] us->∃u,us=[u]/\RelV x u
 | _,_,.cons r .nil=>⟨_,rfl,r⟩
theorem Vals.zero:∀{us:List Value},Vals [] us->us=[]
 | _,.nil=>rfl
variable{us:List Value}
theorem Vals.dropLast(h:Vals xs us):Vals xs.dropLast us.dropLast:=by
 induction h with
 | nil=>exact .nil
 | cons r t ih=>
  cases t with
  | nil=>exact .nil
  | cons q t'=>exact .cons r ih
theorem Vals.eraseIdx:∀{xs:List V} {us:List Value} (i:Nat),Vals xs us->Vals (xs.eraseIdx i) (us.eraseIdx i)
 | _,_,_,.nil=> .nil
 | _,_,0,.cons _ t=>t
 | _,_,i+1,.cons r t=> .cons r (Vals.eraseIdx i t)
theorem Vals.reverse(h:Vals xs us):Vals xs.reverse us.reverse:=by
 induction h with
 | nil=>exact .nil
 | cons r t ih=>rw[Qgl,Qgl];exact Vals.append ih (.cons r .nil)
theorem AA{α:Type}(l:List α):l.eraseIdx ((l:) - 1)=l.dropLast:=by
 induction l with
 | nil=>rfl
 | cons a r ih=>
  cases r with
  | nil=>rfl
  | cons b r=>
   have e:((a::b::r):) - 1=(((b::r):) - 1)+1:=by
    have h1:((a::b::r):)=(r:)+2:=rfl
    have h2:((b::r):)=(r:)+1:=rfl
    lia
   rw[e,Qfl,ih]
   all_goals rfl
theorem uM{α:Type}:∀(l:List α) (i:Nat),(l.eraseIdx i:)<=(l:)
 | [],_=>Qaa _
 | _::_,0=>Qdk _
 | _::r,i+1=>Qc9 (uM r i)
section
variable{X:Cx}{pins:List (Addr×Obj)}{σ:St}{H:Hp}{s:Shared}{l b:Addr}{xs ys zs:List V}
theorem Inv.DX{f:Array Value->Array Value}{t':Nat}(I:Inv X pins σ H s)(hH:H l=some (.lst xs))
  (e:s.heap.get? l=some { cls:= .type "list",data:= .seq aK.toArray n }) (hf:f aK.toArray=its'.toArray) (hv:Vals ys its') (hz:(ys:)<=sizeLine):
  Inv X pins σ (upd H l (.lst ys)) { s with heap:=s.heap.update l (Obj.mapSeq f),toks:=t' }:=by
 have q:=PySem.IsL.update e f
 rw[hf]at q
 refine I.write (x:=l) (e:=l) (by rw[hH];exact trivial) (.inl rfl) (λb' u hb hu=>(Qbe s.heap (Obj.mapSeq f) (Ne.symm hb)).trans hu) ⟨_,q⟩ ?_
 exact ⟨hz,its',_,hv,q⟩
theorem Inv.fresh(I:Inv X pins σ H s):H s.heap.objs.size=none:=I.bU.fresh (Qaa _)
theorem Inv.AB(I:Inv X pins σ H s)(hH:H l=some (.lst xs)):(xs:)<=sizeLine/\∃(aK:List Value) (n:Nat),Vals xs aK/\(xs:)=(aK:)/\s.heap.get? l=some { cls:= .type "list",data:= .seq aK.toArray n }:=by
 obtain ⟨z,aK,n,r,e⟩:=I.bU l _ hH
 exact ⟨z,aK,n,r,(r:),e⟩
theorem Ge(h:n<=sizeLine):Builtin.List.listTooLong n=false:=by
 unfold Builtin.List.listTooLong
 exact decide_eq_false ()
end
section
variable{X:Cx}
inductive uN(x:V)(vs:List V)(H:Hp)(Q:VK):Prop
 | mk (l:_) (xs:_) (y:_) (_:x= .ref l) (_:vs=[y]) (_:H l=some (.lst xs)) (_:(xs:)<sizeLine) (_:Q .gz (upd H l (.lst (xs++[y])))):uN x vs H Q
def Kt:V->List V->Hp->VK->Prop:=uN
theorem hV:RF X "list.append" Kt:=by
 walk_at"A"
 obtain ⟨l,xs,y,rfl,rfl,hH,hz,q⟩:=h
 cases rx
 obtain ⟨u,rfl,ru⟩:=rv.one
 walk_at"I"
 refine call_meets F.slot_list_append ⟨_,e,rfl⟩ F.entry_list_append (F.args_list_append_2 _ _) (PySem.list_append l aK.toArray n u (by rw[Qah];lia)) ⟨e,?_⟩
 refine ⟨.gz,_,I.DX (its':=aK++[u]) hH e (by simp) (r.append (.cons ru .nil)) ?_,rfl,q⟩
 rw[T6,List.length_singleton]
 lia
inductive uO(x:V)(vs:List V)(H:Hp)(Q:VK):Prop
 | mk (l:_) (b:_) (xs:_) (zs:_) (_:x= .ref l) (_:vs=[.ref b]) (_:H l=some (.lst xs)) (_:H b=some (.lst zs)) (_:(xs:)+(zs:)<=sizeLine) (_:Q .gz (upd H l (.lst (xs++zs)))):uO x vs H Q
def Ku:V->List V->Hp->VK->Prop:=uO
theorem uQ:RF X "list.extend" Ku:=by
 walk_at"A"
 obtain ⟨l,b,xs,zs,rfl,rfl,hH,hB,hz,q⟩:=h
 cases rx
 obtain ⟨u,rfl,ru⟩:=rv.one
 cases ru
 walk_at"I"
 obtain ⟨z2,Kv,n2,r2,RG,e2⟩:=I.AB hB
 have hsz:aK.toArray.size+Kv.toArray.size<=sizeLine:=by rw[Qah,Qah];lia
 have T7: ¬(!aK.toArray.isEmpty&&Builtin.List.listTooLong (aK.toArray.size+Kv.toArray.size))=true:=by
  rw[Ge hsz,Bool.and_false]
  exact Qa8
 refine call_meets F.slot_list_extend ⟨_,e,rfl⟩ F.entry_list_extend (F.args_list_extend_2 _ _)
  (AutoSeq1.list_extend_list_list_0 l aK.toArray n b Kv.toArray n2 T7 (by rw[Qah];lia) ()) ⟨e,e2,?_⟩
 refine ⟨.gz,_,I.DX (its':=aK++Kv) hH e (by simp) (r.append r2) ?_,rfl,q⟩
 rw[T6]
 lia
inductive Gf(x:V)(vs:List V)(H:Hp)(Q:VK):Prop
 | mk (l:_) (xs:_) (y:_) (_:x= .ref l) (_:vs=[]) (_:H l=some (.lst xs)) (_:xs[(xs:) - 1]? =some y) (_:Q y (upd H l (.lst xs.dropLast))):Gf x vs H Q
def XG:V->List V->Hp->VK->Prop:=Gf
theorem Oz:RF X "list.pop" XG:=by
 walk_at"A"
 obtain ⟨l,xs,y,rfl,rfl,hH,hy,q⟩:=h
 cases rx
 have Fs:=rv.zero
 subst Fs
 walk_at"I"
 obtain ⟨u,hu,ru⟩:=r.get hy
 have RH:aK.toArray[aK.toArray.size - 1]? =some u:=by
  show aK.toArray[(aK:) - 1]? =some u
  rw[<-Qbb, <-hl]
  exact hu
 refine call_meets F.slot_list_pop ⟨_,e,rfl⟩ F.entry_list_pop (F.args_list_pop_1 _) (MeetsSeq.list_pop_last l aK.toArray n u RH (by rw[Qah];lia)) ⟨e,?_⟩
 refine ⟨y,_,I.DX (its':=aK.dropLast) hH e ?_ r.dropLast ?_,ru,q⟩
 ·show aK.toArray.eraseIdxIfInBounds (aK.toArray.size - 1)=aK.dropLast.toArray
  rw[Qah,List.eraseIdxIfInBounds_toArray,AA]
 ·rw[Qf7]
  lia
inductive yw(x:V)(vs:List V)(H:Hp)(Q:VK):Prop
 | mk (l:_) (xs:_) (i:_) (k:_) (y:_) (_:x= .ref l) (_:vs=[.int i]) (_:H l=some (.lst xs)) (_: -(2 ^ 63)<=i) (_:i<2 ^ 63) (_:seqIndex? i (xs:)=some k) (_:xs[k]? =some y) (_:Q y (upd H l (.lst (xs.eraseIdx k)))):yw x vs H Q
def OA:V->List V->Hp->VK->Prop:=yw
theorem qH:RF X "list.pop" OA:=by
 walk_at"A"
 obtain ⟨l,xs,i,k,y,rfl,rfl,hH,h1,h2,hk,hy,q⟩:=h
 cases rx
 obtain ⟨u,rfl,ru⟩:=rv.one
 obtain ⟨t,rfl⟩:=ru
 walk_at"I"
 obtain ⟨w,hw,wb⟩:=r.get hy
 refine call_meets F.slot_list_pop ⟨_,e,rfl⟩ F.entry_list_pop (F.args_list_pop_2 _ _)
  (MeetsSeq.list_pop_at l aK.toArray n i t k w (fitsIndex_both h1 h2) (by rw[Qah, <-hl];exact hk) (by rw[<-Qbb];exact hw) (by rw[Qah];lia)) ⟨e,?_⟩
 refine ⟨y,_,I.DX (its':=aK.eraseIdx k) hH e ?_ (r.eraseIdx k) ?_,wb,q⟩
 ·show aK.toArray.eraseIdxIfInBounds k=(aK.eraseIdx k).toArray
  rw[List.eraseIdxIfInBounds_toArray]
 ·have:=uM xs k
  lia
inductive qI(x:V)(vs:List V)(H:Hp)(Q:VK):Prop
 | mk (l:_) (xs:_) (_:x= .ref l) (_:vs=[]) (_:H l=some (.lst xs)) (_:Q .gz (upd H l (.lst xs.reverse))):qI x vs H Q
def Gg:V->List V->Hp->VK->Prop:=qI
theorem AD:RF X "list.reverse" Gg:=by
 walk_at"A"
 obtain ⟨l,xs,rfl,rfl,hH,q⟩:=h
 cases rx
 have Fs:=rv.zero
 subst Fs
 walk_at"I"
 refine call_meets F.slot_list_reverse ⟨_,e,rfl⟩ F.entry_list_reverse (F.args_list_reverse_1 _) (AutoSeq1.list_reverse_list_0 l aK.toArray n (by rw[Qah];lia)) ⟨e,?_⟩
 refine ⟨.gz,_,I.DX (its':=aK.reverse) hH e (by simp) r.reverse ?_,rfl,q⟩
 rw[Qa0]
 lia
end
end L2
namespace Att
open PySem PySem.W PySem.Calls PyProof.Rows
theorem pj{P:Params}{h:Heap}:∀(ns:List Int) (vs:List Value),WellAll P h vs (ns.map WData.int)->IntsAre vs ns:=by
 intro ns
 induction ns with
 | nil=>
  intro vs w
  rw[List.map_nil]at w
  cases w
  exact .nil
 | cons n ns ih=>
  intro vs w
  rw[Qa3]at w
  cases w with
  | cons a b=>
   cases a
   exact .cons _ _ (ih _ b)
variable{l:OpenLaw}{n:Nat}
theorem DY(hn:l.most=some n){P:Params}{h:Heap}{args:List WData}{vals:List Value}
  (Kw:l.row.toRowW.claim.pre args=true) (x9:WellAll P h vals args):
  ∃a vs ns,vals=[Value.ref a]/\args=[WData.list (ns.map WData.int)]/\h.get? a=some { cls:= .type "list",data:= .seq vs.toArray }/\IntsAre vs ns/\(ns:)<=n:=by
 have hsh:WShape.hasAll [] args [.list .int]=true:=(pre_splitW Kw).1
 have hc:l.pre.holds [] { args:=args }=true:=(pre_splitW Kw).2
 obtain ⟨d,r,rfl,h1,h2⟩:=hasAllW_cons hsh
 obtain rfl:=hasAllW_nil h2
 obtain ⟨xs,rfl,h3⟩:=hasW_list h1
 obtain ⟨ns,rfl⟩:=items_int h3
 have hlen:(ns:)<=n:=by
  unfold OpenLaw.pre at hc
  have h4:(WTm.not (.lt (.lit (.int (n:Int))) (.len (.arg 0)))).holds [] { args:=[.list (ns.map .int)] }=true:=by
   have h4:=(holds_andW hc).1
   rw[hn]at h4
   exact h4
  have h5:=condW_of h4 (w_not (w_lt w_lit (w_len_list (w_arg rfl))))
  rw[Wh]at h5
  refine Nat.le_of_not_lt λq=>?_
  have q':(n:Int)<(((ns:):Nat):Int):=by lia
  first
   |(rw[decide_eq_true q']at h5;exact absurd h5 ∅)
   |(simp at h5;lia)
 cases x9 with
 | cons w1 w2=>
  cases w2
  cases w1 with
  | list ho XH=>exact ⟨_,_,ns,rfl,rfl,ho,pj ns _ XH,hlen⟩
theorem DZ(l:OpenLaw)(args:List WData):l.row.toRowW.claim.post args (.bool true) args=true:=
 postW_of (r:=l.row.toRowW) (X:=(true==true))
  (show WShape.has [] (.bool true) .bool=true by first | rfl | decide | simp[WShape.has,WShape.arms,WShape.armsAll])
  (show (WTm.eq .res (.lit (.bool true))).value [] { args:=args,res:=some (.bool true),after:=args }=some (.bool (true==true)) from w_eq_bool (w_res rfl) w_lit) rfl
theorem yy{q:Program}{loose:List Str}{XP:(Str->Option Value)->Heap->Prop}{YP:World->Heap->Prop}{d:DefRec}
  (hn:l.most=some n) (T8:d.params.defaults=[])
  (call:∀(w:World) (s₀ s₁:Shared) (mg mb:Str->Option Value) (fa:Addr) (o:Obj) (pm cd doc:Value) (a:Addr) (vs:List Value) (ns:List Int),
   Ground q loose [] XP w s₀ mg mb s₁.heap->YP w s₁.heap->
   s₁.heap.get? fa=some o->o.data= .func (docDef d.name d.params d.body d.scope pm cd doc)->s₁.heap.CodeRec cd d.name->mg d.name=some (.ref fa)->
   s₁.heap.get? a=some { cls:= .type "list",data:= .seq vs.toArray }->IntsAre vs ns->(ns:)<=n->s₁.gens= #[]->
   codeAny (model l.prog w) callerA (.call (.ref fa) ⟨[.ref a],[]⟩) (λr s'=>r= .ok (.ret (.bool true))/\OldK s₁.heap s'.heap/\s'.os=s₁.os/\AllBare s'.gens) s₁):
  WalkO q loose XP YP l.row.toRowW d [] (λf vs=>PySem.call f vs):=by
 intro w s₀ s₁ mg mb G Y fa o pm cd doc dV kV ho hd kT hD hmg hg args vals as Kw aah hrd x9 hlo
 obtain rfl:dV= .none:=Dflts.none hD T8
 obtain rfl:kV= .none:=Dflts.noKw hD
 obtain ⟨a,vs,ns,rfl,rfl,OB,hints,hlen⟩:=DY hn Kw x9
 refine enter_call (codeAny_mono (call w s₀ s₁ mg mb fa o pm cd doc a vs ns G Y ho (fd_plain hd) kT hmg OB hints hlen hg) λr s' hq=>?_)
 obtain ⟨rfl,h2,h3,h4⟩:=hq
 exact ⟨.inl ⟨.bool true,.bool true,[],rfl,λ_=>rfl,.bool true,DZ l _,λ_=>⟨List.Pairwise.nil,λ_ hm=>(nomatch hm)⟩⟩,h2,h3,h4⟩
end Att
namespace L2
open PySem PySem.Spec PyProof.Rows
theorem uR:∀{vs:List Value} {ns:List Int},IntsAre vs ns->Vals (ns.map V.int) vs
 | _,_,.nil=> .nil
 | _,_,.cons n t h=> .cons ⟨t,rfl⟩ (uR h)
noncomputable def da(s:Stmt):Arguments:=match s with
 | .FunctionDef _ a _ _ _ _ _ _ _ _=>a
 | _=>{ posonlyargs:=[],args:=[],vararg:=none,kwonlyargs:=[],kw_defaults:=[],kwarg:=none,defaults:=[] }
noncomputable def cE(s:Stmt):List Stmt:=match s with
 | .FunctionDef _ _ b _ _ _ _ _ _ _=>b
 | _=>[]
noncomputable def aB(s:Stmt):Scope:=match s with
 | .FunctionDef _ _ _ _ _ _ sc _ _ _=>sc
 | _=>{ kind:= .function,names:=[],isGenerator:=false,isCoroutine:=false }
abbrev eQ:DV:=λ_ _ _ _ _ _=>False
abbrev E0:XK:=λ_ _ _=>False
variable{X:Cx}
theorem gG:Passes eQ X E0:=λ_ _ _ _ _ _ _ h=>h.elim
structure Kx(K:c8)(x qual:Str)(st:Stmt)(f:Addr)(fd:FuncData):Prop where
 ex:∃(oc:Value) (od:Option Addr) (kV doc pm:Value) (an:Option Addr) (cY ct:Value) (x8:Array (Option Value)),
  fd=PySem.W.fnOf x qual (da st) (cE st) (aB st) .none kV doc pm an cY ct/\K.lookup f=some ⟨oc,od,.func fd,x8⟩/\PySem.W.codeIn K cY qual=true
 kp:PySem.W.keepIn K (.ref f)=true
variable{x qual:Str}{st:Stmt}{f:Addr}{ps:List Str}
section
variable{P:Program}{w:World}{K:c8}{mg:Str->Option Value}{base:Heap}
theorem Kx.ok{fd:FuncData}{N:List Str}{k:Nat}{sp:Sp}(F:Kx K x qual st f fd)(S:aH N ps (aB st))(len:∀vs H Q E,sp vs H Q E->(vs:)=(ps:))
  (qF:∀(cY:Value) (A:Around) (outer:List Env) (s:Shared) (H:Hp) (vs:List V) (Q:VK) (E:XK),cH k (A.deeper (envOfC qual (aB st) s.heap.objs.size f cY))->sp vs H Q E->
   ∃t,x6 (wg eQ P w K mg base N qual (aB st) f cY A outer s H E).JV (cE st) t/\t { nx:=λ_ H'=>Q .gz H',rt:=Q } (start N vs) H):bD P w K mg base eQ (k+1) f fd ps sp:=by
 obtain ⟨oc,od,kV,doc,pm,an,cY,ct,x8,rfl,lk,kT⟩:=F.ex
 refine MY lk kT S len λA outer s H vs Q E hr yr=>?_
 obtain ⟨t,h,q⟩:=qF cY A outer s H vs Q E hr yr
 exact ⟨t,h.JV,q⟩
theorem Kx.binds{fd:FuncData}(F:Kx K x qual st f fd)
  (h:∀(kV doc pm:Value) (an:Option Addr) (cY ct:Value) (us:List Value),(us:)=(ps:)->bindArgs (PySem.W.fnOf x qual (da st) (cE st) (aB st) .none kV doc pm an cY ct) ⟨us,[]⟩=pure (ps.zip us)):Binds K fd ps []:=by
 obtain ⟨oc,od,kV,doc,pm,an,cY,ct,x8,rfl,lk,kT⟩:=F.ex
 exact .all (h kV doc pm an cY ct)
theorem wx{oc:Value}{od an:Option Addr}{x8:Array (Option Value)}{kV doc pm cY ct:Value}(l:K.lookup f=some ⟨oc,od,.func (PySem.W.fnOf x qual (da st) (cE st) (aB st) .none kV doc pm an cY ct),x8⟩)
  (c:PySem.W.codeIn K cY qual=true) (k:PySem.W.keepIn K (.ref f)=true):Kx K x qual st f (PySem.W.fnOf x qual (da st) (cE st) (aB st) .none kV doc pm an cY ct):=⟨⟨oc,od,kV,doc,pm,an,cY,ct,x8,rfl,l,c⟩,k⟩
end
theorem lh{A:Around}{k:Nat}(hr:cH k A):A.units+1<cLine:=Qbm (Nat.add_le_add_left (by decide:1<=64) _) hr.units
variable{pos:Pos}
section
variable{X:Cx}
theorem pv(i:Nat)(hN:X.N[i]? =some x:=by rfl)(hv:Tg X.env.scope x:=by first | exact Or.inl rfl | exact Or.inr (Or.inl rfl) | exact Or.inr (Or.inr rfl))(hd:(x==("__debug__":Str))=false:=by decide)
  (kT:(x==("__classdict__":Str))=false:=by decide):PE X (.Name x pos) (N6 i):=Al hN hv hd kT
end
variable{A B:Prop}
theorem T9(h:B):if false=true then A else B:=by
 rw[if_neg Qa8]
 exact h
theorem XI(h:A):if true=true then A else B:=by
 rw[if_pos rfl]
 exact h
theorem cZ{c:Prop}[Decidable c](h1:c->A)(h2: ¬c->B):if c then A else B:=by
 by_cases h:c
 ·rw[if_pos h]
  exact h1 h
 ·rw[if_neg h]
  exact h2 h
def az(H H':Hp):Prop:=∀b o,H b=some o->H' b=some o
theorem az.refl(H:Hp):az H H:=λ_ _ h=>h
variable{H:Hp}
theorem az.trans{H1 H2:Hp}(a:az H H1)(b:az H1 H2):az H H2:=λc o h=>b c o (a c o h)
variable{H':Hp}
theorem az.free(e:az H H'){l:Addr}(h:H' l=Option.none):H l=Option.none:=by
 cases q:H l with
 | none=>rfl
 | some o=>
  rw[e l o q]at h
  cases h
theorem az.seq{K:c8}{a:Addr}{xs:List V}(e:az H H')(h:bL K H a xs):bL K H' a xs:=by
 rcases h with (h | ⟨o,h⟩) | h
 ·exact .inl (.inl (e _ _ h))
 ·exact .inl (.inr ⟨o,e _ _ h⟩)
 ·exact .inr h
noncomputable def jn(env:Env):List (Str×NameKind)->List (Str×Addr)->List (Str×Addr)
 | [],acc=>acc
 |(n,k)::r,acc=>jn env r (if k== .free then (match env.cells.lookup n with | some a=>(n,a)::acc | none=>acc) else acc)
theorem fG{env:Env}:∀(names:List (Str×NameKind)) (acc:List (Str×Addr)),(∀y∈names,y.2= .free->∃c,env.cells.lookup y.1=some c)->
  (forIn names acc λ(x:Str×NameKind) (cs:List (Str×Addr))=>(if (x.2==NameKind.free)=true then do let a <-cellOf env x.1;pure (ForInStep.yield ((x.1,a)::cs)) else pure (ForInStep.yield cs):Sem (ForInStep (List (Str×Addr)))))=pure (jn env names acc)
 | [],acc,_=>rfl
 |(n,k)::r,acc,h=>by
  rw[Qev]
  have hr:∀y∈r,y.2= .free->∃c,env.cells.lookup y.1=some c:=λy hy=>h y (Qae _ hy)
  cases hk:(k==NameKind.free) with
  | false=>
   have e1:jn env ((n,k)::r) acc=jn env r acc:=by
    walk_at"N"
    rw[hk,if_neg Qa8]
   rw[e1, <-fG r acc hr]
   simp only[hk,Qck,if_false,pure_bind]
  | true=>
   obtain ⟨c,hc⟩:=h (n,k) Qac (by simpa using hk)
   have e1:jn env ((n,k)::r) acc=jn env r ((n,c)::acc):=by
    have tL:env.cells.lookup n=some c:=hc
    walk_at"N"
    rw[hk,tL,if_pos rfl]
   have e2:cellOf env n=pure c:=by
    have tL:env.cells.lookup n=some c:=hc
    unfold cellOf
    rw[tL]
   rw[e1, <-fG r ((n,c)::acc) hr]
   simp only[hk,if_true,e2,pure_bind]
variable{scope:Scope}
theorem lq{env:Env}(h:∀y∈scope.names,y.2= .free->∃c,env.cells.lookup y.1=some c):closureFor scope env=pure (jn env scope.names []):=by
 have e:=fG scope.names [] h
 simp only[closureFor]
 rw[e]
 rfl
theorem nN{env:Env}{x:Str}{c:Addr}:∀(names:List (Str×NameKind)) (acc:List (Str×Addr)),(∀y d,acc.lookup y=some d->env.cells.lookup y=some d)->(jn env names acc).lookup x=some c->env.cells.lookup x=some c
 | [],acc,ha,h=>ha x c h
 |(n,k)::r,acc,ha,h=>by
  refine nN r _ (λy d q=>?_) h
  by_cases hk:(k==NameKind.free)=true
  ·rw[if_pos hk]at q
   cases e:env.cells.lookup n with
   | none=>rw[e]at q;exact ha y d q
   | some a=>
    rw[e]at q
    have q':List.lookup y ((n,a)::acc)=some d:=q
    rw[Qb2]at q'
    cases hy:(y==n) with
    | true=>
     rw[hy]at q'
     have:y=n:=by simpa using hy
     subst this
     rw[e];exact q'
    | false=>rw[hy]at q';exact ha y d q'
  ·rw[if_neg hk]at q;exact ha y d q
theorem yA{env:Env}{x:Str}:∀(names:List (Str×NameKind)) (acc:List (Str×Addr)),(∃c,acc.lookup x=some c)->∃c,(jn env names acc).lookup x=some c
 | [],acc,h=>h
 |(n,k)::r,acc,⟨c,hc⟩=>by
  refine yA r _ ?_
  by_cases hk:(k==NameKind.free)=true
  ·rw[if_pos hk]
   cases e:env.cells.lookup n with
   | none=>exact ⟨c,hc⟩
   | some a=>
    show ∃c,List.lookup x ((n,a)::acc)=some c
    rw[Qb2]
    cases hy:(x==n) with
    | true=>exact ⟨a,rfl⟩
    | false=>exact ⟨c,hc⟩
  ·rw[if_neg hk];exact ⟨c,hc⟩
theorem qJ{env:Env}{x:Str}:∀(names:List (Str×NameKind)) (acc:List (Str×Addr)),(∀y∈names,y.2= .free->∃c,env.cells.lookup y.1=some c)->names.lookup x=some .free->∃c,(jn env names acc).lookup x=some c
 | [],acc,_,h=>by simp at h
 |(n,k)::r,acc,hf,h=>by
  have hr:∀y∈r,y.2= .free->∃c,env.cells.lookup y.1=some c:=λy hy=>hf y (Qae _ hy)
  rw[Qb2]at h
  cases hy:(x==n) with
  | true=>
   rw[hy]at h
   have hk:k= .free:=Qal h
   subst hk
   have hx:x=n:=by simpa using hy
   subst hx
   obtain ⟨c,hc⟩:=hf (x,.free) Qac rfl
   have tL:env.cells.lookup x=some c:=hc
   refine yA r _ ⟨c,?_⟩
   rw[if_pos (show (NameKind.free==NameKind.free)=true by decide),tL]
   show List.lookup x ((x,c)::acc)=some c
   rw[Qb2]
   simp
  | false=>
   rw[hy]at h
   exact qJ r _ hr h
theorem mq{env:Env}:∀{names:List (Str×NameKind)} {x:Str},names.lookup x=some .free->
  ((names.map λ(n,k)=>if (k==NameKind.free&&env.scope.kind== .function&&env.kindOf n==some .cell) then (n,NameKind.cell) else (n,k)).lookup x=some .cell\/
   (names.map λ(n,k)=>if (k==NameKind.free&&env.scope.kind== .function&&env.kindOf n==some .cell) then (n,NameKind.cell) else (n,k)).lookup x=some .free)
 | [],_,h=>by simp at h
 |(n,k)::r,x,h=>by
  have ih:= @mq env r x
  show (List.lookup x ((if (k==NameKind.free&&env.scope.kind== .function&&env.kindOf n==some .cell)=true then (n,NameKind.cell) else (n,k))::_)=_\/List.lookup x ((if (k==NameKind.free&&env.scope.kind== .function&&env.kindOf n==some .cell)=true then (n,NameKind.cell) else (n,k))::_)=_)
  cases hx:x==n with
  | true=>
   simp only[Qb2,hx]at h
   cases h
   by_cases hc:((NameKind.free==NameKind.free)&&env.scope.kind== .function&&env.kindOf n==some .cell)=true
   ·rw[if_pos hc];simp[Qb2,hx]
   ·rw[if_neg hc];simp[Qb2,hx]
  | false=>
   simp only[Qb2,hx]at h
   by_cases hc:(k==NameKind.free&&env.scope.kind== .function&&env.kindOf n==some .cell)=true
   ·rw[if_pos hc];simp only[Qb2,hx];exact ih h
   ·rw[if_neg hc];simp only[Qb2,hx];exact ih h
theorem mw{env:Env}:∀{names:List (Str×NameKind)} {x:Str},(∀y∈names,y.2≠ .cell)->
  ((names.map λ(n,k)=>if (k==NameKind.free&&env.scope.kind== .function&&env.kindOf n==some .cell) then (n,NameKind.cell) else (n,k)).lookup x=some .cell\/
   (names.map λ(n,k)=>if (k==NameKind.free&&env.scope.kind== .function&&env.kindOf n==some .cell) then (n,NameKind.cell) else (n,k)).lookup x=some .free)->names.lookup x=some .free
 | [],_,_,h=>by simp at h
 |(n,k)::r,x,hn,h=>by
  have ih:= @mw env r x (λy hy=>hn y (Qae _ hy))
  have hk:=hn (n,k) Qac
  have h':(List.lookup x ((if (k==NameKind.free&&env.scope.kind== .function&&env.kindOf n==some .cell)=true then (n,NameKind.cell) else (n,k))::(r.map λ(n,k)=>if (k==NameKind.free&&env.scope.kind== .function&&env.kindOf n==some .cell) then (n,NameKind.cell) else (n,k)))=some .cell\/List.lookup x ((if (k==NameKind.free&&env.scope.kind== .function&&env.kindOf n==some .cell)=true then (n,NameKind.cell) else (n,k))::(r.map λ(n,k)=>if (k==NameKind.free&&env.scope.kind== .function&&env.kindOf n==some .cell) then (n,NameKind.cell) else (n,k)))=some .free):=h
  cases hx:x==n with
  | true=>
   rw[Qb2,hx]
   by_cases hc:(k==NameKind.free&&env.scope.kind== .function&&env.kindOf n==some .cell)=true
   ·have:(k==NameKind.free)=true:=by
     rw[Qb4,Qb4]at hc;exact hc.1.1
    have AE:k= .free:=by simpa using this
    rw[AE]
   ·rw[if_neg hc]at h'
    simp only[Qb2,hx]at h'
    rcases h' with h' | h'
    ·exact absurd (Qal h') hk
    ·exact h'
  | false=>
   rw[Qb2,hx]
   by_cases hc:(k==NameKind.free&&env.scope.kind== .function&&env.kindOf n==some .cell)=true
   ·rw[if_pos hc]at h';simp only[Qb2,hx]at h';exact ih h'
   ·rw[if_neg hc]at h';simp only[Qb2,hx]at h';exact ih h'
abbrev JX:Value->Shared->Prop:=λ_ _=>False
variable{s:Shared}{elt iter:Expr}{ifs:List Expr}
theorem wz{prog:Program}{w:World}{A:Around}{R:Result->Shared->Prop}{target:Expr}{it acc:Value}{env:Env}(I:Nat->Shared->Prop)
  (turn:∀n s,I n s->wpAny (model prog w) A (pyNext it) (λr s₁=>match r with
   | none=>R (.ok .next) s₁
   | some v=>wpAny (model prog w) A (letOwnedTupleGo target it v) (λ_ s₁'=>wpAny (model prog w) A (assign target env v) (λ_ s₂=>
     wpAny (model prog w) A (forIn ifs true λc r=>if r=true then do let ok <-isTrue c env (eval c env);pure (ForInStep.yield ok) else pure (ForInStep.yield r)) (λok s₃=>
      if ok=true then wpAny (model prog w) A (eval elt env) (λx s₄=>
       wpAny (model prog w) A (call (.builtin "list.append") [acc,x]) (λ_ s₅=>∃m,m<n/\I m s₅) JX s₄) JX s₃
      else ∃m,m<n/\I m s₃) JX s₂) JX s₁') JX s₁) JX s)
  (n:Nat) (h:I n s):codeAny (model prog w) A (.compLoop (.ListComp elt [⟨target,iter,ifs,0⟩] scope pos) 0 it acc env) R s:=by
 refine codeAny_loop rfl I (λn s hI=>?_) n h
 show wpAny _ A ((compTurn (.ListComp elt [⟨target,iter,ifs,0⟩] scope pos) 0 it acc env).onRaise (λx=>do noteFrame x env;theTreesLotGoes x)) _ _ s
 refine wpAny_noted ?_
 rw[compTurn_list]
 have no:∀{F:Value->Shared->Prop} (e:Value) (s':Shared),JX e s'->F e s':=λ_ _ h=>h.elim
 refine wpAny_bind (wpAny_standAt (wpAny_bind (wpAny_mono (turn n s hI) (λr s₁ h₁=>?_) no)))
 cases r with
 | none=>exact wpAny_pure h₁
 | some v=>
  refine wpAny_bind (wpAny_mono h₁ (λ_ s₁' h₁'=>?_) no)
  refine wpAny_bind (wpAny_mono h₁' (λ_ s₂ h₂=>wpAny_bind (wpAny_mono h₂ (λok s₃ h₃=>?_) no)) no)
  cases ok with
  | false=>exact wpAny_pure ⟨rfl,h₃⟩
  | true=>
   exact wpAny_bind (wpAny_bind (wpAny_mono h₃ (λx s₄ h₄=>wpAny_bind (wpAny_mono h₄ (λ_ s₅ h₅=>wpAny_pure (wpAny_pure ⟨rfl,h₅⟩)) no)) no))
noncomputable def bX(X:Cx)(scope:Scope)(C:Addr)(Nc:List Str)(s:Shared)(H:Hp)(fp:List Addr):Cx where
 prog:=X.prog
 w:=X.w
 K:=X.K
 mg:=X.mg
 base:=X.base
 A:=X.A
 N:=Nc
 s₀:=s
 H₀:=H
 env:=compEnvC scope (jn X.env scope.names []) C X.env
 outer:=X.stack
 stack:=X.stack
 ex:=fp
 fn:=λ_=>false
 calm:=X.calm
 pn:=[]
 xe:=JX
def kW(X:Cx)(scope:Scope):List Str->List (Option Nat)->Prop
 | [],[]=>True
 | _::ys,none::os=>kW X scope ys os
 | y::ys,some j::os=>(X.N[j]? =some y/\scope.names.lookup y=some .free/\(X.env.kindOf y=some .cell\/X.env.kindOf y=some .free))/\kW X scope ys os
 | _,_=>False
noncomputable def mz(σ:St)(ix:List (Option Nat)):St:=ix.map λo=>match o with | none=>none | some j=>(σ[j]?).getD none
def Wk:St->St->Prop
 | [],[]=>True
 | none::a,_::b=>Wk a b
 | some v::a,w::b=>w=some v/\Wk a b
 | _,_=>False
theorem Wk.len:∀{a b:St},Wk a b->(a:)=(b:)
 | [],[],_=>rfl
 | none::a,_::b,h=>congrArg (· +1) (Wk.len (a:=a) (b:=b) h)
 | some _::a,_::b,h=>congrArg (· +1) (Wk.len (a:=a) (b:=b) h.2)
theorem Wk.get:∀{a b:St} {i:Nat} {v:V},Wk a b->a[i]? =some (some v)->b[i]? =some (some v)
 | [],[],i,v,_,h=>by simp at h
 | none::a,x::b,0,v,_,h=>by simp at h
 | none::a,x::b,i+1,v,k,h=>by
  have:=Wk.get (a:=a) (b:=b) (i:=i) (v:=v) k (by simpa using h)
  simpa using this
 | some y::a,x::b,0,v,k,h=>by
  have e:y=v:=by simpa using h
  subst e
  simp[k.1]
 | some y::a,x::b,i+1,v,k,h=>by
  have:=Wk.get (a:=a) (b:=b) (i:=i) (v:=v) k.2 (by simpa using h)
  simpa using this
theorem kW.len:∀{N:List Str} {ix:List (Option Nat)},kW X scope N ix->(ix:)=N.length
 | [],[],_=>rfl
 | _::ys,none::os,h=>congrArg (· +1) (kW.len (N:=ys) (ix:=os) h)
 | _::ys,some _::os,h=>congrArg (· +1) (kW.len (N:=ys) (ix:=os) h.2)
theorem kW.get:∀{N:List Str} {ix:List (Option Nat)} {i j:Nat},kW X scope N ix->ix[i]? =some (some j)->∃y,N[i]? =some y/\X.N[j]? =some y/\scope.names.lookup y=some .free/\(X.env.kindOf y=some .cell\/X.env.kindOf y=some .free)
 | [],[],i,j,_,h=>by simp at h
 | y::ys,none::os,0,j,_,h=>by simp at h
 | y::ys,none::os,i+1,j,k,h=>by
  obtain ⟨z,h1,h2⟩:=kW.get (N:=ys) (ix:=os) (i:=i) (j:=j) k (by simpa using h)
  exact ⟨z,by simpa using h1,h2⟩
 | y::ys,some j'::os,0,j,k,h=>by
  have e:j'=j:=by simpa using h
  subst e
  exact ⟨y,by simp,k.1⟩
 | y::ys,some j'::os,i+1,j,k,h=>by
  obtain ⟨z,h1,h2⟩:=kW.get (N:=ys) (ix:=os) (i:=i) (j:=j) k.2 (by simpa using h)
  exact ⟨z,by simpa using h1,h2⟩
variable{σ:St}{ix:List (Option Nat)}{i:Nat}
theorem D0{v:V}(h:(mz σ ix)[i]? =some (some v)):∃j,ix[i]? =some (some j)/\σ[j]? =some (some v):=by
 unfold mz at h
 rw[Qar]at h
 cases e:ix[i]? with
 | none=>rw[e]at h;cases h
 | some o=>
  rw[e]at h
  cases o with
  | none=>cases h
  | some j=>
   refine ⟨j,rfl,?_⟩
   have h':some ((σ[j]?).getD none)=some (some v):=h
   cases q:σ[j]? with
   | none=>rw[q]at h';cases h'
   | some z=>rw[q]at h';cases h';rfl
variable{pins:List (Addr×Obj)}{Nc:List Str}
theorem AF(I:Inv X pins σ H s)(AG:kW X scope Nc ix)(hU:∀y∈scope.names,y.2≠ .cell)
  (gD:scope.kind= .function) (Gh:∀y∈scope.names,y.2= .free->X.env.kindOf y.1=some .cell\/X.env.kindOf y.1=some .free) {fp:List Addr} (hf:∀b∈fp,ph X pins H b) (T_:∀b∈fp,∃o,s.heap.get? b=some o)
  {C:Addr} {h':Heap} {t':Nat} {m0:Str->Option Value} (hC:s.heap.objs.size<=C) (Wj:h'.Ns C m0) (k:∀b o,s.heap.get? b=some o->h'.get? b=some o):
  Inv (bX X scope C Nc s H fp) [] (mz σ ix) H { s with heap:=h',toks:=t' }:=by
 walk_at"m"
 walk_at"y"
 refine ⟨⟨I.ok.mod,gD,I.ok.glob,I.ok.blt,hC,λx y c h1 h2=>I.ok.inj x y c (mB h1) (mB h2),λx hx=>?_,λx c h=>?_,I.ok.hd,I.ok.frames,.inl rfl,λb hb=>?_,I.bs,Qa7 I.ok.JT I.sz,λb o e hb=>?_,λb hb hs=>?_,I.stack,I.B7⟩,
  rfl,I.bare,Un.kept k,⟨m0,Wj,λi x v h1 h2 h3=>?_⟩,λx c e=>?_,I.bU.fresh hC,λx c e=>I.jr x c (mB e),λp hp=>absurd (show p∈([]:List (Addr×Obj)) from hp) (by simp),I.bU.kept k,?_⟩
 ·have DM:scope.names.lookup x=some .free:=mw hU hx
  exact qJ scope.names [] RJ DM
 ·exact absurd (show false=true from h) ∅
 ·refine ⟨?_,λx c e=>(hf b hb).2.2.2.2.1 x c (mB e)⟩
  obtain ⟨o,ho⟩:=T_ b hb
  exact Qa1 (Qa2 (Qax ho) hC)
 ·rcases (hf b hb).2.2.2.1 with z | z
  ·exact I.ok.FH b o e z
  ·exact absurd (Qa2 (Qax e) (Qa7 I.ok.JT z)) (Qb1 _)
 ·rcases Qaf.mp (I.qz b hs) with z | z
  ·exact (hf b hb).2.1 z
  ·exact (hf b hb).2.2.1 z
 ·obtain ⟨j,e1,e2⟩:=D0 h2
  obtain ⟨y,y1,y2,y3,y4⟩:=AG.get e1
  have h1':Nc[i]? =some x:=h1
  rw[y1]at h1'
  cases h1'
  obtain ⟨m,hn,hl⟩:=I.loc
  have hv:Tg X.env.scope x:=by
   rcases y4 with z | z
   ·exact .inr (.inl z)
   ·exact .inr (.inr z)
  obtain ⟨u,r,l⟩:=hl j x v y2 e2 hv
  refine ⟨u,r,.inr ⟨mq y3,?_⟩⟩
  rcases l with ⟨l,_⟩ | ⟨_,c,hc,q⟩
  ·rcases y4 with z | z
   ·rw[z]at l;cases l
   ·rw[z]at l;cases l
  ·obtain ⟨c',tL⟩:=qJ scope.names [] RJ y3
   have e:=mB tL
   rw[hc]at e
   cases e
   obtain ⟨o,ho,hd⟩:=q
   exact ⟨c,tL,o,k _ _ ho,hd⟩
 ·obtain ⟨v,o,ho,hd⟩:=I.cell x c (mB e)
  exact ⟨v,o,k _ _ ho,hd⟩
 ·show (mz σ ix:)=Nc.length
  unfold mz
  rw[Wh]
  exact AG.len
theorem D1{B8:List (Addr×Obj)}{σ':St}{s':Shared}(I:Inv X pins σ H s){fp:List Addr}{C D:Addr}(J:Inv (bX X scope C Nc s H fp) B8 σ' H' s')
  (hf:∀b∈fp,ph X pins H b) (hD:s.heap.objs.size<=D) (hC:s.heap.objs.size<=C) (OE:D≠C) {aK:List Value} {n:Nat} {acc:List V} (eD:s'.heap.get? D=some { cls:= .type "list",data:= .seq aK.toArray n }) (r:Vals acc aK)
  (hz:(acc:)<=sizeLine) (nD:H' D=none) {oC:Obj} (eC:s'.heap.get? C=some oC) (dC:∀v,oC.data≠ .cell v):Inv X (pins++[(C,oC)]) σ (upd H' D (.lst acc)) s':=by
 have lt:∀b o,s.heap.get? b=some o->b≠D:=λb o e=>Qa1 (Qa2 (Qax e) hD)
 have U:Un (B5 X.stack) fp H H' s.heap s'.heap:=J.base
 have U':Un (B5 X.stack) fp H (upd H' D (.lst acc)) s.heap s'.heap:=
  ⟨U.keep,U.slot,λb o e n hx=>by rw[au (lt b o e)];exact U.free b o e n hx,U.there,λb xs e=>by rw[au (ao (U.nG b xs e) nD)];exact U.nG b xs e,
   λb o u e=>by rw[au (ao (U.qy b o u e) nD)];exact U.qy b o u e,λb ps e=>by
    obtain ⟨more,q⟩:=U.tJ b ps e
    exact ⟨more,by rw[au (ao q nD)];exact q⟩⟩
 have bU:lO X.prog X.w (upd H' D (.lst acc)) s'.heap:=λb u e=>by
  by_cases hb:b=D
  ·subst hb
   rw[ae]at e;cases e
   exact ⟨hz,aK,n,r,eD⟩
  ·rw[au hb]at e
   exact (J.bU b u e).tI (λc v _ q=>q) (λc q=>by rw[au (ao q nD)];exact q) λc xs q=>by rw[au (ao q nD)];exact q
 have I':Inv X pins σ (upd H' D (.lst acc)) s':=I.Tj (ch:=fp) J.os U' bU J.bare λb hb=>by
  obtain ⟨_,h1,_,h2,h3,h4⟩:=hf b hb
  exact ⟨h2,h1,h3,h4⟩
 refine I'.fP λp hp=>?_
 rcases Qap.mp hp with z | z
 ·exact I'.pin p (Qam _ z)
 ·have e:p=(C,oC):=Wi.mp z
  subst e
  refine ⟨eC,?_,Qed (Qa2 I.lt hC),I.Kg hC,dC⟩
  rw[au (Ne.symm OE)]
  exact J.free
def PF(Y:Cx)(ifs:List Expr)(tc:TT):Prop:=
 ∀(pins:List (Addr×Obj)) (s:Shared) (σ:St) (H:Hp) (Q:Bool->Hp->Prop),Inv Y pins σ H s->tc σ H Q->
  wpAny (model Y.prog Y.w) Y.A (forIn ifs true λc r=>if r=true then do let ok <-isTrue c Y.env (eval c Y.env);pure (ForInStep.yield ok) else pure (ForInStep.yield r)) (TP Y pins σ Q) Y.xe s
def Ua:TT:=λ_ H Q=>Q true H
theorem nQ{Y:Cx}:PF Y [] Ua:=λ_ _ _ H _ I h=>wpAny_tests_nil ⟨H,I,h⟩
variable{tc:TT}
theorem wA{Y:Cx}{c:Expr}(h:PT Y c tc):PF Y [c] tc:=λpins s σ H Q I hw=>wpAny_tests_one (h pins s σ H Q I hw)
def uS(J:It)(σc:St)(g:TG)(tc:TT)(te:TE)(Q:VK)(H1:Hp):Prop:=
 ∃W:Nat->Nat->List V->Hp->Prop,(∃m,W 0 m [] H1)/\∀i m acc H,W i m acc H->(acc:)<sizeLine/\
 ((J.stop i H/\∀D,H D=none->Q (.ref D) (upd H D (.lst acc)))\/
  (J.go i H/\∀x H',J.FR i H x H'->g x σc H' λσ2 H2=>Wk σc σ2/\tc σ2 H2 λb H3=>if b=true then te σ2 H3 λv H4=>∃m',m'<m/\W (i+1) m' (acc++[v]) H4 else ∃m',m'<m/\W (i+1) m' acc H3))
def yB(wi:TI)(ix:List (Option Nat))(g:TG)(tc:TT)(te:TE):TE:=λσ H Q=>wi σ H λJ H1=>uS J (mz σ ix) g tc te Q H1
variable{tg:Expr}{wi:TI}{g:TG}{te:TE}
theorem uT(hi:PI X tg iter wi)(lu:X.calm=true)(AG:kW X scope Nc ix)
  (hU:∀y∈scope.names,y.2≠ .cell) (gD:scope.kind= .function) (Gh:∀y∈scope.names,y.2= .free->X.env.kindOf y.1=some .cell\/X.env.kindOf y.1=some .free)
  (hG:∀C s H fp,PG (bX X scope C Nc s H fp) tg g) (hT:∀C s H fp,PF (bX X scope C Nc s H fp) ifs tc) (hE:∀C s H fp,PE (bX X scope C Nc s H fp) elt te)
  {pins:List (Addr×Obj)} {s:Shared} {σ:St} {H:Hp} {Q:VK} (I:Inv X pins σ H s) (h:yB wi ix g tc te σ H Q) {RR:Value->Addr->Result->Shared->Prop}
  (hRR:∀(D C:Addr) (oC:Obj) (m:Str->Option Value) (H':Hp) (s':Shared),s'.heap.get? C=some oC->s'.heap.Ns C m->ph X pins H' C->Inv X (pins++[(C,oC)]) σ H' s'->Q (.ref D) H'->RR (.ref D) C (.ok .next) s'):
  wpAny (model X.prog X.w) X.A (eval iter X.env) (λv s1=>wpAny (model X.prog X.w) X.A (pyIter v) (λit s2=>wpAny (model X.prog X.w) X.A (newList []) (λacc s3=>
   wpAny (model X.prog X.w) X.A (newFunctionEnv scope X.env.globals (jn X.env scope.names []) [] X.env.qual none .none (some X.env)) (λUb s4=>
    codeAny (model X.prog X.w) X.A (.compStart (.ListComp elt [⟨tg,iter,ifs,0⟩] scope pos) 0 it acc { Ub with scope:=relabel scope X.env }) (RR acc Ub.locals) s4) X.xe s3) X.xe s2) X.xe s1) X.xe s:=by
 refine cD (hi pins s σ H _ I h) λv s1 h1=>cD h1 λXq s2 h2=>?_
 obtain ⟨it,fp,tn,J,H2,e,I2,T,jq,f2,W,⟨m0,w0⟩,turn⟩:=h2
 subst e
 refine wpAny_newObj_type (wpAny_newFunctionEnv hU (by intro y hy;simp at hy) (λh₁ OF Ky=>?_) gD)
 dsimp only at OF Ky ⊢
 generalize MZ:s2.heap.push { cls:= .type "list",dict:=none,data:= .seq ([]:List Value).toArray }=P2 at OF Ky ⊢
 have hC:P2.objs.size=s2.heap.objs.size+1:=by rw[<-MZ,Qdz]
 have OE:s2.heap.objs.size≠P2.objs.size:=by rw[hC];exact Qa1 (Qcz _)
 have OG:s2.heap.objs.size<=P2.objs.size:=by rw[hC];exact Qdk _
 have N4:∀b,b<s2.heap.objs.size->b≠P2.objs.size:=λb hb=>by rw[hC];exact Qa1 (Qc6 hb)
 have old:∀b o,s2.heap.get? b=some o->h₁.get? b=some o:=λb o e=>Ky.extBut b o (N4 b (Qax e)) (kb _ (MZ▸kb _ e))
 have wB:h₁.get? s2.heap.objs.size=some { cls:= .type "list",data:= .seq ([]:List Value).toArray }:=Ky.extBut _ _ OE (kb _ (MZ▸Qav _ rfl))
 have st₁:tn 0 h₁:=T.keep 0 _ _ jq λb _ o e=>old b o e
 have T_:∀b∈fp,∃o,s2.heap.get? b=some o:=λb hb=>let ⟨o,e,_⟩:=T.obj 0 _ jq b hb;⟨o,e⟩
 have fpD:∀b∈fp,s2.heap.objs.size≠b:=λb hb=>let ⟨o,e⟩:=T_ b hb;Qed (Qax e)
 have IY:=AF I2 AG hU gD Gh f2 T_ (t':=s2.toks+(([]:List (Str×Value)):)) OG OF old
 have XJ:∀b,s2.heap.objs.size<=b->b∉B5 X.stack:=λb hb hs=>by
  rcases Qaf.mp (I2.qz b hs) with z | z
  ·exact absurd (Qa2 I2.lt hb) (by rw[z];exact Qb1 _)
  ·exact I2.Kg hb z
 walk_at"y"
 have Uc:∀x c,(jn X.env scope.names []).lookup x=some c->c≠s2.heap.objs.size:=λx c e z=>by
  obtain ⟨v,q⟩:=I2.cell x c (mB e)
  exact absurd (q.lt) (by rw[z];exact Qb1 _)
 have fY:∀{pl:List (Addr×Obj)} {H':Hp},(∀p∈pl,p.1=s2.heap.objs.size)->(∀b∈fp,H' b=none)->∀b∈fp,ph (bX X scope P2.objs.size Nc s2 H2 fp) pl H' b:=λ{pl H'} kU hn b hb=>by
  refine ⟨hn b hb,?_,?_,.inl hb,λx c e=>(f2 b hb).2.2.2.2.1 x c (mB e),λp hp=>?_⟩
  ·obtain ⟨o,e⟩:=T_ b hb
   exact N4 b (Qax e)
  ·intro hs
   rcases Qaf.mp (I2.qz b hs) with z | z
   ·exact (f2 b hb).2.1 z
   ·exact (f2 b hb).2.2.1 z
  ·rw[kU p hp]
   exact fpD b hb
 have loop:∀s₃:Shared,s₃={ s2 with heap:=h₁,toks:=s2.toks+(([]:List (Str×Value)):) }->
   codeAny (model X.prog X.w) X.A (.compLoop (.ListComp elt [⟨tg,iter,ifs,0⟩] scope pos) 0 (.ref it) (.ref s2.heap.objs.size) (compEnvC scope (jn X.env scope.names []) P2.objs.size X.env)) (RR (.ref s2.heap.objs.size) P2.objs.size) s₃:=by
  rintro s₃ rfl
  refine wz (λn s'=>∃i acc aK nn H',Inv (bX X scope P2.objs.size Nc s2 H2 fp) [] (mz σ ix) H' s'/\tn i s'.heap/\(∀b∈fp,H' b=none)/\
   s'.heap.get? s2.heap.objs.size=some { cls:= .type "list",data:= .seq (aK:List Value).toArray nn }/\Vals acc aK/\H' s2.heap.objs.size=none/\W i n acc H') ?_ m0
   ⟨0,[],[],0,H2,IY,st₁,λb hb=>(f2 b hb).1,wB,.nil,I2.bU.fresh (Qaa _),w0⟩
  rintro n s3 ⟨i,acc,aK,nn,H3,I3,Ad,TC,eD,rv,nD,w3⟩
  obtain ⟨hz,alt⟩:=turn i n acc H3 w3
  have IP:Inv (bX X scope P2.objs.size Nc s2 H2 fp) [(s2.heap.objs.size,{ cls:= .type "list",data:= .seq aK.toArray nn })] (mz σ ix) H3 s3:=I3.fP λp hp=>by
   have e:p=(s2.heap.objs.size,_):=Wi.mp hp
   subst e
   refine ⟨eD,nD,OE,XJ _ (Qaa _),λv z=>?_⟩
   have z':Data.seq aK.toArray nn=Data.cell v:=z
   cases z'
  have kU:∀p∈[(s2.heap.objs.size,({ cls:= .type "list",data:= .seq aK.toArray nn }:Obj))],p.1=s2.heap.objs.size:=λp hp=>by
   have e:p=(s2.heap.objs.size,_):=Wi.mp hp
   rw[e]
  rcases alt with ⟨stop,fin⟩ | ⟨go,step⟩
  ·refine cD (T.done (bX X scope P2.objs.size Nc s2 H2 fp) rfl rfl rfl lu i _ s3 _ H3 JX IP (fY kU TC) Ad stop) λr s4 zz=>?_
   obtain ⟨hr,I4⟩:=zz
   subst hr
   obtain ⟨m,hn,_⟩:=id I4.loc
   obtain ⟨oC,es,ep,eC,dC,_⟩:=id hn
   have eD4:=(I4.pin (s2.heap.objs.size,_) (Qam _ (Wi.mpr rfl))).1
   have XM:=fin _ nD
   refine hRR _ _ oC m _ s4 eC hn ?_ (D1 I2 I4 f2 (Qaa _) OG OE eD4 rv (Qbu hz) nD eC λv z=>?_) XM
   ·refine I2.tM OG ?_
    rw[au (Ne.symm OE)]
    exact I4.free
   ·rw[dC]at z;cases z
  ·refine cD (T.item (bX X scope P2.objs.size Nc s2 H2 fp) rfl rfl rfl lu i _ s3 _ H3 JX IP (fY kU TC) Ad go) λr s4 zz=>?_
   obtain ⟨u,hr,h4⟩:=zz
   subst hr
   refine cD h4 λ_ s5 zz=>?_
   obtain ⟨x,H5,I5,r5,y5,nA,Xt⟩:=zz
   have Xu:=I5.pinned (fY kU Xt) (T.obj _ _ nA)
   refine cD (hG _ s2 H2 fp _ s5 _ H5 x u _ Xu r5 (step x H5 y5)) λ_ s6 zz=>?_
   obtain ⟨σ6,H6,I6,wk,q6⟩:=zz
   refine cD (hT _ s2 H2 fp _ s6 σ6 H6 _ I6 q6) λb s7 zz=>?_
   obtain ⟨H7,I7,q7⟩:=zz
   have again:∀{H9:Hp} {s9:Shared} {m':Nat},Inv (bX X scope P2.objs.size Nc s2 H2 fp) ([(s2.heap.objs.size,({ cls:= .type "list",data:= .seq aK.toArray nn }:Obj))]++qC fp s5.heap) σ6 H9 s9->
     (s9.heap.get? s2.heap.objs.size=some { cls:= .type "list",data:= .seq aK.toArray nn }/\H9 s2.heap.objs.size=none)/\tn (i+1) s9.heap/\(∀b∈fp,H9 b=none)/\Inv (bX X scope P2.objs.size Nc s2 H2 fp) [] (mz σ ix) H9 s9:=λ{H9 s9 m'} I9=>by
    have pD:=I9.pin (s2.heap.objs.size,_) (Qam _ (Qca _ (Wi.mpr rfl)))
    refine ⟨⟨pD.1,pD.2.1⟩,T.keep _ _ _ nA λb hb o e=>(I9.pin (b,o) (Qam _ (Qam _ (iL hb e)))).1,λb hb=>?_,?_⟩
    ·obtain ⟨o,e,d⟩:=T.obj _ _ nA b hb
     exact (I9.pin (b,o) (Qam _ (Qam _ (iL hb e)))).2.1
    ·exact (I9.weak wk.len λi v e=>wk.get e).fP λp hp=>absurd hp (by simp)
   cases b with
   | false=>
    rw[if_neg Qa8]at q7 ⊢
    obtain ⟨m',hm,w7⟩:=q7
    obtain ⟨⟨e7,n7⟩,t7,f7,J7⟩:=again (m':=0) I7
    exact ⟨m',hm,i+1,acc,aK,nn,H7,J7,t7,f7,e7,rv,n7,w7⟩
   | true=>
    rw[if_pos rfl]at q7 ⊢
    refine cD (hE _ s2 H2 fp _ s7 σ6 H7 _ I7 q7) λy s8 zz=>?_
    obtain ⟨v,H8,I8,r8,m',hm,w8⟩:=zz
    obtain ⟨⟨e8,n8⟩,t8,f8,J8⟩:=again (m':=0) I8
    refine wpAny_list_append_plain (items:=aK.toArray) ⟨nn,e8⟩ (λh9 hl9 hs9=>?_) (by rw[Qah, <-(rv:)];exact Qbu hz)
    obtain ⟨n9,e9⟩:=hl9
    refine ⟨m',hm,i+1,acc++[v],aK++[y],n9,H8,J8.turned (t':=s8.toks) (λb o hb e=>(hs9.2 b hb).trans e) n8 OE (.inr (Qaa _)) Uc (λp hp=>absurd hp (by simp[bX])),?_,f8,?_,rv.append (.cons r8 .nil),n8,w8⟩
    ·exact T.keep _ _ _ t8 λb hb o e=>(hs9.2 b (Ne.symm (fpD b hb))).trans e
    ·simpa using e9
 exact codeAny_compStart_list (loop _ rfl) (T.self _ 0 _ _ _ st₁ (loop _ rfl))
theorem Kz(Nc:List Str)(ix:List (Option Nat))(hi:PI X tg iter wi)(lu:X.calm=true)(AG:kW X scope Nc ix)
  (hU:∀y∈scope.names,y.2≠ .cell) (gD:scope.kind= .function) (Gh:∀y∈scope.names,y.2= .free->X.env.kindOf y.1=some .cell\/X.env.kindOf y.1=some .free)
  (AH:∀x∈scope.names,x.2= .local->scope.names.lookup x.1=some .local)
  (hG:∀C s H fp,PG (bX X scope C Nc s H fp) tg g) (hT:∀C s H fp,PF (bX X scope C Nc s H fp) ifs tc) (hE:∀C s H fp,PE (bX X scope C Nc s H fp) elt te)
  (hs:∀x,foldedSetIterable iter X.env x=pure x:=by intro _;rfl):PE X (.ListComp elt [⟨tg,iter,ifs,0⟩] scope pos) (yB wi ix g tc te):=by
 walk_at"f"
 rw[eval_ListComp]
 walk_at"m"
 refine wpAny_comprehension_free (use:=none) rfl hs (lq RJ) gD AH (uT hi lu AG hU gD Gh hG hT hE I h (RR:=λacc C=>compPost (model X.prog X.w) X.A X.xe none (EP X pins σ Q) acc C) ?_)
 intro D C oC m H' s' eC hn fC I' q
 refine ⟨m,hn,λh' Ud=>⟨.ref D,H',?_,rfl,q⟩⟩
 exact I'.jt.turned (t':=s'.toks) (λb o hb e=>(Ud.2 b hb).trans e) fC.1 fC.2.1 fC.2.2.2.1 fC.2.2.2.2.1 fC.2.2.2.2.2
theorem KA{Gi pos':Pos}(Nc:List Str)(ix:List (Option Nat))(hN:X.N.Nodup)(OH:X.N[i]? =some x)(hx:Loc X.env.scope x)
  (M0:swapsWith (.ListComp elt [⟨tg,iter,ifs,0⟩] scope pos) (some (.Name x pos')) Gi.line X.env=pure true) (hi:PI X tg iter wi) (lu:X.calm=true) (AG:kW X scope Nc ix)
  (hU:∀y∈scope.names,y.2≠ .cell) (gD:scope.kind= .function) (Gh:∀y∈scope.names,y.2= .free->X.env.kindOf y.1=some .cell\/X.env.kindOf y.1=some .free)
  (AH:∀x∈scope.names,x.2= .local->scope.names.lookup x.1=some .local)
  (hG:∀C s H fp,PG (bX X scope C Nc s H fp) tg g) (hT:∀C s H fp,PF (bX X scope C Nc s H fp) ifs tc) (hE:∀C s H fp,PE (bX X scope C Nc s H fp) elt te)
  (hs:∀x,foldedSetIterable iter X.env x=pure x:=by intro _;rfl) (hf:X.fn x=true\/X.env.scope.names.lookup x=some .local:=by first | exact .inl rfl | exact .inr rfl | assumption):
  PS X (.Assign [.Name x pos'] (.ListComp elt [⟨tg,iter,ifs,0⟩] scope pos) Gi) (FO (yB wi ix g tc te) (uC i)):=by
 intro pins s σ H E I h
 walk_at"m"
 rw[exec_Assign_Name_used _ _ _ _ M0]
 refine wpAny_bind (wpAny_standAt (wpAny_bind ?_))
 show wpAny _ X.A (do let _ <-comprehension (.ListComp elt [⟨tg,iter,ifs,0⟩] scope pos) scope X.env _ (newList []) false (eval iter X.env) (some (assign (.Name x pos') X.env))) _ _ s
 refine wpAny_bind (wpAny_mono (wpAny_comprehension_free (use:=some (assign (.Name x pos') X.env)) (Q:=λ_ s'=>SP X pins E .next s') rfl hs (lq RJ) gD AH
  (uT hi lu AG hU gD Gh hG hT hE I h (RR:=λacc C=>compPost (model X.prog X.w) X.A X.xe (some (assign (.Name x pos') X.env)) (λ_ s'=>SP X pins E .next s') acc C) ?_)) (λ_ s' hq=>wpAny_pure (wpAny_pure hq)) λ_ _ e=>e)
 intro D C oC m H' s' eC hn fC I' q
 show wpAny _ X.A (assign (.Name x pos') X.env (.ref D)) _ _ _
 refine wpAny_assign_Name (hJ I' hN OH hx (show RelV (.ref D) _ from rfl) (λTU I''=>?_) hf)
 have pC:=I''.pin (C,oC) (Qam _ (Qam _ (Wi.mpr rfl)))
 refine ⟨m,?_,λh' Ud=>?_⟩
 ·obtain ⟨o,es,ep,e,r⟩:=hn
  rw[eC]at e;cases e
  exact ⟨oC,es,ep,pC.1,r⟩
 ·refine ⟨_,H',I''.jt.turned (t':=TU.toks) (λb o hb e=>(Ud.2 b hb).trans e) fC.1 fC.2.1 fC.2.2.2.1 fC.2.2.2.2.1 fC.2.2.2.2.2,q⟩
noncomputable def S(l:c7):Str:=⟨l.toArray⟩
theorem cg(l:c7):(S l).cps.toList=l:=by simp[S]
theorem dv(l:c7):(S l:)=(l:):=by simp[S,Str.length]
theorem nR(l:c7):(S l).cps.size=(l:):=by simp[S]
theorem Ue{a b:c7}(h:S a=S b):a=b:=by
 have:=congrArg (λx:Str=>x.cps.toList) h
 simpa [S]using this
theorem Ug(x:Str):x=S x.cps.toList:=by cases x;simp[S]
theorem Uh(a b:c7):S a++S b=S (a++b):=by
 apply Str.ext'
 apply Qd9.mp
 simp[S,Str.cps_append]
theorem M1{a b:c7}:decide (V.str (S a)=V.str (S b))=decide (a=b):=by
 by_cases h:a=b
 ·subst h;simp
 ·rw[decide_eq_false h,decide_eq_false]
  intro q
  exact h (Ue (V.str.inj q))
noncomputable def cut{α:Type}(xs:List α)(lo hi:Option Int):List α:=(xs.drop (HT.kg (xs:) 0 lo)).take (HT.kg (xs:) (xs:) hi - HT.kg (xs:) 0 lo)
theorem yC(n d:Nat)(v:Int):max 0 (min (if v<0 then v+(n:Int) else v) (n:Int))=((HT.kg n d (some v):Nat):Int):=by
 show _=(((if v<0 then (v+(n:Int)).toNat else min v.toNat n):Nat):Int)
 by_cases hv:v<0
 ·simp only[if_pos hv];lia
 ·simp only[if_neg hv];lia
theorem oU(lo hi:Option Int)(n:Nat):Builtin.Str.strSliceIndices lo hi 1 n=(List.range (HT.kg n n hi - HT.kg n 0 lo)).map (HT.kg n 0 lo+ ·):=by
 have h1:(1:Int)>0:=by decide
 rw[<-sliceRange_one]
 unfold Builtin.Str.strSliceIndices
 simp only[h1,if_true]
 congr 1
 ·cases lo with
  | none=>rfl
  | some v=>exact yC n 0 v
 ·cases hi with
  | none=>rfl
  | some v=>exact yC n n v
theorem KD(l:c7)(lo hi:Option Int):Txt.slice (S l) lo hi=S (cut l lo hi):=by
 have hx:((Builtin.Str.strSliceIndices lo hi 1 (S l:)).filterMap ((S l).cps[·]?))=cut l lo hi:=by
  rw[dv,oU,pick_run,cg]
  rfl
 have hlen:(Builtin.Str.strSliceIndices lo hi 1 (S l:):)=HT.kg (l:) (l:) hi - HT.kg (l:) 0 lo:=by
  rw[dv,oU,Wh,Qd2]
 unfold Txt.slice
 by_cases hc:((1:Int)==1&&(Builtin.Str.strSliceIndices lo hi 1 (S l:):)==(S l:))=true
 ·rw[if_pos hc]
  rw[hlen,dv]at hc
  have e:HT.kg (l:) (l:) hi - HT.kg (l:) 0 lo=(l:):=by simpa using hc
  have h2:=HT.Oq (l:) (l:) (Qaa _) hi
  have e0:HT.kg (l:) 0 lo=0\/(l:)=0:=by lia
  unfold cut
  rw[e]
  rcases e0 with z | z
  ·rw[z];simp
  ·have:l=[]:=Qct z
   subst this
   simp
 ·rw[if_neg hc]
  rw[hx]
  rfl
section
variable{X:Cx}
theorem pA{j pos}(l:c7)(h:x=S l):PE X (.Constant (.str x) j pos) (tC (.str (S l))):=by
 subst h
 exact N7
def Ui:R2:=λx y H Q=>∃a b,x= .str (S a)/\y= .str (S b)/\(a:)+(b:)<=sizeLine/\Q (.str (S (a++b))) H
theorem cF:lR X (binaryOp .Add) Ui:=by
 walk_at"c"
 obtain ⟨a,b,rfl,rfl,hz,q⟩:=h
 exact Ar pins s σ H _ _ v u Q I rx ry ⟨S a,S b,rfl,rfl,by rw[dv,dv];exact hz,by rw[Uh];exact q⟩
inductive Cf(x:V)(y:V)(H:Hp)(Q:VK):Prop
 | mk (l:_) (i:_) (c:_) (_:x= .str (S l)) (_:y= .int i) (_:(l:)<=sizeLine) (_:tF l i=some c) (_:Q (.str (S [c])) H):Cf x y H Q
def Uj:R2:=Cf
theorem qK:Ot X Uj:=by
 walk_at"H"
 obtain ⟨l,i,c,rfl,rfl,hz,he,q⟩:=h
 exact Ov value slice pins s σ H _ _ v u Q I rx ry ⟨S l,i,c,rfl,rfl,by rw[dv];exact hz,by rw[cg];exact he,q⟩ hs
def XN:V->Option Int->Option Int->Hp->VK->Prop:=λx lo hi H Q=>∃l,x= .str (S l)/\(l:)<=sizeLine/\Q (.str (S (cut l lo hi))) H
theorem qL:Wg X XN:=by
 intro pins s σ H x v vl vu lo hi sl Q I rx hs pl pu h
 obtain ⟨l,rfl,hz,q⟩:=h
 walk_at"e"
 refine ⟨"str",_,F.slot_str_getitem.lookup,typeIs_str _ _ _,?_⟩
 have key:∀(a b:Option (Int×Tok)),vl=partValue a->vu=partValue b->a.map (·.1)=lo->b.map (·.1)=hi->wpAny (model X.prog X.w) X.A (getItem (.str (S l) t) (.ref sl)) (EP X pins σ Q) X.xe s:=by
  rintro a b rfl rfl rfl rfl
  obtain ⟨o,e,c,d⟩:=hs
  refine wpAny_getItem_str_slice (l:=a) (u:=b) (st:=none) ⟨o,e,c,d⟩ rfl (post_val_or_str ⟨?_,λt' k=>?_⟩)
  ·exact Qa7 (Txt.slice_le (S l) _ _) (by rw[dv];exact hz)
  ·exact ⟨.str (S (cut l _ _)),H,I.tok _,⟨t',congrArg (λz=>Value.str z t') (KD l _ _)⟩,q⟩
 cases pl with
 | none=>
  cases pu with
  | none=>exact key none none rfl rfl rfl rfl
  | int i ti=>exact key none (some (i,ti)) rfl rfl rfl rfl
 | int i ti=>
  cases pu with
  | none=>exact key (some (i,ti)) none rfl rfl rfl rfl
  | int j tj=>exact key (some (i,ti)) (some (j,tj)) rfl rfl rfl rfl
theorem bM:dS X (.builtin "len") (λxs H Q=>∃l,xs=[.str (S l)]/\(l:)<=sizeLine/\Q (.int (l:)) H):=by
 walk_at"g"
 obtain ⟨l,rfl,hz,q⟩:=h
 exact wq pins s σ H _ us Q I r ⟨S l,rfl,by rw[dv];exact hz,by rw[dv];exact q⟩
noncomputable def eR(l:c7):List V:=l.map λc=>V.str (S [c])
theorem AI{l:c7}:∀{acc:List Value},(acc:)=(l:)->(∀j v,acc[j]? =some v->SignAt (S l) j v)->Vals (eR l) acc:=by
 induction l with
 | nil=>intro acc h _;have:acc=[]:=Qct h;subst this;exact .nil
 | cons c l ih=>
  intro acc h k
  cases acc with
  | nil=>cases h
  | cons a acc=>
   refine .cons ?_ (ih (by simpa using h) λj v e=>?_)
   ·obtain ⟨c',u,e1,e2⟩:=k 0 a rfl
    have:c=c':=by simpa [S]using e1
    subst this
    exact ⟨u,e2⟩
   ·obtain ⟨c',u,e1,e2⟩:=k (j+1) v (by simpa using e)
    exact ⟨c',u,by simpa [S]using e1,e2⟩
theorem AJ(hc:X.calm=true):dS X (.type "list") (λxs H Q=>∃l,xs=[.str (S l)]/\(l:)<=sizeLine/\∀p,H p=none->Q (.ref p) (upd H p (.lst (eR l)))):=by
 walk_at"g"
 obtain ⟨l,rfl,hz,q⟩:=h
 obtain ⟨u,rfl,t,rfl⟩:=vals1 r
 refine call_list_str (I.ok.hd hc) (S l) t (λh' tk eW c' hk e wB=>?_) (by rw[nR];exact hz)
 obtain ⟨h1,h2⟩:=wB
 rw[nR]at h1
 refine ⟨.ref s.heap.objs.size,_,I.laid (t':=tk) (o:= .lst (eR l)) hk (Qaa _) ?_,rfl,q _ I.fresh⟩
 exact ⟨by unfold eR;rw[Wh];exact hz,eW.toList,c',AI (by simpa using h1) (λj v e=>h2 j v (by simpa using e)),by simpa using e⟩
inductive Gj(x:V)(y:V)(H:Hp)(Q:VK):Prop
 | mk (c:_) (l:_) (_:x= .str (S [c])) (_:y= .str (S l)) (_:Q (.bl (decide (c∈l))) H):Gj x y H Q
def XO:R2:=Gj
theorem OI:lR X (compareOp .In) XO:=by
 walk_at"c"
 obtain ⟨c,l,rfl,rfl,q⟩:=h
 refine DQ pins s σ H _ _ v u Q I rx ry ⟨S [c],S l,rfl,rfl,?_⟩
 have e:=StrLaws.found_one (S l) c
 rw[cg]at e
 rw[show (S [c])=(⟨#[c]⟩:Str) from rfl,e]
 exact q
end
theorem uU(s sub:Str)(hi:Nat):∀(l:c7) (st:Array Nat×Nat),1<=st.fst.size->(forIn l st (StrLaws.occBody s sub hi 1)).run.fst=st.fst
 | [],st,h=>rfl
 | a::l,st,h=>by
  rw[Qev]
  unfold StrLaws.occBody
  rw[if_neg (λz=>absurd z.1.1.1 (Nat.not_lt.mpr h))]
  exact uU s sub hi l _ h
theorem occ_first(s sub:Str)(hi:Nat):∀(l:c7) (free:Nat),(∀i∈l,free<=i)->
  (forIn l ((#[]:Array Nat),free) (StrLaws.occBody s sub hi 1)).run.fst.toList=(l.find? λi=>decide (i+(sub:)<=hi)&&Builtin.Str.subAt s sub i).toList
 | [],free,_=>rfl
 | a::l,free,hf=>by
  rw[Qev,Qdh]
  unfold StrLaws.occBody
  have ha:free<=a:=hf a Qac
  by_cases hc:a+(sub:)<=hi/\Builtin.Str.subAt s sub a=true
  ·rw[if_pos ⟨⟨⟨by simp,ha⟩,hc.1⟩,hc.2⟩]
   have:(decide (a+(sub:)<=hi)&&Builtin.Str.subAt s sub a)=true:=by simp[hc]
   rw[this]
   show (forIn l (#[].push a,a+(sub:)) (StrLaws.occBody s sub hi 1)).run.fst.toList=_
   rw[uU s sub hi l _ (by simp)]
   rfl
  ·rw[if_neg (λz=>hc ⟨z.1.2,z.2⟩)]
   have:(decide (a+(sub:)<=hi)&&Builtin.Str.subAt s sub a)=false:=by
    cases h1:decide (a+(sub:)<=hi) with
    | false=>rfl
    | true=>
     cases h2:Builtin.Str.subAt s sub a with
     | false=>rfl
     | true=>exact absurd ⟨of_decide_eq_true h1,h2⟩ hc
   rw[this]
   exact occ_first s sub hi l free λi p9=>hf i (Qae _ p9)
theorem subAt_one(l:c7)(c i:Nat):Builtin.Str.subAt (S l) (S [c]) i=(l[i]? ==some c):=by
 unfold Builtin.Str.subAt
 rw[dv]
 show ((S l).cps.extract i (i+1)== #[c])=_
 have e:((S l).cps.extract i (i+1))=((l.drop i).take 1).toArray:=by
  apply Qd9.mp
  simp[S,List.take_drop]
 rw[e]
 by_cases h:i<(l:)
 ·have e2:(l.drop i).take 1=[l[i]]:=by
   rw[Qbz h];rfl
  rw[e2,OD h]
  by_cases hc:l[i]=c
  ·rw[hc];simp
  ·have h1:([l[i]].toArray== #[c])=false:=by
    rw[beq_eq_false_iff_ne]
    intro z
    apply hc
    have:=congrArg Array.toList z
    simpa using this
   have h2:(some l[i]==some c)=false:=by simpa using hc
   rw[h1,h2]
 ·have e2:(l.drop i).take 1=[]:=by rw[Qei ()];rfl
  rw[e2,Qde ()]
  rfl
theorem qM(l:c7)(c:Nat):∀(k n:Nat),k+n=(l:)+1->((List.range' k n).find? λi=>decide (i+1<=(l:))&&(l[i]? ==some c))=if c∈l.drop k then some (k+(l.drop k).idxOf c) else none
 | k,0,h=>by
  have:l.drop k=[]:=Qei ()
  rw[this];simp
 | k,n+1,h=>by
  rw[List.range'_succ,Qdh]
  by_cases hk:k<(l:)
  ·have e:l.drop k=l[k]::l.drop (k+1):=Qbz hk
   rw[OD hk,e]
   by_cases hc:l[k]=c
   ·have:(decide (k+1<=(l:))&&(some l[k]==some c))=true:=by simp[hc];lia
    rw[this,if_pos (by simp[hc])]
    simp[hc]
   ·have:(decide (k+1<=(l:))&&(some l[k]==some c))=false:=by simp[hc]
    rw[this,qM l c (k+1) n ()]
    have tL: ¬c=l[k]:=λz=>hc z.symm
    by_cases hm:c∈l.drop (k+1)
    ·rw[if_pos hm,if_pos (Qae _ hm),Qf1]
     have:(l[k]==c)=false:=by simpa using hc
     rw[this]
     show some (k+1+List.idxOf c (List.drop (k+1) l))=some (k+(List.idxOf c (List.drop (k+1) l)+1))
     congr 1
     lia
    ·rw[if_neg hm,if_neg (by intro z;rcases Qaf.mp z with z | z;exact tL z;exact hm z)]
  ·have:l.drop k=[]:=Qei ()
   have e1:(decide (k+1<=(l:))&&(l[k]? ==some c))=false:=by
    rw[decide_eq_false ()];rfl
   have e2:l.drop (k+1)=[]:=Qei ()
   rw[e1,qM l c (k+1) n (),this,e2]
   simp
theorem M3(l:c7)(c:Nat):Builtin.Str.occurrences (S l) (S [c]) 0 (S l:) 1=if c∈l then [l.idxOf c] else []:=by
 rw[StrLaws.occ_eq,occ_first _ _ _ _ 0 λ_ _=>Qau _]
 have e:(λi=>decide (i+(S [c]:)<=(S l:))&&Builtin.Str.subAt (S l) (S [c]) i)=λi=>decide (i+1<=(l:))&&(l[i]? ==some c):=by
  funext i
  rw[subAt_one,dv,dv]
  rfl
 rw[e,dv,Qdi,qM l c 0 ((l:)+1) (),Qcv]
 by_cases h:c∈l
 ·rw[if_pos h,if_pos h,Qcq];rfl
 ·rw[if_neg h,if_neg h];rfl
variable{c:Nat}
section
variable{X:Cx}
inductive uV(x:V)(vs:List V)(H:Hp)(Q:VK):Prop
 | mk (l:_) (c:_) (_:x= .str (S l)) (_:vs=[.str (S [c])]) (_:c∈l) (_:Q (.int (l.idxOf c:Nat)) H):uV x vs H Q
def KG:V->List V->Hp->VK->Prop:=uV
theorem nS:DW X "str.index" KG:=by
 walk_at"p"
 obtain ⟨l,c,rfl,rfl,hc,q⟩:=h
 walk_at"e"
 obtain ⟨u,rfl,t',rfl⟩:=vals1 rv
 exact SC.index (i:=l.idxOf c) (rest:=[]) (by rw[M3,if_pos hc]) ⟨.int (l.idxOf c:Nat),H,I.tok _,⟨_,rfl⟩,q⟩
inductive yD(x:V)(vs:List V)(H:Hp)(Q:VK):Prop
 | mk (l:_) (c:_) (_:x= .str (S l)) (_:vs=[.str (S [c])]) (_:Q (.int (if c∈l then (l.idxOf c:Nat) else -1)) H):yD x vs H Q
def OJ:V->List V->Hp->VK->Prop:=yD
theorem yE:DW X "str.find" OJ:=by
 walk_at"p"
 obtain ⟨l,c,rfl,rfl,q⟩:=h
 walk_at"e"
 obtain ⟨u,rfl,t',rfl⟩:=vals1 rv
 refine SC.find ⟨.int _,H,I.tok _,⟨_,rfl⟩,?_⟩
 have e:Txt.find (S l) (S [c])=(if c∈l then ((l.idxOf c:Nat):Int) else -1):=by
  unfold Txt.find
  rw[M3]
  by_cases h:c∈l
  ·rw[if_pos h,if_pos h]
  ·rw[if_neg h,if_neg h]
 rw[e]
 exact q
def M4(f:Nat->Bool):V->List V->Hp->VK->Prop:=λx vs H Q=>∃c,x= .str (S [c])/\vs=[]/\c<128/\Q (.bl (f c)) H
def Uk(f:Nat->Nat):V->List V->Hp->VK->Prop:=λx vs H Q=>∃c,x= .str (S [c])/\vs=[]/\c<128/\Q (.str (S [f c])) H
noncomputable def aC(c:Nat):Bool:=decide (97<=c)&&decide (c<=122)
noncomputable def isUp(c:Nat):Bool:=decide (65<=c)&&decide (c<=90)
theorem KH:∀c,c<128->Txt.islower ⟨#[c]⟩=aC c:=⋯
theorem OK:∀c,c<128->Txt.isupper ⟨#[c]⟩=isUp c:=⋯
theorem lS:DW X "str.islower" (M4 aC):=by
 walk_at"p"
 obtain ⟨c,rfl,rfl,hc,q⟩:=h
 walk_at"e"
 have e:us=[]:=by cases rv;rfl
 subst e
 exact SC.islower ⟨.bl (aC c),H,I,congrArg Value.bool (KH c hc),q⟩
theorem AK:DW X "str.isupper" (M4 isUp):=by
 walk_at"p"
 obtain ⟨c,rfl,rfl,hc,q⟩:=h
 walk_at"e"
 have e:us=[]:=by cases rv;rfl
 subst e
 exact SC.isupper ⟨.bl (isUp c),H,I,congrArg Value.bool (OK c hc),q⟩
theorem upper_one(hc:c<128):Txt.upper (S [c])=S [up1 c]:=by
 rw[upper_ascii (by intro d hd;rw[cg]at hd;simp at hd;lia)]
 simp[S]
theorem uW(hc:c<128):Txt.lower (S [c])=S [lo1 c]:=by
 rw[lower_ascii (by intro d hd;rw[cg]at hd;simp at hd;lia)]
 simp[S]
theorem M5(c:Nat):Builtin.Str.tooLong (S [c]:)=false:=by
 rw[dv]
 show Builtin.Str.tooLong 1=false
 decide
theorem Gk:DW X "str.upper" (Uk up1):=by
 walk_at"p"
 obtain ⟨c,rfl,rfl,hc,q⟩:=h
 walk_at"e"
 have e:us=[]:=by cases rv;rfl
 subst e
 exact SC.upper (by rw[upper_one hc];exact M5 _) ⟨.str (S [up1 c]),H,I.tok _,⟨_,congrArg (λz=>Value.str z _) (upper_one hc)⟩,q⟩
theorem qN:DW X "str.lower" (Uk lo1):=by
 walk_at"p"
 obtain ⟨c,rfl,rfl,hc,q⟩:=h
 walk_at"e"
 have e:us=[]:=by cases rv;rfl
 subst e
 exact SC.lower (by rw[uW hc];exact M5 _) ⟨.str (S [lo1 c]),H,I.tok _,⟨_,congrArg (λz=>Value.str z _) (uW hc)⟩,q⟩
theorem Gm:∀(ls:List c7) (a:Array Nat),(ls.map S).foldl (λacc p=>acc++(S []).cps++p.cps) a=a++ls.flatten.toArray
 | [],a=>by simp
 | l::ls,a=>by
  rw[Qa3,Qcw,Gm ls]
  simp[S]
theorem OL(ls:List c7):Txt.join (S []) (ls.map S)=S ls.flatten:=by
 unfold Txt.join Builtin.Str.glued
 cases ls with
 | nil=>rfl
 | cons l ls=>
  show Str.mk ((List.map S ls).foldl (λacc p=>acc++(S []).cps++p.cps) (S l).cps)=_
  rw[Gm]
  simp[S]
theorem qO:∀{ls:List c7} {us:List Value},Vals (ls.map λl=>V.str (S l)) us->StrsAre us (ls.map S)
 | [],us,r=>by cases r;exact .nil
 | l::ls,us,r=>by
  cases r with
  | cons r1 r2=>
   walk_at"R"
   exact .cons _ t (qO r2)
inductive yF(K:c8)(x:V)(vs:List V)(H:Hp)(Q:VK):Prop
 | mk (p:Addr) (ls:List c7) (_:x= .str (S [])) (_:vs=[.ref p]) (_:bL K H p (ls.map λl=>V.str (S l))) (_:(ls.map List.length).sum<=16777216) (_:Q (.str (S ls.flatten)) H):yF K x vs H Q
def Gn(K:c8):V->List V->Hp->VK->Prop:=yF K
theorem Gp:DW X "str.join" (Gn X.K):=by
 walk_at"p"
 obtain ⟨p,ls,rfl,rfl,hq,hz,q⟩:=h
 walk_at"e"
 obtain ⟨u,rfl,ru⟩:=vals1 rv
 cases ru
 obtain ⟨aK,r,pl,_⟩:=I.list hq
 have e:(S []:)=0:=rfl
 refine join_list pl.isList (by simpa using qO r) ?_ λt' k=>?_
 ·rw[e,Nat.mul_zero,Qdl,Qbh]
  have e2:(Str.length ∘ S)=List.length:=by funext l;exact dv l
  have e3:((λx:Str=>(x:)) ∘ S)=List.length:=by funext l;exact dv l
  first | (rw[e2];exact hz) | (rw[e3];exact hz)
 ·exact ⟨.str (S ls.flatten),H,I.tok _,⟨t',congrArg (λz=>Value.str z t') (OL ls)⟩,q⟩
end
end L2
namespace L2.F2
open PySem PySem.Spec PyProof.Rows
theorem uX:Manifest.owners.lookup (String.ofList ['d','e','s','r','e','v','e','r'].reverse)=some Manifest.sig_reversed:=by kernel_rfl
theorem dE:Slot "reversed" "__next__" "reversed.__next__":=
 .of (owner:="reversed") (n:="__next__") (by rw[typeLookup_type,builtinLookup_eq_fast];kernel_rfl) ⋯ ⋯ ⋯
  (by first | exact .inl ⋯ | exact .inr ⋯) (by rw[isSubtype_type];kernel_rfl)
theorem jw:entryFor table "reversed.__next__"=some Builtin.«reversed.__next__» :=entryFor_of_tree (by kernel_rfl)
theorem i9(a:Value):argsOk "reversed.__next__" ⟨[a],[]⟩:=by
 unfold argsOk;rw[signature?_of (id:="reversed.__next__") (n:=['_','_','t','x','e','n','_','_']) (o:=['d','e','s','r','e','v','e','r']) (by kernel_rfl) uX];kernel_rfl
theorem lA:Slot "reversed" "__iter__" "reversed.__iter__":=
 .of (owner:="reversed") (n:="__iter__") (by rw[typeLookup_type,builtinLookup_eq_fast];kernel_rfl) ⋯ ⋯ ⋯
  (by first | exact .inl ⋯ | exact .inr ⋯) (by rw[isSubtype_type];kernel_rfl)
theorem pB(a:Value):argsOk "reversed.__iter__" ⟨[a],[]⟩:=by
 unfold argsOk;rw[signature?_of (id:="reversed.__iter__") (n:=['_','_','r','e','t','i','_','_']) (o:=['d','e','s','r','e','v','e','r']) (by kernel_rfl) uX];kernel_rfl
theorem qP:entryFor table "reversed.__iter__"=some Builtin.«dict_keyiterator.__iter__» :=
 entryFor_alias (id':="dict_keyiterator.__iter__") (by kernel_rfl) (by first | rfl | decide+kernel | (unfold String.splitOn;simp+decide [String.splitOnAux])) ⋯ (by kernel_rfl)
theorem tR:Slot "reversed" "__init__" "object.__init__":=
 .of (owner:="object") (n:="__init__") (by rw[typeLookup_type,builtinLookup_eq_fast];kernel_rfl) ⋯ ⋯ ⋯
  (by first | exact .inl ⋯ | exact .inr ⋯) (by rw[isSubtype_type];kernel_rfl)
theorem AL:TypeCalled "reversed" "reversed.__new__" "object.__init__":=
 ⟨⋯,⋯,⟨_,_,F.mro_reversed⟩,F.made_reversed,⋯,by rw[isSubtype_type];kernel_rfl,tR⟩
theorem AM:typeLookup (.type "str") "__reversed__"=pure none:=by rw[typeLookup_type,builtinLookup_eq_fast];kernel_rfl
end L2.F2
namespace L2
open PySem PySem.Spec PyProof.Rows
theorem qQ(x:Str)(t:Tok)(hz:(x:)<=sizeLine):Meets (Builtin.«reversed.__new__» ⟨[.type "reversed",.str x t],[]⟩) (λ_ R s=>∀tk,R (.ok (.ret (.ref s.heap.objs.size))) { s with heap:=s.heap.push { cls:= .type "reversed",data:= .fields #[.str x t,rawInt (((x:):Int) - 1)] },toks:=tk }):=by
 refine Meets.of_wp λprog w A R s h=>?_
 unfold Builtin.«reversed.__new__»
 refine wpAny_bind (wpAny_of_eq (newClass_reversed _) ?_)
 try dsimp only
 refine wpAny_bind (wpAny_of_eq (a:=Unit.unit) (by first | rfl | kernel_rfl) ?_)
 refine wpAny_bind (wpAny_of_eq (a:=Unit.unit) (by first | rfl | kernel_rfl) ?_)
 try dsimp only
 refine wpAny_bind (wpAny_specialOf (typeIs_str s x t) F2.AM ?_)
 try dsimp only
 refine wpAny_bind (wpAny_of_eq (a:=true) (by first | rfl | kernel_rfl) ?_)
 rw[if_neg ∅]
 have hn:=f_
 refine wpAny_bind (len_str () ?_)
 refine wpAny_bind (wpAny_of_eq (a:=some ((x:):Int)) (by first | rfl | kernel_rfl) ?_)
 show wpAny _ _ (Builtin.SmallTypes.newRecord (Value.type "reversed") [Value.str x t,rawInt (((x:):Int) - 1)] >>= _) _ _ _
 refine wpAny_bind ?_
 unfold Builtin.SmallTypes.newRecord
 refine wpAny_newObj_type ?_ (by size_fits)
 exact wpAny_pure ⟨_,rfl,h _⟩
variable{x:Str}{Q:Value->Shared->Prop}{it:Addr}{i:Int}
section
variable{prog:Program}{w:World}{A:Around}{E:Value->Shared->Prop}{s:Shared}
theorem qR{t:Tok}(hz:(x:)<=sizeLine)(h:∀tk,Q (.ref s.heap.objs.size) { s with heap:=s.heap.push { cls:= .type "reversed",data:= .fields #[.str x t,rawInt (((x:):Int) - 1)] },toks:=tk }):
  wpAny (model prog w) A (call (.type "reversed") [.str x t]) Q E s:=
 callType_new F2.AL ⋯ (F.typeCall_reversed_1 _) (F.newCall_reversed_1 _) (λobj=>by unfold argsOk;kernel_rfl) F.entry_reversed_new (qQ x t hz)
  λtk=>⟨⟨_,Qav _ rfl,rfl⟩,h tk⟩
def jx(h:Heap)(it:Addr)(x:Str)(t:Tok)(i:Int):Prop:=∃o,h.get? it=some o/\o.cls= .type "reversed"/\o.data= .fields #[.str x t,rawInt i]
theorem jx.typeIs{t:Tok}(h:jx s.heap it x t i):s.TypeIs (.ref it) "reversed":=let ⟨o,ho,hc,_⟩:=h;⟨o,ho,hc⟩
theorem qS{t:Tok}(hit:jx s.heap it x t i)(h:Q (.ref it) s):wpAny (model prog w) A (pyIter (.ref it)) Q E s:=by
 refine wpAny_pyIter_slot hit.typeIs F2.lA (wpAny_call_entry F2.lA hit.typeIs F2.qP ?_ (F2.pB _))
 show wpAny _ _ (ret (.ref it)) _ _ s
 exact wpAny_pure ⟨_,rfl,"reversed",_,hit.typeIs,F2.dE.lookup,h⟩
theorem pE{t:Tok}{i c:Nat}{Q:Option Value->Shared->Prop}(hit:jx s.heap it x t (i:Int))(hx:x.cps[i]? =some c)(hz:(x:)<=sizeLine)
  (hQ:∀h' tk u,jx h' it x t ((i:Int) - 1)->Heap.SameBut it s.heap h'->Q (some (.str ⟨#[c]⟩ u)) { s with heap:=h',toks:=tk }):wpAny (model prog w) A (pyNext (.ref it)) Q E s:=by
 obtain ⟨o,ho,hc,hd⟩:=id hit
 have hn:=f_
 have hi:i<(x:):=(Array.getElem?_eq_some_iff.mp hx).1
 unfold pyNext
 refine wpAny_bind (wpAny_attempt (wpAny_callSpecial?_slot (name:=Str.ofString "__next__") hit.typeIs F2.dE
  (wpAny_call_entry F2.dE hit.typeIs F2.jw ?_ (F2.i9 _))))
 unfold Builtin.«reversed.__next__»
 refine wpAny_bind (wpAny_of_eq (a:=(Value.ref it,[])) rfl ?_)
 try dsimp only
 refine wpAny_bind (wpAny_field ho hd (x:= .str x t) rfl ?_)
 refine wpAny_bind (wpAny_field ho hd (x:=rawInt (i:Int)) rfl ?_)
 show wpAny _ _ (if (i:Int)<0 then _ else _) _ _ s
 rw[if_neg ()]
 refine wpAny_bind (wpAny_specialOf (typeIs_str s x t) F.slot_str_getitem.lookup ?_)
 show wpAny _ _ (if (some (Value.builtin _)).isNone=true then _ else _) _ _ s
 rw[if_neg ∅]
 refine wpAny_bind (wpAny_mkInt ?_)
 refine wpAny_bind (wpAny_attempt (getItem_str (c:=c) (by
  have e1:decide ((i:Int)< -(2 ^ 63:Int))=false:=decide_eq_false ()
  have e2:decide ((i:Int) ≥ 2 ^ 63)=false:=decide_eq_false ()
  rw[e1,e2,Bool.or_false]) (by rw[seqIndex_of () (),Qan];exact hx) ?_))
 show wpAny _ _ (field (Value.ref it) 1 >>= _) _ _ _
 refine wpAny_bind (wpAny_field ho hd (x:=rawInt (i:Int)) rfl ?_)
 show wpAny _ _ (setField (Value.ref it) 1 (rawInt ((i:Int) - 1)) >>= _) _ _ _
 refine wpAny_bind (wpAny_setField ho hd (by simp) ?_)
 refine wpAny_pure ⟨_,rfl,wpAny_pure (hQ _ _ _ ?_ (Qgx ..))⟩
 exact ⟨_,Qcy _ ho (Obj.isFreed_of_fields (Obj.data_mapFields hd _)),(Obj.cls_mapFields ..).trans hc,by
  rw[Obj.data_mapFields hd];simp⟩
theorem qT{t:Tok}{Q:Option Value->Shared->Prop}(hh:A.handled=none)(hit:jx s.heap it x t (-1))
  (hQ:∀h',Heap.ExtBut it s.heap h'->Q none { s with heap:=h' }):wpAny (model prog w) A (pyNext (.ref it)) Q E s:=by
 obtain ⟨o,ho,hc,hd⟩:=id hit
 unfold pyNext
 refine wpAny_bind (wpAny_attempt (wpAny_callSpecial?_slot (name:=Str.ofString "__next__") hit.typeIs F2.dE
  (wpAny_call_entry F2.dE hit.typeIs F2.jw ?_ (F2.i9 _))))
 unfold Builtin.«reversed.__next__»
 refine wpAny_bind (wpAny_of_eq (a:=(Value.ref it,[])) rfl ?_)
 try dsimp only
 refine wpAny_bind (wpAny_field ho hd (x:= .str x t) rfl ?_)
 refine wpAny_bind (wpAny_field ho hd (x:=rawInt (-1)) rfl ?_)
 show wpAny _ _ (if (-1:Int)<0 then _ else _) _ _ s
 rw[if_pos ∅]
 walk_at"L"
 refine wpAny_bind ?_
 show wpAny _ _ (setField (Value.ref it) 1 (rawInt (-1)) >>= λ_=>setField (Value.ref it) 0 .none) _ _ _
 refine wpAny_bind (wpAny_setField ho hd (by simp) ?_)
 refine wpAny_setField (Qcy _ ho (Obj.isFreed_of_fields (Obj.data_mapFields hd _))) (Obj.data_mapFields hd _) (by simp) ?_
 first
 | show wpAny _ _ (newExc (.type "StopIteration") [] >>= _) _ _ _
 |(refine wpAny_bind ?_;show wpAny _ _ (newExc (.type "StopIteration") [] >>= _) _ _ _)
 refine wpAny_bind ?_
 simp only[newExc,newTuple]
 refine wpAny_bind (wpAny_newObj_type ?_ (by size_fits))
 refine wpAny_bind (m:=firstArgMember _ _) (wpAny_of_eq (a:=Value.none) (by first | rfl | (simp only[firstArgMember];rfl)) ?_)
 refine wpAny_newObj_type ?_ (by size_fits)
 simp only[raiseNew]
 refine wpAny_bind (wpAny_handled ?_)
 first | rw[show A.in1.handled=none from hh] | rw[hh]
 refine wpAny_bind (wpAny_pure (wpAny_throw ?_))
 refine wpAny_bind (wpAny_isInstance (T:="StopIteration") (b:=true) ⟨_,Qav _ rfl,rfl⟩ isSubtype_stop ?_)
 refine wpAny_pure (hQ _ λb ob hb e=>?_)
 refine kb _ (kb _ ?_)
 exact (Qbe _ _ (Ne.symm hb)).trans ((Qbe _ _ (Ne.symm hb)).trans e)
end
noncomputable def KI(xs:List V):It:=⟨λi _=>i<(xs:),λi H x H'=>H'=H/\xs[i]? =some x,λi _=>(xs:)<=i⟩
variable{l:c7}
theorem kh{i:Nat}{x:V}(h:(eR l)[i]? =some x):∃c,l[i]? =some c/\x= .str (S [c]):=by
 unfold eR at h
 rw[Qar]at h
 cases e:l[i]? with
 | none=>rw[e]at h;cases h
 | some c=>rw[e]at h;cases h;exact ⟨c,rfl,rfl⟩
theorem b_(l:c7):(eR l:)=(l:):=by unfold eR;rw[Wh]
variable{K:c8}{tg:Expr}
theorem Gq{P:Program}{w:World}(it:Addr)(l:c7)(t:Tok):Turn P w K tg (KI (eR l)) [it] it (λi h=>h.IsStrIter it (strIterType (S l)) (S l) t i) where
 mem:=by simp
 obj:=λi h st b hb=>by
  have e:b=it:=by simpa using hb
  subst e
  obtain ⟨o,e,c,d⟩:=st
  walk_at"U"
 keep:=λi h h' st k=>let ⟨o,e,r⟩:=st;⟨o,k it (by simp) o e,r⟩
 item:=by
  walk_at"a"
  subst hP hw hK
  have KJ:i<(l:):=by have:i<(eR l:):=hg;rwa [b_]at this
  walk_at"d"
  have fin:∀(v:Value) (h':Heap) (tk:Nat),SignAt (S l) i v->h'.IsStrIter it (strIterType (S l)) (S l) t (i+1)->(∀b o,b∉[it]->s.heap.get? b=some o->h'.get? b=some o)->
    ∃u,some v=some u/\wpAny (model X.prog X.w) X.A (letOwnedTupleGo tg (.ref it) u) (λ_ s2=>∃x H',Inv X pins σ H' s2/\RelV x u/\(KI (eR l)).FR i H x H'/\s2.heap.IsStrIter it (strIterType (S l)) (S l) t (i+1)/\∀b∈[it],H' b=none) E { s with heap:=h',toks:=tk }:=by
   intro v h' tk hv aQ kk
   obtain ⟨c,u,e1,e2⟩:=hv
   subst e2
   walk_at"P"
   obtain ⟨o,e,cc,d⟩:=id aQ
   refine ⟨_,rfl,yn (s:={ s with heap:=h',toks:=tk }) e cc d (by unfold strIterType;split<;>decide) ⟨.str (S [c]),H,I1,⟨u,rfl⟩,⟨rfl,?_⟩,aQ,λb hb=>(hf b hb).1⟩⟩
   unfold eR
   rw[Qar]
   have AN:l[i]? =some c:=by simpa [S]using e1
   rw[AN]
   rfl
  have hsz:i<(S l).cps.size:=by rw[nR];exact KJ
  by_cases ha:(S l).cps.all (· <128)=true
  ·have et:strIterType (S l)="str_ascii_iterator":=by unfold strIterType;rw[if_pos ha]
   rw[et]at st
   exact (Walks.strAscii (prog:=X.prog) (w:=X.w) (I.ok.hd hc) it (S l) t).item i s _ _ hsz st λv h' tk hv aQ kk=>fin v h' tk hv (by rw[et];exact aQ) kk
  ·have et:strIterType (S l)="str_iterator":=by unfold strIterType;rw[if_neg ha]
   rw[et]at st
   exact (Walks.strWide (prog:=X.prog) (w:=X.w) (I.ok.hd hc) it (S l) t).item i s _ _ hsz st λv h' tk hv aQ kk=>fin v h' tk hv (by rw[et];exact aQ) kk
 done:=by
  walk_at"a"
  subst hP hw hK
  walk_at"d"
  have KJ:(l:)<=i:=by have:(eR l:)<=i:=hg;rwa [b_]at this
  have hx:(S l).cps[i]? =none:=by rw[Array.getElem?_eq_none_iff,nR];exact KJ
  by_cases ha:(S l).cps.all (· <128)=true
  ·have et:strIterType (S l)="str_ascii_iterator":=by unfold strIterType;rw[if_pos ha]
   rw[et]at st
   exact wpAny_pyNext_ascii_end (I.ok.hd hc) st hx λh' eb=>⟨rfl,I.turned (t':=s.toks) (λb o hb e=>eb b o hb e) f0 f1 f3 f4 f5⟩
  ·have et:strIterType (S l)="str_iterator":=by unfold strIterType;rw[if_neg ha]
   rw[et]at st
   exact wpAny_pyNext_wide_end (I.ok.hd hc) st hx λh' eb=>⟨rfl,I.turned (t':=s.toks) (λb o hb e=>eb b o hb e) f0 f1 f3 f4 f5⟩
 self:=λ_ _ s _ _ st h=>by
  by_cases ha:(S l).cps.all (· <128)=true
  ·have et:strIterType (S l)="str_ascii_iterator":=by unfold strIterType;rw[if_pos ha]
   rw[et]at st
   exact wpAny_pyIter_striter_ascii st h
  ·have et:strIterType (S l)="str_iterator":=by unfold strIterType;rw[if_neg ha]
   rw[et]at st
   exact wpAny_pyIter_striter_wide st h
theorem Gr{P:Program}{w:World}(it:Addr)(l:c7)(t:Tok)(hz:(l:)<=sizeLine):Turn P w K tg (KI (eR l).reverse) [it] it (λi h=>i<=(l:)/\jx h it (S l) t (((l:):Int) - 1 - (i:Int))) where
 mem:=by simp
 obj:=λi h st b hb=>by
  have e:b=it:=by simpa using hb
  subst e
  obtain ⟨_,o,e,c,d⟩:=st
  walk_at"U"
 keep:=λi h h' st k=>let ⟨q,o,e,r⟩:=st;⟨q,o,k it (by simp) o e,r⟩
 item:=by
  walk_at"a"
  subst hP hw hK
  have KJ:i<(l:):=by have:i<(eR l).reverse.length:=hg;rwa [Qa0,b_]at this
  walk_at"d"
  obtain ⟨_,st⟩:=st
  have e:((l:):Int) - 1 - (i:Int)=(((l:) - 1 - i:Nat):Int):=by lia
  rw[e]at st
  have cU:(l:) - 1 - i<(l:):=by lia
  refine pE (c:=l[(l:) - 1 - i]) st (by simp[S,cU]) (by rw[dv];exact hz) λh' tk u aQ sb=>?_
  have I1:Inv X pins σ H { s with heap:=h',toks:=tk }:=I.turned (λb o hb e=>(sb.2 b hb).trans e) f0 f1 f3 f4 f5
  obtain ⟨o,e1,cc,d⟩:=id aQ
  refine ⟨_,rfl,yn (s:={ s with heap:=h',toks:=tk }) e1 cc d ∅ ⟨.str (S [l[(l:) - 1 - i]]),H,I1,⟨u,rfl⟩,⟨rfl,?_⟩,⟨KJ,?_⟩,λb hb=>(hf b hb).1⟩⟩
  ·rw[Qd1 (by rw[b_];exact KJ),b_]
   unfold eR
   rw[Qar,OD cU]
   rfl
  ·have e2:((l:):Int) - 1 - ((i+1:Nat):Int)=(((l:) - 1 - i:Nat):Int) - 1:=by lia
   rw[e2]
   exact aQ
 done:=by
  walk_at"a"
  subst hP hw hK
  walk_at"d"
  have KJ:(l:)<=i:=by have:(eR l).reverse.length<=i:=hg;rwa [Qa0,b_]at this
  obtain ⟨hi,st⟩:=st
  have e:((l:):Int) - 1 - (i:Int)= -1:=by lia
  rw[e]at st
  exact qT (I.ok.hd hc) st λh' eb=>⟨rfl,I.turned (t':=s.toks) (λb o hb e=>eb b o hb e) f0 f1 f3 f4 f5⟩
 self:=λ_ _ _ _ _ st h=>qS st.2 h
variable{tl:TE}{a:Expr}{ta:TA}{p pos:Pos}
section
variable{X:Cx}{tg:Expr}
def XQ(tl:TE):TI:=λσ H R=>tl σ H λx H1=>∃l,x= .str (S l)/\R (KI (eR l)) H1
theorem qU{l:Expr}(hl:PE X l tl):PI X tg l (XQ tl):=by
 walk_at"W"
 walk_at"Q"
 obtain ⟨l,rfl,q⟩:=q1
 walk_at"R"
 refine wpAny_pyIter_strU ?_
 refine ⟨s1.heap.objs.size,[s1.heap.objs.size],_,_,H1,rfl,I1.kept (t':=s1.toks) λb o e=>kb _ e,Gq _ l t,⟨_,Qav _ rfl,rfl,rfl⟩,λb hb=>?_,q⟩
 have e:b=s1.heap.objs.size:=by simpa using hb
 subst e
 walk_at"J"
def XR(ta:TA):TI:=λσ H R=>ta σ H λvs H1=>∃l,vs=[.str (S l)]/\(l:)<=sizeLine/\R (KI (eR l).reverse) H1
theorem OM(hg:Gl X "reversed")(hm:X.mg "reversed"=none)(ha:PA X [a] ta)(hs:starEach [a] X.env=[(false,eval a X.env)]:=by rfl):PI X tg (.Call (.Name "reversed" p) [a] [] pos) (XR ta):=by
 walk_at"W"
 refine Call_ (gR I hg hm boot_reversed (Qcm (cD (ha pos pins s σ H _ I h) λus s1 ⟨vs,H1,I1,r1,q1⟩=>?_) hs rfl))
 obtain ⟨l,rfl,hz,q⟩:=q1
 obtain ⟨u,rfl,t,rfl⟩:=vals1 r1
 refine qR (by rw[dv];exact hz) λtk=>?_
 have hit:jx (s1.heap.push { cls:= .type "reversed",data:= .fields #[.str (S l) t,rawInt (((S l:):Int) - 1)] }) s1.heap.objs.size (S l) t (((S l:):Int) - 1):=⟨_,Qav _ rfl,rfl,rfl⟩
 refine qS hit ?_
 refine ⟨s1.heap.objs.size,[s1.heap.objs.size],_,_,H1,rfl,I1.kept (t':=tk) λb o e=>kb _ e,Gr _ l t hz,⟨Qau _,?_⟩,λb hb=>?_,q⟩
 ·have e:((l:):Int) - 1 - ((0:Nat):Int)=((S l:):Int) - 1:=by rw[dv];simp
  rw[e]
  exact hit
 ·have e:b=s1.heap.objs.size:=by simpa using hb
  subst e
  walk_at"J"
end
variable{xs:List V}{g:TG}{tb:TS}{D:Ends}{σ:St}{H:Hp}
theorem Cg(Pv:Nat->St->Hp->Prop)(h0:Pv 0 σ H)
  (hs:∀i x σ H,xs[i]? =some x->Pv i σ H->g x σ H λσ2 H2=>tb { D with nx:=Pv (i+1),ct:=Pv (i+1),bk:=D.nx } σ2 H2) (hd:∀σ H,Pv (xs:) σ H->D.nx σ H):
  ∃W:Nat->Nat->St->Hp->Prop,(∃m,W 0 m σ H)/\∀i m σ H,W i m σ H->
   ((KI xs).stop i H/\D.nx σ H)\/((KI xs).go i H/\∃N:St->Hp->Prop,(∀σ' H',N σ' H'->∃m',m'<m/\W (i+1) m' σ' H')/\∀x H',(KI xs).FR i H x H'->g x σ H' λσ2 H2=>tb { D with nx:=N,ct:=N,bk:=D.nx } σ2 H2):=by
 walk_at"h"
 rintro i m σ H ⟨rfl,hi,p⟩
 by_cases cU:i<(xs:)
 ·refine .inr ⟨cU,Pv (i+1),λσ' H' p'=>⟨(xs:) - (i+1),(),rfl,cU,p'⟩,λx H' y=>?_⟩
  obtain ⟨e,y⟩:=y
  subst e
  exact hs i x σ _ y p
 ·have e:i=(xs:):=by lia
  subst e
  exact .inl ⟨Qaa _,hd σ H p⟩
variable{n:Nat}{σc:St}{tc:TT}{te:TE}{H1:Hp}
theorem qa{J:It}{xs:Nat->V->Prop}{Q:VK}(Pv:Nat->List V->Hp->Prop)(hn:n<sizeLine)(hgo:∀i acc H,i<n->Pv i acc H->J.go i H)(Ul:∀acc H,Pv n acc H->J.stop n H)
  (hy:∀i acc H x H',i<n->Pv i acc H->J.FR i H x H'->H'=H/\xs i x) (h0:Pv 0 [] H1)
  (hs:∀(i:Nat) (x:V) (acc:List V) (H:Hp) (Nx:List V->Hp->Prop),i<n->xs i x->(acc:)<=i->Pv i acc H->(∀eW H',(eW:)<=i+1->Pv (i+1) eW H'->Nx eW H')->
   g x σc H λσ2 H2=>Wk σc σ2/\tc σ2 H2 λb H3=>if b=true then te σ2 H3 λv H4=>Nx (acc++[v]) H4 else Nx acc H3)
  (hd:∀acc H D,(acc:)<=n->Pv n acc H->H D=none->Q (.ref D) (upd H D (.lst acc))):uS J σc g tc te Q H1:=by
 refine ⟨λi m acc H=>m=n - i/\i<=n/\(acc:)<=i/\Pv i acc H,⟨n,by simp,Qau _,Qaa _,h0⟩,?_⟩
 rintro i m acc H ⟨rfl,hi,hl,p⟩
 refine ⟨(),?_⟩
 by_cases cU:i<n
 ·refine .inr ⟨hgo i acc H cU p,λx H' y=>?_⟩
  obtain ⟨rfl,y2⟩:=hy i acc H x H' cU p y
  exact hs i x acc _ (λeW H'=>∃m',m'<n - i/\(m'=n - (i+1)/\i+1<=n/\(eW:)<=i+1/\Pv (i+1) eW H')) cU y2 hl p λeW H' h1 h2=>⟨n - (i+1),(),rfl,cU,h1,h2⟩
 ·have e:i=n:=by lia
  subst e
  exact .inl ⟨Ul acc H p,λD hD=>hd acc H D hl p hD⟩
theorem mC{Q:VK}(Pv:Nat->List V->Hp->Prop)(hn:(xs:)<sizeLine)(h0:Pv 0 [] H1)
  (hs:∀(i:Nat) (x:V) (acc:List V) (H:Hp) (Nx:List V->Hp->Prop),i<(xs:)->xs[i]? =some x->(acc:)<=i->Pv i acc H->(∀eW H',(eW:)<=i+1->Pv (i+1) eW H'->Nx eW H')->
   g x σc H λσ2 H2=>Wk σc σ2/\tc σ2 H2 λb H3=>if b=true then te σ2 H3 λv H4=>Nx (acc++[v]) H4 else Nx acc H3)
  (hd:∀acc H D,(acc:)<=(xs:)->Pv (xs:) acc H->H D=none->Q (.ref D) (upd H D (.lst acc))):uS (KI xs) σc g tc te Q H1:=
 qa (xs:=λi x=>xs[i]? =some x) Pv hn (λi _ _ h _=>h) (λ_ _ _=>Qaa _) (λi _ H x H' _ _ y=>y) h0 hs hd
theorem Gs{lo:Int}{Q:VK}(Pv:Nat->List V->Hp->Prop)(hn:n<sizeLine)(h0:Pv 0 [] H1)
  (hs:∀(i:Nat) (acc:List V) (H:Hp) (Nx:List V->Hp->Prop),i<n->(acc:)<=i->Pv i acc H->(∀eW H',(eW:)<=i+1->Pv (i+1) eW H'->Nx eW H')->
   g (.int (lo+i)) σc H λσ2 H2=>Wk σc σ2/\tc σ2 H2 λb H3=>if b=true then te σ2 H3 λv H4=>Nx (acc++[v]) H4 else Nx acc H3)
  (hd:∀acc H D,(acc:)<=n->Pv n acc H->H D=none->Q (.ref D) (upd H D (.lst acc))):uS (MS lo n) σc g tc te Q H1:=
 qa (xs:=λi x=>x= .int (lo+i)) Pv hn (λi _ _ h _=>h) (λ_ _ _=>Qaa _) (λi _ H x H' _ _ y=>y) h0 (λi x acc H Nx h1 h2=>by subst h2;exact hs i acc H Nx h1) hd
theorem uY{a:Addr}{Q:VK}(Pv:Nat->List V->Hp->Prop)(hn:(xs:)<sizeLine)(hl:∀i acc H,Pv i acc H->bL K H a xs)(h0:Pv 0 [] H1)
  (hs:∀(i:Nat) (x:V) (acc:List V) (H:Hp) (Nx:List V->Hp->Prop),i<(xs:)->xs[i]? =some x->(acc:)<=i->Pv i acc H->(∀eW H',(eW:)<=i+1->Pv (i+1) eW H'->Nx eW H')->
   g x σc H λσ2 H2=>Wk σc σ2/\tc σ2 H2 λb H3=>if b=true then te σ2 H3 λv H4=>Nx (acc++[v]) H4 else Nx acc H3)
  (hd:∀acc H D,(acc:)<=(xs:)->Pv (xs:) acc H->H D=none->Q (.ref D) (upd H D (.lst acc))):uS (RE K a) σc g tc te Q H1:=
 qa (xs:=λi x=>xs[i]? =some x) Pv hn (λi acc H h p=>⟨xs,xs[i],hl i acc H p,by simp[h]⟩) (λacc H p=>⟨xs,hl _ acc H p,Qaa _⟩) (λi acc H x H' h p y=>⟨y.1,y.2 xs (hl i acc H p)⟩) h0 hs hd
def KL(c:TT)(tb:TS):TS:=λD σ H=>∃W:Nat->St->Hp->Prop,(∃m,W m σ H)/\∀m σ H,W m σ H->c σ H λb H1=>if b=true then tb { D with nx:=λσ' H'=>∃m',m'<m/\W m' σ' H',ct:=λσ' H'=>∃m',m'<m/\W m' σ' H',bk:=D.nx } σ H1 else D.nx σ H1
variable{X:Cx}
theorem fV{c:Expr}{body:List Stmt}(hp:PassesOwn (model X.prog X.w) X.A X.env X.xe)(hc:PT X c tc)(hb:x6 X body tb):PS X (.While c body [] pos) (KL tc tb):=by
 walk_at"r"
 obtain ⟨W,⟨m0,w0⟩,turn⟩:=h
 refine wpAny_While (codeAny_whileLoop (λn s'=>∃σ' H',Inv X pins σ' H' s'/\W n σ' H') ?_ m0 ⟨σ,H,I,w0⟩)
 rintro n s1 ⟨σ1,H1,I1,w1⟩
 refine wpAny_passesOwn hp (cD (hc pins s1 σ1 H1 _ I1 (turn n σ1 H1 w1)) λb s2 ⟨H2,I2,q2⟩=>?_)
 cases b with
 | true=>
  rw[if_pos rfl]at q2 ⊢
  refine wpAny_passesOwn hp (cD (hb pins s2 σ1 H2 _ I2 q2) λf s3 q3=>?_)
  cases f with
  | next=>
   obtain ⟨σ3,H3,I3,m',hm,w3⟩:=q3
   exact ⟨m',hm,σ3,H3,I3,w3⟩
  | cont=>
   obtain ⟨σ3,H3,I3,m',hm,w3⟩:=q3
   exact ⟨m',hm,σ3,H3,I3,w3⟩
  | brk=>exact q3
  | ret v=>exact q3
 | false=>
  rw[if_neg Qa8]at q2 ⊢
  exact wpAny_execs_nil ⟨σ1,H2,I2,q2⟩
noncomputable def wC(X:Cx)(scope:Scope):Bool:=(scope.names.all λy=>y.2 != .cell)&&(scope.kind== .function)&&(scope.names.all λy=>y.2 != .free||X.env.kindOf y.1==some .cell||X.env.kindOf y.1==some .free)&&(scope.names.all λy=>y.2 != .local||scope.names.lookup y.1==some .local)
variable{scope:Scope}
theorem mD(h:wC X scope=true):(∀y∈scope.names,y.2≠ .cell)/\scope.kind= .function/\(∀y∈scope.names,y.2= .free->X.env.kindOf y.1=some .cell\/X.env.kindOf y.1=some .free)/\(∀x∈scope.names,x.2= .local->scope.names.lookup x.1=some .local):=by
 unfold wC at h
 simp only[Qb4]at h
 obtain ⟨⟨⟨h1,h2⟩,h3⟩,h4⟩:=h
 refine ⟨λy hy e=>?_,by simpa using h2,λy hy e=>?_,λy hy e=>?_⟩
 ·have:=Qcg.mp h1 y hy
  rw[e]at this;simp at this
 ·have:=Qcg.mp h3 y hy
  rw[e]at this
  simpa using this
 ·have:=Qcg.mp h4 y hy
  rw[e]at this
  simpa using this
variable{ifs:List Expr}
theorem eF{iter elt:Expr}{wi:TI}(Nc:List Str)(ix:List (Option Nat))(hi:PI X tg iter wi)(AG:kW X scope Nc ix)
  (hG:∀C s H fp,PG (bX X scope C Nc s H fp) tg g) (hT:∀C s H fp,PF (bX X scope C Nc s H fp) ifs tc) (hE:∀C s H fp,PE (bX X scope C Nc s H fp) elt te) (bU:wC X scope=true:=by rfl) (lu:X.calm=true:=by rfl)
  (hs:∀x,foldedSetIterable iter X.env x=pure x:=by intro _;rfl):PE X (.ListComp elt [⟨tg,iter,ifs,0⟩] scope pos) (yB wi ix g tc te):=
 let ⟨h1,h2,h3,h4⟩:=mD bU
 Kz Nc ix hi lu AG h1 h2 h3 h4 hG hT hE hs
variable{pos':Pos}
theorem Gu{i:Nat}{iter elt:Expr}{Gi:Pos}{wi:TI}(Nc:List Str)(ix:List (Option Nat))(hN:X.N.Nodup)(OH:X.N[i]? =some x)(hx:Loc X.env.scope x)
  (hi:PI X tg iter wi) (AG:kW X scope Nc ix)
  (hG:∀C s H fp,PG (bX X scope C Nc s H fp) tg g) (hT:∀C s H fp,PF (bX X scope C Nc s H fp) ifs tc) (hE:∀C s H fp,PE (bX X scope C Nc s H fp) elt te)
  (M0:swapsWith (.ListComp elt [⟨tg,iter,ifs,0⟩] scope pos) (some (.Name x pos')) Gi.line X.env=pure true:=by rfl) (bU:wC X scope=true:=by rfl) (lu:X.calm=true:=by rfl)
  (hs:∀x,foldedSetIterable iter X.env x=pure x:=by intro _;rfl) (hf:X.fn x=true\/X.env.scope.names.lookup x=some .local:=by first | exact .inl rfl | exact .inr rfl | assumption):
  PS X (.Assign [.Name x pos'] (.ListComp elt [⟨tg,iter,ifs,0⟩] scope pos) Gi) (FO (yB wi ix g tc te) (uC i)):=
 let ⟨h1,h2,h3,h4⟩:=mD bU
 KA Nc ix hN OH hx M0 hi lu AG h1 h2 h3 h4 hG hT hE hs hf
section
variable{X:Cx}
inductive Gv(x:V)(y:V)(H:Hp)(Q:VK):Prop
 | mk (a:_) (b:_) (_:x= .str (S a)) (_:y= .str (S b)) (_:Q (.bl (decide (a=b))) H):Gv x y H Q
def XS:R2:=Gv
inductive Gw(x:V)(y:V)(H:Hp)(Q:VK):Prop
 | mk (a:_) (b:_) (_:x= .str (S a)) (_:y= .str (S b)) (_:Q (.bl (!decide (a=b))) H):Gw x y H Q
def XT:R2:=Gw
theorem jy:lR X (compareOp .Eq) XS:=by
 walk_at"c"
 obtain ⟨a,b,rfl,rfl,q⟩:=h
 exact MU pins s σ H _ _ v u Q I rx ry ⟨rfl,by rw[M1];exact q⟩
theorem Gx:lR X (compareOp .NotEq) XT:=by
 walk_at"c"
 obtain ⟨a,b,rfl,rfl,q⟩:=h
 exact TJ pins s σ H _ _ v u Q I rx ry ⟨rfl,by rw[M1];exact q⟩
theorem Um{j:Int}:decide (V.int i=V.int j)=decide (i=j):=by
 by_cases h:i=j
 ·subst h;simp
 ·rw[decide_eq_false h,decide_eq_false]
  intro q
  exact h (V.int.inj q)
theorem AO:lR X (compareOp .Eq) (Ki λi j=> .bl (decide (i=j))):=by
 walk_at"c"
 obtain ⟨a,b,rfl,rfl,q⟩:=h
 exact MU pins s σ H _ _ v u Q I rx ry ⟨rfl,by rw[Um];exact q⟩
inductive Gy(f:c7->c7->Bool)(x:V)(y:V)(H:Hp)(Q:VK):Prop
 | mk (a:_) (b:_) (_:x= .str (S a)) (_:y= .str (S b)) (_:Q (.bl (f a b)) H):Gy f x y H Q
def Uo(f:c7->c7->Bool):R2:=Gy f
theorem wD:lR X (compareOp .Lt) (Uo λa b=>decide (a<b)):=by
 walk_at"c"
 obtain ⟨a,b,rfl,rfl,q⟩:=h
 exact DP pins s σ H _ _ v u Q I rx ry ⟨S a,S b,rfl,rfl,by rw[cg,cg];exact q⟩
end
section
variable{X:Cx}{tg:Expr}
theorem b8(K:c8)(h:X.K=K):Ot X (TY K):=by subst h;exact Kq
theorem bJ(K:c8)(h:X.K=K):Ot X (TZ K):=by subst h;exact Ou
def M6(K:c8):List V->Hp->VK->Prop:=λxs H Q=>∃p ys,xs=[.ref p]/\(bL K H p ys\/di K H p ys)/\Q (.int (ys:)) H
theorem tT(K:c8)(h:X.K=K):dS X (.builtin "len") (M6 K):=by subst h;exact wo
theorem mE(K:c8)(h:X.K=K):DW X "str.join" (Gn K):=by subst h;exact Gp
def KN(K:c8):List V->Hp->VK->Prop:=λxs H Q=>∃p ys,xs=[.ref p]/\(bL K H p ys\/di K H p ys)/\∀l,H l=none->Q (.ref l) (upd H l (.lst ys))
theorem tU(K:c8)(h:X.K=K):dS X (.type "list") (KN K):=by subst h;exact wu
theorem yG(K:c8)(h:X.K=K):Wg X (T3 K):=by subst h;exact Kr
theorem gc(K:c8)(h:X.K=K){l:Expr}(hl:PE X l tl):PI X tg l (MT K tl):=by subst h;exact Kh hl
theorem wF(K:c8)(h:X.K=K){l:Expr}(hl:PE X l tl):PI X tg l (Tw K tl):=by subst h;exact Ob hl
end
section
variable{X:Cx}{o e:Expr}{es:List Expr}{to:TE}{t:TA}{name:Str}{apos jm:Pos}{T id:String}{r:V->List V->Hp->VK->Prop}
theorem fj(K:c8)(hK:X.K=K)(pa:PlainAttrs T)(slot:Slot T name id)(Oy:typeOf (.builtin id)=pure (.type "method_descriptor"))(hm:DW X id r)(ho:PE X o to)
  (qG:attributeBase o name X.env (eval o X.env)=eval o X.env:=by rfl) (gF:(apos.endLine==jm.line)=true:=by rfl):PE X (.Call (.Attribute o name apos) [] [] jm) (T4 K T r to):=by
 subst hK
 exact Ox pa slot Oy hm ho qG gF
theorem cJ(K:c8)(hK:X.K=K)(pa:PlainAttrs T)(slot:Slot T name id)(Oy:typeOf (.builtin id)=pure (.type "method_descriptor"))(hm:DW X id r)(ho:PE X o to)(ha:PA X (e::es) t)
  (qG:attributeBase o name X.env (eval o X.env)=eval o X.env:=by rfl)
  (Ks:((backTo jm (starEach (e::es) X.env)).all (λx=>!x.1)&&(backToKw jm (keywordEach [] X.env)).all (λx=>x.1.isSome)
   &&decide (((e::es):)+(([]:List Keyword):)+(if ([]:List Keyword).isEmpty then 0 else 1)<30))=true:=by rfl)
  (gF:(apos.endLine==jm.line)=true:=by rfl) (hs:starEach (e::es) X.env=(false,eval e X.env)::starEach es X.env:=by rfl) (Az:(backTo jm (starEach es X.env)).any (·.1)=false:=by rfl):
  PE X (.Call (.Attribute o name apos) (e::es) [] jm) (tBM K T r to t):=by
 subst hK
 exact T5 pa slot Oy hm ho ha qG Ks gF hs Az
end
mutual
inductive Ft(K:c8)(H:Hp):V->PyData->Prop
 | gz:Ft K H .gz .none
 | bl (b:Bool):Ft K H (.bl b) (.bool b)
 | int (i:Int):Ft K H (.int i) (.int i)
 | str (x:Str):Ft K H (.str x) (.str x)
 | lst {a:Addr} {xs:List V} {ds:List PyData} (h:bL K H a xs) (r:qV K H xs ds):Ft K H (.ref a) (.list ds)
 | tup {a:Addr} {xs:List V} {ds:List PyData} (h:di K H a xs) (r:qV K H xs ds):Ft K H (.ref a) (.tuple ds)
inductive qV(K:c8)(H:Hp):List V->List PyData->Prop
 | nil:qV K H [] []
 | cons {x:V} {xs:List V} {d:PyData} {ds:List PyData} (h:Ft K H x d) (r:qV K H xs ds):qV K H (x::xs) (d::ds)
end
section
variable{X:Cx}{pins:List (Addr×Obj)}{σ:St}{H:Hp}{s:Shared}
mutual
theorem Ft.reads(I:Inv X pins σ H s):∀{x:V} {d:PyData} {u:Value},Ft X.K H x d->RelV x u->∃as,Reads s.heap u d as
 | _,_,u,.gz,r=>by cases (show u=Value.none from r);exact ⟨_,.none⟩
 | _,_,u,.bl b,r=>by cases (show u=Value.bool b from r);exact ⟨_,.bool b⟩
 | _,_,u,.int i,r=>by obtain ⟨t,rfl⟩:=r;exact ⟨_,.int i t⟩
 | _,_,u,.str x,r=>by obtain ⟨t,rfl⟩:=r;exact ⟨_,.str x t⟩
 | _,_,u,.lst (a:=a) h q,r=>by
  cases (show u=Value.ref a from r)
  obtain ⟨aK,rv,pl,_⟩:=I.list h
  obtain ⟨as,ra⟩:=qV.reads I q rv
  obtain ⟨o,ho,hc,n,hd⟩:=pl.isList
  exact ⟨_,.list ho hc hd (by simpa using ra)⟩
 | _,_,u,.tup (a:=a) h q,r=>by
  cases (show u=Value.ref a from r)
  obtain ⟨aK,rv,pl,_⟩:=I.tuple h
  obtain ⟨as,ra⟩:=qV.reads I q rv
  obtain ⟨o,ho,hc,n,hd⟩:=pl
  exact ⟨_,.tuple ho hc hd (by simpa using ra)⟩
theorem qV.reads(I:Inv X pins σ H s):∀{xs:List V} {ds:List PyData} {us:List Value},qV X.K H xs ds->Vals xs us->∃as,ReadsAll s.heap us ds as
 | _,_,us,.nil,r=>by cases r;exact ⟨_,.nil⟩
 | _,_,us,.cons h q,r=>by
  cases r with
  | cons r1 r2=>
   obtain ⟨as,ra⟩:=Ft.reads I h r1
   obtain ⟨bs,rb⟩:=qV.reads I q r2
   exact ⟨_,.cons ra rb⟩
end
end
section
variable{X:Cx}
inductive Gz(K:c8)(x:V)(y:V)(H:Hp)(Q:VK):Prop
 | mk (dx:_) (dy:_) (_:Ft K H x dx) (_:Ft K H y dy) (_:(dx.canLay0=true/\dy.canLay0=true)) (_:dx.depth<=60) (_:Q (.bl (!PyData.eqv dx dy)) H):Gz K x y H Q
def XU(K:c8):R2:=Gz K
theorem AQ{k:Nat}(K:c8)(h:X.K=K)(hr:cH k X.A):lR X (compareOp .NotEq) (XU K):=by
 subst h
 walk_at"c"
 obtain ⟨dx,dy,h1,h2,⟨h3,h4⟩,h5,q⟩:=h
 obtain ⟨as,ra⟩:=h1.reads I rx
 obtain ⟨bs,rb⟩:=h2.reads I ry
 have hu:=hr.units
 exact SeqAt.compareNe_reads ra rb h3 h4 () ⟨.bl _,H,I,rfl,q⟩
def Up(K:c8)(ta:TE):TT:=λσ H Q=>ta σ H λx H'=>∃p xs,x= .ref p/\bL K H' p xs/\Q (!xs.isEmpty) H'
theorem KO{ta:TE}(K:c8)(h:X.K=K)(ha:PE X a ta)(he:∀whole,isTrue a X.env whole=(do let v <-whole;standAt a.pos;holding [v] (truthy v)):=by intro _;rfl):PT X a (Up K ta):=by
 subst h
 intro pins s σ H Q I hw
 refine isTrue_plain (cD (ha pins s σ H _ I hw) λv s1 ⟨x,H1,I1,r1,q1⟩=>?_) (he _)
 obtain ⟨p,xs,rfl,hq,q⟩:=q1
 exact Oh pins s1 σ H1 _ v Q I1 r1 ⟨_,.inl ⟨xs,hq,rfl⟩,q⟩
theorem qb(K:c8)(h:X.K=K){es:List Expr}{k:Nat}{t:MR}(hc:X.calm=true)(hs:Tr X es t)
  (hn:(assignEach es X.env:)=n:=by rfl) (oS:(assignEach es X.env).findIdx? (·.1)=none:=by rfl):PG X (.Tuple es k pos) (Tv K n t):=by
 subst h
 exact N_ hc hs hn oS
end
noncomputable def a_(a b:c7):c7:=if b<a then b else a
noncomputable def cn:c7->List c7->c7
 | a,[]=>a
 | a,b::r=>cn (a_ a b) r
noncomputable def uZ(ls:List c7)(i j:Nat):Bool:=decide ((ls|||i)<(ls|||j))
theorem argBest_lt(bt:Nat->Nat->Bool):∀n,argBest bt n<=n
 | 0=>Qaa _
 | n+1=>by
  unfold argBest
  split
  ·exact Qaa _
  ·exact Nat.le_succ_of_le (argBest_lt bt n)
variable{prog:Program}{A:Around}{ls:List c7}
section
variable{X:Cx}
theorem D4{w:World}{aK:List Value}(r:Vals (ls.map λl=>V.str (S l)) aK):CmpOf prog w A .Lt (λi v=>aK.toArray[i]? =some v) (uZ ls):=by
 intro i j vi vj s Q E hi hj hQ
 have get:∀{i:Nat} {v:Value},aK.toArray[i]? =some v->∃t,v= .str (S (ls|||i)) t:=by
  intro i v h
  have h':aK[i]? =some v:=by simpa using h
  have hl:i<(ls:):=by have:=(OC.mp h').1;rw[<-(r:),Wh]at this;exact this
  obtain ⟨u,hu,ru⟩:=r.get (i:=i) (x:=V.str (S (ls|||i))) (by rw[Qar,Qao,OD hl];rfl)
  rw[h']at hu;cases hu
  exact ru
 obtain ⟨t,rfl⟩:=get hi
 obtain ⟨u,rfl⟩:=get hj
 have q:Q (.bool (decide ((S (ls|||i)).cps.toList<(S (ls|||j)).cps.toList))) s:=by rw[cg,cg];exact hQ
 exact lt_str q
def ON:List V->Hp->VK->Prop:=λxs H Q=>∃(a b:c7),xs=[.str (S a),.str (S b)]/\Q (.str (S (a_ a b))) H
theorem qW(hc:X.calm=true):dS X (.builtin "min") ON:=by
 walk_at"g"
 obtain ⟨a,b,rfl,q⟩:=h
 obtain ⟨u,w',rfl,⟨t,rfl⟩,⟨t',rfl⟩⟩:=vals2 r
 have rv:Vals ([a,b].map λl=>V.str (S l)) [Value.str (S a) t,Value.str (S b) t']:= .cons ⟨t,rfl⟩ (.cons ⟨t',rfl⟩ .nil)
 have hT:(s.heap.push { cls:= .type "tuple",data:= .seq #[.str (S a) t,.str (S b) t'] }).IsTuple s.heap.objs.size #[.str (S a) t,.str (S b) t']:=⟨_,Qav _ rfl,rfl,0,rfl⟩
 refine call_min_two (wpAny_pyIter_tuple hT ?_)
 have hsz:(s.heap.push { cls:= .type "tuple",data:= .seq #[.str (S a) t,.str (S b) t'] }).objs.size=s.heap.objs.size+1:=Qdz ..
 refine ⟨_,_,_,_,_,_,uZ [a,b],rfl,Walks.tuple (A:=X.A.in1) (I.ok.hd hc) _ s.heap.objs.size (by rw[hsz];exact Qa1 (Qcz _)) #[.str (S a) t,.str (S b) t'],
  ⟨⟨_,Qav _ rfl,rfl,rfl⟩,hT.push _⟩,λc hc=>?_,(by show 0<2;decide),D4 rv,λv h' tk hP hk=>?_⟩
 ·show c<((s.heap.push _).push _).objs.size
  rw[Qdz,hsz]
  rcases Qaf.mp hc with rfl | hc
  ·rw[hsz];exact Qcz _
  ·rcases Qaf.mp hc with rfl | hc
   ·exact Qc6 (Qcz _)
   ·cases hc
 ·have I1:Inv X pins σ H { s with heap:=h',toks:=tk }:=by
   refine I.kept (t':=tk) λc o e=>hk c o (λhm=>?_) (kb _ (kb _ e))
   have:c=(s.heap.push { cls:= .type "tuple",data:= .seq #[.str (S a) t,.str (S b) t'] }).objs.size:=by simpa using hm
   have hl:=Qax e
   rw[this,hsz]at hl
   exact absurd hl (Nat.not_lt.mpr (Qdk _))
  have e:argBest (uZ [a,b]) (#[Value.str (S a) t,Value.str (S b) t'].size - 1)=if b<a then 1 else 0:=by
   show (if uZ [a,b] 1 0=true then 1 else 0)=_
   by_cases z:b<a
   ·rw[if_pos z,if_pos (show uZ [a,b] 1 0=true from decide_eq_true z)]
   ·rw[if_neg z,if_neg (show ¬uZ [a,b] 1 0=true from λy=>z (of_decide_eq_true y))]
  rw[e]at hP
  refine ⟨.str (S (a_ a b)),H,I1,?_,q⟩
  unfold a_
  by_cases z:b<a
  ·rw[if_pos z]at hP ⊢
   have:v= .str (S b) t':=by simpa using hP.symm
   exact ⟨_,this⟩
  ·rw[if_neg z]at hP ⊢
   have:v= .str (S a) t:=by simpa using hP.symm
   exact ⟨_,this⟩
end
noncomputable def dZ(n:Nat)(l:c7):c7:=(List.replicate n l).flatten
theorem eX(n:Nat)(l:c7):dZ (n+1) l=l++dZ n l:=by unfold dZ;rw[List.replicate_succ,Qc3]
theorem AR(n:Nat)(l:c7):dZ (n+1) l=dZ n l++l:=by unfold dZ;rw[List.replicate_succ',Qf9,Qc3,Qfk,Qa4]
theorem yH(n:Nat)(l:c7):(dZ n l:)=n*(l:):=by
 induction n with
 | zero=>simp[dZ]
 | succ n ih=>rw[eX,T6,ih,Qey,Nat.add_comm]
theorem u5(l:c7):∀(n:Nat) (acc:Array Nat),((List.replicate n (S l).cps).foldl (· ++ ·) acc).toList=acc.toList++dZ n l
 | 0,acc=>by simp[dZ]
 | n+1,acc=>by
  rw[List.replicate_succ,Qcw,u5 l n,eX]
  simp[S]
def Uq:R2:=λx y H Q=>∃(l:c7) (i:Int),x= .str (S l)/\y= .int i/\(0<=i/\i<=1000000)/\(l:)*i.toNat<=sizeLine/\Q (.str (S (dZ i.toNat l))) H
theorem wG:lR X (binaryOp .Mult) Uq:=by
 walk_at"c"
 obtain ⟨l,i,rfl,rfl,⟨h0,h1⟩,hz,q⟩:=h
 walk_at"e"
 walk_at"V"
 have hn:=f_
 have M7:(S l:)=(l:):=dv l
 have XW:((l:):Int)*i<=2 ^ 63 - 1:=by
  have e:(((l:)*i.toNat:Nat):Int)=((l:):Int)*i:=by rw[Int.natCast_mul,Int.toNat_of_nonneg h0]
  have:(((l:)*i.toNat:Nat):Int)<=(sizeLine:Int):=by exact_mod_cast hz
  rw[<-e];lia
 refine P.mul_str (x:=S l) (n:=i) (t:=t) (u:=t') (by
  have e1:decide (i< -(2 ^ 63:Int))=false:=decide_eq_false ()
  have e2:decide (i ≥ 2 ^ 63)=false:=decide_eq_false ()
  rw[e1,e2];rfl) (λz _=>?_) (λz _=>?_) ?_
 ·rw[M7]
  have:((l:):Int)<=(2 ^ 63 - 1) / i:=(Int.le_ediv_iff_mul_le ()).mpr XW
  lia
 ·rw[M7]
  show Builtin.Str.tooLong _=false
  unfold Builtin.Str.tooLong
  exact decide_eq_false ()
 ·by_cases z:i<1
  ·rw[if_pos z]
   have e:i.toNat=0:=by lia
   rw[e]at q
   exact ⟨∅,.str _,H,I.tok _,⟨_,rfl⟩,q⟩
  ·rw[if_neg z]
   by_cases z2:(i==1||(S l:)==0)=true
   ·rw[if_pos z2]
    have e:dZ i.toNat l=l:=by
     rcases Qg0 _ _ |>.mp z2 with e | e
     ·have e:i=1:=by simpa using e
      subst e
      show dZ 1 l=l
      rw[eX];simp[dZ]
     ·have e:(l:)=0:=by rw[M7]at e;simpa using e
      have e:l=[]:=Qb7.mp e
      subst e
      unfold dZ
      simp
    rw[e]at q
    exact ⟨.str _,H,I,⟨_,rfl⟩,q⟩
   ·rw[if_neg z2]
    have e:(⟨(List.replicate i.toNat (S l).cps).foldl (· ++ ·) #[]⟩:Str)=S (dZ i.toNat l):=by
     have:=u5 l i.toNat #[]
     show _=(⟨(dZ i.toNat l).toArray⟩:Str)
     congr 1
     apply Qd9.mp
     rw[this]
     simp
    rw[e]
    refine ⟨?_,.str _,H,I.tok _,⟨_,rfl⟩,q⟩
    rw[dv,yH,Qc8]
    exact hz
variable{ch:List Addr}
section
variable{X:Cx}{pins:List (Addr×Obj)}{σ:St}{H:Hp}{s:Shared}{h':Heap}
theorem Inv.qX{t':Nat}{T:Addr}{ob:HO}(I:Inv X pins σ H s)(k:∀b o,b∉ch->s.heap.get? b=some o->h'.get? b=some o)(hf:∀b∈ch,ph X pins H b)
  (hT:s.heap.objs.size<=T) (new:cC X.prog X.w (upd H T ob) h' T ob):Inv X pins σ (upd H T ob) { s with heap:=h',toks:=t' }:=by
 have hn:=I.bU.fresh hT
 have MP:∀b u,H b=some u->b∉ch:=λb u e z=>by rw[(hf b z).1]at e;cases e
 have neT:∀b o,s.heap.get? b=some o->b≠T:=λb o e z=>absurd (Qa2 (Qax e) hT) (by rw[z];exact Qb1 _)
 refine I.step (g':=s.gens) (d':=s.drawn) (ch:=ch) (λb hb=>?_) (λb o _ _ hc e _=>k b o hc e) (λb o _ _ hc e _=>⟨o.slots,k b o hc e⟩) (λb o _ e n=>by rw[au (neT b o e)];exact n)
  (λb o hc e=>⟨o,k b o hc e⟩) (λb xs e=>by rw[au (ao e hn)];exact e) (λb o u e=>by rw[au (ao e hn)];exact e) (λb ps e=>⟨#[],by rw[au (ao e hn),e];simp⟩) (λm hm=>?_) (λb u e=>?_) I.bare
 ·obtain ⟨_,h2,_,h4,h5,h6⟩:=hf b hb
  exact ⟨h4,h2,h5,h6⟩
 ·obtain ⟨o,es,ep,ho,r⟩:=hm
  exact ⟨o,es,ep,k _ o (λz=>(hf _ z).2.1 rfl) ho,r⟩
 ·by_cases hb:b=T
  ·subst hb;rw[ae]at e;cases e;exact new
  ·rw[au hb]at e
   refine (I.bU b u e).tI (λc v hc q=>k c v ?_ q) (λc q=>by rw[au (ao q hn)];exact q) λc xs q=>by rw[au (ao q hn)];exact q
   rcases hc with z | z
   ·rw[z];exact MP b u e
   ·exact MP c _ z
theorem Inv.wH{t':Nat}(I:Inv X pins σ H s)(k:∀b o,b∉ch->s.heap.get? b=some o->h'.get? b=some o)(hf:∀b∈ch,ph X pins H b):Inv X pins σ H { s with heap:=h',toks:=t' }:=by
 have MP:∀b u,H b=some u->b∉ch:=λb u e z=>by rw[(hf b z).1]at e;cases e
 refine I.step (g':=s.gens) (d':=s.drawn) (ch:=ch) (λb hb=>?_) (λb o _ _ hc e _=>k b o hc e) (λb o _ _ hc e _=>⟨o.slots,k b o hc e⟩) (λb o _ e n=>n)
  (λb o hc e=>⟨o,k b o hc e⟩) (λb xs e=>e) (λb o u e=>e) (λb ps e=>⟨#[],by rw[e];simp⟩) (λm hm=>?_) (λb u e=>?_) I.bare
 ·obtain ⟨_,h2,_,h4,h5,h6⟩:=hf b hb
  exact ⟨h4,h2,h5,h6⟩
 ·obtain ⟨o,es,ep,ho,r⟩:=hm
  exact ⟨o,es,ep,k _ o (λz=>(hf _ z).2.1 rfl) ho,r⟩
 ·refine (I.bU b u e).tI (λc v hc q=>k c v ?_ q) (λc q=>q) λc xs q=>q
  rcases hc with z | z
  ·rw[z];exact MP b u e
  ·exact MP c _ z
end
noncomputable def Ur(l:c7):It:=⟨λi _=>i<(l:),λi H x H'=>∃T c,l[i]? =some c/\x= .ref T/\H T=none/\H'=upd H T (.tup [.int i,.str (S [c])]),λi _=>(l:)<=i⟩
theorem u6{w:World}(hh:A.handled=none)(it:Addr)(x:Str)(t:Tok):
  Draws prog w A it [it] x.cps.size (λi v=>∃c u,x.cps[i]? =some c/\v= .str ⟨#[c]⟩ u) (λi h=>h.IsStrIter it (strIterType x) x t i):=by
 by_cases ha:x.cps.all (· <128)=true
 ·have et:strIterType x="str_ascii_iterator":=by unfold strIterType;rw[if_pos ha]
  rw[et];exact Draws.strAscii hh it x t
 ·have et:strIterType x="str_iterator":=by unfold strIterType;rw[if_neg ha]
  rw[et];exact Draws.strWide hh it x t
variable{elts:List Expr}
theorem AS{P:Program}{w:World}{k:Nat}(e it:Addr)(Ci:e≠it)(l:c7)(t:Tok):
  Turn P w K (.Tuple elts k pos) (Ur l) [e,it] e (λi h=>i<=(l:)/\(∃old,IsEnum h e it i old)/\h.IsStrIter it (strIterType (S l)) (S l) t i) where
 mem:=by simp
 obj:=λi h st b hb=>by
  obtain ⟨_,⟨old,he⟩,o,ho,hc,hd⟩:=st
  rcases Qaf.mp hb with z | z
  ·rw[z];exact ⟨_,he,λv z=>by cases z⟩
  ·rw[Wi.mp z];exact ⟨o,ho,λv z=>by rw[hd]at z;cases z⟩
 keep:=λi h h' st kp=>by
  obtain ⟨h1,⟨old,he⟩,o,ho,r⟩:=st
  exact ⟨h1,⟨old,kp e (by simp) _ he⟩,o,kp it (by simp) o ho,r⟩
 item:=by
  walk_at"a"
  subst hP hw hK
  obtain ⟨_,dJ,jq⟩:=st
  have D:=u6 (prog:=X.prog) (w:=X.w) (A:=X.A.in1) (I.ok.hd hc) it (S l) t
  have W:=WalksT.enumerateD D e Ci (by simpa using Ci) (by simp)
  have hi:i<(S l).cps.size:=by rw[nR];exact hg
  refine W.item i s _ _ hi ⟨dJ,jq⟩ λT vals h' tk KP hT GA yI hk=>⟨_,rfl,?_⟩
  walk_at"C"
  obtain ⟨tt,x,⟨c,u,Us,rfl⟩,rfl⟩:=KP
  have M8:T∉[e,it]:=W.apart i T h' yI
  have yK:h2.IsTuple T #[.int i tt,.str ⟨#[c]⟩ u]:=by
   obtain ⟨o,ho,r⟩:=GA
   exact ⟨o,tG T o M8 ho,r⟩
  have hl:l[i]? =some c:=by simpa [S]using Us
  refine ⟨.ref T,upd H T (.tup [.int i,.str (S [c])]),?_,rfl,⟨T,c,hl,rfl,I.bU.fresh hT,rfl⟩,⟨hg,yJ.1,yJ.2⟩,λb hb=>?_⟩
  ·refine I.qX (t':=tk) (h':=h2) (λb o hb y=>tG b o hb (hk b o hb y)) hf hT ?_
   exact ⟨by show 2<=sizeLine;decide,[.int i tt,.str ⟨#[c]⟩ u],.cons ⟨tt,rfl⟩ (.cons ⟨u,rfl⟩ .nil),yK⟩
  ·rw[au (λz:b=T=>M8 (z▸hb))];exact (hf b hb).1
 done:=by
  walk_at"a"
  subst hP hw hK
  obtain ⟨h1,dJ,jq⟩:=st
  have e1:i=(l:):=Qdf h1 hg
  have D:=u6 (prog:=X.prog) (w:=X.w) (A:=X.A.in1) (I.ok.hd hc) it (S l) t
  have W:=WalksT.enumerateD D e Ci (by simpa using Ci) (by simp)
  walk_at"O"
  rw[nR, <-e1]
  exact ⟨dJ,jq⟩
 self:=λ_ _ s _ _ st h=>by
  obtain ⟨_,⟨old,he⟩,_⟩:=st
  exact wpAny_pyIter_enum he h
def OO(ta:TA):TI:=λσ H R=>ta σ H λvs H1=>∃l,vs=[.str (S l)]/\R (Ur l) H1
theorem GB{k:Nat}(hg:Gl X "enumerate")(hm:X.mg "enumerate"=none)(ha:PA X [a] ta)(hs:starEach [a] X.env=[(false,eval a X.env)]:=by rfl):PI X (.Tuple elts k pos') (.Call (.Name "enumerate" p) [a] [] pos) (OO ta):=by
 walk_at"W"
 walk_at"l"
 obtain ⟨l,rfl,q⟩:=q1
 obtain ⟨u,rfl,t,rfl⟩:=vals1 r1
 refine call_enumerate_str λh' he hit hsz hk=>?_
 refine wpAny_pyIter_enum he ?_
 refine ⟨s1.heap.objs.size+1,[s1.heap.objs.size+1,s1.heap.objs.size],_,_,H1,rfl,I1.kept (t':=s1.toks) hk,AS _ _ (Qfi _) l t,⟨Qau _,⟨_,he⟩,hit⟩,λb hb=>?_,q⟩
 have AU:s1.heap.objs.size<=b:=by
  rcases Qaf.mp hb with z | z
  ·rw[z];exact Qdk _
  ·rw[Wi.mp z];exact Qaa _
 exact I1.tM AU (I1.bU.fresh AU)
theorem GC(Pv:Nat->St->Hp->Prop)(h0:Pv 0 σ H)
  (hs:∀i c σ H T,l[i]? =some c->Pv i σ H->H T=none->g (.ref T) σ (upd H T (.tup [.int i,.str (S [c])])) λσ2 H2=>tb { D with nx:=Pv (i+1),ct:=Pv (i+1),bk:=D.nx } σ2 H2) (hd:∀σ H,Pv (l:) σ H->D.nx σ H):
  ∃W:Nat->Nat->St->Hp->Prop,(∃m,W 0 m σ H)/\∀i m σ H,W i m σ H->
   ((Ur l).stop i H/\D.nx σ H)\/((Ur l).go i H/\∃N:St->Hp->Prop,(∀σ' H',N σ' H'->∃m',m'<m/\W (i+1) m' σ' H')/\∀x H',(Ur l).FR i H x H'->g x σ H' λσ2 H2=>tb { D with nx:=N,ct:=N,bk:=D.nx } σ2 H2):=by
 refine ⟨λi m σ H=>m=(l:) - i/\i<=(l:)/\Pv i σ H,⟨(l:),by simp,Qau _,h0⟩,?_⟩
 rintro i m σ H ⟨rfl,hi,p⟩
 by_cases cU:i<(l:)
 ·refine .inr ⟨cU,Pv (i+1),λσ' H' p'=>⟨(l:) - (i+1),(),rfl,cU,p'⟩,λx H' y=>?_⟩
  obtain ⟨T,c,hc,rfl,hn,rfl⟩:=y
  exact hs i c σ _ T hc p hn
 ·have e:i=(l:):=by lia
  subst e
  exact .inl ⟨Qaa _,hd σ H p⟩
section
variable{X:Cx}
theorem wI:∀{aK:List Value},Vals (ls.map λl=>V.str (S l)) aK->StrsAre aK (ls.map S):=by
 induction ls with
 | nil=>intro aK r;cases r;exact .nil
 | cons l ls ih=>
  intro aK r
  cases r with
  | cons r1 r2=>
   walk_at"R"
   exact .cons _ t (ih r2)
theorem wJ:∀{aK:List Value} {ss:List Str},StrsAre aK ss->Vals ((ss.map λx=>x.cps.toList).map λl=>V.str (S l)) aK
 | _,_,.nil=> .nil
 | _,_,.cons x t h=> .cons ⟨t,by rw[<-Ug]⟩ (wJ h)
theorem u7:∀(p:Str) (r:List Str),risingS p r=true->(p::r).Pairwise λa b=> ¬b.cps.toList<a.cps.toList
 | p,[],_=>Qb6 _ _
 | p,x::r,h=>by
  have h':(!ltCps x.cps.toList p.cps.toList&&risingS x r)=true:=h
  rw[Qb4,ltCps_eq]at h'
  have h1: ¬x.cps.toList<p.cps.toList:=by simpa using h'.1
  have ih:=u7 x r h'.2
  refine Qdb.mpr ⟨λy hy=>?_,ih⟩
  rcases Qaf.mp hy with z | z
  ·rw[z];exact h1
  ·exact Qeq (show p.cps.toList<=x.cps.toList from h1) (show x.cps.toList<=y.cps.toList from Qe9 ih z)
theorem D5{ss:List Str}(h:sortedS ss=true):(ss.map λx=>x.cps.toList).Pairwise λa b=> ¬b<a:=by
 rw[Qb8]
 cases ss with
 | nil=>exact List.Pairwise.nil
 | cons x r=>exact u7 x r h
def OP(K:c8):List V->Hp->VK->Prop:=λxs H Q=>∃(p:Addr) (ls:List c7),xs=[.ref p]/\bL K H p (ls.map λl=>V.str (S l))/\(ls:)<64/\∀(q:Addr) (OQ:List c7),H q=none->OQ.Perm ls->(OQ.Pairwise λa b=> ¬b<a)->Q (.ref q) (upd H q (.lst (OQ.map λl=>V.str (S l))))
theorem wK(K:c8)(h:X.K=K):dS X (.builtin "sorted") (OP K):=by
 subst h
 walk_at"g"
 obtain ⟨p,ls,rfl,hq,hn,q⟩:=h
 obtain ⟨u,rfl,ru⟩:=vals1 r
 cases ru
 obtain ⟨aK,rv,pl,hz⟩:=I.list hq
 have hlen:(aK:)=(ls:):=by rw[<-(rv:),Wh]
 refine sorted_strs (l:=p) (vs:=aK) (ss:=ls.map S) pl.isList (wI rv) () λout kX h1 h2 h3=>?_
 obtain ⟨e,he⟩:=sortedAll_at s.heap aK out
 have oV:(kX.map λx=>x.cps.toList).Perm ls:=by
  have:=h2.map λx:Str=>x.cps.toList
  rw[Qbh]at this
  have e2:ls.map ((λx:Str=>x.cps.toList) ∘ S)=ls:=by
   have:∀l∈ls,((λx:Str=>x.cps.toList) ∘ S) l=l:=λl _=>cg l
   calc ls.map _=ls.map id:=Qb0 this
    _=ls:=Qec ls
  rwa [e2]at this
 have RG:=oV.length_eq
 have h64:(64:Nat)<sizeLine:=by decide
 have OR:(((kX.map λx=>x.cps.toList).map λl=>V.str (S l)):)<=sizeLine:=by rw[Wh,RG];lia
 refine ⟨.ref (s.heap.objs.size+1),_,I.laid (t':=s.toks) (a:=s.heap.objs.size+1) (o:= .lst ((kX.map λx=>x.cps.toList).map λl=>V.str (S l))) (λb o e=>sortedAll_old e) (Qdk _) ⟨OR,out.toList,e,wJ h1,by simpa [seqObj]using he⟩,rfl,q _ _ (I.bU.fresh (Qdk _)) oV (D5 h3)⟩
theorem KQ(h:ls.Perm (l.map λc=>[c])):∃l':c7,ls=l'.map (λc=>[c])/\l'.Perm l:=by
 refine ⟨ls.flatten,?_,?_⟩
 ·have hs:∀x∈ls,∃c,x=[c]:=λx hx=>by
   obtain ⟨c,_,e⟩:=Qay.mp (h.mem_iff.mp hx)
   exact ⟨c,e.symm⟩
  clear h
  induction ls with
  | nil=>rfl
  | cons x ls ih=>
   obtain ⟨c,rfl⟩:=hs x Qac
   rw[Qc3,Qaq, <-ih λy hy=>hs y (Qae _ hy)]
   rfl
 ·have:=h.flatten
  have e:(l.map λc=>[c]).flatten=l:=by
   clear h this
   induction l with
   | nil=>rfl
   | cons c l ih=>rw[Qa3,Qc3,ih];rfl
  rwa [e]at this
theorem KR(h:(l.map λc=>[c]).Pairwise λa b=> ¬b<a):l.Pairwise λa b=>a<=b:=by
 rw[Qb8]at h
 refine h.imp λ{a b} z=>?_
 by_cases y:a<=b
 ·exact y
 ·exact absurd (Qf4.mpr (.inl ())) z
end
variable{tp:Addr}{j:Nat}
section
variable{prog:Program}{w:World}{A:Around}{E:Value->Shared->Prop}{s:Shared}
theorem AV{xs:Array Value}{y:Value}(hi:s.heap.IsTupleIter it tp j)(ht:s.heap.IsTuple tp xs)(hy:xs[j]? =some y)
  (q:∀h2,h2.IsTupleIter it tp (j+1)->Heap.SameBut it s.heap h2->Q y { s with heap:=h2 }):wpAny (model prog w) A (Builtin.SmallTypes.nextOf (.ref it)) Q E s:=by
 obtain ⟨oi,eo,ec,ed⟩:=id hi
 obtain ⟨ot,et,_,nt,dt⟩:=ht
 unfold Builtin.SmallTypes.nextOf
 walk_at"k"
 refine wpAny_bind (m:=field (.ref it) 0) (wpAny_field eo ed (x:= .ref tp) rfl ?_)
 show wpAny (model prog w) _ (if (Value.ref tp==Value.none)=true then _ else _) _ E s
 rw[if_neg (show ¬(Value.ref tp==Value.none)=true from Qa8)]
 refine wpAny_bind (m:=field (.ref it) 1) (wpAny_field eo ed (x:= .int j 0) rfl ?_)
 refine wpAny_bind (m:=seqItems? (.ref tp)) (wpAny_seqItems et dt ?_)
 simp only[Qan,hy]
 refine wpAny_bind (wpAny_setField eo ed (by simp) (wpAny_pure ⟨y,rfl,wpAny_pure (q _ ⟨_,Qcy _ eo (Obj.isFreed_of_fields (Obj.data_mapFields ed _)),(Obj.cls_mapFields ..).trans ec,by rw[Obj.data_mapFields ed];simp[rawInt]⟩ (Qgx ..))⟩))
theorem D6{xs:Array Value}(hh:A.handled=none)(hi:s.heap.IsTupleIter it tp j)(ht:s.heap.IsTuple tp xs)(hy:xs[j]? =none)
  (q:∀h2 e,Heap.ExtBut it s.heap h2->(∃o,h2.get? e=some o/\o.cls= .type "StopIteration")->E (.ref e) { s with heap:=h2 }):wpAny (model prog w) A (Builtin.SmallTypes.nextOf (.ref it)) Q E s:=by
 obtain ⟨oi,eo,ec,ed⟩:=id hi
 obtain ⟨ot,et,_,nt,dt⟩:=ht
 unfold Builtin.SmallTypes.nextOf
 walk_at"k"
 refine wpAny_bind (m:=field (.ref it) 0) (wpAny_field eo ed (x:= .ref tp) rfl ?_)
 show wpAny (model prog w) _ (if (Value.ref tp==Value.none)=true then _ else _) _ E s
 rw[if_neg (show ¬(Value.ref tp==Value.none)=true from Qa8)]
 refine wpAny_bind (m:=field (.ref it) 1) (wpAny_field eo ed (x:= .int j 0) rfl ?_)
 refine wpAny_bind (m:=seqItems? (.ref tp)) (wpAny_seqItems et dt ?_)
 simp only[Qan,hy]
 refine wpAny_bind (wpAny_rule (wpAny_bind (wpAny_setField eo ed (by simp) ?_)))
 refine wpAny_bind (m:=newExc (.type "StopIteration") []) ?_
 simp only[newExc,newTuple]
 refine wpAny_bind (wpAny_newObj_type (wpAny_bind (m:=firstArgMember _ _) (wpAny_of_eq (a:=Value.none) (by first | rfl | (simp only[firstArgMember];rfl)) (wpAny_newObj_type ?_ (by size_fits)))) (by size_fits))
 simp only[raiseNew]
 refine wpAny_bind (wpAny_handled ?_);first | rw[show A.in1.handled=none from hh] | rw[hh]
 exact wpAny_bind (wpAny_pure (wpAny_throw (q _ _ (((Qgx ..).extBut.push _).push _) ⟨_,Qav _ rfl,rfl⟩)))
theorem oW(hh:A.handled=none)(it tp:Addr)(ne:tp≠it)(xs:Array Value):
  Draws prog w A it [it,tp] xs.size (λi v=>xs[i]? =some v) (λi h=>h.IsTupleIter it tp i/\h.IsTuple tp xs) where
 live:=λ_ _ z=>let ⟨o,e,_⟩:=z.1;⟨o,e⟩
 frame:=λ_ _ _ z k=>by
  obtain ⟨⟨o,e,r⟩,o2,e2,r2⟩:=z
  exact ⟨⟨o,k it (by simp) o e,r⟩,o2,k tp (by simp) o2 e2,r2⟩
 item:=λi s Q E hi z q=>AV z.1 z.2 (y:=xs[i]) (by simp[hi]) λh2 z2 sb=>q _ h2 s.toks (by simp[hi]) ⟨z2,z.2.extBut sb.extBut ne⟩ sb
 done:=λs Q E z q=>D6 hh z.1 z.2 (by simp) q
theorem yL(l:Addr)(items:Array Value)(n:Nat)(M9:Option Addr)(sl:Array (Option Value)):
  Meets (Builtin.«enumerate.__new__» ⟨[.type "enumerate",.ref l],[]⟩) (λ_ R s=>s.heap.get? l=some { cls:= .type "tuple",dict:=M9,data:= .seq items n,slots:=sl }/\
   R (.ok (.ret (.ref (s.heap.push { cls:= .type "tuple_iterator",data:= .fields #[.ref l,.int 0 0] }).objs.size)))
    { s with heap:=(s.heap.push { cls:= .type "tuple_iterator",data:= .fields #[.ref l,.int 0 0] }).push { cls:= .type "enumerate",data:= .fields #[.none,.bool false,.ref s.heap.objs.size,rawInt 0,.none,.none] } }):=
 .of_wp λprog w A R s h=>by
  obtain ⟨hp,g,d,tk,os⟩:=s;obtain ⟨hl,q⟩:=h;have aam:=sub_enumerate
  have hT:Heap.IsTuple (Shared.heap ⟨hp,g,d,tk,os⟩) l items:=⟨_,hl,rfl,n,rfl⟩
  wp_walk using AutoSeq1.wpAny_loadPart' hl
  refine wpAny_stack_any λst=>wpAny_pure ?_
  split
  ·rename_i c _ _ _ _ _
   cases (c==Value.type "enumerate")<;>(wp_walk using AutoSeq1.wpAny_loadPart' hl,wpAny_pyIter_tuple hT;exact ⟨_,rfl,q⟩)
  ·wp_walk using AutoSeq1.wpAny_loadPart' hl,wpAny_pyIter_tuple hT
   exact ⟨_,rfl,q⟩
theorem AW{l:Addr}{items:Array Value}(hL:s.heap.IsTuple l items)
  (h:∀h',IsEnum h' (s.heap.objs.size+1) s.heap.objs.size 0 .none->h'.IsTupleIter s.heap.objs.size l 0->(∀b o,s.heap.get? b=some o->h'.get? b=some o)->Q (.ref (s.heap.objs.size+1)) { s with heap:=h' }):
  wpAny (model prog w) A (call (.type "enumerate") [.ref l]) Q E s:=by
 obtain ⟨⟨c,M9,dt,sl⟩,hl,hc,n,hd⟩:=hL
 cases (show c= .type "tuple" from hc)
 cases (show dt= .seq items n from hd)
 refine callType_new F.called_enumerate ∅ (F.typeCall_enumerate_1 _) (F.newCall_enumerate_1 _) (λob=>F.args_object_init_2 ob _) F.entry_enumerate_new (yL l items n M9 sl) ⟨hl,?_⟩
 have hz:(s.heap.push { cls:= .type "tuple_iterator",data:= .fields #[.ref l,.int 0 0] }).objs.size=s.heap.objs.size+1:=Qdz ..
 show _/\_
 rw[hz]
 have he:IsEnum ((s.heap.push { cls:= .type "tuple_iterator",data:= .fields #[.ref l,.int 0 0] }).push { cls:= .type "enumerate",data:= .fields #[.none,.bool false,.ref s.heap.objs.size,rawInt 0,.none,.none] }) (s.heap.objs.size+1) s.heap.objs.size 0 .none:=by
  have:=Qav (s.heap.push { cls:= .type "tuple_iterator",data:= .fields #[.ref l,.int 0 0] }) (o:={ cls:= .type "enumerate",data:= .fields #[.none,.bool false,.ref s.heap.objs.size,rawInt 0,.none,.none] }) rfl
  rwa [hz]at this
 exact ⟨⟨_,he,rfl⟩,h _ he ⟨_,kb _ (Qav _ rfl),rfl,rfl⟩ λb o x=>kb _ (kb _ x)⟩
end
noncomputable def GD(K:c8)(a:Addr):It:=⟨λi H=>∃xs x,di K H a xs/\xs[i]? =some x,λi H x H'=>∃T y,(∀xs,di K H a xs->xs[i]? =some y)/\x= .ref T/\H T=none/\H'=upd H T (.tup [.int i,y]),λi H=>∃xs,di K H a xs/\(xs:)=i⟩
noncomputable def GF(K:c8)(a:Addr):It:=⟨λi H=>∃xs x,bL K H a xs/\xs[i]? =some x,λi H x H'=>∃T y,(∀xs,bL K H a xs->xs[i]? =some y)/\x= .ref T/\H T=none/\H'=upd H T (.tup [.int i,y]),λi H=>∃xs,bL K H a xs/\(xs:)=i⟩
theorem AX{P:Program}{w:World}{k:Nat}(e it a:Addr)(Ci:e≠it)(Ut:a≠e)(Uu:a≠it):
  Turn P w K (.Tuple elts k pos) (GD K a) [e,it] e (λi h=>(∃old,IsEnum h e it i old)/\h.IsTupleIter it a i) where
 mem:=by simp
 obj:=λi h st b hb=>by
  obtain ⟨⟨old,he⟩,o,ho,hc,hd⟩:=st
  rcases Qaf.mp hb with z | z
  ·rw[z];exact ⟨_,he,λv z=>by cases z⟩
  ·rw[Wi.mp z];exact ⟨o,ho,λv z=>by rw[hd]at z;cases z⟩
 keep:=λi h h' st kp=>by
  obtain ⟨⟨old,he⟩,o,ho,r⟩:=st
  exact ⟨⟨old,kp e (by simp) _ he⟩,o,kp it (by simp) o ho,r⟩
 item:=by
  walk_at"a"
  subst hP hw hK
  obtain ⟨dJ,jq⟩:=st
  obtain ⟨xs,x,hq,hx⟩:=hg
  obtain ⟨aK,rv,p,hz⟩:=I.tuple hq
  obtain ⟨u0,hu,ru⟩:=rv.get hx
  have D:=oW (prog:=X.prog) (w:=X.w) (A:=X.A.in1) (I.ok.hd hc) it a Uu aK.toArray
  walk_at"n"
  have XX:i<aK.toArray.size:=by rw[Qah];exact (OC.mp hu).1
  refine W.item i s _ _ XX ⟨dJ,jq,p⟩ λT vals h' tk KP hT GA yI hk=>⟨_,rfl,?_⟩
  walk_at"C"
  obtain ⟨tt,x2,OS,rfl⟩:=KP
  have ex:x2=u0:=by
   rw[List.getElem?_toArray]at OS
   exact Qal (OS.symm.trans hu)
  subst ex
  have M8:T∉[e,it]:=W.apart i T h' yI
  have yK:h2.IsTuple T #[.int i tt,x2]:=by
   obtain ⟨o,ho,r⟩:=GA
   exact ⟨o,tG T o M8 ho,r⟩
  refine ⟨.ref T,upd H T (.tup [.int i,x]),?_,rfl,⟨T,x,λys hy=>by rw[I.uA hy hq];exact hx,rfl,I.bU.fresh hT,rfl⟩,⟨yJ.1,yJ.2.1⟩,λb hb=>?_⟩
  ·refine I.qX (t':=tk) (h':=h2) (λb o hb y=>tG b o hb (hk b o hb y)) hf hT ?_
   exact ⟨by show 2<=sizeLine;decide,[.int i tt,x2],.cons ⟨tt,rfl⟩ (.cons ru .nil),yK⟩
  ·rw[au (λz:b=T=>M8 (z▸hb))];exact (hf b hb).1
 done:=by
  walk_at"a"
  subst hP hw hK
  obtain ⟨dJ,jq⟩:=st
  obtain ⟨xs,hq,hx⟩:=hg
  obtain ⟨aK,rv,p,hz⟩:=I.tuple hq
  have hl:=(rv:)
  have D:=oW (prog:=X.prog) (w:=X.w) (A:=X.A.in1) (I.ok.hd hc) it a Uu aK.toArray
  walk_at"n"
  walk_at"O"
  have e1:aK.toArray.size=i:=by rw[Qah];lia
  rw[e1]
  exact ⟨dJ,jq,p⟩
 self:=λ_ _ s _ _ st h=>by
  obtain ⟨⟨old,he⟩,_⟩:=st
  exact wpAny_pyIter_enum he h
theorem AY{P:Program}{w:World}{k:Nat}(e it a:Addr)(Ci:e≠it)(Ut:a≠e)(Uu:a≠it):
  Turn P w K (.Tuple elts k pos) (GF K a) [e,it] e (λi h=>(∃old,IsEnum h e it i old)/\h.IsListIter it a i) where
 mem:=by simp
 obj:=λi h st b hb=>by
  obtain ⟨⟨old,he⟩,o,ho,hc,hd⟩:=st
  rcases Qaf.mp hb with z | z
  ·rw[z];exact ⟨_,he,λv z=>by cases z⟩
  ·rw[Wi.mp z];exact ⟨o,ho,λv z=>by rw[hd]at z;cases z⟩
 keep:=λi h h' st kp=>by
  obtain ⟨⟨old,he⟩,o,ho,r⟩:=st
  exact ⟨⟨old,kp e (by simp) _ he⟩,o,kp it (by simp) o ho,r⟩
 item:=by
  walk_at"a"
  subst hP hw hK
  obtain ⟨dJ,jq⟩:=st
  obtain ⟨xs,x,hq,hx⟩:=hg
  obtain ⟨aK,rv,p,hz⟩:=I.list hq
  obtain ⟨u0,hu,ru⟩:=rv.get hx
  have D:=Draws.list (prog:=X.prog) (w:=X.w) (A:=X.A.in1) (I.ok.hd hc) it a Uu aK.toArray
  walk_at"n"
  have XX:i<aK.toArray.size:=by rw[Qah];exact (OC.mp hu).1
  refine W.item i s _ _ XX ⟨dJ,jq,p.isList⟩ λT vals h' tk KP hT GA yI hk=>⟨_,rfl,?_⟩
  walk_at"C"
  obtain ⟨tt,x2,OS,rfl⟩:=KP
  have ex:x2=u0:=by
   rw[List.getElem?_toArray]at OS
   exact Qal (OS.symm.trans hu)
  subst ex
  have M8:T∉[e,it]:=W.apart i T h' yI
  have yK:h2.IsTuple T #[.int i tt,x2]:=by
   obtain ⟨o,ho,r⟩:=GA
   exact ⟨o,tG T o M8 ho,r⟩
  refine ⟨.ref T,upd H T (.tup [.int i,x]),?_,rfl,⟨T,x,λys hy=>by rw[I.ym hy hq];exact hx,rfl,I.bU.fresh hT,rfl⟩,⟨yJ.1,yJ.2.1⟩,λb hb=>?_⟩
  ·refine I.qX (t':=tk) (h':=h2) (λb o hb y=>tG b o hb (hk b o hb y)) hf hT ?_
   exact ⟨by show 2<=sizeLine;decide,[.int i tt,x2],.cons ⟨tt,rfl⟩ (.cons ru .nil),yK⟩
  ·rw[au (λz:b=T=>M8 (z▸hb))];exact (hf b hb).1
 done:=by
  walk_at"a"
  subst hP hw hK
  obtain ⟨dJ,jq⟩:=st
  obtain ⟨xs,hq,hx⟩:=hg
  obtain ⟨aK,rv,p,hz⟩:=I.list hq
  have hl:=(rv:)
  have D:=Draws.list (prog:=X.prog) (w:=X.w) (A:=X.A.in1) (I.ok.hd hc) it a Uu aK.toArray
  walk_at"n"
  walk_at"O"
  have e1:aK.toArray.size=i:=by rw[Qah];lia
  rw[e1]
  exact ⟨dJ,jq,p.isList⟩
 self:=λ_ _ s _ _ st h=>by
  obtain ⟨⟨old,he⟩,_⟩:=st
  exact wpAny_pyIter_enum he h
def OT(K:c8)(ta:TA):TI:=λσ H R=>ta σ H λvs H1=>∃a,vs=[.ref a]/\(∃xs,di K H1 a xs)/\R (GD K a) H1
def OU(K:c8)(ta:TA):TI:=λσ H R=>ta σ H λvs H1=>∃a,vs=[.ref a]/\(∃xs,bL K H1 a xs)/\R (GF K a) H1
theorem yM(K:c8)(hK:X.K=K){k:Nat}(hg:Gl X "enumerate")(hm:X.mg "enumerate"=none)(ha:PA X [a] ta)(hs:starEach [a] X.env=[(false,eval a X.env)]:=by rfl):PI X (.Tuple elts k pos') (.Call (.Name "enumerate" p) [a] [] pos) (OT K ta):=by
 subst hK
 walk_at"W"
 walk_at"l"
 obtain ⟨b,rfl,⟨xs,hq⟩,q⟩:=q1
 obtain ⟨u,rfl,ru⟩:=vals1 r1
 cases ru
 obtain ⟨aK,rv,pl,hz⟩:=I1.tuple hq
 obtain ⟨ob,eb,_⟩:=id pl
 have cU:b<s1.heap.objs.size:=Qax eb
 refine AW pl λh' he hit hk=>wpAny_pyIter_enum he ?_
 refine ⟨s1.heap.objs.size+1,[s1.heap.objs.size+1,s1.heap.objs.size],_,_,H1,rfl,I1.kept (t':=s1.toks) hk,AX _ _ b (Qfi _) (Qa1 (Qc6 cU)) (Qa1 cU),⟨⟨_,he⟩,hit⟩,λc hb=>?_,q⟩
 have AU:s1.heap.objs.size<=c:=by
  rcases Qaf.mp hb with z | z
  ·rw[z];exact Qdk _
  ·rw[Wi.mp z];exact Qaa _
 exact I1.tM AU (I1.bU.fresh AU)
theorem GG(K:c8)(hK:X.K=K){k:Nat}(hg:Gl X "enumerate")(hm:X.mg "enumerate"=none)(ha:PA X [a] ta)(hs:starEach [a] X.env=[(false,eval a X.env)]:=by rfl):PI X (.Tuple elts k pos') (.Call (.Name "enumerate" p) [a] [] pos) (OU K ta):=by
 subst hK
 walk_at"W"
 walk_at"l"
 obtain ⟨b,rfl,⟨xs,hq⟩,q⟩:=q1
 obtain ⟨u,rfl,ru⟩:=vals1 r1
 cases ru
 obtain ⟨aK,rv,pl,hz⟩:=I1.list hq
 obtain ⟨ob,eb,_⟩:=id pl.isList
 have cU:b<s1.heap.objs.size:=Qax eb
 refine call_enumerate_list pl.isList λh' he hit hsz hk=>wpAny_pyIter_enum he ?_
 refine ⟨s1.heap.objs.size+1,[s1.heap.objs.size+1,s1.heap.objs.size],_,_,H1,rfl,I1.kept (t':=s1.toks) hk,AY _ _ b (Qfi _) (Qa1 (Qc6 cU)) (Qa1 cU),⟨⟨_,he⟩,hit⟩,λc hb=>?_,q⟩
 have AU:s1.heap.objs.size<=c:=by
  rcases Qaf.mp hb with z | z
  ·rw[z];exact Qdk _
  ·rw[Wi.mp z];exact Qaa _
 exact I1.tM AU (I1.bU.fresh AU)
theorem u9{a:Addr}(Pv:Nat->St->Hp->Prop)(h0:Pv 0 σ H)(hl:∀i σ H,i<=(xs:)->Pv i σ H->di K H a xs)
  (hs:∀i x σ H T,xs[i]? =some x->Pv i σ H->H T=none->g (.ref T) σ (upd H T (.tup [.int i,x])) λσ2 H2=>tb { D with nx:=Pv (i+1),ct:=Pv (i+1),bk:=D.nx } σ2 H2) (hd:∀σ H,Pv (xs:) σ H->D.nx σ H):
  ∃W:Nat->Nat->St->Hp->Prop,(∃m,W 0 m σ H)/\∀i m σ H,W i m σ H->
   ((GD K a).stop i H/\D.nx σ H)\/((GD K a).go i H/\∃N:St->Hp->Prop,(∀σ' H',N σ' H'->∃m',m'<m/\W (i+1) m' σ' H')/\∀x H',(GD K a).FR i H x H'->g x σ H' λσ2 H2=>tb { D with nx:=N,ct:=N,bk:=D.nx } σ2 H2):=by
 walk_at"h"
 rintro i m σ H ⟨rfl,hi,p⟩
 have hq:=hl i σ H hi p
 by_cases cU:i<(xs:)
 ·refine .inr ⟨⟨xs,xs[i],hq,by simp[cU]⟩,Pv (i+1),λσ' H' p'=>⟨(xs:) - (i+1),(),rfl,cU,p'⟩,λx H' y=>?_⟩
  obtain ⟨T,z,hz,rfl,hn,rfl⟩:=y
  exact hs i z σ _ T (hz xs hq) p hn
 ·have e:i=(xs:):=by lia
  subst e
  exact .inl ⟨⟨xs,hq,rfl⟩,hd σ H p⟩
theorem D7{a:Addr}(Pv:Nat->St->Hp->Prop)(h0:Pv 0 σ H)(hl:∀i σ H,i<=(xs:)->Pv i σ H->bL K H a xs)
  (hs:∀i x σ H T,xs[i]? =some x->Pv i σ H->H T=none->g (.ref T) σ (upd H T (.tup [.int i,x])) λσ2 H2=>tb { D with nx:=Pv (i+1),ct:=Pv (i+1),bk:=D.nx } σ2 H2) (hd:∀σ H,Pv (xs:) σ H->D.nx σ H):
  ∃W:Nat->Nat->St->Hp->Prop,(∃m,W 0 m σ H)/\∀i m σ H,W i m σ H->
   ((GF K a).stop i H/\D.nx σ H)\/((GF K a).go i H/\∃N:St->Hp->Prop,(∀σ' H',N σ' H'->∃m',m'<m/\W (i+1) m' σ' H')/\∀x H',(GF K a).FR i H x H'->g x σ H' λσ2 H2=>tb { D with nx:=N,ct:=N,bk:=D.nx } σ2 H2):=by
 walk_at"h"
 rintro i m σ H ⟨rfl,hi,p⟩
 have hq:=hl i σ H hi p
 by_cases cU:i<(xs:)
 ·refine .inr ⟨⟨xs,xs[i],hq,by simp[cU]⟩,Pv (i+1),λσ' H' p'=>⟨(xs:) - (i+1),(),rfl,cU,p'⟩,λx H' y=>?_⟩
  obtain ⟨T,z,hz,rfl,hn,rfl⟩:=y
  exact hs i z σ _ T (hz xs hq) p hn
 ·have e:i=(xs:):=by lia
  subst e
  exact .inl ⟨⟨xs,hq,rfl⟩,hd σ H p⟩
section
variable{X:Cx}
def OV(K:c8):List V->Hp->VK->Prop:=λxs H Q=>∃p ys,xs=[.ref p]/\((bL K H p ys/\∀l,H l=none->Q (.ref l) (upd H l (.tup ys)))\/(di K H p ys/\Q (.ref p) H))
theorem gh(K:c8)(h:X.K=K):dS X (.type "tuple") (OV K):=by subst h;exact tQ
end
theorem qY{a:Addr}{Q:VK}(Pv:Nat->List V->Hp->Prop)(hn:(xs:)<sizeLine)(hl:∀i acc H,Pv i acc H->di K H a xs)(h0:Pv 0 [] H1)
  (hs:∀(i:Nat) (x:V) (acc:List V) (H:Hp) (Nx:List V->Hp->Prop),i<(xs:)->xs[i]? =some x->(acc:)<=i->Pv i acc H->(∀eW H',(eW:)<=i+1->Pv (i+1) eW H'->Nx eW H')->
   g x σc H λσ2 H2=>Wk σc σ2/\tc σ2 H2 λb H3=>if b=true then te σ2 H3 λv H4=>Nx (acc++[v]) H4 else Nx acc H3)
  (hd:∀acc H D,(acc:)<=(xs:)->Pv (xs:) acc H->H D=none->Q (.ref D) (upd H D (.lst acc))):uS (Xr K a) σc g tc te Q H1:=
 qa (xs:=λi x=>xs[i]? =some x) Pv hn (λi acc H h p=>⟨xs,xs[i],hl i acc H p,by simp[h]⟩) (λacc H p=>⟨xs,hl _ acc H p,Qaa _⟩) (λi acc H x H' h p y=>⟨y.1,y.2 xs (hl i acc H p)⟩) h0 hs hd
def fL(H H':Hp):Prop:=∀c xs,H c=some (.tup xs)->H' c=some (.tup xs)
theorem fL.trans{H2:Hp}(a:fL H H1)(b:fL H1 H2):fL H H2:=λc xs h=>b c xs (a c xs h)
theorem fL.of{H':Hp}(s:az H H'):fL H H':=λc xs h=>s c _ h
theorem fL.KS{p:Addr}{ys:List V}{o:HO}(h:H p=some (.lst ys)):fL H (upd H p o):=λc xs e=>by
 rw[au (λz=>by rw[z,h]at e;cases e)];exact e
section
variable{prog:Program}{w:World}{A:Around}{E:Value->Shared->Prop}{s:Shared}
noncomputable def bT:List Int->List Int->Bool
 | [],[]=>false
 | [],_::_=>true
 | _::_,[]=>false
 | a::r,b::t=>if a=b then bT r t else decide (a<b)
end
end L2
namespace HT
open PySem PySem.Spec PyProof.Rows
end HT
namespace L2
open PySem PySem.Spec PyProof.Rows
variable{o:Option V}{y:V}{u:Value}
section
variable{κ:Type}[DecidableEq κ]
noncomputable def dF(aI:List (κ×V))(k:κ):Option V:=(aI.find? λkv=>decide (kv.1=k)).map (·.2)
noncomputable def putK(aI:List (κ×V))(k:κ)(v:V):List (κ×V):=
 if (aI.any λkv=>decide (kv.1=k))=true then aI.map (λkv=>if kv.1=k then (kv.1,v) else kv) else aI++[(k,v)]
theorem cV{p:κ×V}{r:List (κ×V)}{k:κ}(e:p.1=k):dF (p::r) k=some p.2:=by simp[dF,Qdh,e]
theorem cK{p:κ×V}{r:List (κ×V)}{k:κ}(e: ¬p.1=k):dF (p::r) k=dF r k:=by simp[dF,Qdh,e]
theorem jz(k:κ):∀aI:List (κ×V),(aI.any λkv=>decide (kv.1=k))=(dF aI k).isSome
 | []=>rfl
 | p::r=>by
  rw[Qer]
  by_cases e:p.1=k
  ·simp only[cV e,decide_eq_true e,Bool.true_or,Option.isSome_some]
  ·rw[cK e,decide_eq_false e,Qgg];exact jz k r
theorem yN(k j:κ)(y:V):∀aI:List (κ×V),dF (aI.map λkv=>if kv.1=k then (kv.1,y) else kv) j=(dF aI j).map λx=>if j=k then y else x
 | []=>rfl
 | p::r=>by
  have ih:=yN k j y r
  rw[Qa3]
  by_cases h:p.1=k
  ·rw[if_pos h]
   by_cases e:p.1=j
   ·rw[cV (p:=(p.1,y)) e,cV e,Qfx,if_pos (e.symm.trans h)]
   ·rw[cK (p:=(p.1,y)) e,cK e,ih]
  ·rw[if_neg h]
   by_cases e:p.1=j
   ·rw[cV (p:=p) e,cV e,Qfx,if_neg (λz=>h (e.trans z))]
   ·rw[cK (p:=p) e,cK e,ih]
theorem u_(k j:κ)(y:V):∀aI:List (κ×V),dF aI k=none->dF (aI++[(k,y)]) j=if j=k then some y else dF aI j
 | [],_=>by
  by_cases e:k=j
  ·rw[if_pos e.symm];exact cV (p:=(k,y)) e
  ·rw[if_neg (λz=>e z.symm)];exact cK (p:=(k,y)) e
 | p::r,hn=>by
  rw[Qda]
  have hk: ¬p.1=k:=λz=>by rw[cV z]at hn;cases hn
  rw[cK hk]at hn
  have ih:=u_ k j y r hn
  by_cases e:p.1=j
  ·rw[cV e,cV e,if_neg (λz=>hk (e.trans z))]
  ·rw[cK e,cK e,ih]
theorem GH(aI:List (κ×V))(k j:κ)(y:V):dF (putK aI k y) j=if j=k then some y else dF aI j:=by
 unfold putK
 by_cases a:(aI.any λkv=>decide (kv.1=k))=true
 ·rw[if_pos a,yN]
  rw[jz]at a
  by_cases e:j=k
  ·obtain ⟨x,hx⟩:=Option.isSome_iff_exists.mp a
   rw[if_pos e,e,hx,Qfx,if_pos rfl]
  ·rw[if_neg e]
   cases dF aI j with
   | none=>rfl
   | some x=>rw[Qfx,if_neg e]
 ·rw[if_neg a]
  refine u_ k j y aI ?_
  rw[jz]at a
  cases q:dF aI k with
  | none=>rfl
  | some x=>rw[q]at a;exact (a rfl).elim
theorem gH(aI:List (κ×V))(k:κ)(v:V):(putK aI k v:)<=(aI:)+1:=by
 unfold putK
 split
 ·rw[Wh];lia
 ·rw[T6,Qba,Qf0];lia
theorem yO{aI:List (κ×V)}{k:κ}(v:V)(h:dF aI k=none):putK aI k v=aI++[(k,v)]:=by
 unfold putK
 rw[jz,h]
 exact if_neg ∅
theorem nF.D8{u:Option Value}(r:nF o u):o.isSome=u.isSome:=by
 cases o with
 | none=>cases u with
  | none=>rfl
  | some _=>exact (show False from r).elim
 | some _=>cases u with
  | none=>exact (show False from r).elim
  | some _=>rfl
theorem KV.val{aI:List (κ×V)}{vs:List (κ×Value)}(r:KV aI vs)(k:κ):nF (dF aI k) (valueAt vs k):=by
 unfold KV at r
 induction r with
 | nil=>exact True.intro
 | @cons p q ps qs h t ih=>
  obtain ⟨h1,h2⟩:=h
  by_cases e:p.1=k
  ·have e':q.1=k:=h1.symm.trans e
   have b:valueAt (q::qs) k=some q.2:=by simp[valueAt,Qdh,e']
   rw[cV e,b];exact h2
  ·have e': ¬q.1=k:=λz=>e (h1.trans z)
   have b:valueAt (q::qs) k=valueAt qs k:=by simp[valueAt,Qdh,e']
   rw[cK e,b];exact ih
theorem KV.any{aI:List (κ×V)}{vs:List (κ×Value)}(r:KV aI vs)(k:κ):(aI.any λkv=>decide (kv.1=k))=vs.any λkv=>decide (kv.1=k):=by
 unfold KV at r
 induction r with
 | nil=>rfl
 | cons h t ih=>rw[Qer,Qer,ih,h.1]
theorem KV.OW{aI:List (κ×V)}{vs:List (κ×Value)}(r:KV aI vs)(k:κ)(ry:RelV y u):
  KV (aI.map λkv=>if kv.1=k then (kv.1,y) else kv) (vs.map λkv=>if kv.1=k then (kv.1,u) else kv):=by
 unfold KV at r ⊢
 induction r with
 | nil=>exact .nil
 | @cons p q ps qs h t ih=>
  rw[Qa3,Qa3]
  refine .cons ?_ ih
  obtain ⟨h1,h2⟩:=h
  by_cases e:p.1=k
  ·rw[if_pos e,if_pos (h1.symm.trans e)];exact ⟨h1,ry⟩
  ·rw[if_neg e,if_neg (λz=>e (h1.trans z))];exact ⟨h1,h2⟩
theorem KV.put{aI:List (κ×V)}{vs:List (κ×Value)}(r:KV aI vs)(k:κ)(ry:RelV y u):KV (putK aI k y) (stored vs k u):=by
 unfold putK stored
 rw[r.any k]
 by_cases e:(vs.any λkv=>decide (kv.1=k))=true
 ·rw[if_pos e,if_pos e];exact r.OW k ry
 ·rw[if_neg e,if_neg e];exact Paired.snoc r ⟨rfl,ry⟩
theorem KV.length{aI:List (κ×V)}{vs:List (κ×Value)}(r:KV aI vs):(aI:)=(vs:):=Paired.length r
end
theorem GI{P:Program}{w:World}{k:Key}(r:RelV (kV k) u):(cM P w).is k u=true:=by
 cases k with
 | inl i=>obtain ⟨t,e⟩:=(show ∃t,u=Value.int i t from r);subst e;exact yj P w i t
 | inr x=>obtain ⟨t,e⟩:=(show ∃t,u=Value.str x t from r);subst e;exact yk P w x t
theorem va{P:Program}{w:World}:∀{ks:List Key} {us:List Value},Vals (ks.map kV) us->ItemsAre (cM P w) ks us
 | [],_,r=>by rw[List.map_nil]at r;cases r;exact .nil
 | k::ks,_,r=>by
  rw[Qa3]at r
  cases r with
  | cons h t=>exact .cons (GI h) (va t)
abbrev KT(H:Hp):List (List Key×V)->List (List Key×Addr×Value)->Prop:=Paired λp q=>p.1=q.1/\H q.2.1=some (.tup (p.1.map kV))/\RelV p.2 q.2.2
variable{H:Hp}{aI:List (List Key×V)}{xs:List (List Key×Addr×Value)}
theorem KT.val(r:KT H aI xs)(k:List Key):nF (dF aI k) ((atKey xs k).map (·.2)):=by
 induction r with
 | nil=>exact True.intro
 | @cons p q ps qs h t ih=>
  obtain ⟨h1,_,h2⟩:=h
  by_cases e:p.1=k
  ·have e':q.1=k:=h1.symm.trans e
   have b:atKey (q::qs) k=some q.2:=by simp[atKey,Qdh,e']
   rw[cV e,b];exact h2
  ·have e': ¬q.1=k:=λz=>e (h1.trans z)
   have b:atKey (q::qs) k=atKey qs k:=by simp[atKey,Qdh,e']
   rw[cK e,b];exact ih
theorem KT.OW(r:KT H aI xs)(k:List Key)(ry:RelV y u):
  KT H (aI.map λkv=>if kv.1=k then (kv.1,y) else kv) (xs.map (putAt k u)):=by
 induction r with
 | nil=>exact .nil
 | @cons p q ps qs h t ih=>
  rw[Qa3,Qa3]
  refine .cons ?_ ih
  obtain ⟨h1,h2,h3⟩:=h
  unfold putAt
  by_cases e:p.1=k
  ·rw[if_pos e,if_pos (h1.symm.trans e)];exact ⟨h1,h2,ry⟩
  ·rw[if_neg e,if_neg (λz=>e (h1.trans z))];exact ⟨h1,h2,h3⟩
variable{b:Addr}
theorem KT.put(r:KT H aI xs)(k:List Key)(hb:H b=some (.tup (k.map kV)))(ry:RelV y u):
  KT H (putK aI k y) (storedH xs k b u):=by
 have e:(aI.any λkv=>decide (kv.1=k))=(atKey xs k).isSome:=by
  rw[jz,(r.val k).D8,Option.isSome_map]
 unfold putK storedH
 rw[e]
 by_cases q:(atKey xs k).isSome=true
 ·rw[if_pos q,if_pos q];exact r.OW k ry
 ·rw[if_neg q,if_neg q];exact Paired.snoc r ⟨rfl,hb,ry⟩
variable{H':Hp}
theorem KT.keeps(r:KT H aI xs)(ht:∀b ys,H b=some (.tup ys)->H' b=some (.tup ys)):KT H' aI xs:=
 Paired.N1 r λ_ _ z=>⟨z.1,ht _ _ z.2.1,z.2.2⟩
section
variable{P:Program}{w:World}{H:Hp}{h:Heap}{a:Addr}
theorem M_{u:HO}(ok:lO P w H h)(e:Rd H a u):cC P w H h a u:=e.ok ok
theorem GJ{aI:List (Key×V)}(ok:lO P w H h)(e:Rd H a (.dK aI)):(aI:)<=sizeLine/\(a==sysModules)=false/\∃vs,KV aI vs/\h.DictOf (cM P w) a vs:=
 show cC P w H h a (.dK aI) from M_ ok e
theorem Uv{aI:List (Key×V)}(ok:lO P w H h)(e:H a=some (.dK aI)):(aI:)<=sizeLine/\(a==sysModules)=false/\∃vs,KV aI vs/\h.DictOf (cM P w) a vs:=GJ ok (.inl e)
theorem AZ{ks:List Key}(ok:lO P w H h)(e:H a=some (.tup (ks.map kV))):(tupleKind (cM P w)).is h ks a:=by
 obtain ⟨_,aK,r,o,h1,h2,n,h3⟩:=(show cC P w H h a (.tup (ks.map kV)) from ok a _ e)
 exact ⟨o,aK.toArray,n,h1,h2,h3,by simpa using va r⟩
theorem GK(ok:lO P w H h)(e:Rd H a (.dT aI)):(aI:)<=sizeLine/\(a==sysModules)=false/\
  ∃xs,KT H aI xs/\h.DictOfH (tupleKind (cM P w)) a xs:=by
 obtain ⟨z,y,xs,r,o,es,ep,h1,h2,h3,h4,h5⟩:=(show cC P w H h a (.dT aI) from M_ ok e)
 refine ⟨z,y,xs,r,o,es,ep,h1,h2,h3,h4,λx hx=>?_,h5⟩
 have all:∀{l:List (List Key×V)} {m:List (List Key×Addr×Value)},KT H l m->∀x∈m,(tupleKind (cM P w)).is h x.1 x.2.1:=by
  intro l m q
  induction q with
  | nil=>intro x hx;exact nomatch hx
  | @cons p q ps qs hq t ih=>
   intro x hx
   rcases Qaf.mp hx with e | hx
   ·subst e
    exact AZ ok (by rw[<-hq.1];exact hq.2.1)
   ·exact ih x hx
 exact all r x hx
theorem Uw(ok:lO P w H h)(e:H a=some (.dT aI)):(aI:)<=sizeLine/\(a==sysModules)=false/\
  ∃xs,KT H aI xs/\h.DictOfH (tupleKind (cM P w)) a xs:=GK ok (.inl e)
end
def qZ(H:Hp)(a:Addr)(y:V)(r:Option V):Prop:=
 (∃aI k,Rd H a (.dK aI)/\y=kV k/\r=dF aI k)\/∃aI k b,Rd H a (.dT aI)/\y= .ref b/\H b=some (.tup (k.map kV))/\r=dF aI k
def pH(H:Hp)(a:Addr)(y v:V)(H':Hp):Prop:=
 (∃aI k,H a=some (.dK aI)/\y=kV k/\(aI:)<sizeLine/\H'=upd H a (.dK (putK aI k v)))\/
 ∃aI k b,H a=some (.dT aI)/\y= .ref b/\H b=some (.tup (k.map kV))/\(aI:)<sizeLine/\H'=upd H a (.dT (putK aI k v))
theorem qZ.k{H:Hp}{a:Addr}{aI:List (Key×V)}{k:Key}(e:H a=some (.dK aI)):qZ H a (kV k) (dF aI k):= .inl ⟨aI,k,.inl e,rfl,rfl⟩
variable{a:Addr}
theorem qZ.t{k:List Key}(e:H a=some (.dT aI))(eb:H b=some (.tup (k.map kV))):qZ H a (.ref b) (dF aI k):= .inr ⟨aI,k,b,.inl e,rfl,eb,rfl⟩
theorem pH.k{H:Hp}{a:Addr}{aI:List (Key×V)}{k:Key}{v:V}(e:H a=some (.dK aI))(hl:(aI:)<sizeLine):pH H a (kV k) v (upd H a (.dK (putK aI k v))):= .inl ⟨aI,k,e,rfl,hl,rfl⟩
theorem pH.t{k:List Key}{v:V}(e:H a=some (.dT aI))(eb:H b=some (.tup (k.map kV)))(hl:(aI:)<sizeLine):
  pH H a (.ref b) v (upd H a (.dT (putK aI k v))):= .inr ⟨aI,k,b,e,rfl,eb,hl,rfl⟩
variable{Q:Value->Shared->Prop}{h':Heap}
section
variable{X:Cx}{pins:List (Addr×Obj)}{σ:St}{H:Hp}{s:Shared}{a:Addr}{y v:V}{u r:Value}{o:Option V}{A:Around}{E:Value->Shared->Prop}
theorem Inv.big(I:Inv X pins σ H s):sysModules<s.heap.objs.size:=by
 have h:mainGlobals<s.heap.objs.size:=(I.mod.glob.keeps I.bk).lt
 exact Qd6 ∅ h
theorem D9(hu:A.units+1<cLine)(I:Inv X pins σ H s)(g:qZ H a y (some v))(ry:RelV y u)(h:∀w' s',Inv X pins σ H s'->RelV v w'->Q w' s'):
  wpAny (model X.prog X.w) A (getItem (.ref a) u) Q E s:=by
 rcases g with ⟨aI,k,e,ey,l⟩ | ⟨aI,k,b,e,ey,eb,l⟩
 ·subst ey
  obtain ⟨z,hd,vs,rel,dd⟩:=GJ I.bU e
  obtain ⟨w',hw,wb⟩:=nF.some_of (v:=v) (o:=valueAt vs k) (by rw[l];exact rel.val k)
  exact wpAny_getItem_of (GI ry) dd.mapOf hw (h w' _ (I.tok _) wb)
 ·subst ey
  cases (show u=Value.ref b from ry)
  obtain ⟨z,hd,xs,rel,dd⟩:=GK I.bU e
  obtain ⟨w',hw,wb⟩:=nF.some_of (v:=v) (o:=(atKey xs k).map (·.2)) (by rw[l];exact rel.val k)
  obtain ⟨p,hp,wL⟩:=Option.map_eq_some_iff.mp hw
  refine wpAny_getItem_heap (tupleKind_room_in1 hu) (AZ I.bU eb) dd hp ?_
  rw[wL]
  exact h w' _ (I.tok _) wb
theorem Cj{t':Nat}{ob:HO}(I:Inv X pins σ H s)(mu:Te (H a))(hs:Heap.SameBut a s.heap h')(he:∃q,h'.get? a=some q)(new:cC X.prog X.w (upd H a ob) h' a ob):
  Inv X pins σ (upd H a ob) { s with heap:=h',toks:=t' }:=
 I.write (x:=a) (e:=a) mu (.inl rfl) (λb q hb z=>(hs.2 b hb).trans z) he new
theorem OX{P:Program}{w:World}{aI:List (Key×V)}{vs:List (Key×Value)}(z:(aI:)<=sizeLine)(hd:(a==sysModules)=false)(rel:KV aI vs)(dd:h'.DictOf (cM P w) a vs):
  cC P w H' h' a (.dK aI):=⟨z,hd,vs,rel,dd⟩
theorem D_{Q:Unit->Shared->Prop}(hu:A.units+1<cLine)(I:Inv X pins σ H s)(g:pH H a y v H')(ry:RelV y u)(rv:RelV v r)(h:∀s',Inv X pins σ H' s'->Q Unit.unit s'):
  wpAny (model X.prog X.w) A (setItem (.ref a) u r) Q E s:=by
 rcases g with ⟨aI,k,e,ey,l,eH⟩ | ⟨aI,k,b,e,ey,eb,l,eH⟩
 ·subst ey eH
  obtain ⟨z,hd,vs,rel,dd⟩:=Uv I.bU e
  have hz:(vs:)<=sizeLine:=by rw[<-(rel:)];exact z
  have hl:(putK aI k v:)<=sizeLine:=by have:=gH aI k v;lia
  refine wpAny_setItem_pairs (hsz:=hz) (GI ry) dd λh' Wl hs=>h _ ?_
  have he:∃q,h'.get? a=some q:=let ⟨q,_,_,hq,_⟩:=Wl;⟨q,hq⟩
  exact Cj I (by rw[e];exact True.intro) hs he (OX hl hd (rel.put k rv) Wl)
 ·subst ey eH
  cases (show u=Value.ref b from ry)
  obtain ⟨z,hd,xs,rel,dd⟩:=Uw I.bU e
  have hz:(xs:)<=sizeLine:=by rw[<-Paired.length rel];exact z
  have hl:(putK aI k v:)<=sizeLine:=by have:=gH aI k v;lia
  refine wpAny_setItem_heap (hsz:=hz) (tupleKind_room_in1 hu) (AZ I.bU eb) dd λh' Wl hs=>h _ ?_
  obtain ⟨q,es,ep,hq,h2,h3,h4,_,h5⟩:=Wl
  refine Cj I (by rw[e];exact True.intro) hs ⟨q,hq⟩ ⟨hl,hd,_,(rel.put k eb rv).keeps λc ys ec=>?_,q,es,ep,hq,h2,h3,h4,h5⟩
  rw[au (Td ec e (λz=>nomatch z))]
  exact ec
end
def Ux(i:Expr):Prop:=∀ov iv,subscripted i false ov iv=operate [ov,iv] (getItem ov iv)
variable{s:Shared}
theorem KU{prog:Program}{w:World}{A:Around}{E:Value->Shared->Prop}{env:Env}{value slice:Expr}{pos:Pos}{T id:String}
  (hl:typeLookup (.type T) "__getitem__"=pure (some (.builtin id))) (hs:Ux slice)
  (h:wpAny (model prog w) A (eval value env) (λo s₁=>wpAny (model prog w) A (eval slice env) (λi s₂=>s₂.TypeIs o T/\wpAny (model prog w) A (getItem o i) Q E s₂) E s₁) E s):
  wpAny (model prog w) A (eval (.Subscript value slice pos) env) Q E s:=by
 refine Subscript_ (wpAny_mono h (λo s₁ h₁=>wpAny_mono h₁ (λi s₂ h₂=>?_) λ_ _ x=>x) λ_ _ x=>x)
 obtain ⟨hT,h₂⟩:=h₂
 unfold subscriptTail
 refine wpAny_bind ?_
 rw[getitemInPython_of_ne hT.not_modules]
 refine wpAny_bind (wpAny_specialOf hT hl ?_)
 have fin:wpAny (model prog w) A (subscripted slice false o i) (λr s₃=>wpAny (model prog w) A (letTemporaryGo value o r >>= λ_=>pure r) Q E s₃) E s₂:=by
  rw[hs o i]
  exact wpAny_operating (wpAny_mono h₂ (λr s₃ h₃=>wpAny_bind (wpAny_letTemporaryGo (wpAny_pure h₃))) λ_ _ x=>x)
 first
  | exact wpAny_pure (wpAny_bind fin)
  | exact wpAny_bind (wpAny_pure (wpAny_bind fin))
  | exact wpAny_bind fin
theorem yP{X:Cx}{pins:List (Addr×Obj)}{σ:St}(I:Inv X pins σ H s)(g:qZ H a y o):s.TypeIs (.ref a) "dict":=by
 rcases g with ⟨aI,k,e,_,_⟩ | ⟨aI,k,b,e,_,_,_⟩
 ·obtain ⟨_,_,vs,_,dd⟩:=GJ I.bU e
  exact dd.typeIs
 ·obtain ⟨_,_,xs,_,dd⟩:=GK I.bU e
  exact dd.typeIs
def Uy(td ty:TE):TE:=λσ H Q=>td σ H λx H1=>ty σ H1 λy H2=>∃a v,x= .ref a/\qZ H2 a y (some v)/\Q v H2
def Uz(td ty tv:TE):TS:=λD σ H=>tv σ H λv H1=>td σ H1 λx H2=>ty σ H2 λy H3=>∃a H4,x= .ref a/\pH H3 a y v H4/\D.nx σ H4
section
variable{X:Cx}{o i e value:Expr}{pos pos' TN:Pos}{td ty tv:TE}
theorem qc(hu:X.A.units+1<cLine)(ho:PE X o td)(hi:PE X i ty)(hs:Ux i):PE X (.Subscript o i pos) (Uy td ty):=by
 walk_at"f"
 refine KU PySem.F.slot_dict_getitem.lookup hs (cD (ho pins s σ H _ I h) λu s1 ⟨x,H1,I1,rx,q1⟩=>cD (hi pins s1 σ H1 _ I1 q1) λiv s2 ⟨y,H2,I2,ry,a,v,ex,g,q2⟩=>?_)
 subst ex
 obtain rfl:u=Value.ref a:=rx
 exact ⟨yP I2 g,D9 hu I2 g ry λw' s3 I3 wb=>⟨v,H2,I3,wb,q2⟩⟩
theorem kj(hu:X.A.units+1<cLine)(ho:PE X o td)(hi:PE X i ty)(hv:PE X value tv)(hs:swapsWith value (some (.Subscript o i pos')) pos.line X.env=pure false):
  PS X (.Assign [.Subscript o i pos'] value pos) (Uz td ty tv):=by
 walk_at"r"
 refine wpAny_Assign_Subscript (cD (hv pins s σ H _ I h) λr s1 ⟨v,H1,I1,rv,q1⟩=>cD (ho pins s1 σ H1 _ I1 q1) λu s2 ⟨x,H2,I2,rx,q2⟩=>cD (hi pins s2 σ H2 _ I2 q2) λiv s3 ⟨y,H3,I3,ry,a,H4,ex,g,q3⟩=>?_) hs
 subst ex
 obtain rfl:u=Value.ref a:=rx
 exact D_ hu I3 g ry rv λs4 I4=>⟨σ,H4,I4,q3⟩
end
theorem GL{P:Program}{w:World}(h:Heap)(hb:sysModules<h.objs.size):cC P w H (h.push { cls:= .type "dict",data:= .dict #[] }) h.objs.size (.dK []):=
 ⟨Qau _,beq_eq_false_iff_ne.mpr (Ne.symm (Qa1 hb)),[],.nil,Heap.DictOf.new h⟩
theorem GN{P:Program}{w:World}(h:Heap)(hb:sysModules<h.objs.size):cC P w H (h.push { cls:= .type "dict",data:= .dict #[] }) h.objs.size (.dT []):=
 ⟨Qau _,beq_eq_false_iff_ne.mpr (Ne.symm (Qa1 hb)),[],.nil,_, #[],0,Qav _ rfl,⟨rfl,rfl,rfl⟩,rfl,rfl,Qds⟩
def OY:TE:=λ_ H Q=>∀p,H p=none->Q (.ref p) (upd H p (.dK []))
def OZ:TE:=λ_ H Q=>∀p,H p=none->Q (.ref p) (upd H p (.dT []))
section
variable{X:Cx}{pos:Pos}
theorem yQ:PE X (.Dict [] [] pos) OY:=λpins s σ H Q I h=>
 wpAny_Dict_empty ⟨.ref s.heap.objs.size,_,I.laid (a:=s.heap.objs.size) (o:= .dK []) (t':=s.toks) (λ_ _ q=>kb _ q) (Qaa _) (GL s.heap I.big),rfl,h _ (I.bU.fresh (Qaa _))⟩
theorem GO:PE X (.Dict [] [] pos) OZ:=λpins s σ H Q I h=>
 wpAny_Dict_empty ⟨.ref s.heap.objs.size,_,I.laid (a:=s.heap.objs.size) (o:= .dT []) (t':=s.toks) (λ_ _ q=>kb _ q) (Qaa _) (GN s.heap I.big),rfl,h _ (I.bU.fresh (Qaa _))⟩
end
end L2
namespace L2.F2
open PySem PySem.Spec PyProof.Rows
end L2.F2
namespace L2
open PySem PySem.Spec PyProof.Rows
noncomputable def JY(a b c d:Int):Bool:=if a=c then decide (b<d) else decide (a<c)
variable{a b:Int}
section
variable{prog:Program}{w:World}{A:Around}{E:Value->Shared->Prop}{s:Shared}
theorem KW{p q:Addr}{ox oy:Obj}{mx my:Nat}{c d:Int}{t1 t2 t3 t4:Tok}{P:PySem.Fin->Shared->Prop}(RK:s.heap.get? p=some ox)(UA:ox.data= .seq #[.int a t1,.int b t2] mx)
  (UB:s.heap.get? q=some oy) (RL:oy.cls= .type "tuple") (XY:oy.data= .seq #[.int c t3,.int d t4] my) (h:P (.done (.ret (.bool (JY a b c d)))) s):
  wpAny (model prog w) A (Builtin.«tuple.__lt__» ⟨[.ref p,.ref q],[]⟩) P E s:=by
 have hT:s.TypeIs (.ref q) "tuple":=⟨oy,UB,RL⟩
 show wpAny _ _ (isInstance (.ref q) (.type "tuple") >>= λb=>_) _ _ s
 refine wpAny_bind (wpAny_isInstance (b:=true) hT isSubtype_tuple_tuple ?_)
 simp only[Qgf,Qck,if_false]
 refine wpAny_bind (wpAny_tupleItemsOf RK UA ?_)
 refine wpAny_bind (wpAny_tupleItemsOf UB XY ?_)
 refine wpAny_bind ?_
 show wpAny _ _ (forIn [(Value.int a t1,Value.int c t3),(Value.int b t2,Value.int d t4)] _ _) _ _ _
 rw[Qev]
 refine wpAny_bind (wpAny_bind (wpAny_eqBool_int ?_))
 unfold JY at h
 by_cases e:a=c
 ·rw[if_pos e]at h
  rw[show (a==c)=true by simp[e]]
  simp only[Qgf,Qck,if_false]
  refine wpAny_pure ?_
  dsimp only
  rw[Qev]
  refine wpAny_bind (wpAny_bind (wpAny_eqBool_int ?_))
  by_cases e2:b=d
  ·rw[show (b==d)=true by simp[e2]]
   simp only[Qgf,Qck,if_false]
   refine wpAny_pure ?_
   dsimp only
   rw[List.forIn_nil]
   refine wpAny_pure ?_
   dsimp only
   refine wpAny_pure ?_
   rw[decide_eq_false ()]at h
   exact h
  ·rw[show (b==d)=false by simp[e2]]
   simp only[Bool.not_false,if_true]
   walk_at"L"
   refine wpAny_bind (lt_int ?_)
   walk_at"v"
   refine wpAny_pure ?_
   dsimp only
   refine wpAny_pure ?_
   dsimp only
   exact wpAny_pure h
 ·rw[if_neg e]at h
  rw[show (a==c)=false by simp[e]]
  simp only[Bool.not_false,if_true]
  walk_at"L"
  refine wpAny_bind (lt_int ?_)
  walk_at"v"
  refine wpAny_pure ?_
  dsimp only
  refine wpAny_pure ?_
  dsimp only
  exact wpAny_pure h
end
section
variable{X:Cx}
inductive GP(K:c8)(x:V)(y:V)(H:Hp)(Q:VK):Prop
 | mk (p:_) (q:_) (a:_) (b:_) (c:_) (d:_) (_:x= .ref p) (_:y= .ref q) (_:di K H p [.int a,.int b]) (_:di K H q [.int c,.int d]) (_:Q (.bl (JY a b c d)) H):GP K x y H Q
def XZ(K:c8):R2:=GP K
theorem yR{us:List Value}(r:Vals [.int a,.int b] us):∃t u,us=[.int a t,.int b u]:=by
 cases r with
 | cons r1 r=>
  cases r with
  | cons r2 r=>
   cases r
   walk_at"R"
   obtain ⟨u,rfl⟩:=r2
   exact ⟨t,u,rfl⟩
theorem O0{k:Nat}(K:c8)(h:X.K=K)(hr:cH k X.A):lR X (compareOp .Lt) (XZ K):=by
 subst h
 walk_at"c"
 obtain ⟨p,q,a,b,c,d,rfl,rfl,hp,hq,r⟩:=h
 cases rx
 cases ry
 obtain ⟨xs,O1,px,_⟩:=I.tuple hp
 obtain ⟨ys,rvy,py,_⟩:=I.tuple hq
 obtain ⟨ox,RK,Us,mx,UA⟩:=px
 obtain ⟨oy,UB,RL,my,XY⟩:=py
 obtain ⟨t1,t2,rfl⟩:=yR O1
 obtain ⟨t3,t4,rfl⟩:=yR rvy
 have hu:=hr.units
 show wpAny _ _ (richCompare .Lt (.ref p) (.ref q)) _ _ s
 have hT:s.TypeIs (.ref p) "tuple":=⟨ox,RK,Us⟩
 refine wpAny_richCompare_same_room hT ⟨oy,UB,RL⟩ PySem.F.slot_tuple_lt (wpAny_call_entry PySem.F.slot_tuple_lt hT PySem.F.entry_tuple_lt (KW RK UA UB RL XY ⟨_,rfl,(λz=>nomatch z),?_⟩) (PySem.F.args_tuple_lt_2 _ _)) ()
 exact ⟨.bl _,H,I,rfl,r⟩
end
section
variable{X:Cx}{st:Stmt}{rest:List Stmt}{t u:TS}
def X0(t u:TS):TS:=λD σ H=>∃P:St->Hp->Prop,t { D with nx:=P } σ H/\∀σ' H',P σ' H'->u D σ' H'
theorem Ck(h1:PS X st t)(h2:x6 X rest u):x6 X (st::rest) (X0 t u):=by
 walk_at"r"
 obtain ⟨P,h,g⟩:=h
 refine wpAny_execs_cons (cD (h1 pins s σ H _ I h) λf s1 q=>?_)
 cases f with
 | ret v=>exact q
 | brk=>exact q
 | cont=>exact q
 | next=>
  obtain ⟨τ,G,J,p⟩:=q
  exact h2 pins s1 τ G D J (g τ G p)
end
end L2
namespace L2
open PySem PySem.Spec PyProof.Rows PySem.MeetsSeq PySem.SeqAt
end L2
namespace XL
open PySem PySem.Spec PySem.Calls PyProof.Rows PySem.W Builtin Builtin.ObjectAttr
end XL
namespace XL
open PySem PySem.Spec PySem.Calls PyProof.Rows PySem.W
end XL
namespace L2
open PySem PySem.Spec PyProof.Rows XL
noncomputable def inC(s:Stmt)(j:Nat):Stmt:=match s with
 | .ClassDef _ _ _ b _ _ _ _ _ _ _=>b.getD j (.Pass ⟨0,0,0,0⟩)
 | _=> .Pass ⟨0,0,0,0⟩
def UC(_ j:Int):Prop:=0<j/\j<18446744073709551616
theorem ft{X:Cx}:lR X (binaryOp .FloorDiv) (rI UC λi j=> .int (i / j)):=We λi j _ _ _ _ _ hc q=>by
 have h1:(0:Int)<j:=hc.1
 have h2:j<18446744073709551616:=hc.2
 have h3:j.natAbs<2 ^ 64:=by lia
 exact floordiv_int () (by rw[Int.fdiv_eq_ediv_of_nonneg i ()];exact q) (.inl (PyProof.noPylong_of_log2 (Qd6 ((Nat.log2_lt ()).mpr h3) ∅)))
end L2
namespace PySem
end PySem
namespace L2
open PySem PySem.Spec PyProof.Rows
end L2
namespace L2.F3
open PySem PySem.Spec PyProof.Rows
end L2.F3
namespace L2
open PySem PySem.Spec PyProof.Rows
section
variable{X:Cx}
noncomputable def dg(n:Nat):c7:=((toString (n:Int):String):Str).cps.toList
theorem X1(n:Nat):((toString (n:Int):String):Str)=S (dg n):=Ug _
theorem Eb{n:Nat}(h:n<2 ^ 60):((n:Int)).natAbs.log2<1920:=by
 rw[Int.natAbs_natCast]
 by_cases z:n=0
 ·subst z;decide
 ·exact (Nat.log2_lt z).mpr (Qa2 h (Qet ∅ ∅))
theorem Ec:dS X (.type "str") (λxs H Q=>∃n:Nat,xs=[.int n]/\n<2 ^ 60/\Q (.str (S (dg n))) H):=by
 walk_at"g"
 obtain ⟨n,rfl,hz,q⟩:=h
 refine wd pins s σ H _ us Q I r ⟨n,rfl,Eb hz,?_⟩
 rw[X1]
 exact q
end
theorem yS:typeLookup (.type "dict") "__len__"=pure (some (.builtin "dict.__len__")):=PySem.F.slot_dict_len.lookup
section
variable{prog:Program}{w:World}{A:Around}{E:Value->Shared->Prop}{s:Shared}{KK:Type}[DecidableEq KK]{knd:PySem.KeyKind prog w KK}
theorem mF{Q:List Value->Shared->Prop}(hh:A.handled=none)(d:Addr)(aI:List (KK×Value))(ep:Nat)(hd:(d==sysModules)=false)(hm:s.heap.DictAt knd d aI ep)(hn:(aI:)<=sizeLine)
  (hQ:∀s' acc,(∀b o,s.heap.get? b=some o->s'.heap.get? b=some o)->s'.gens=s.gens->s'.drawn=s.drawn->s'.os=s.os->ItemsOf (λi v=>∃k x,aI[i]? =some (k,x)/\knd.is k v=true) acc (aI:)->Q acc.toList s'):
  wpAny (model prog w) A (collect (.ref d)) Q E s:=by
 have hT:s.TypeIs (.ref d) "dict":=hm.dictOf.typeIs
 obtain ⟨od,UD,aan⟩:=id hT
 have UE:=Qax UD
 unfold collect
 refine wpAny_bind (wpAny_runValue (codeAny_builtin PySem.F.entry_proto_collect ?_))
 rw[Around.under_plainId PySem.F.plain_proto_collect _]
 show wpAny _ A.in1 (newList [] >>= λl=>again (.builtin "list.__iadd__" ⟨[l,.ref d],[]⟩)) _ _ s
 refine wpAny_bind (wpAny_newObj_type ?_)
 refine wpAny_pure ⟨plainId_quiet PySem.F.plain_list_iadd _,codeAny_builtin PySem.F.entry_list_iadd ?_⟩
 rw[Around.under_plainId PySem.F.plain_list_iadd _]
 show wpAny _ A.in1 (Builtin.List.listExtendWith (.ref s.heap.objs.size) (.ref d) (.ref s.heap.objs.size)) _ _ _
 generalize hH:s.heap.push { cls:= .type "list",data:= .seq ([]:List Value).toArray }=H
 have X2:H.objs.size=s.heap.objs.size+1:=by rw[<-hH,Qdz]
 have RM:H.DictAt knd d aI ep:=hm.at' λo e=>by rw[<-hH];exact kb _ e
 have hT1:Shared.TypeIs { s with heap:=H } (.ref d) "dict":=RM.dictOf.typeIs
 have X3:s.heap.objs.size≠d:=Qed UE
 unfold Builtin.List.listExtendWith
 refine wpAny_bind (wpAny_typeOf hT1 ?_)
 have h1:Builtin.List.listSameRef (.ref s.heap.objs.size) (.ref d)=false:=by simp[Builtin.List.listSameRef,X3]
 rw[if_neg (by rw[h1];decide)]
 refine wpAny_bind (wpAny_pyIter_dict (s:={ s with heap:=H }) hd RM ?_)
 show wpAny _ A.in1 _ _ _ { s with heap:=H.push { cls:= .type "dict_keyiterator",data:= .fields #[.ref d,.int 0 0,.int (aI:) 0,.int ep 0] } }
 generalize MZ:H.push { cls:= .type "dict_keyiterator",data:= .fields #[.ref d,.int 0 0,.int (aI:) 0,.int ep 0] }=H2
 have A0:H2.DictAt knd d aI ep:=RM.at' λo e=>by rw[<-MZ];exact kb _ e
 have UG:Shared.TypeIs { s with heap:=H2 } (.ref d) "dict":=A0.dictOf.typeIs
 refine wpAny_bind (wpAny_holding ?_)
 unfold Builtin.List.listLengthHint
 refine wpAny_bind (wpAny_specialOf UG yS ?_)
 wp_delta
 refine wpAny_bind (wpAny_isInstance (T:="dict") (b:=true) UG (by rw[isSubtype_type];kernel_rfl) ?_)
 show wpAny _ A.in1 (typeOf (Value.ref d) >>= _) _ _ _
 refine wpAny_bind (wpAny_typeOf UG ?_)
 refine wpAny_pure ?_
 rw[if_pos ⋯]
 walk_at"L"
 refine wpAny_bind ?_
 unfold Builtin.List.listTouch
 have hS:H2.get? s.heap.objs.size=some { cls:= .type "list",data:= .seq ([]:List Value).toArray }:=by
  rw[<-MZ];exact kb _ (by rw[<-hH];exact Qav _ rfl)
 refine wpAny_bind (wpAny_updateSeq hS rfl ?_ (Qau _) (Qc9 (Qau _)))
 have O2:=Qcy (Obj.mapSeq (λl:Array Value=>l.push .none)) hS rfl
 refine wpAny_updateSeq O2 rfl ?_ (by show 1<=sizeLine;decide) (Qau _)
 have hS3:=Qcy (Obj.mapSeq (λl:Array Value=>l.pop)) O2 rfl
 have X4:∀b o,b≠s.heap.objs.size->H2.get? b=some o->((H2.update s.heap.objs.size (Obj.mapSeq (λl:Array Value=>l.push .none))).update s.heap.objs.size (Obj.mapSeq (λl:Array Value=>l.pop))).get? b=some o:=λb o hb e=>
  (Qbe _ _ (Ne.symm hb)).trans ((Qbe _ _ (Ne.symm hb)).trans e)
 have hit:H2.get? H.objs.size=some { cls:= .type "dict_keyiterator",data:= .fields #[.ref d,.int 0 0,.int (aI:) 0,.int ep 0] }:=by rw[<-MZ];exact Qav _ rfl
 have hIS:H.objs.size≠s.heap.objs.size:=by rw[X2];exact Qfi _
 have hdI:d≠H.objs.size:=by rw[X2];exact Qa1 (Qc6 UE)
 have hSf:s.heap.objs.size∉[H.objs.size,d]:=λhmm=>by
  rcases Qaf.mp hmm with z | z
  ·exact hIS z.symm
  ·exact X3 (Wi.mp z)
 refine wpAny_pure ⟨plainId_quiet PySem.F.plain_extend_loop _,codeAny_extend_loopS (Walks.dictKeys (knd:=knd) (A:=A.in1) hh H.objs.size d hdI aI ep).toS hn _ hSf _ (aI:) 0 _ _ _ rfl (Qau _)
  ⟨⟨_,X4 _ _ hIS hit,rfl,rfl⟩,A0.at' λo e=>X4 d o (Ne.symm X3) e⟩ hS3 (ItemsOf.nil _) λs' eW c' Wm hS' wB=>?_⟩
 show wpAny _ A (load s.heap.objs.size >>= _) _ _ s'
 refine wpAny_bind (wpAny_load hS' ?_)
 refine wpAny_pure (hQ s' eW (λb ob e=>Wm.heap b ob (λhb=>?_) (X4 b ob (Qa1 (Qax e)) (by rw[<-MZ];exact kb _ (by rw[<-hH];exact kb _ e)))) Wm.gens Wm.drawn Wm.os wB)
 have cU:=Qax e
 rcases Qaf.mp hb with h | h
 ·exact absurd cU (h▸Qb1 _)
 ·rw[Wi.mp h,X2]at cU;exact absurd cU (Nat.not_lt.mpr (Qdk _))
end
section
variable{X:Cx}
theorem qd{aI:List (Key×V)}{vs:List (Key×Value)}(h:KV aI vs):vs.map (·.1)=aI.map (·.1):=by
 induction h with
 | nil=>rfl
 | cons r _ ih=>rw[Qa3,Qa3,ih,r.1]
end
end L2
namespace XL
open PySem PySem.Spec PySem.Calls PyProof.Rows PySem.W
end XL
namespace L2
open PySem PySem.Spec PyProof.Rows XL
end L2
namespace PySem
open Sem (wp)
namespace F
end F
end PySem
namespace L2
open PySem PySem.Spec PyProof.Rows
end L2
namespace L2.F2
open PySem PySem.Spec PyProof.Rows
end L2.F2
namespace L2
open PySem PySem.Spec PyProof.Rows
section
variable{X:Cx}
theorem GQ{i:Nat}(h:(i:Int)<2 ^ 63):Builtin.List.listFitsIndex (i:Int)=true:=by
 unfold Builtin.List.listFitsIndex
 rw[Qb4]
 exact ⟨decide_eq_true (),decide_eq_true ()⟩
inductive vb(x:V)(vs:List V)(H:Hp)(Q:VK):Prop
 | mk (l:Addr) (xs:List V) (i:Nat) (y:V) (_:x= .ref l) (_:vs=[.int i,y]) (_:H l=some (.lst xs)) (_:i<=(xs:)) (_:(xs:)<sizeLine) (_:Q .gz (upd H l (.lst (xs.take i++y::xs.drop i)))):vb x vs H Q
def KY:V->List V->Hp->VK->Prop:=vb
theorem Ed:RF X "list.insert" KY:=by
 walk_at"A"
 obtain ⟨l,xs,i,y,rfl,rfl,hH,hi,hz,q⟩:=h
 cases rx
 obtain ⟨a,b,rfl,⟨t,rfl⟩,rb⟩:=vals2 rv
 walk_at"I"
 have hn:=f_
 have hf: ¬(!Builtin.List.listFitsIndex (i:Int))=true:=by rw[GQ ()];decide
 have hsz:aK.toArray.size<=sizeLine:=by rw[Qah];lia
 generalize hI:(i:Int)=I' at hf
 have hm:=PySem.AutoSeq1.list_insert_list_int_val_1 l aK.toArray n I' t b hf hsz
 refine call_meets F.slot_list_insert ⟨_,e,rfl⟩ F.entry_list_insert (F.args_list_insert_3 _ _ _) hm ⟨e,?_⟩
 clear hm
 refine ⟨.gz,_,I.DX (its':=aK.take i++b::aK.drop i) hH e ?_ ?_ ?_,rfl,q⟩
 ·have e1:(if I'<0 then (I'+(aK.toArray.size:Int)).toNat else min I'.toNat aK.toArray.size)=i:=by rw[<-hI,if_neg (),Qan,Qah];lia
  show ((aK.toArray.extract 0 (if I'<0 then (I'+(aK.toArray.size:Int)).toNat else min I'.toNat aK.toArray.size)).push b++aK.toArray.extract (if I'<0 then (I'+(aK.toArray.size:Int)).toNat else min I'.toNat aK.toArray.size))=_
  rw[e1]
  apply Qd9.mp
  simp
  exact Qai (by rw[Qat];exact Qaa _)
 ·have h1:Vals (xs.take i) (aK.take i):=r.take i
  exact h1.append (.cons rb (r.drop i))
 ·rw[T6,Qba,Qad,Qat];lia
end
end L2
namespace L2
open PySem PySem.Spec PyProof.Rows PySem.W
end L2
namespace L2
open PySem PySem.Spec PyProof.Rows PySem.MeetsSeq PySem.SeqAt
end L2
namespace L2
open PySem PySem.Spec PyProof.Rows HT
noncomputable def gal:Bool->Keyed->Array Keyed->Nat->Nat->Nat->StateT SortSt Sem (Option Nat):=sortPriv%PySem.Builtin.gallop
noncomputable def mLo:Array Keyed->Array Keyed->StateT SortSt Sem (Array Keyed):=sortPriv%PySem.Builtin.mergeLo
noncomputable def mHi:Array Keyed->Array Keyed->StateT SortSt Sem (Array Keyed):=sortPriv%PySem.Builtin.mergeHi
variable{st:SortSt}{arr:Array Keyed}{i:Nat}
section
variable{prog:Program}{w:World}{A:Around}{E:Value->Shared->Prop}{s:Shared}{κ:KeyKind}{a₀:Array Keyed}
theorem cj{Q:Keyed->SortSt->Prop}(hi:i<arr.size)(h:∀p,p∈arr.toList->arr[i]? =some p->Q p st):wpS (model prog w) A E s (elem' arr i) Q st:=by
 have e:arr[i]? =some arr[i]:=getElem?_pos arr i hi
 rw[elem'_eq,e]
 exact wpS_pure (h _ (by simp) e)
end
variable{M:Model}
theorem aE{A:Around}{E:Value->Shared->Prop}{s:Shared}{σ α:Type}{c:Prop}[Decidable c]{m1 m2:StateT σ Sem α}{Q:α->σ->Prop}{st:σ}(h1:c->wpS M A E s m1 Q st)(h2: ¬c->wpS M A E s m2 Q st):wpS M A E s (if c then m1 else m2) Q st:=by
 by_cases g:c
 ·rw[if_pos g];exact h1 g
 ·rw[if_neg g];exact h2 g
noncomputable def sg(st:SortSt)(g:Nat):SortSt:=SortSt.mk' (kindOf st) (arrOf st) (pendingOf st) g (failedOf st)
def q0(st aQ:SortSt):Prop:=∃g,aQ=sg st g
theorem q0.refl(st:SortSt):q0 st st:=⟨gallopOf st,rfl⟩
variable{aQ:SortSt}
theorem q0.set(h:q0 st aQ)(g:Nat):q0 st (sg aQ g):=by
 obtain ⟨g0,rfl⟩:=h
 exact ⟨g,rfl⟩
def Mg(a b out:Array Keyed)(ia ib:Nat):Prop:=out.toList.Perm (a.toList.take ia++b.toList.take ib)
theorem fk{α:Type}{l:List α}{p:α}(h:l[i]? =some p):l.take (i+1)=l.take i++[p]:=by
 have:=OC.mp h
 rw[Qeg this.1,this.2]
theorem fR{α:Type}{l:List α}{p:α}(h:l[i]? =some p):l.drop i=p::l.drop (i+1):=by
 have:=OC.mp h
 rw[Qbz this.1,this.2]
theorem q8{α:Type}(l:List α)(i j:Nat)(h:i<=j):l.take j=l.take i++(l.drop i).take (j - i):=by
 have:j=i+(j - i):=by lia
 conv=>lhs;rw[this,List.take_add]
theorem q9{α:Type}(l:List α)(i j:Nat)(h:i<=j):l.drop i=(l.drop i).take (j - i)++l.drop j:=by
 conv=>lhs;rw[<-Qag (j - i) (l.drop i),Qe6,show i+(j - i)=j by lia]
theorem aO{α:Type}(a:Array α)(i j:Nat):(a.extract i j).toList=(a.toList.drop i).take (j - i):=by simp[List.extract]
variable{a b out:Array Keyed}{ia ib:Nat}
theorem Mg.A1(h:Mg a b out ia ib):(out++a.extract ia++b.extract ib).toList.Perm (a.toList++b.toList):=by
 rw[Qaz,Qaz,aO,aO,Qai (by simp),Qai (by simp)]
 refine ((h.append_right _).append_right _).trans ?_
 conv=>rhs;rw[<-Qag ia a.toList, <-Qag ib b.toList]
 rw[RI,RI,RI]
 refine Qcl _ ?_
 rw[<-RI, <-RI]
 exact Qfw _ Qby
theorem Mg.O3(h:Mg a b out ia ib):(out++b.extract ib++a.extract ia).toList.Perm (a.toList++b.toList):=by
 refine List.Perm.trans ?_ h.A1
 simp only[Qaz,RI]
 exact Qcl _ Qby
variable{p:Keyed}
theorem Mg.lB(h:Mg a b out ia ib)(hp:b[ib]? =some p):Mg a b (out.push p) ia (ib+1):=by
 unfold Mg
 rw[Qcb,fk (l:=b.toList) (by simpa using hp), <-RI]
 exact h.append_right _
theorem Mg.lC(h:Mg a b out ia ib)(hp:a[ia]? =some p):Mg a b (out.push p) (ia+1) ib:=by
 unfold Mg
 rw[Qcb,fk (l:=a.toList) (by simpa using hp),RI]
 refine (h.append_right _).trans ?_
 rw[RI]
 exact Qcl _ Qby
theorem Mg.tV{k:Nat}(h:Mg a b out ia ib):Mg a b (out++b.extract ib (ib+k)) ia (ib+k):=by
 unfold Mg
 rw[Qaz,aO,q8 b.toList ib (ib+k) (), <-RI]
 exact h.append_right _
theorem Mg.tW{k:Nat}(h:Mg a b out ia ib):Mg a b (out++a.extract ia (ia+k)) (ia+k) ib:=by
 unfold Mg
 rw[Qaz,aO,q8 a.toList ia (ia+k) (),RI]
 refine (h.append_right _).trans ?_
 rw[RI]
 exact Qcl _ Qby
def Mh(a b out:Array Keyed)(na nb:Nat):Prop:=out.toList.Perm (a.toList.drop na++b.toList.drop nb)
variable{na nb:Nat}
theorem Mh.A1(h:Mh a b out na nb):(a.extract 0 na++b.extract 0 nb++out.reverse).toList.Perm (a.toList++b.toList):=by
 rw[Qaz,Qaz,aO,aO,Qcv,Qcv,Qdi,Qdi,Qc1]
 refine (Qcl _ ((Qfc _).trans h)).trans ?_
 conv=>rhs;rw[<-Qag na a.toList, <-Qag nb b.toList]
 rw[RI,RI]
 refine Qcl _ ?_
 rw[<-RI, <-RI]
 exact Qfw _ Qby
theorem Mh.O3(h:Mh a b out na nb):(b.extract 0 nb++a.extract 0 na++out.reverse).toList.Perm (a.toList++b.toList):=by
 refine List.Perm.trans ?_ h.A1
 simp only[Qaz]
 exact Qfw _ Qby
theorem Mh.lC(h:Mh a b out na nb)(h1:1<=na)(hp:a[na - 1]? =some p):Mh a b (out.push p) (na - 1) nb:=by
 unfold Mh
 rw[Qcb,fR (l:=a.toList) (i:=na - 1) (by simpa using hp),show na - 1+1=na by lia,Qda]
 exact (h.append_right _).trans (Qe3 _ _)
theorem Mh.lB(h:Mh a b out na nb)(h1:1<=nb)(hp:b[nb - 1]? =some p):Mh a b (out.push p) na (nb - 1):=by
 unfold Mh
 rw[Qcb,fR (l:=b.toList) (i:=nb - 1) (by simpa using hp),show nb - 1+1=nb by lia]
 exact ((h.append_right _).trans (Qe3 _ _)).trans List.perm_middle.symm
theorem Mh.tW{k:Nat}(h:Mh a b out na nb)(hk:k<=na):Mh a b (out++(a.extract k na).reverse) k nb:=by
 unfold Mh
 have e:a.toList.drop k++b.toList.drop nb=(a.toList.drop k).take (na - k)++(a.toList.drop na++b.toList.drop nb):=by rw[<-RI, <-q9 a.toList k na hk]
 rw[Qaz,Qc1,aO,e]
 exact (h.append (Qfc _)).trans Qby
theorem Mh.tV{k:Nat}(h:Mh a b out na nb)(hk:k<=nb):Mh a b (out++(b.extract k nb).reverse) na k:=by
 unfold Mh
 have e:b.toList.drop k=(b.toList.drop k).take (nb - k)++b.toList.drop nb:=q9 b.toList k nb hk
 rw[Qaz,Qc1,aO]
 refine (h.append (Qfc _)).trans ?_
 conv=>rhs;rw[e]
 rw[RI]
 exact Qcl _ Qby
variable{n:Nat}
theorem Ee{k:Nat}(h:k<=n - ia)(h1:ia+1<n)(z1: ¬ia+k+1=n)(z2: ¬ia+k=n):ia+k+1<n:=()
theorem Ef{k:Nat}(h:k<=n - (ib+1))(h1:ib<n)(z: ¬ib+1+k=n):ib+1+k<n:=()
variable{z:Nat}
theorem Na{x y:Nat}(h:i+2<=x+y)(g:y<=z):i+2<=x+1+z:=()
theorem Cm{x:Nat}(h1:1<=x)(h2:x<=n):x - 1<n:=()
theorem Co{x:Nat}(h2:x<=n):x - 1<=n:=()
theorem O4{x:Nat}(h: ¬x=0):1<=x:=()
theorem GR{x y:Nat}(h:x+y+i+2<=n)(g:z<=y):x - 1+z+i+2<=n:=()
theorem q_{α:Type}(sa:Nat):∀(l:List α) (n:Nat) (arr:Array α),sa+n+(l:)<=arr.size->
  ((l.zipIdx n).foldl (λa x=>match x with | (p,j)=>a.setIfInBounds (sa+j) p) arr).toList=arr.toList.take (sa+n)++l++arr.toList.drop (sa+n+(l:))
 | [],n,arr,h=>by simp
 | p::l,n,arr,h=>by
  rw[List.zipIdx_cons,Qcw]
  have h':sa+n+((l:)+1)<=arr.size:=h
  have ih:=q_ sa l (n+1) (arr.setIfInBounds (sa+n) p) (by rw[Array.size_setIfInBounds];lia)
  have e0:sa+(n+1)=sa+n+1:=by lia
  rw[e0]at ih
  refine Eq.trans ih ?_
  have cU:sa+n<(arr.toList:):=by rw[Qa6];lia
  rw[Array.toList_setIfInBounds,List.take_set,List.drop_set_of_lt (),Qba,show sa+n+1+(l:)=sa+n+((l:)+1) by lia]
  have e1:(arr.toList.take (sa+n+1)).set (sa+n) p=arr.toList.take (sa+n)++[p]:=by
   rw[Qeg cU,List.set_append_right _ _ (by rw[Qad];lia),Qad,Qbs (),Qdj]
   rfl
  rw[e1]
  simp
section
variable{prog:Program}{w:World}{A:Around}{E:Value->Shared->Prop}{s:Shared}{κ:KeyKind}{a₀:Array Keyed}
theorem KZ{σ:Type}{Q:PUnit->σ->Prop}{st aQ:σ}(h:Q ⟨⟩ aQ):wpS M A E s (set aQ:StateT σ Sem PUnit) Q st:=by
 unfold wpS;rw[StateT.run_set];exact wpAny_pure ⟨rfl,h⟩
theorem Eg{merged:Array Keyed}{x y:Nat}(h1:x<=y)(h2:y<=z)(h3:z<=arr.size)(hp:merged.toList.Perm ((arr.extract x y).toList++(arr.extract y z).toList)):
  (merged.toList.zipIdx.foldl (λa q=>match q with | (p,j)=>a.setIfInBounds (x+j) p) arr).Perm arr:=by
 rw[aO,aO]at hp
 have e:(arr.toList.drop x).take (y - x)++(arr.toList.drop y).take (z - y)=(arr.toList.drop x).take (z - x):=by
  have:=q8 (arr.toList.drop x) (y - x) (z - x) ()
  rw[Qe6,show x+(y - x)=y by lia,show z - x - (y - x)=z - y by lia]at this
  exact this.symm
 rw[e]at hp
 have hl:(merged.toList:)=z - x:=by rw[hp.length_eq,Qad,Qat,Qa6];lia
 rw[Qbt]
 have:=q_ x merged.toList 0 arr ()
 rw[Qdl,hl,show x+(z - x)=z by lia]at this
 refine List.Perm.trans (Qgz this) ?_
 refine ((Qcl _ hp).append_right _).trans ?_
 rw[RI, <-q9 arr.toList x z (),Qag]
end
theorem GS(c:Prop)[Decidable c](h: ¬n<=1):(if c then n - 2 - 1 else n - 2)+1<n:=by split<;>lia
noncomputable def cp(P:Array (Nat×Nat×Nat)):List (Nat×Nat):=P.toList.map λx=>(x.1,x.2.1)
theorem O5{α:Type}{l:List α}{x y:α}(h1:l[i]? =some x)(h2:l[i+1]? =some y):l=l.take i++x::y::l.drop (i+2):=by
 conv=>lhs;rw[<-Qag i l,fR h1,fR h2]
theorem K0{α:Type}{l:List α}{x y v:α}(h1:l[i]? =some x)(h2:l[i+1]? =some y):(l.set i v).eraseIdx (i+1)=l.take i++v::l.drop (i+2):=by
 have hi:=(OC.mp h1).1
 rw[List.eraseIdx_eq_take_drop_succ,List.drop_set_of_lt (),List.take_set,Qeg hi,List.set_append_right _ _ (by rw[Qad];lia),Qad,Qbs (),Qdj]
 simp
structure gA(lt:Keyed->Keyed->Bool):Prop where
 lT:∀p q,lt p q=true->lt q p=false
 tr:∀p q r,lt q p=false->lt r q=false->lt r p=false
def jA(prog:Program)(w:World)(A:Around)(E:Value->Shared->Prop)(s:Shared)(kd:SortKind)(lt:Keyed->Keyed->Bool)(a₀:Array Keyed):Prop:=
 ∀(st:SortSt) (p q:Keyed) (Q:Option Bool->SortSt->Prop),kindOf st=kd->p∈a₀.toList->q∈a₀.toList->Q (some (lt p q)) st->wpS (model prog w) A E s (lt' p q) Q st
noncomputable def X5(lt:Keyed->Keyed->Bool)(left:Bool)(key x:Keyed):Bool:=if left=true then lt x key else !lt key x
noncomputable def cb(lt:Keyed->Keyed->Bool)(left:Bool)(key:Keyed)(arr:Array Keyed)(base i:Nat):Bool:=match arr[base+i]? with
 | some p=>X5 lt left key p
 | none=>false
variable{key:Keyed}{base:Nat}
theorem wM{lt:Keyed->Keyed->Bool}{left:Bool}(h:arr[base+i]? =some p):cb lt left key arr base i=X5 lt left key p:=by unfold cb;rw[h]
section
variable{prog:Program}{w:World}{A:Around}{E:Value->Shared->Prop}{s:Shared}{kd:SortKind}{lt:Keyed->Keyed->Bool}{a₀:Array Keyed}
theorem nU{left:Bool}{hint:Nat}{Q:Option Nat->SortSt->Prop}(C:jA prog w A E s kd lt a₀)(hk:kindOf st=kd)(Kl:key∈a₀.toList)(UH:∀p∈arr.toList,p∈a₀.toList)(hn:base+n<=arr.size)(hh:hint<n)
  (mono:∀i j,i<=j->j<n->cb lt left key arr base j=true->cb lt left key arr base i=true)
  (h:∀k,k<=n->(∀i,i<k->cb lt left key arr base i=true)->(∀i,k<=i->i<n->cb lt left key arr base i=false)->Q (some k) st):wpS (model prog w) A E s (gal left key arr base n hint) Q st:=by
 have ask:∀(i:Nat) (R:Option Bool->SortSt->Prop),i<n->R (some (cb lt left key arr base i)) st->wpS (model prog w) A E s (elem' arr (base+i) >>= λx=>if left=true then lt' x key else lt' key x >>= λb=>pure (b.map λx=>!x)) R st:=by
  intro i R hi hR
  refine wpS_bind (cj () λp hp ep=>?_)
  rw[wM ep]at hR
  unfold X5 at hR
  cases left with
  | true=>rw[if_pos rfl]at hR ⊢; exact C _ _ _ _ hk (UH p hp) Kl hR
  | false=>rw[if_neg ∅]at hR ⊢; exact wpS_bind (C _ _ _ _ hk Kl (UH p hp) (wpS_pure hR))
 have up:∀i,i<n->cb lt left key arr base i=true->∀j,j<=i->cb lt left key arr base j=true:=λi hi e j hj=>mono j i hj hi e
 have dn:∀i,cb lt left key arr base i=false->∀j,i<=j->j<n->cb lt left key arr base j=false:=λi e j Fq hj=>by
  cases z:cb lt left key arr base j with
  | false=>rfl
  | true=>rw[mono i j Fq hj z]at e;cases e
 refine wpS_bind (ask hint _ hh ?_)
 cases eb:cb lt left key arr base hint with
 | true=>
  refine wpS_bind (wpS_mono (wpS_forRange (I:=λx c aQ=>aQ=st/\∃l o,c=(none,l,o)/\x+1<=o/\l<n - hint/\cb lt left key arr base (hint+l)=true) (Q:=λc aQ=>aQ=st/\∃l o,c=(none,l,o)/\l<n - hint/\cb lt left key arr base (hint+l)=true/\(n - hint<=o\/cb lt left key arr base (hint+o)=false)) ?_ ?_ ⟨rfl,0,1,rfl,(),(),by simpa using eb⟩) ?_)
  ·rintro x c aQ _ hx ⟨rfl,l,o,rfl,h1,h2,h3⟩
   refine aE (λg=>wpS_pure ⟨rfl,l,o,rfl,h2,h3,.inl g⟩) (λg=>?_)
   have g': ¬o ≥ n - hint:=g
   refine wpS_bind (ask _ _ (show hint+o<n by lia) ?_)
   cases e2:cb lt left key arr base (hint+o) with
   | true=>exact wpS_pure ⟨rfl,o,2*o+1,rfl,(),(),e2⟩
   | false=>exact wpS_pure ⟨rfl,l,o,rfl,h2,h3,.inr e2⟩
  ·rintro c aQ ⟨e,l,o,rfl,h1,h2,h3⟩
   exact ⟨e,l,o,rfl,h2,h3,.inl ()⟩
  ·rintro c dJ ⟨rfl,l,o,rfl,h2,h3,h4⟩
   dsimp only
   have a1:∀i,i<hint+l+1->cb lt left key arr base i=true:=λi hi=>up _ () h3 i ()
   have a2:∀i,hint+min o (n - hint)<=i->i<n->cb lt left key arr base i=false:=λi hi x_=>by
    rcases h4 with g | g
    ·lia
    ·exact dn _ g i () x_
   have a3:hint+min o (n - hint)<=n:=by lia
   have a4:hint+l+1<=hint+min o (n - hint):=by
    rcases h4 with g | g
    ·lia
    ·by_cases z:hint+l+1<=hint+min o (n - hint)
     ·exact z
     ·have:cb lt left key arr base (hint+o)=true:=a1 _ ()
      rw[g]at this;cases this
   refine wpS_bind (wpS_mono (wpS_forRange (I:=λx c aQ=>aQ=dJ/\∃l r,c=(none,l,r)/\l<=r/\r<=n/\r - l+x<=n/\(∀i,i<l->cb lt left key arr base i=true)/\(∀i,r<=i->i<n->cb lt left key arr base i=false)) (Q:=λc aQ=>aQ=dJ/\∃l r,c=(none,l,r)/\l=r/\r<=n/\(∀i,i<l->cb lt left key arr base i=true)/\(∀i,r<=i->i<n->cb lt left key arr base i=false)) ?_ ?_ ⟨rfl,_,_,rfl,a4,a3,(),a1,a2⟩) ?_)
   ·rintro x c aQ _ hx ⟨rfl,l,r,rfl,b1,b2,b3,b4,b5⟩
    refine aE (λg=>wpS_pure ⟨rfl,l,r,rfl,Qdf b1 g,b2,b4,b5⟩) (λg=>?_)
    have g': ¬l ≥ r:=g
    refine wpS_bind (ask _ _ (show l+(r - l) / 2<n by lia) ?_)
    cases e2:cb lt left key arr base (l+(r - l) / 2) with
    | true=>exact wpS_pure ⟨rfl,l+(r - l) / 2+1,r,rfl,(),b2,(),λi hi=>up _ () e2 i (),b5⟩
    | false=>exact wpS_pure ⟨rfl,l,l+(r - l) / 2,rfl,(),(),(),b4,dn _ e2⟩
   ·rintro c aQ ⟨e,l,r,rfl,b1,b2,b3,b4,b5⟩
    exact ⟨e,l,r,rfl,(),b2,b4,b5⟩
   ·rintro c aQ ⟨rfl,l,r,rfl,rfl,b2,b4,b5⟩
    exact wpS_pure (h l b2 b4 b5)
 | false=>
  refine wpS_bind (wpS_mono (wpS_forRange (I:=λx c aQ=>aQ=st/\∃l o,c=(none,l,o)/\x+1<=o/\l<=hint/\cb lt left key arr base (hint - l)=false) (Q:=λc aQ=>aQ=st/\∃l o,c=(none,l,o)/\l<=hint/\cb lt left key arr base (hint - l)=false/\(hint+1<=o\/(o<=hint/\cb lt left key arr base (hint - o)=true))) ?_ ?_ ⟨rfl,0,1,rfl,(),(),by simpa using eb⟩) ?_)
  ·rintro x c aQ _ hx ⟨rfl,l,o,rfl,h1,h2,h3⟩
   refine aE (λg=>wpS_pure ⟨rfl,l,o,rfl,h2,h3,.inl g⟩) (λg=>?_)
   have g': ¬o ≥ hint+1:=g
   refine wpS_bind (ask _ _ (show hint - o<n by lia) ?_)
   cases e2:cb lt left key arr base (hint - o) with
   | true=>exact wpS_pure ⟨rfl,l,o,rfl,h2,h3,.inr ⟨(),e2⟩⟩
   | false=>exact wpS_pure ⟨rfl,o,2*o+1,rfl,(),(),e2⟩
  ·rintro c aQ ⟨e,l,o,rfl,h1,h2,h3⟩
   exact ⟨e,l,o,rfl,h2,h3,.inl ()⟩
  ·rintro c dJ ⟨rfl,l,o,rfl,h2,h3,h4⟩
   dsimp only
   have a1:∀i,i<hint+1 - min o (hint+1)->cb lt left key arr base i=true:=λi hi=>by
    rcases h4 with g | ⟨g1,g2⟩
    ·lia
    ·exact up _ () g2 i ()
   have a2:∀i,hint - l<=i->i<n->cb lt left key arr base i=false:=λi hi x_=>dn _ h3 i hi x_
   have a4:hint+1 - min o (hint+1)<=hint - l:=by
    by_cases z:hint+1 - min o (hint+1)<=hint - l
    ·exact z
    ·have:cb lt left key arr base (hint - l)=true:=a1 _ ()
     rw[h3]at this;cases this
   refine wpS_bind (wpS_mono (wpS_forRange (I:=λx c aQ=>aQ=dJ/\∃l r,c=(none,l,r)/\l<=r/\r<=n/\r - l+x<=n/\(∀i,i<l->cb lt left key arr base i=true)/\(∀i,r<=i->i<n->cb lt left key arr base i=false)) (Q:=λc aQ=>aQ=dJ/\∃l r,c=(none,l,r)/\l=r/\r<=n/\(∀i,i<l->cb lt left key arr base i=true)/\(∀i,r<=i->i<n->cb lt left key arr base i=false)) ?_ ?_ ⟨rfl,_,_,rfl,a4,(),(),a1,a2⟩) ?_)
   ·rintro x c aQ _ hx ⟨rfl,l,r,rfl,b1,b2,b3,b4,b5⟩
    refine aE (λg=>wpS_pure ⟨rfl,l,r,rfl,Qdf b1 g,b2,b4,b5⟩) (λg=>?_)
    have g': ¬l ≥ r:=g
    refine wpS_bind (ask _ _ (show l+(r - l) / 2<n by lia) ?_)
    cases e2:cb lt left key arr base (l+(r - l) / 2) with
    | true=>exact wpS_pure ⟨rfl,l+(r - l) / 2+1,r,rfl,(),b2,(),λi hi=>up _ () e2 i (),b5⟩
    | false=>exact wpS_pure ⟨rfl,l,l+(r - l) / 2,rfl,(),(),(),b4,dn _ e2⟩
   ·rintro c aQ ⟨e,l,r,rfl,b1,b2,b3,b4,b5⟩
    exact ⟨e,l,r,rfl,(),b2,b4,b5⟩
   ·rintro c aQ ⟨rfl,l,r,rfl,rfl,b2,b4,b5⟩
    exact wpS_pure (h l b2 b4 b5)
end
variable{x y c l:List Keyed}{j g bc:Nat}{e:Keyed}
section
variable{lt:Keyed->Keyed->Bool}
def cO(lt:Keyed->Keyed->Bool)(l:List Keyed):Prop:=l.Pairwise λp q=>lt q p=false
theorem fW(h1:cO lt (x++y))(h2:cO lt (x++c))(h3:∀e∈c,∀f∈y,lt f e=false):cO lt (x++c++y):=by
 unfold cO at*
 rw[Qa9]at h1 h2 ⊢
 refine ⟨Qa9.mpr h2,h1.2.1,λe he f hf=>?_⟩
 rcases Qap.mp he with z | z
 ·exact h1.2.2 e z f hf
 ·exact h3 e z f hf
theorem hZ(h:cO lt (x++y)):cO lt x:=(Qa9.mp h).1
theorem fX(h:cO lt (x++y)):cO lt y:=(Qa9.mp h).2.1
theorem h7(L:gA lt){p q:Keyed}(h:cO lt l)(hp:l[i]? =some p)(hq:lt p q=false):∀x∈l.drop i,lt x q=false:=λx hx=>by
 rw[fR hp]at hx
 rcases Qaf.mp hx with z | z
 ·rw[z];exact hq
 ·have h2:cO lt (l.take i++p::l.drop (i+1)):=by rw[<-fR hp,Qag];exact h
  exact L.tr q p x hq (Qe9 (fX h2) z)
theorem A2{p q:Keyed}(h:cO lt l)(Fq:i<j)(hp:l[i]? =some p)(hq:l[j]? =some q):lt q p=false:=by
 have h1:=OC.mp hp
 have h2:=OC.mp hq
 have:=(Qcs.mp h) i j h1.1 h2.1 Fq
 rwa [h1.2,h2.2]at this
theorem JZ(L:gA lt)(p:Keyed):lt p p=false:=by
 cases e:lt p p with
 | false=>rfl
 | true=>have:=L.lT p p e;rw[e]at this;cases this
theorem A3(L:gA lt){p q:Keyed}(h:cO lt l)(Fq:i<=j)(hp:l[i]? =some p)(hq:l[j]? =some q):lt q p=false:=by
 rcases Nat.lt_or_eq_of_le Fq with z | z
 ·exact A2 h z hp hq
 ·subst z;rw[hp]at hq;cases hq;exact JZ L p
structure mh(lt:Keyed->Keyed->Bool)(a b out:Array Keyed)(ia ib:Nat):Prop where
 m:Mg a b out ia ib
 sa:cO lt (out.toList++a.toList.drop ia)
 sb:cO lt (out.toList++b.toList.drop ib)
variable{a b out:Array Keyed}{ia ib k:Nat}{p q:Keyed}
theorem mh.lB(h:mh lt a b out ia ib)(hp:b[ib]? =some q)(hq:∀x∈a.toList.drop ia,lt x q=false):mh lt a b (out.push q) ia (ib+1):=by
 have hd:b.toList.drop ib=q::b.toList.drop (ib+1):=fR (by simpa using hp)
 have h2:cO lt (out.toList++[q]++b.toList.drop (ib+1)):=by
  have:=h.sb;rw[hd]at this;simpa using this
 refine ⟨h.m.lB hp,?_,?_⟩
 ·rw[Qcb];exact fW h.sa (hZ h2) λe he f hf=>by rw[Wi.mp he];exact hq f hf
 ·rw[Qcb];exact h2
theorem mh.lC(h:mh lt a b out ia ib)(hp:a[ia]? =some q)(hq:∀x∈b.toList.drop ib,lt x q=false):mh lt a b (out.push q) (ia+1) ib:=by
 have hd:a.toList.drop ia=q::a.toList.drop (ia+1):=fR (by simpa using hp)
 have h2:cO lt (out.toList++[q]++a.toList.drop (ia+1)):=by
  have:=h.sa;rw[hd]at this;simpa using this
 refine ⟨h.m.lC hp,?_,?_⟩
 ·rw[Qcb];exact h2
 ·rw[Qcb];exact fW h.sb (hZ h2) λe he f hf=>by rw[Wi.mp he];exact hq f hf
theorem mh.tW(h:mh lt a b out ia ib)(hq:∀e∈(a.toList.drop ia).take k,∀x∈b.toList.drop ib,lt x e=false):mh lt a b (out++a.extract ia (ia+k)) (ia+k) ib:=by
 have hd:=q9 a.toList ia (ia+k) ()
 rw[Qbo]at hd
 have h2:cO lt (out.toList++(a.toList.drop ia).take k++a.toList.drop (ia+k)):=by
  have:=h.sa;rw[hd]at this;rw[RI];exact this
 refine ⟨h.m.tW,?_,?_⟩
 ·rw[Qaz,aO,Qbo];exact h2
 ·rw[Qaz,aO,Qbo];exact fW h.sb (hZ h2) hq
theorem mh.tV(h:mh lt a b out ia ib)(hq:∀e∈(b.toList.drop ib).take k,∀x∈a.toList.drop ia,lt x e=false):mh lt a b (out++b.extract ib (ib+k)) ia (ib+k):=by
 have hd:=q9 b.toList ib (ib+k) ()
 rw[Qbo]at hd
 have h2:cO lt (out.toList++(b.toList.drop ib).take k++b.toList.drop (ib+k)):=by
  have:=h.sb;rw[hd]at this;rw[RI];exact this
 refine ⟨h.m.tV,?_,?_⟩
 ·rw[Qaz,aO,Qbo];exact fW h.sa (hZ h2) hq
 ·rw[Qaz,aO,Qbo];exact h2
def iM(lt:Keyed->Keyed->Bool)(a b out:Array Keyed):Prop:=out.toList.Perm (a.toList++b.toList)/\cO lt out.toList
theorem mh.Eh(h:mh lt a b out ia ib)(e:ib=b.size):iM lt a b (out++a.extract ia++b.extract ib):=by
 refine ⟨h.m.A1,?_⟩
 rw[Qaz,Qaz,aO,aO,Qai (by simp),Qai (by simp),Qbi (l:=b.toList) (by simp[e]),Qa4]
 exact h.sa
theorem mh.Ei(h:mh lt a b out ia ib)(e:ia=a.size):iM lt a b (out++a.extract ia++b.extract ib):=by
 refine ⟨h.m.A1,?_⟩
 rw[Qaz,Qaz,aO,aO,Qai (by simp),Qai (by simp),Qbi (l:=a.toList) (by simp[e]),Qa4]
 exact h.sb
theorem mh.X6(h:mh lt a b out ia ib)(hl:∀e∈b.toList,∀x∈a.toList.drop ia,lt x e=false):iM lt a b (out++b.extract ib++a.extract ia):=by
 refine ⟨h.m.O3,?_⟩
 rw[Qaz,Qaz,aO,aO,Qai (by simp),Qai (by simp)]
 exact fW h.sa h.sb λe he f hf=>hl e (Qch he) f hf
theorem GU{y:Keyed}(hi:i+1=(l:))(hy:l[(l:) - 1]? =some y):l.drop i=[y]:=by
 have e:(l:) - 1=i:=by lia
 rw[e]at hy
 rw[fR hy,Qbi ()]
theorem fm{k:Nat}(h:e∈(l.drop i).take k):∃j,j<k/\l[i+j]? =some e:=by
 obtain ⟨j,hj⟩:=Qc5 h
 have h1:=(OC.mp hj).1
 rw[Qad]at h1
 rw[Qa5 (),Qbk]at hj
 exact ⟨j,(),hj⟩
theorem mG(h:e∈l.drop i):∃j,l[i+j]? =some e:=by
 obtain ⟨j,hj⟩:=Qc5 h
 rw[Qbk]at hj
 exact ⟨j,hj⟩
theorem dW{x:Keyed}(h:arr.toList[base+i]? =some x):cb lt false key arr base i=!lt key x:=by
 rw[wM (p:=x) (by simpa using h)];rfl
theorem fu{x:Keyed}(h:arr.toList[base+i]? =some x):cb lt true key arr base i=lt x key:=by
 rw[wM (p:=x) (by simpa using h)];rfl
theorem mono_right(L:gA lt)(key:Keyed)(hn:base+n<=arr.size)(hs:cO lt ((arr.toList.drop base).take n)):∀i j,i<=j->j<n->cb lt false key arr base j=true->cb lt false key arr base i=true:=λi j Fq hj e=>by
 have O6:base+j<(arr.toList:):=by rw[Qa6];lia
 have K1:base+i<(arr.toList:):=by lia
 rw[dW (OD O6)]at e
 rw[dW (OD K1)]
 walk_at"G"
 have e':lt key (arr.toList[base+j])=false:=by simpa using e
 rw[L.tr _ _ _ hle e'];rfl
theorem mono_left(L:gA lt)(key:Keyed)(hn:base+n<=arr.size)(hs:cO lt ((arr.toList.drop base).take n)):∀i j,i<=j->j<n->cb lt true key arr base j=true->cb lt true key arr base i=true:=λi j Fq hj e=>by
 have O6:base+j<(arr.toList:):=by rw[Qa6];lia
 have K1:base+i<(arr.toList:):=by lia
 rw[fu (OD O6)]at e
 rw[fu (OD K1)]
 walk_at"G"
 cases z:lt (arr.toList[base+i]) key with
 | true=>rfl
 | false=>rw[L.tr _ _ _ z hle]at e;cases e
theorem qe(h:cO lt l)(i n:Nat):cO lt ((l.drop i).take n):=h.sublist ((Qgk _ _).trans (List.drop_sublist _ _))
theorem GV{ac:Nat}(hg:q0 st aQ)(m:mh lt a b out ia ib)(q:ia+1<a.size)(r:ib<b.size)(t:i+2<=ia+ib):q0 st aQ/\∃jB tX tY g' O7 O8,((none,out,ia,ib,g,ac,bc):Option (Array Keyed)×Array Keyed×Nat×Nat×Nat×Nat×Nat)=(none,jB,tX,tY,g',O7,O8)/\mh lt a b jB tX tY/\tX+1<a.size/\tY<b.size/\i+2<=tX+tY:=
 ⟨hg,_,_,_,_,_,_,rfl,m,q,r,t⟩
theorem GW{ac:Nat}(hg:q0 st aQ)(m:mh lt a b out ia ib)(q:ia+1<a.size)(r:ib<b.size)(t:i+2<=ia+ib):q0 st aQ/\((∃jB z,((none,out,ia,ib,g,ac,bc):Option (Array Keyed)×Array Keyed×Nat×Nat×Nat×Nat×Nat)=(some jB,z)/\iM lt a b jB)\/∃jB tX tY g' O7 O8,((none,out,ia,ib,g,ac,bc):Option (Array Keyed)×Array Keyed×Nat×Nat×Nat×Nat×Nat)=(none,jB,tX,tY,g',O7,O8)/\mh lt a b jB tX tY/\tX+1<a.size/\tY<b.size/\i+2<=tX+tY):=
 ⟨hg,.inr (GV hg m q r t).2⟩
end
section
variable{prog:Program}{w:World}{A:Around}{E:Value->Shared->Prop}{s:Shared}{kd:SortKind}{lt:Keyed->Keyed->Bool}{a₀:Array Keyed}
theorem O9{Q:Array Keyed->SortSt->Prop}(L:gA lt)(C:jA prog w A E s kd lt a₀)(K2:kindOf st=kd)(ha:∀p∈a.toList,p∈a₀.toList)(hb:∀p∈b.toList,p∈a₀.toList)(na:1<=a.size)(nb:1<=b.size)
  (sa:cO lt a.toList) (sb:cO lt b.toList) (hf:∀x∈a.toList,∀q,b[0]? =some q->lt x q=false) (hl:∀y,a[a.size - 1]? =some y->∀e∈b.toList,lt y e=false)
  (h:∀out aQ,q0 st aQ->iM lt a b out->Q out aQ):wpS (model prog w) A E s (mLo a b) Q st:=by
 walk_at"s"
 refine wpS_bind (cj () λp hp ep=>?_)
 have m0:mh lt a b #[p] 0 1:=(show mh lt a b #[] 0 0 from ⟨Qej _,by simpa using sa,by simpa using sb⟩).lB ep λx hx=>hf x (Qch hx) p ep
 have Cp:∀{out:Array Keyed} {ia ib:Nat},mh lt a b out ia ib->ia+1=a.size->iM lt a b (out++b.extract ib++a.extract ia):=λ{out ia ib} m e=>m.X6 λx hx y hy=>by
  have hz:a.size - 1<a.size:=by lia
  have ey:a[a.size - 1]? =some a[a.size - 1]:=getElem?_pos a _ hz
  rw[GU (l:=a.toList) (y:=a[a.size - 1]) (by rw[Qa6];exact e) (by rw[Qa6];simpa using ey)]at hy
  rw[Wi.mp hy]
  exact hl _ ey x hx
 walk_at"M"
 ·exact wpS_pure (h _ _ (.refl _) (m0.Eh (by simpa using g)))
 refine aE (λg2=>?_) (λg2=>?_)
 ·exact wpS_pure (h _ _ (.refl _) (Cp m0 (by simpa using g2)))
 have g': ¬1=b.size:=λz=>g (by simpa using z)
 have Wn: ¬0+1=a.size:=λz=>g2 (by simpa using z)
 walk_at"u"
 refine wpS_bind (wpS_mono (wpS_forRange (I:=λi c aQ=>q0 st aQ/\∃out ia ib g,c=(none,out,ia,ib,g)/\mh lt a b out ia ib/\ia+1<a.size/\ib<b.size/\i+1<=ia+ib)
  (Q:=λc aQ=>q0 st aQ/\∃out z,c=(some out,z)/\iM lt a b out) ?_ ?_ ?_) ?_)
 ·rintro i c dJ _ hi ⟨hg,out,ia,ib,g,rfl,m1,h1,h2,h3⟩
  have yf:kindOf dJ=kd:=by obtain ⟨g0,rfl⟩:=hg;exact K2
  refine wpS_bind (wpS_mono (wpS_forRange (I:=λx c aQ=>aQ=dJ/\∃out ia ib ac bc,c=(none,out,ia,ib,ac,bc)/\mh lt a b out ia ib/\ia+1<a.size/\ib<b.size/\i+1+x<=ia+ib)
   (Q:=λc aQ=>aQ=dJ/\((∃out z,c=(some out,z)/\iM lt a b out)\/∃out ia ib ac bc,c=(none,out,ia,ib,ac,bc)/\mh lt a b out ia ib/\ia+1<a.size/\ib<b.size/\i+2<=ia+ib)) ?_ ?_ ⟨rfl,out,ia,ib,0,0,rfl,m1,h1,h2,()⟩) ?_)
  ·rintro x c jq _ hx ⟨rfl,out,ia,ib,ac,bc,rfl,m1,h1,h2,h3⟩
   refine wpS_bind (cj h2 λpb K3 eb=>wpS_bind (cj (show ia<a.size by lia) λpa O_ ea=>wpS_bind (C _ _ _ _ yf (hb _ K3) (ha _ O_) ?_)))
   cases UI:lt pb pa with
   | true=>
    refine wpS_bind (cj h2 λq hq eq=>?_)
    have m2:=m1.lB eq (h7 L sa (i:=ia) (p:=pa) (by simpa using ea) (by rw[eb]at eq;cases eq;exact L.lT _ _ UI))
    refine aE (λz=>wpS_pure ⟨rfl,.inl ⟨_,_,rfl,m2.Eh (by simpa using z)⟩⟩) (λz=>?_)
    have z': ¬ib+1=b.size:=λy=>z (by simpa using y)
    exact aE (λ_=>wpS_pure ⟨rfl,.inr ⟨_,ia,ib+1,_,_,rfl,m2,h1,(),()⟩⟩) (λ_=>wpS_pure ⟨rfl,_,ia,ib+1,_,_,rfl,m2,h1,(),()⟩)
   | false=>
    refine wpS_bind (cj (show ia<a.size by lia) λq hq eq=>?_)
    have m2:=m1.lC eq (h7 L sb (i:=ib) (p:=pb) (by simpa using eb) (by rw[ea]at eq;cases eq;exact UI))
    refine aE (λz=>wpS_pure ⟨rfl,.inl ⟨_,_,rfl,Cp m2 (by simpa using z)⟩⟩) (λz=>?_)
    have z': ¬ia+1+1=a.size:=λy=>z (by simpa using y)
    exact aE (λ_=>wpS_pure ⟨rfl,.inr ⟨_,ia+1,ib,_,_,rfl,m2,(),h2,()⟩⟩) (λ_=>wpS_pure ⟨rfl,_,ia+1,ib,_,_,rfl,m2,(),h2,()⟩)
  ·rintro c jq ⟨e2,out,ia,ib,ac,bc,rfl,m1,h1,h2,h3⟩
   exact ⟨e2,.inr ⟨_,_,_,_,_,rfl,m1,h1,h2,()⟩⟩
  ·rintro c jq ⟨rfl,⟨out,z,rfl,pf⟩ | ⟨out,ia,ib,ac,bc,rfl,m1,h1,h2,h3⟩⟩
   ·exact wpS_pure ⟨hg,out,_,rfl,pf⟩
   walk_at"s"
   refine wpS_bind (wpS_mono (wpS_forRange (I:=λx c aQ=>q0 st aQ/\∃out ia ib g ac bc,c=(none,out,ia,ib,g,ac,bc)/\mh lt a b out ia ib/\ia+1<a.size/\ib<b.size/\i+2<=ia+ib)
    (Q:=λc aQ=>q0 st aQ/\((∃out z,c=(some out,z)/\iM lt a b out)\/∃out ia ib g ac bc,c=(none,out,ia,ib,g,ac,bc)/\mh lt a b out ia ib/\ia+1<a.size/\ib<b.size/\i+2<=ia+ib)) ?_ ?_ ⟨hg,out,ia,ib,_,ac,bc,rfl,m1,h1,h2,h3⟩) ?_)
   ·rintro x c Ad _ hx ⟨nV,out,ia,ib,gg,ac,bc,rfl,m1,h1,h2,h3⟩
    have UJ:kindOf Ad=kd:=by obtain ⟨g0,rfl⟩:=nV;exact K2
    refine aE (λ_=>?_) (λ_=>?_)
    all_goals
     refine wpS_bind (wpS_modify ?_)
     refine wpS_bind (cj h2 λpb K3 eb=>wpS_bind (nU C UJ (hb _ K3) ha (show ia+(a.size - ia)<=a.size by lia) (show 0<a.size - ia by lia) (mono_right L pb (show ia+(a.size - ia)<=a.size by lia) (qe sa _ _)) λk hk y1 y2=>?_))
     have X7:∀x∈b.toList.drop ib,lt x pb=false:=h7 L sb (i:=ib) (p:=pb) (by simpa using eb) (JZ L pb)
     have c1:∀e∈(a.toList.drop ia).take k,∀x∈b.toList.drop ib,lt x e=false:=λe he x hx=>by
      obtain ⟨j,hj,ej⟩:=fm he
      have:=y1 j hj
      rw[dW ej]at this
      exact L.tr e pb x (by simpa using this) (X7 x hx)
     have c2:∀x∈a.toList.drop (ia+k),lt x pb=false:=λx hx=>by
      obtain ⟨j,ej⟩:=mG hx
      have cU:=(OC.mp ej).1
      rw[Qa6]at cU
      have:=(show ∀i,k<=i->i<a.size - ia->cb lt false pb a ia i=false from y2) (k+j) () ()
      rw[dW (x:=x) (by rw[<-Qeb];exact ej)]at this
      exact L.lT _ _ (by simpa using this)
     refine aE (λyf=>aE (λz=>wpS_pure ⟨nV.set _,.inl ⟨_,_,rfl,Cp (m1.tW c1) (by simpa using z)⟩⟩) (λz1=>aE (λz=>wpS_pure ⟨nV.set _,.inl ⟨_,_,rfl,(m1.tW c1).Ei (by simpa using z)⟩⟩) (λz2=>?_))) (λyf=>?_)
     all_goals first
      |(have m2:=m1.tW c1
        have c3:=c2
        have q1:ia+k+1<a.size:=Ee hk h1 (λe=>z1 (by simpa using e)) (λe=>z2 (by simpa using e))
        have q2:i+2<=ia+k+ib:=by lia)
      |(have m2:=m1
        have X8:k=0:=Qee yf
        have c3:∀x∈a.toList.drop ia,lt x pb=false:=by rw[X8,Qdl]at c2;exact c2
        have q1:=h1
        have q2:=h3)
     all_goals
      refine wpS_bind (cj h2 λpc X9 ec=>?_)
      have X_:pc=pb:=by rw[eb]at ec;exact (Qal ec).symm
      subst X_
      have m3:=m2.lB ec c3
      refine aE (λz=>wpS_pure ⟨nV.set _,.inl ⟨_,_,rfl,m3.Eh (by simpa using z)⟩⟩) (λz3=>?_)
      have z3': ¬ib+1=b.size:=λe=>z3 (by simpa using e)
      refine wpS_bind (cj (Nat.lt_of_succ_lt q1) λpd UK ed=>wpS_bind (nU C UJ (ha _ UK) hb (show ib+1+(b.size - (ib+1))<=b.size by lia) (show 0<b.size - (ib+1) by lia) (mono_left L pd (show ib+1+(b.size - (ib+1))<=b.size by lia) (qe sb _ _)) λk2 tG y3 y4=>?_))
      have Wo:=h7 L sa (p:=pd) (by simpa using ed) (JZ L pd)
      have c4:∀e∈(b.toList.drop (ib+1)).take k2,∀x∈a.toList.drop _,lt x e=false:=λe he x hx=>by
       obtain ⟨j,hj,ej⟩:=fm he
       have:=y3 j hj
       rw[fu ej]at this
       exact L.tr e pd x (L.lT _ _ this) (Wo x hx)
      have c5:∀x∈b.toList.drop (ib+1+k2),lt x pd=false:=λx hx=>by
       obtain ⟨j,ej⟩:=mG hx
       have cU:=(OC.mp ej).1
       rw[Qa6]at cU
       have:=(show ∀i,k2<=i->i<b.size - (ib+1)->cb lt true pd b (ib+1) i=false from y4) (k2+j) () ()
       rw[fu (x:=x) (by rw[<-Qeb];exact ej)]at this
       exact this
      refine aE (λGX=>aE (λz=>wpS_pure ⟨nV.set _,.inl ⟨_,_,rfl,(m3.tV c4).Eh (by simpa using z)⟩⟩) (λz4=>?_)) (λGX=>?_)
      all_goals first
       |(have m4:=m3.tV c4
         have c6:=c5
         have r1:ib+1+k2<b.size:=Ef tG h2 (λe=>z4 (by simpa using e))
         have r2:ib<=ib+1+k2:=by lia)
       |(have m4:=m3
         have UL:k2=0:=Qee GX
         have c6:∀x∈b.toList.drop (ib+1),lt x pd=false:=by rw[UL,Qdl]at c5;exact c5
         have r1:ib+1<b.size:=by lia
         have r2:ib<=ib+1:=by lia)
      all_goals
       refine wpS_bind (cj (Nat.lt_of_succ_lt q1) λpe vc ee=>?_)
       have Ya:pe=pd:=by rw[ed]at ee;exact (Qal ee).symm
       subst Ya
       have m5:=m4.lC ee c6
       refine aE (λz=>wpS_pure ⟨nV.set _,.inl ⟨_,_,rfl,Cp m5 (by simpa using z)⟩⟩) (λz5=>?_)
       have q5:=Nat.lt_of_le_of_ne q1 (λe=>z5 (by simpa using e))
       exact aE (λ_=>wpS_pure (GW (nV.set _) m5 q5 r1 (Na q2 r2))) (λ_=>wpS_pure (GV (nV.set _) m5 q5 r1 (Na q2 r2)))
   ·rintro c Ad ⟨nV,out,ia,ib,gg,ac,bc,rfl,m1,h1,h2,h3⟩
    exact ⟨nV,.inr ⟨_,_,_,_,_,_,rfl,m1,h1,h2,h3⟩⟩
   ·rintro c Ad ⟨nV,⟨out,z,rfl,pf⟩ | ⟨out,ia,ib,g,ac,bc,rfl,m1,h1,h2,h3⟩⟩
    ·exact wpS_pure ⟨nV,out,_,rfl,pf⟩
    ·exact wpS_bind (wpS_modify (wpS_pure ⟨nV.set _,_,_,_,_,rfl,m1,h1,h2,()⟩))
 ·rintro c dJ ⟨hg,out,ia,ib,g,rfl,m1,h1,h2,h3⟩
  exfalso
  lia
 ·exact ⟨.refl _,_,_,_,_,rfl,m0,(),(),()⟩
 ·rintro c aQ ⟨hg,out,z,rfl,hp⟩
  exact wpS_pure (h _ _ hg hp)
end
section
variable{lt:Keyed->Keyed->Bool}
theorem jC(h1:cO lt (x++y))(h2:cO lt (c++y))(h3:∀e∈x,∀f∈c,lt f e=false):cO lt (x++c++y):=by
 unfold cO at*
 rw[RI]
 rw[Qa9]at h1 ⊢
 refine ⟨h1.1,h2,λe he f hf=>?_⟩
 rcases Qap.mp hf with z | z
 ·exact h3 e he f z
 ·exact h1.2.2 e he f z
theorem h_(L:gA lt){p q:Keyed}(h:cO lt l)(hp:l[i]? =some p)(hq:lt q p=false):∀x∈l.take (i+1),lt q x=false:=λx hx=>by
 obtain ⟨j,hj⟩:=Qc5 hx
 have h1:=(OC.mp hj).1
 rw[Qad]at h1
 rw[Qa5 ()]at hj
 exact L.tr x p q (A3 L h () hj hp) hq
structure mi(lt:Keyed->Keyed->Bool)(a b out:Array Keyed)(na nb:Nat):Prop where
 m:Mh a b out na nb
 sa:cO lt (a.toList.take na++out.toList.reverse)
 sb:cO lt (b.toList.take nb++out.toList.reverse)
variable{a b out:Array Keyed}{na nb k:Nat}{p q:Keyed}
theorem mi.lC(h:mi lt a b out na nb)(h1:1<=na)(hp:a[na - 1]? =some q)(hq:∀x∈b.toList.take nb,lt q x=false):mi lt a b (out.push q) (na - 1) nb:=by
 have hd:a.toList.take na=a.toList.take (na - 1)++[q]:=by
  have:=fk (l:=a.toList) (i:=na - 1) (p:=q) (by simpa using hp)
  rwa [show na - 1+1=na by lia]at this
 have h2:cO lt (a.toList.take (na - 1)++([q]++out.toList.reverse)):=by
  have:=h.sa;rw[hd,RI]at this;exact this
 refine ⟨h.m.lC h1 hp,?_,?_⟩
 ·rw[Qcb,Qc7];exact h2
 ·rw[Qcb,Qc7]
  have:=jC h.sb (fX h2) λe he f hf=>by rw[Wi.mp hf];exact hq e he
  rw[RI]at this
  exact this
theorem mi.lB(h:mi lt a b out na nb)(h1:1<=nb)(hp:b[nb - 1]? =some q)(hq:∀x∈a.toList.take na,lt q x=false):mi lt a b (out.push q) na (nb - 1):=by
 have hd:b.toList.take nb=b.toList.take (nb - 1)++[q]:=by
  have:=fk (l:=b.toList) (i:=nb - 1) (p:=q) (by simpa using hp)
  rwa [show nb - 1+1=nb by lia]at this
 have h2:cO lt (b.toList.take (nb - 1)++([q]++out.toList.reverse)):=by
  have:=h.sb;rw[hd,RI]at this;exact this
 refine ⟨h.m.lB h1 hp,?_,?_⟩
 ·rw[Qcb,Qc7]
  have:=jC h.sa (fX h2) λe he f hf=>by rw[Wi.mp hf];exact hq e he
  rw[RI]at this
  exact this
 ·rw[Qcb,Qc7];exact h2
theorem mi.tW(h:mi lt a b out na nb)(hk:k<=na)(hq:∀e∈b.toList.take nb,∀f∈(a.toList.drop k).take (na - k),lt f e=false):mi lt a b (out++(a.extract k na).reverse) k nb:=by
 have hd:=q8 a.toList k na hk
 have h2:cO lt (a.toList.take k++((a.toList.drop k).take (na - k)++out.toList.reverse)):=by
  have:=h.sa;rw[hd,RI]at this;exact this
 have e:(out++(a.extract k na).reverse).toList.reverse=(a.toList.drop k).take (na - k)++out.toList.reverse:=by
  rw[Qaz,Qc1,aO,Qc7,Qf6]
 refine ⟨h.m.tW hk,?_,?_⟩
 ·rw[e];exact h2
 ·rw[e]
  have:=jC h.sb (fX h2) hq
  rw[RI]at this
  exact this
theorem mi.tV(h:mi lt a b out na nb)(hk:k<=nb)(hq:∀e∈a.toList.take na,∀f∈(b.toList.drop k).take (nb - k),lt f e=false):mi lt a b (out++(b.extract k nb).reverse) na k:=by
 have hd:=q8 b.toList k nb hk
 have h2:cO lt (b.toList.take k++((b.toList.drop k).take (nb - k)++out.toList.reverse)):=by
  have:=h.sb;rw[hd,RI]at this;exact this
 have e:(out++(b.extract k nb).reverse).toList.reverse=(b.toList.drop k).take (nb - k)++out.toList.reverse:=by
  rw[Qaz,Qc1,aO,Qc7,Qf6]
 refine ⟨h.m.tV hk,?_,?_⟩
 ·rw[e]
  have:=jC h.sa (fX h2) hq
  rw[RI]at this
  exact this
 ·rw[e];exact h2
theorem mi.Ei(h:mi lt a b out na nb)(e:na=0):iM lt a b (a.extract 0 na++b.extract 0 nb++out.reverse):=by
 refine ⟨h.m.A1,?_⟩
 rw[Qaz,Qaz,aO,aO,Qcv,Qcv,Qdi,Qdi,Qc1,e,List.take_zero,Qdg]
 exact h.sb
theorem mi.Eh(h:mi lt a b out na nb)(e:nb=0):iM lt a b (a.extract 0 na++b.extract 0 nb++out.reverse):=by
 refine ⟨h.m.A1,?_⟩
 rw[Qaz,Qaz,aO,aO,Qcv,Qcv,Qdi,Qdi,Qc1,e,List.take_zero,Qa4]
 exact h.sa
theorem mi.Yb(h:mi lt a b out na nb)(hl:∀e∈b.toList.take nb,∀f∈a.toList,lt f e=false):iM lt a b (b.extract 0 nb++a.extract 0 na++out.reverse):=by
 refine ⟨h.m.O3,?_⟩
 rw[Qaz,Qaz,aO,aO,Qcv,Qcv,Qdi,Qdi,Qc1]
 exact jC h.sb h.sa λe he f hf=>hl e he f (Qb9 hf)
theorem ie{k:Nat}(h:e∈l.take k):∃j,j<k/\l[0+j]? =some e:=by
 obtain ⟨j,hj⟩:=Qc5 h
 have h1:=(OC.mp hj).1
 rw[Qad]at h1
 rw[Qa5 ()]at hj
 exact ⟨j,(),by rw[Qcq];exact hj⟩
theorem GY{ac:Nat}(hg:q0 st aQ)(m:mi lt a b out na nb)(q:1<=na)(r:2<=nb)(l1:na<=a.size)(l2:nb<=b.size)(t:na+nb+i+2<=a.size+b.size):q0 st aQ/\∃tX tY jB g' O7 O8,((none,na,nb,out,g,ac,bc):Option (Array Keyed)×Nat×Nat×Array Keyed×Nat×Nat×Nat)=(none,tX,tY,jB,g',O7,O8)/\mi lt a b jB tX tY/\1<=tX/\2<=tY/\tX<=a.size/\tY<=b.size/\tX+tY+i+2<=a.size+b.size:=
 ⟨hg,_,_,_,_,_,_,rfl,m,q,r,l1,l2,t⟩
theorem GZ{ac:Nat}(hg:q0 st aQ)(m:mi lt a b out na nb)(q:1<=na)(r:2<=nb)(l1:na<=a.size)(l2:nb<=b.size)(t:na+nb+i+2<=a.size+b.size):q0 st aQ/\((∃jB z,((none,na,nb,out,g,ac,bc):Option (Array Keyed)×Nat×Nat×Array Keyed×Nat×Nat×Nat)=(some jB,z)/\iM lt a b jB)\/∃tX tY jB g' O7 O8,((none,na,nb,out,g,ac,bc):Option (Array Keyed)×Nat×Nat×Array Keyed×Nat×Nat×Nat)=(none,tX,tY,jB,g',O7,O8)/\mi lt a b jB tX tY/\1<=tX/\2<=tY/\tX<=a.size/\tY<=b.size/\tX+tY+i+2<=a.size+b.size):=
 ⟨hg,.inr (GY hg m q r l1 l2 t).2⟩
end
section
variable{prog:Program}{w:World}{A:Around}{E:Value->Shared->Prop}{s:Shared}{kd:SortKind}{lt:Keyed->Keyed->Bool}{a₀:Array Keyed}
theorem Pa{Q:Array Keyed->SortSt->Prop}(L:gA lt)(C:jA prog w A E s kd lt a₀)(K2:kindOf st=kd)(ha:∀p∈a.toList,p∈a₀.toList)(hb:∀p∈b.toList,p∈a₀.toList)(na:1<=a.size)(nb:1<=b.size)
  (sa:cO lt a.toList) (sb:cO lt b.toList) (hf:∀x∈a.toList,∀q,b[0]? =some q->lt x q=false) (hl:∀y,a[a.size - 1]? =some y->∀e∈b.toList,lt y e=false)
  (h:∀out aQ,q0 st aQ->iM lt a b out->Q out aQ):wpS (model prog w) A E s (mHi a b) Q st:=by
 walk_at"s"
 refine wpS_bind (cj (show a.size - 1<a.size by lia) λp hp ep=>?_)
 have m0:mi lt a b #[p] (a.size - 1) b.size:=(show mi lt a b #[] a.size b.size from ⟨by unfold Mh;simp,by rw[Qai (by simp)];simpa using sa,by rw[Qai (by simp)];simpa using sb⟩).lC na ep λx hx=>hl p ep x (Qb9 hx)
 have wN:∀{out:Array Keyed} {ia ib:Nat},mi lt a b out ia ib->ib=1->iM lt a b (b.extract 0 ib++a.extract 0 ia++out.reverse):=λ{out ia ib} m e=>m.Yb λx hx f Pb=>by
  subst e
  have e0:b[0]? =some b[0]:=getElem?_pos b 0 ()
  obtain ⟨j,hj,ej⟩:=ie hx
  have hj0:j=0:=by lia
  subst hj0
  exact hf f Pb x (by simpa using ej)
 walk_at"M"
 ·exact wpS_pure (h _ _ (.refl _) (m0.Ei (by simpa using g)))
 refine aE (λg2=>?_) (λg2=>?_)
 ·exact wpS_pure (h _ _ (.refl _) (wN m0 (by simpa using g2)))
 have g': ¬a.size - 1=0:=λz=>g (by simpa using z)
 have Wn: ¬b.size=1:=λz=>g2 (by simpa using z)
 walk_at"u"
 refine wpS_bind (wpS_mono (wpS_forRange (I:=λi c aQ=>q0 st aQ/\∃ia ib out g,c=(none,ia,ib,out,g)/\mi lt a b out ia ib/\1<=ia/\2<=ib/\ia<=a.size/\ib<=b.size/\ia+ib+i+1<=a.size+b.size)
  (Q:=λc aQ=>q0 st aQ/\∃out z,c=(some out,z)/\iM lt a b out) ?_ ?_ ?_) ?_)
 ·rintro i c dJ _ hi ⟨hg,ia,ib,out,g,rfl,m1,h1,h2,l1,l2,h3⟩
  have yf:kindOf dJ=kd:=by obtain ⟨g0,rfl⟩:=hg;exact K2
  refine wpS_bind (wpS_mono (wpS_forRange (I:=λx c aQ=>aQ=dJ/\∃ia ib out ac bc,c=(none,ia,ib,out,ac,bc)/\mi lt a b out ia ib/\1<=ia/\2<=ib/\ia<=a.size/\ib<=b.size/\ia+ib+i+1+x<=a.size+b.size)
   (Q:=λc aQ=>aQ=dJ/\((∃out z,c=(some out,z)/\iM lt a b out)\/∃ia ib out ac bc,c=(none,ia,ib,out,ac,bc)/\mi lt a b out ia ib/\1<=ia/\2<=ib/\ia<=a.size/\ib<=b.size/\ia+ib+i+2<=a.size+b.size)) ?_ ?_ ⟨rfl,ia,ib,out,0,0,rfl,m1,h1,h2,l1,l2,()⟩) ?_)
  ·rintro x c jq _ hx ⟨rfl,ia,ib,out,ac,bc,rfl,m1,h1,h2,l1,l2,h3⟩
   refine wpS_bind (cj (show ib - 1<b.size by lia) λpb K3 eb=>wpS_bind (cj (show ia - 1<a.size by lia) λpa O_ ea=>wpS_bind (C _ _ _ _ yf (hb _ K3) (ha _ O_) ?_)))
   have Yc:ib - 1+1=ib:=by lia
   have eia:ia - 1+1=ia:=by lia
   cases UI:lt pb pa with
   | true=>
    refine wpS_bind (cj (show ia - 1<a.size by lia) λq hq eq=>?_)
    have Ye:q=pa:=(Qal (ea.symm.trans eq)).symm
    have m2:=m1.lC h1 eq (by
     have:=h_ L sb (i:=ib - 1) (p:=pb) (q:=q) (by simpa using eb) (by rw[Ye];exact L.lT _ _ UI)
     rw[Yc]at this;exact this)
    refine aE (λz=>wpS_pure ⟨rfl,.inl ⟨_,_,rfl,m2.Ei (by simpa using z)⟩⟩) (λz=>?_)
    have z': ¬ia - 1=0:=λy=>z (by simpa using y)
    exact aE (λ_=>wpS_pure ⟨rfl,.inr ⟨ia - 1,ib,_,_,_,rfl,m2,(),h2,(),l2,()⟩⟩) (λ_=>wpS_pure ⟨rfl,ia - 1,ib,_,_,_,rfl,m2,(),h2,(),l2,()⟩)
   | false=>
    refine wpS_bind (cj (show ib - 1<b.size by lia) λq hq eq=>?_)
    have Ye:q=pb:=(Qal (eb.symm.trans eq)).symm
    have m2:=m1.lB () eq (by
     have:=h_ L sa (i:=ia - 1) (p:=pa) (q:=q) (by simpa using ea) (by rw[Ye];exact UI)
     rw[eia]at this;exact this)
    refine aE (λz=>wpS_pure ⟨rfl,.inl ⟨_,_,rfl,wN m2 (by simpa using z)⟩⟩) (λz=>?_)
    have z': ¬ib - 1=1:=λy=>z (by simpa using y)
    exact aE (λ_=>wpS_pure ⟨rfl,.inr ⟨ia,ib - 1,_,_,_,rfl,m2,h1,(),l1,(),()⟩⟩) (λ_=>wpS_pure ⟨rfl,ia,ib - 1,_,_,_,rfl,m2,h1,(),l1,(),()⟩)
  ·rintro c jq ⟨e2,ia,ib,out,ac,bc,rfl,m1,h1,h2,l1,l2,h3⟩
   exact ⟨e2,.inr ⟨_,_,_,_,_,rfl,m1,h1,h2,l1,l2,()⟩⟩
  ·rintro c jq ⟨rfl,⟨out,z,rfl,pf⟩ | ⟨ia,ib,out,ac,bc,rfl,m1,h1,h2,l1,l2,h3⟩⟩
   ·exact wpS_pure ⟨hg,out,_,rfl,pf⟩
   walk_at"s"
   refine wpS_bind (wpS_mono (wpS_forRange (I:=λx c aQ=>q0 st aQ/\∃ia ib out g ac bc,c=(none,ia,ib,out,g,ac,bc)/\mi lt a b out ia ib/\1<=ia/\2<=ib/\ia<=a.size/\ib<=b.size/\ia+ib+i+2<=a.size+b.size)
    (Q:=λc aQ=>q0 st aQ/\((∃out z,c=(some out,z)/\iM lt a b out)\/∃ia ib out g ac bc,c=(none,ia,ib,out,g,ac,bc)/\mi lt a b out ia ib/\1<=ia/\2<=ib/\ia<=a.size/\ib<=b.size/\ia+ib+i+2<=a.size+b.size)) ?_ ?_ ⟨hg,ia,ib,out,_,ac,bc,rfl,m1,h1,h2,l1,l2,h3⟩) ?_)
   ·rintro x c Ad _ hx ⟨nV,ia,ib,out,gg,ac,bc,rfl,m1,h1,h2,l1,l2,h3⟩
    have UJ:kindOf Ad=kd:=by obtain ⟨g0,rfl⟩:=nV;exact K2
    have Yc:ib - 1+1=ib:=by lia
    refine aE (λ_=>?_) (λ_=>?_)
    all_goals
     refine wpS_bind (wpS_modify ?_)
     refine wpS_bind (cj (show ib - 1<b.size by lia) λpb K3 eb=>wpS_bind (nU C UJ (hb _ K3) ha (show 0+ia<=a.size by lia) (show ia - 1<ia by lia) (mono_right L pb (show 0+ia<=a.size by lia) (qe sa _ _)) λk AE y1 y2=>?_))
     have hk:k<=ia:=AE
     have y2':∀i,k<=i->i<ia->cb lt false pb a 0 i=false:=y2
     have X7:∀x∈b.toList.take ib,lt pb x=false:=by
      have:=h_ L sb (i:=ib - 1) (p:=pb) (q:=pb) (by simpa using eb) (JZ L pb)
      rw[Yc]at this;exact this
     have c1:∀e∈b.toList.take ib,∀f∈(a.toList.drop k).take (ia - k),lt f e=false:=λe he f Pb=>by
      obtain ⟨j,hj,ej⟩:=fm Pb
      have:=y2' (k+j) () ()
      rw[dW (x:=f) (by rw[Qcq];exact ej)]at this
      exact L.tr e pb f (X7 e he) (L.lT _ _ (by simpa using this))
     have c2:∀x∈a.toList.take k,lt pb x=false:=λx hx=>by
      obtain ⟨j,hj,ej⟩:=ie hx
      have:=y1 j hj
      rw[dW ej]at this
      simpa using this
     refine aE (λyf=>aE (λz=>wpS_pure ⟨nV.set _,.inl ⟨_,_,rfl,(m1.tW hk c1).Ei (by simpa using z)⟩⟩) (λz1=>?_)) (λyf=>?_)
     all_goals first
      |(have m2:=m1.tW hk c1
        have c3:=c2
        have z1': ¬k=0:=λe=>z1 (by simpa using e)
        have q1:1<=k:=by lia
        have q2:k<=a.size:=by lia
        have q3:k+ib+i+2<=a.size+b.size:=by lia)
      |(have m2:=m1
        have ek:k=ia:=Qdf hk (Nat.le_of_sub_eq_zero (Qee yf))
        have c3:∀x∈a.toList.take ia,lt pb x=false:=by rw[ek]at c2;exact c2
        have q1:=h1
        have q2:=l1
        have q3:=h3)
     all_goals
      refine wpS_bind (cj (show ib - 1<b.size by lia) λpc X9 ec=>?_)
      have X_:pc=pb:=(Qal (eb.symm.trans ec)).symm
      subst X_
      have m3:=m2.lB () ec c3
      refine aE (λz=>wpS_pure ⟨nV.set _,.inl ⟨_,_,rfl,wN m3 (by simpa using z)⟩⟩) (λz3=>?_)
      have z3': ¬ib - 1=1:=λe=>z3 (by simpa using e)
      refine wpS_bind (cj (Cm q1 q2) λpd UK ed=>wpS_bind (nU C UJ (ha _ UK) hb (show 0+(ib - 1)<=b.size by lia) (show ib - 1 - 1<ib - 1 by lia) (mono_left L pd (show 0+(ib - 1)<=b.size by lia) (qe sb _ _)) λk2 Yf y3 y4=>?_))
      have tG:k2<=ib - 1:=Yf
      have y4':∀i,k2<=i->i<ib - 1->cb lt true pd b 0 i=false:=y4
      have Wo:=h_ L sa (p:=pd) (q:=pd) (by simpa using ed) (JZ L pd)
      rw[Nat.sub_add_cancel q1]at Wo
      have c4:∀e∈a.toList.take _,∀f∈(b.toList.drop k2).take (ib - 1 - k2),lt f e=false:=λe he f Pb=>by
       obtain ⟨j,hj,ej⟩:=fm Pb
       have:=y4' (k2+j) () ()
       rw[fu (x:=f) (by rw[Qcq];exact ej)]at this
       exact L.tr e pd f (Wo e he) this
      have c5:∀x∈b.toList.take k2,lt pd x=false:=λx hx=>by
       obtain ⟨j,hj,ej⟩:=ie hx
       have:=y3 j hj
       rw[fu ej]at this
       exact L.lT _ _ this
      refine aE (λGX=>aE (λz=>wpS_pure ⟨nV.set _,.inl ⟨_,_,rfl,wN (m3.tV tG c4) (by simpa using z)⟩⟩) (λz4=>aE (λz=>wpS_pure ⟨nV.set _,.inl ⟨_,_,rfl,(m3.tV tG c4).Eh (by simpa using z)⟩⟩) (λz5=>?_))) (λGX=>?_)
      all_goals first
       |(have m4:=m3.tV tG c4
         have c6:=c5
         have z4': ¬k2=1:=λe=>z4 (by simpa using e)
         have z5': ¬k2=0:=λe=>z5 (by simpa using e)
         have r1:2<=k2:=by lia
         have r2:k2<=b.size:=by lia
         have r3:k2<=ib:=by lia)
       |(have m4:=m3
         have ek2:k2=ib - 1:=Qdf tG (Nat.le_of_sub_eq_zero (Qee GX))
         have c6:∀x∈b.toList.take (ib - 1),lt pd x=false:=by rw[ek2]at c5;exact c5
         have r1:2<=ib - 1:=by lia
         have r2:ib - 1<=b.size:=by lia
         have r3:ib - 1<=ib:=by lia)
      all_goals
       refine wpS_bind (cj (Cm q1 q2) λpe vc ee=>?_)
       have Ya:pe=pd:=(Qal (ed.symm.trans ee)).symm
       subst Ya
       have m5:=m4.lC q1 ee c6
       refine aE (λz=>wpS_pure ⟨nV.set _,.inl ⟨_,_,rfl,m5.Ei (by simpa using z)⟩⟩) (λz6=>?_)
       have q5:=O4 (λe=>z6 (by simpa using e))
       exact aE (λ_=>wpS_pure (GZ (nV.set _) m5 q5 r1 (Co q2) r2 (GR q3 r3))) (λ_=>wpS_pure (GY (nV.set _) m5 q5 r1 (Co q2) r2 (GR q3 r3)))
   ·rintro c Ad ⟨nV,ia,ib,out,gg,ac,bc,rfl,m1,h1,h2,l1,l2,h3⟩
    exact ⟨nV,.inr ⟨_,_,_,_,_,_,rfl,m1,h1,h2,l1,l2,h3⟩⟩
   ·rintro c Ad ⟨nV,⟨out,z,rfl,pf⟩ | ⟨ia,ib,out,g,ac,bc,rfl,m1,h1,h2,l1,l2,h3⟩⟩
    ·exact wpS_pure ⟨nV,out,_,rfl,pf⟩
    ·exact wpS_bind (wpS_modify (wpS_pure ⟨nV.set _,ia,ib,_,_,rfl,m1,h1,h2,l1,l2,()⟩))
 ·rintro c dJ ⟨hg,ia,ib,out,g,rfl,m1,h1,h2,l1,l2,h3⟩
  exfalso
  lia
 ·exact ⟨.refl _,a.size - 1,b.size,_,_,rfl,m0,(),(),(),(),()⟩
 ·rintro c aQ ⟨hg,out,z,rfl,hp⟩
  exact wpS_pure (h _ _ hg hp)
end
variable{q:Keyed}
section
variable{lt:Keyed->Keyed->Bool}
theorem km(hx:cO lt x)(hy:cO lt y)(h:∀e∈x,∀f∈y,lt f e=false):cO lt (x++y):=Qa9.mpr ⟨hx,hy,h⟩
theorem Cq(L:gA lt)(h:cO lt l)(h0:l[0]? =some q)(he:lt q e=false):∀f∈l,lt f e=false:=by
 have:=h7 L h h0 he
 rwa [Qcv]at this
theorem le_last(L:gA lt){y f:Keyed}(h:cO lt l)(h0:l[(l:) - 1]? =some y)(hf:lt f y=false):∀e∈l,lt f e=false:=λe he=>by
 have hl:=(OC.mp h0).1
 have:=h_ L h h0 hf
 rw[show (l:) - 1+1=(l:) by lia,Qbv]at this
 exact this e he
theorem Ej(L:gA lt){merged:List Keyed}{k m:Nat}{z:Keyed}(sx:cO lt x)(sy:cO lt y)(h0:y[0]? =some q)(hz:x[(x:) - 1]? =some z)(h1:∀e∈x.take k,lt q e=false)(h2:∀e∈y.drop m,lt e z=false)(pm:merged.Perm (x.drop k++y.take m))(sm:cO lt merged):
  cO lt (x.take k++merged++y.drop m):=by
 have hyq:∀f∈y,∀e∈x.take k,lt f e=false:=λf hf e he=>Cq L sy h0 (h1 e he) f hf
 have UM:∀f∈y.drop m,∀e∈x,lt f e=false:=λf hf e he=>le_last L sx hz (h2 f hf) e he
 have sx':cO lt (x.take k++x.drop k):=by rw[Qag];exact sx
 have sy':cO lt (y.take m++y.drop m):=by rw[Qag];exact sy
 refine km (km (hZ sx') sm λe he f hf=>?_) (fX sy') λe he f hf=>?_
 ·rcases Qap.mp (pm.mem_iff.mp hf) with g | g
  ·exact (Qa9.mp sx').2.2 e he f g
  ·exact hyq f (Qb9 g) e he
 ·rcases Qap.mp he with g | g
  ·exact hyq f (Qch hf) e g
  ·rcases Qap.mp (pm.mem_iff.mp g) with g | g
   ·exact UM f hf e (Qch g)
   ·exact (Qa9.mp sy').2.2 e g f hf
structure kY(kd:SortKind)(a₀:Array Keyed)(st:SortSt):Prop where
 perm:(arrOf st).Perm a₀
 kind:kindOf st=kd
 failed:failedOf st=none
theorem wO{α:Type}{pre l:List α}:(pre++l)[(pre:)+i]? =l[i]?:= by rw[Qaw (),Qbo]
theorem jD{α:Type}{pre x post:List α}(h:i<(x:)):(pre++x++post)[(pre:)+i]? =x[i]?:= by
 rw[RI,wO,Qbc h]
theorem rh{α:Type}{pre x post:List α}{arr:Array α}(e:arr.toList=pre++x++post):(mirror arr (pre:) ((pre:)+(x:)) (((pre:)+(x:) - (pre:)) / 2)).toList=pre++x.reverse++post:=by
 have hsz:arr.size=(pre:)+(x:)+(post:):=by rw[<-Qa6,e];simp;lia
 refine Qd3 λk=>?_
 rw[Qbb,getElem?_mirror_all (i:=(pre:)) (j:=(pre:)+(x:)) () k]
 by_cases h:(pre:)<=k/\k<(pre:)+(x:)
 ·rw[if_pos h, <-Qbb,e]
  rw[Qbc (by rw[T6];lia),Qaw ()]
  rw[Qbc (by rw[T6,Qa0];lia),Qaw (),Qd1 ()]
  congr 1
  lia
 ·rw[if_neg h, <-Qbb,e]
  by_cases g:k<(pre:)
  ·rw[RI,RI,Qbc g,Qbc g]
  ·rw[Qaw (by rw[T6];lia),Qaw (by rw[T6,Qa0];lia),T6,T6,Qa0]
theorem G0{α:Type}{pre x post:List α}{q:α}{arr:Array α}{l:Nat}(e:arr.toList=pre++x++q::post)(hl:l<=(x:)):(bubble arr ((pre:)+(x:)) ((pre:)+(x:) - ((pre:)+l))).toList=pre++(x.take l++q::x.drop l)++post:=by
 have hsz:arr.size=(pre:)+(x:)+((post:)+1):=by rw[<-Qa6,e];simp;lia
 have hq:arr[(pre:)+(x:)]? =some q:=by
  rw[<-Qbb,e,Qaw (by rw[T6];lia),T6,Qdj];rfl
 refine Qd3 λk=>?_
 rw[Qbb,getElem?_bubble () _ () k,show (pre:)+(x:) - ((pre:)+(x:) - ((pre:)+l))=(pre:)+l by lia]
 by_cases h1:k=(pre:)+l
 ·rw[if_pos h1,hq,h1]
  rw[jD (by simp;lia),Qaw (by rw[Qad];lia),Qad,Qbs hl,Qdj]
  rfl
 ·rw[if_neg h1]
  by_cases h2:(pre:)+l<k/\k<=(pre:)+(x:)
  ·rw[if_pos h2, <-Qbb,e]
   obtain ⟨j,rfl⟩:∃j,k=(pre:)+(l+1+j):=⟨k - (pre:) - l - 1,()⟩
   rw[show (pre:)+(l+1+j) - 1=(pre:)+(l+j) by lia,jD (),jD (by simp;lia),Qaw (by rw[Qad];lia),Qad,Qbs hl,show l+1+j - l=j+1 by lia,List.getElem?_cons_succ,Qbk]
  ·rw[if_neg h2, <-Qbb,e]
   by_cases h3:k<(pre:)+l
   ·by_cases h4:k<(pre:)
    ·rw[RI,RI,Qbc h4,Qbc h4]
    ·obtain ⟨j,rfl⟩:∃j,k=(pre:)+j:=⟨k - (pre:),()⟩
     rw[jD (),jD (by simp;lia),Qbc (by rw[Qad];lia),Qa5 ()]
   ·rw[Qaw (by rw[T6];lia),Qaw (by simp;lia)]
    simp only[T6,Qba,Qad,Qat]
    rw[show k - ((pre:)+(x:))=k - ((pre:)+(x:)) - 1+1 by lia,List.getElem?_cons_succ]
    congr 1
    lia
end
variable{Q:Bool->SortSt->Prop}{pre:List Keyed}
section
variable{prog:Program}{w:World}{A:Around}{E:Value->Shared->Prop}{s:Shared}{kd:SortKind}{lt:Keyed->Keyed->Bool}{a₀:Array Keyed}
theorem kY.size(h:kY kd a₀ st):(arrOf st).size=a₀.size:=h.perm.size_eq
theorem kY.mem(h:kY kd a₀ st)(hp:p∈(arrOf st).toList):p∈a₀.toList:=(Qbt.mp h.perm).mem_iff.mp hp
theorem kY.set(h:kY kd a₀ st){xs:Array Keyed}(hp:xs.toList.Perm (arrOf st).toList):kY kd a₀ (setArr st xs):=⟨(Qbt.mpr hp).trans h.perm,h.kind,h.failed⟩
theorem nW{Q:Option Bool->SortSt->Prop}(C:jA prog w A E s kd lt a₀)(hB:kY kd a₀ st)(hi:(arrOf st).toList[i]? =some p)(hj:(arrOf st).toList[j]? =some q)(h:Q (some (lt p q)) st):wpS (model prog w) A E s (ltAt' i j) Q st:=by
 rw[ltAt'_eq]
 walk_at"u"
 have li:=(OC.mp hi).1
 have lj:=(OC.mp hj).1
 rw[Qa6]at li lj
 refine wpS_bind (cj (show i<(arrOf st).size from li) λp' hp ep=>wpS_bind (cj (show j<(arrOf st).size from lj) λq' hq eq=>?_))
 have e1:p'=p:=by rw[Qbb,ep]at hi;exact Qal hi
 have e2:q'=q:=by rw[Qbb,eq]at hj;exact Qal hj
 subst e1
 subst e2
 exact C _ _ _ _ hB.kind (hB.mem hp) (hB.mem hq) h
theorem A4{pw Yg:Nat}{post:List Keyed}(L:gA lt)(C:jA prog w A E s kd lt a₀)(hB:kY kd a₀ st)(hi:(pendingOf st)[i]? =some ((pre:),(x:),pw))(hj:(pendingOf st)[i+1]? =some ((pre:)+(x:),(y:),Yg))
  (ea:(arrOf st).toList=pre++x++y++post) (hx:x≠[]) (hy:y≠[]) (sx:cO lt x) (sy:cO lt y)
  (h:∀aQ z,kY kd a₀ aQ->pendingOf aQ=((pendingOf st).setIfInBounds i ((pre:),(x:)+(y:),pw)).eraseIdxIfInBounds (i+1)->z.Perm (x++y)->cO lt z->(arrOf aQ).toList=pre++z++post->Q true aQ):wpS (model prog w) A E s (mergeAt' i) Q st:=by
 have hm:∀p∈(arrOf st).toList,p∈a₀.toList:=λp hp=>hB.mem hp
 have lx:=Qab.mpr hx
 have ly:=Qab.mpr hy
 have hz:(arrOf st).size=(pre:)+(x:)+(y:)+(post:):=by rw[<-Qa6,ea];simp only[T6]
 have Yh:∀j,j<(x:)->(arrOf st).toList[(pre:)+j]? =x[j]?:= λj hj=>by rw[ea,RI,jD hj]
 have Yi:∀j,j<(y:)->(arrOf st).toList[(pre:)+(x:)+j]? =y[j]?:= λj hj=>by
  rw[ea, <-T6,jD hj]
 have dx:((arrOf st).toList.drop (pre:)).take (x:)=x:=by rw[ea,RI,RI,Qe5,List.take_left]
 have dy:((arrOf st).toList.drop ((pre:)+(x:))).take (y:)=y:=by rw[ea, <-T6,RI (pre++x),Qe5,List.take_left]
 have Wq:y[0]? =some y[0]:=OD ly
 have Cr:x[(x:) - 1]? =some x[(x:) - 1]:=OD ()
 walk_at"u"
 simp only[hi,hj]
 refine wpS_bind (KZ ?_)
 refine wpS_bind (cj (show (pre:)+(x:)<(arrOf st).size by lia) λpb K3 eb=>wpS_bind (nU C hB.kind (hm _ K3) hm (show (pre:)+(x:)<=(arrOf st).size by lia) (show 0<(x:) by lia) (mono_right L pb (show (pre:)+(x:)<=(arrOf st).size by lia) (by rw[dx];exact sx)) λk hk y1 y2=>?_))
 have AE:k<=(x:):=hk
 have epb:pb=y[0]:=by
  have:=Yi 0 ly
  rw[Qdl,Qbb,eb,Wq]at this
  exact Qal this
 subst epb
 have b1:∀e∈x.take k,lt y[0] e=false:=λe he=>by
  obtain ⟨j,hj,ej⟩:=ie he
  rw[Qcq]at ej
  have:=y1 j hj
  rw[dW (x:=e) (by rw[Yh j ()];exact ej)]at this
  simpa using this
 have b2:∀e∈x.drop k,lt e y[0]=false:=λe he=>by
  obtain ⟨j,ej⟩:=mG he
  have cU:=(OC.mp ej).1
  have:=(show ∀i,k<=i->i<(x:)->cb lt false y[0] (arrOf st) (pre:) i=false from y2) (k+j) () cU
  rw[dW (x:=e) (by rw[Yh _ cU];exact ej)]at this
  exact L.lT _ _ (by simpa using this)
 walk_at"M"
 ·have g':(x:) - k=0:=by simpa using g
  have ek:k=(x:):=by lia
  rw[ek,Qbv]at b1
  exact wpS_pure (h _ (x++y) ⟨hB.perm,hB.kind,hB.failed⟩ rfl (Qej _) (km sx sy λe he f hf=>Cq L sy Wq (b1 e he) f hf) (by rw[<-RI];exact ea))
 have g': ¬(x:) - k=0:=λe=>g (by simpa using e)
 refine wpS_bind (cj (show (pre:)+k+((x:) - k) - 1<(arrOf st).size by lia) λpa O_ ep=>wpS_bind (nU C hB.kind (hm _ O_) hm (show (pre:)+(x:)+(y:)<=(arrOf st).size by lia) (show (y:) - 1<(y:) by lia) (mono_left L pa (show (pre:)+(x:)+(y:)<=(arrOf st).size by lia) (by rw[dy];exact sy)) λm Nb y3 y4=>?_))
 have A0:m<=(y:):=Nb
 have epa:pa=x[(x:) - 1]:=by
  have:=Yh ((x:) - 1) ()
  rw[Qbb,show (pre:)+((x:) - 1)=(pre:)+k+((x:) - k) - 1 by lia,Cr]at this
  rw[ep]at this
  exact Qal this
 subst epa
 have c1:∀e∈y.take m,lt x[(x:) - 1] e=false:=λe he=>by
  obtain ⟨j,hj,ej⟩:=ie he
  rw[Qcq]at ej
  have:=y3 j hj
  rw[fu (x:=e) (by rw[Yi j ()];exact ej)]at this
  exact L.lT _ _ this
 have c2:∀e∈y.drop m,lt e x[(x:) - 1]=false:=λe he=>by
  obtain ⟨j,ej⟩:=mG he
  have cU:=(OC.mp ej).1
  have:=(show ∀i,m<=i->i<(y:)->cb lt true x[(x:) - 1] (arrOf st) ((pre:)+(x:)) i=false from y4) (m+j) () cU
  rw[fu (x:=e) (by rw[Yi _ cU];exact ej)]at this
  exact this
 refine aE (λg2=>?_) (λg2=>?_)
 ·have g3:m=0:=by simpa using g2
  rw[g3,Qcv]at c2
  exact wpS_pure (h _ (x++y) ⟨hB.perm,hB.kind,hB.failed⟩ rfl (Qej _) (km sx sy λe he f hf=>le_last L sx Cr (c2 f hf) e he) (by rw[<-RI];exact ea))
 have g3: ¬m=0:=λe=>g2 (by simpa using e)
 have ex:((arrOf st).extract ((pre:)+k) ((pre:)+(x:))).toList=x.drop k:=by
  rw[aO,ea,RI,RI,Qfm,Qbi (),Qdg,Qbo,Qdv AE,Qbf (by rw[Qat];lia),Qai (by rw[Qat];lia)]
 have ey:((arrOf st).extract ((pre:)+(x:)) ((pre:)+(x:)+m)).toList=y.take m:=by
  rw[aO,ea, <-T6,RI (pre++x),Qe5,Qbo,Qbf A0]
 have sxk:cO lt (x.drop k):=sx.sublist (List.drop_sublist _ _)
 have sym:cO lt (y.take m):=sy.sublist (Qgk _ _)
 have sX:((arrOf st).extract ((pre:)+k) ((pre:)+(x:))).size=(x:) - k:=by rw[<-Qa6,ex,Qat]
 have sY:((arrOf st).extract ((pre:)+(x:)) ((pre:)+(x:)+m)).size=m:=by rw[<-Qa6,ey,Qad];lia
 have mx:∀p∈((arrOf st).extract ((pre:)+k) ((pre:)+(x:))).toList,p∈a₀.toList:=λp hp=>hm p (by rw[aO]at hp;exact Qch (Qb9 hp))
 have my:∀p∈((arrOf st).extract ((pre:)+(x:)) ((pre:)+(x:)+m)).toList,p∈a₀.toList:=λp hp=>hm p (by rw[aO]at hp;exact Qch (Qb9 hp))
 have hf:∀e∈((arrOf st).extract ((pre:)+k) ((pre:)+(x:))).toList,∀q,((arrOf st).extract ((pre:)+(x:)) ((pre:)+(x:)+m))[0]? =some q->lt e q=false:=λe he q hq=>by
  rw[ex]at he
  rw[<-Qbb,ey,Qa5 (),Wq]at hq
  rw[<-Qal hq]
  exact b2 e he
 have hl:∀z,((arrOf st).extract ((pre:)+k) ((pre:)+(x:)))[((arrOf st).extract ((pre:)+k) ((pre:)+(x:))).size - 1]? =some z->∀e∈((arrOf st).extract ((pre:)+(x:)) ((pre:)+(x:)+m)).toList,lt z e=false:=λz K4 e he=>by
  rw[ey]at he
  rw[<-Qbb,ex,sX,Qbk,show k+((x:) - k - 1)=(x:) - 1 by lia,Cr]at K4
  rw[<-Qal K4]
  exact c1 e he
 have ef:(failedOf st).isNone=true:=by rw[hB.failed];rfl
 have UN:∀(out:Array Keyed) (g:Nat),iM lt ((arrOf st).extract ((pre:)+k) ((pre:)+(x:))) ((arrOf st).extract ((pre:)+(x:)) ((pre:)+(x:)+m)) out->Q true (SortSt.mk' (kindOf st) (out.toList.zipIdx.foldl (λa q=>match q with | (p,j)=>a.setIfInBounds ((pre:)+k+j) p) (arrOf st)) (((pendingOf st).setIfInBounds i ((pre:),(x:)+(y:),pw)).eraseIdxIfInBounds (i+1)) g (failedOf st)):=λout g ⟨hp,hs⟩=>by
  have tZ:=hp
  rw[ex,ey]at tZ
  have K5:(out.toList:)=(x:) - k+m:=by rw[tZ.length_eq,T6,Qat,Qad];lia
  have el:=q_ ((pre:)+k) out.toList 0 (arrOf st) ()
  rw[Qdl,K5,show (pre:)+k+((x:) - k+m)=(pre:)+(x:)+m by lia]at el
  have e1:(arrOf st).toList.take ((pre:)+k)=pre++x.take k:=by
   rw[ea,RI,RI,Qgt,Qai (),Qbo,Qbf AE]
  have e2:(arrOf st).toList.drop ((pre:)+(x:)+m)=y.drop m++post:=by
   rw[ea, <-T6,RI (pre++x),Qfm,Qbi (),Qdg,Qbo,Qdv A0]
  rw[e1,e2]at el
  refine h _ (x.take k++out.toList++y.drop m) ⟨(Eg (arr:=arrOf st) (x:=(pre:)+k) (y:=(pre:)+(x:)) (z:=(pre:)+(x:)+m) () () () hp).trans hB.perm,hB.kind,hB.failed⟩ rfl ?_ (Ej L sx sy Wq Cr b1 c2 tZ hs) ?_
  ·refine ((Qcl _ tZ).append_right _).trans ?_
   rw[<-RI,Qag,RI,Qag]
  ·refine el.trans ?_
   simp only[RI]
 refine aE (λ_=>?_) (λ_=>?_)
 ·refine wpS_bind (O9 L C hB.kind mx my (show 1<=((arrOf st).extract ((pre:)+k) ((pre:)+(x:))).size by lia) (show 1<=((arrOf st).extract ((pre:)+(x:)) ((pre:)+(x:)+m)).size by lia) (by rw[ex];exact sxk) (by rw[ey];exact sym) hf hl λout aQ hg Pc=>?_)
  obtain ⟨g0,rfl⟩:=hg
  refine wpS_bind (wpS_modify (wpS_bind (wpS_get (wpS_pure ?_))))
  show Q ((failedOf st).isNone) _
  rw[ef]
  exact UN out g0 Pc
 ·refine wpS_bind (Pa L C hB.kind mx my (show 1<=((arrOf st).extract ((pre:)+k) ((pre:)+(x:))).size by lia) (show 1<=((arrOf st).extract ((pre:)+(x:)) ((pre:)+(x:)+m)).size by lia) (by rw[ex];exact sxk) (by rw[ey];exact sym) hf hl λout aQ hg Pc=>?_)
  obtain ⟨g0,rfl⟩:=hg
  refine wpS_bind (wpS_modify (wpS_bind (wpS_get (wpS_pure ?_))))
  show Q ((failedOf st).isNone) _
  rw[ef]
  exact UN out g0 Pc
theorem Pd{rest:List Keyed}(L:gA lt)(C:jA prog w A E s kd lt a₀)(hB:kY kd a₀ st)(ea:(arrOf st).toList=pre++x++rest)(hx:x≠[])(sx:cO lt x)(hn:n<=(x:)+(rest:))(hxn:(x:)<=n)
  (h:∀aQ z UO,kY kd a₀ aQ->pendingOf aQ=pendingOf st->(arrOf aQ).toList=pre++z++UO->(z:)=n->cO lt z->Q true aQ):wpS (model prog w) A E s (binarySort' (pre:) n (x:)) Q st:=by
 have lx:=Qab.mpr hx
 refine wpS_bind (wpS_mono (wpS_forRange (I:=λk c aQ=>c=(none,Unit.unit)/\kY kd a₀ aQ/\pendingOf aQ=pendingOf st/\∃z r,(arrOf aQ).toList=pre++z++r/\(z:)=k/\(z:)+(r:)=(x:)+(rest:)/\cO lt z) (Q:=λc aQ=>c=(none,Unit.unit)/\kY kd a₀ aQ/\pendingOf aQ=pendingOf st/\∃z r,(arrOf aQ).toList=pre++z++r/\(z:)=n/\cO lt z) ?_ ?_ ⟨rfl,hB,rfl,x,rest,ea,(),rfl,sx⟩) ?_)
 ·rintro k c dJ hak hkn ⟨rfl,Ae,e1,z,r,ez,UP,Yj,sz⟩
  obtain ⟨q,r',rfl⟩:∃q r',r=q::r':=by
   cases r with
   | nil=>simp at Yj;lia
   | cons q r'=>exact ⟨q,r',rfl⟩
  have atq:(arrOf dJ).toList[(pre:)+k]? =some q:=by
   rw[ez, <-UP, <-T6,Qaw (Qaa _),Qdj];rfl
  have atz:∀j,j<k->(arrOf dJ).toList[(pre:)+j]? =z[j]?:= λj hj=>by rw[ez,jD ()]
  refine wpS_bind (wpS_mono (wpS_forRange (I:=λy c aQ=>aQ=dJ/\∃l r,c=(none,l,r)/\l<=r/\r<=k/\r - l+y<=k/\(∀e∈z.take l,lt q e=false)/\(∀e∈z.drop r,lt e q=false)) (Q:=λc aQ=>aQ=dJ/\∃l r,c=(none,l,r)/\l<=k/\(∀e∈z.take l,lt q e=false)/\(∀e∈z.drop l,lt e q=false)) ?_ ?_ ⟨rfl,0,k,rfl,(),(),(),by simp,λe he=>by rw[Qbi ()]at he;cases he⟩) ?_)
  ·rintro y c jq _ hy ⟨rfl,l,r,rfl,b1,b2,b3,b4,b5⟩
   walk_at"M"
   ·have g':l ≥ r:=g
    have:l=r:=by lia
    subst this
    exact wpS_pure ⟨rfl,l,l,rfl,b2,b4,b5⟩
   have g': ¬l ≥ r:=g
   have hm:(l+r) / 2<(z:):=by lia
   have em:=OD hm
   refine wpS_bind (nW C Ae atq (show (arrOf jq).toList[(pre:)+(l+r) / 2]? =some z[(l+r) / 2] by rw[atz _ ()];exact em) ?_)
   cases e2:lt q z[(l+r) / 2] with
   | true=>exact wpS_pure ⟨rfl,l,(l+r) / 2,rfl,(),(),(),b4,h7 L sz em (L.lT _ _ e2)⟩
   | false=>exact wpS_pure ⟨rfl,(l+r) / 2+1,r,rfl,(),b2,(),h_ L sz em e2,b5⟩
  ·rintro c jq ⟨e,l,r,rfl,b1,b2,b3,b4,b5⟩
   have:l=r:=by lia
   subst this
   exact ⟨e,l,l,rfl,b2,b4,b5⟩
  ·rintro c jq ⟨rfl,l,r,rfl,b2,b4,b5⟩
   have eb:=G0 (l:=l) ez ()
   rw[UP]at eb
   have hp:(bubble (arrOf jq) ((pre:)+k) ((pre:)+k - ((pre:)+l))).toList.Perm (arrOf jq).toList:=Qbt.mp (bubble_perm _ _ _)
   refine wpS_bind (wpS_modify (wpS_pure ⟨rfl,Ae.set hp,e1,z.take l++q::z.drop l,r',eb,?_,?_,?_⟩))
   ·rw[T6,Qba,Qad,Qat];lia
   ·rw[T6,Qba,Qad,Qat]
    rw[Qba]at Yj
    lia
   ·have s1:cO lt (z.take l++z.drop l):=by rw[Qag];exact sz
    have:=fW (x:=z.take l) (c:=[q]) (y:=z.drop l) s1 (km (hZ s1) (Qb6 _ _) λe he f hf=>by rw[Wi.mp hf];exact b4 e he) λe he f hf=>by rw[Wi.mp he];exact b5 f hf
    rw[RI]at this
    exact this
 ·rintro c dJ ⟨e,Ae,e1,z,r,ez,UP,Yj,sz⟩
  exact ⟨e,Ae,e1,z,r,ez,(),sz⟩
 ·rintro c dJ ⟨rfl,Ae,e1,z,r,ez,UP,sz⟩
  exact wpS_pure (h dJ z r Ae e1 ez UP sz)
theorem yT(L:gA lt)(hs:cO lt (l.take n))(h1:1<=n)(hp:l[n - 1]? =some p)(hq:l[n]? =some q)(hle:lt q p=false):cO lt (l.take (n+1)):=by
 rw[fk hq]
 have hn:=(OC.mp hq).1
 refine km hs (Qb6 _ _) λe he f hf=>?_
 rw[Wi.mp hf]
 have hlen:(l.take n:)=n:=by rw[Qad];lia
 exact le_last L hs (by rw[hlen,Qa5 ()];exact hp) hle e he
def Ek(lt:Keyed->Keyed->Bool)(l:List Keyed):Prop:=l.Pairwise λp q=>lt p q=false
theorem K6(h:Ek lt l):cO lt l.reverse:=List.pairwise_reverse.mpr h
theorem rj(L:gA lt)(hs:Ek lt (l.take n))(h1:1<=n)(hp:l[n - 1]? =some p)(hq:l[n]? =some q)(hle:lt p q=false):Ek lt (l.take (n+1)):=by
 rw[fk hq]
 have hn:=(OC.mp hq).1
 refine Qa9.mpr ⟨hs,Qb6 _ _,λe he f hf=>?_⟩
 rw[Wi.mp hf]
 obtain ⟨j,hj⟩:=Qc5 he
 have hj1:=(OC.mp hj).1
 have hlen:(l.take n:)=n:=by rw[Qad];lia
 rcases Nat.lt_or_ge j (n - 1) with g | g
 ·have hpp:(l.take n)[n - 1]? =some p:=by rw[Qa5 ()];exact hp
  have h2:=OC.mp hj
  have h3:=OC.mp hpp
  have:=(Qcs.mp hs) j (n - 1) h2.1 h3.1 g
  rw[h2.2,h3.2]at this
  exact L.tr q p e hle this
 ·have:j=n - 1:=by lia
  subst this
  rw[Qa5 (),hp]at hj
  cases hj
  exact hle
theorem UQ{P X:SortSt->Prop}{G:Prop}(f:(∀st,P st->X st)->G)(x:∀st,P st->X st):G:=f x
def J0(lt:Keyed->Keyed->Bool)(l:List Keyed):Prop:=∀p∈l,∀q∈l,lt p q=false
theorem J0.dsc(h:J0 lt l):Ek lt l:=Qcs.mpr λi j hi hj _=>h _ (Qb3 hi) _ (Qb3 hj)
theorem G1{u v:List Keyed}(h:Ek lt (u++v))(hv:J0 lt v):Ek lt (u++v.reverse):=by
 obtain ⟨h1,_,h3⟩:=Qa9.mp h
 exact Qa9.mpr ⟨h1,J0.dsc λp hp q hq=>hv p (Qcf.mp hp) q (Qcf.mp hq),λe he f hf=>h3 e he f (Qcf.mp hf)⟩
theorem gA.JZ(L:gA lt)(p:Keyed):lt p p=false:=by
 cases h:lt p p with
 | false=>rfl
 | true=>rw[L.lT _ _ h]at h;cases h
theorem rev_last{R:List Keyed}{x:Nat}(ea:(arrOf st).toList=pre++R)(hx:x<=R.length)(hn:n<=x)(d:Ek lt (R.take x))(al:J0 lt ((R.take x).drop (x - n))):
  ∃R',(mirror (arrOf st) ((pre:)+x - n) ((pre:)+x) (((pre:)+x - ((pre:)+x - n)) / 2)).toList=pre++R'/\R'.length=R.length/\Ek lt (R'.take x)/\(∀j,x<=j->R'[j]? =R[j]?)/\∀p∈R'.take x,p∈R.take x:=by
 have Yk:(R.take x:)=x:=by rw[Qad];lia
 have hu:((R.take x).take (x - n):)=x - n:=by rw[Qad,Yk];lia
 have hv:((R.take x).drop (x - n):)=n:=by rw[Qat,Yk];lia
 have e0:(arrOf st).toList=(pre++(R.take x).take (x - n))++(R.take x).drop (x - n)++R.drop x:=by
  rw[RI pre,Qag,RI,Qag];exact ea
 have er:=rh e0
 rw[T6,hu,hv,show (pre:)+(x - n)=(pre:)+x - n by lia,show (pre:)+x - n+n=(pre:)+x by lia]at er
 refine ⟨(R.take x).take (x - n)++((R.take x).drop (x - n)).reverse++R.drop x,by rw[er];simp only[RI],?_,?_,λj hj=>?_,λp hp=>?_⟩
 ·rw[T6,T6,Qa0,hu,hv,Qat];lia
 ·rw[Qbf (by rw[T6,Qa0,hu,hv];lia),Qai (by rw[T6,Qa0,hu,hv];lia)]
  exact G1 (by rw[Qag];exact d) al
 ·rw[Qaw (by rw[T6,Qa0,hu,hv];lia),T6,Qa0,hu,hv,Qbk]
  congr 1
  lia
 ·rw[Qbf (by rw[T6,Qa0,hu,hv];lia)]at hp
  have wL:=Qb9 hp
  rcases Qap.mp wL with g | g
  ·exact Qb9 g
  ·exact Qch (Qcf.mp g)
theorem Pe{rest:List Keyed}{Q:Option Nat->SortSt->Prop}(L:gA lt)(C:jA prog w A E s kd lt a₀)(hB:kY kd a₀ st)(ea:(arrOf st).toList=pre++rest)(h1:1<=(rest:))
  (h:∀m aQ x r,kY kd a₀ aQ->pendingOf aQ=pendingOf st->(arrOf aQ).toList=pre++x++r->(x:)=m->1<=m->(x:)+(r:)=(rest:)->cO lt x->Q (some m) aQ):wpS (model prog w) A E s (countRun' (pre:) (rest:)) Q st:=by
 have at_:∀j,(arrOf st).toList[(pre:)+j]? =rest[j]?:= λj=>by rw[ea,wO]
 have fin:∀n,1<=n->n<=(rest:)->cO lt (rest.take n)->Q (some n) st:=λn g1 g2 g3=>h n st (rest.take n) (rest.drop n) hB rfl (by rw[RI,Qag];exact ea) (by rw[Qad];lia) g1 (by rw[Qad,Qat];lia) g3
 refine wpS_bind (wpS_mono (wpS_forRange (I:=λx c aQ=>aQ=st/\c=(none,x)/\cO lt (rest.take x)) (Q:=λc aQ=>aQ=st/\∃n,c=(none,n)/\1<=n/\n<=(rest:)/\cO lt (rest.take n)/\(n=(rest:)\/∃p q,rest[n - 1]? =some p/\rest[n]? =some q/\lt q p=true)) ?_ ?_ ⟨rfl,rfl,?_⟩) ?_)
 ·rintro x c dJ Wr hx ⟨rfl,rfl,sx⟩
  have e1:rest[x - 1]? =some rest[x - 1]:=OD ()
  have e2:rest[x]? =some rest[x]:=OD hx
  refine wpS_bind (nW C hB (show (arrOf dJ).toList[(pre:)+x]? =some rest[x] by rw[at_];exact e2) (show (arrOf dJ).toList[(pre:)+x - 1]? =some rest[x - 1] by rw[show (pre:)+x - 1=(pre:)+(x - 1) by lia,at_];exact e1) ?_)
  cases e3:lt rest[x] rest[x - 1] with
  | true=>exact wpS_pure ⟨rfl,x,rfl,Wr,(),sx,.inr ⟨_,_,e1,e2,e3⟩⟩
  | false=>exact wpS_pure ⟨rfl,rfl,yT L sx Wr e1 e2 e3⟩
 ·rintro c dJ ⟨e,rfl,sx⟩
  have em:max 1 (rest:)=(rest:):=by lia
  rw[em]at sx
  exact ⟨e,max 1 (rest:),rfl,(),(),by rw[em];exact sx,.inl em⟩
 ·rw[show rest.take 1=[rest[0]] by
   cases rest with
   | nil=>simp at h1
   | cons a r=>rfl]
  exact Qb6 _ _
 ·rintro c dJ ⟨rfl,n,rfl,Ws,we,sn,hor⟩
  refine aE (λg=>wpS_pure (fin n Ws we sn)) (λg=>?_)
  have g': ¬n=(rest:):=λe=>g (by simpa using e)
  obtain ⟨p,q,ep,eq,elt⟩:=hor.resolve_left g'
  have e0:rest[0]? =some rest[0]:=OD ()
  have M7:(rest.take n:)=n:=by rw[Qad];lia
  apply UQ (P:=λaQ=>∃R,kY kd a₀ aQ/\pendingOf aQ=pendingOf dJ/\(arrOf aQ).toList=pre++R/\R.length=(rest:)/\Ek lt (R.take (n+1)))
  ·intro key
   refine aE (λg2=>wpS_bind (nW C hB (show (arrOf dJ).toList[(pre:)]? =some rest[0] by have:=at_ 0;rw[Qdl]at this;rw[this];exact e0) (show (arrOf dJ).toList[(pre:)+n - 1]? =some p by rw[show (pre:)+n - 1=(pre:)+(n - 1) by lia,at_];exact ep) ?_)) (λg2=>?_)
   ·have Wn:n>1:=g2
    cases z:lt rest[0] p with
    | true=>exact aE (λ_=>wpS_pure (fin n Ws we sn)) (λz=>absurd rfl z)
    | false=>
     refine aE (λz=>absurd z Qa8) (λ_=>?_)
     have low:∀e∈rest.take n,lt e rest[0]=false:=λe he=>by
      obtain ⟨j,hj⟩:=Qc5 he
      rcases Nat.eq_zero_or_pos j with z0 | z0
      ·subst z0
       rw[Qa5 (),e0]at hj
       cases hj
       exact L.JZ _
      ·exact A2 sn (i:=0) (j:=j) z0 (by rw[Qa5 ()];exact e0) hj
     have high:∀e∈rest.take n,lt p e=false:=λe he=>by
      obtain ⟨j,hj⟩:=Qc5 he
      have hjn:=(OC.mp hj).1
      rw[M7]at hjn
      rcases Nat.lt_or_ge j (n - 1) with z1 | z1
      ·exact A2 sn (i:=j) (j:=n - 1) z1 hj (by rw[Qa5 ()];exact ep)
      ·have:j=n - 1:=by lia
       subst this
       rw[Qa5 (),ep]at hj
       cases hj
       exact L.JZ _
     have al:J0 lt (rest.take n):=λe he f hf=>L.tr f rest[0] e (L.tr f p rest[0] (high f hf) z) (low e he)
     have er:(mirror (arrOf dJ) (pre:) ((pre:)+n) (((pre:)+n - (pre:)) / 2)).toList=pre++(rest.take n).reverse++rest.drop n:=by
      have:=rh (arr:=arrOf dJ) (pre:=pre) (x:=rest.take n) (post:=rest.drop n) (by rw[RI,Qag];exact ea)
      rw[M7]at this
      exact this
     have hp:(mirror (arrOf dJ) (pre:) ((pre:)+n) (((pre:)+n - (pre:)) / 2)).toList.Perm (arrOf dJ).toList:=Qbt.mp (mirror_perm _ _ _ _)
     refine wpS_bind (wpS_reverse ?_)
     have Ph:=hB.set hp
     generalize e7:setArr dJ (mirror (arrOf dJ) (pre:) ((pre:)+n) (((pre:)+n - (pre:)) / 2))=jq at Ph
     have Yl:(arrOf jq).toList=pre++((rest.take n).reverse++rest.drop n):=by rw[<-e7, <-RI];exact er
     have Ym:pendingOf jq=pendingOf dJ:=by rw[<-e7]
     refine key jq ⟨_,Ph,Ym,Yl,by rw[T6,Qa0,M7,Qat];lia,?_⟩
     have hlr:(rest.take n).reverse.length=n:=by rw[Qa0];exact M7
     have t1:((rest.take n).reverse++rest.drop n).take (n+1)=(rest.take n).reverse++[q]:=by
      rw[Qgt,Qai (),hlr,show n+1 - n=1 by lia]
      congr 1
      have:(rest.drop n)[0]? =some q:=by rw[Qbk];exact eq
      cases hd:rest.drop n with
      | nil=>rw[hd]at this;cases this
      | cons a r=>rw[hd]at this;cases this;rfl
     rw[t1]
     refine Qa9.mpr ⟨J0.dsc λe he f hf=>al e (Qcf.mp he) f (Qcf.mp hf),Qb6 _ _,λe he f hf=>?_⟩
     rw[Wi.mp hf]
     exact L.tr q rest[0] e (L.tr q p rest[0] (L.lT _ _ elt) z) (low e (Qcf.mp he))
   ·have Wn: ¬n>1:=g2
    refine key dJ ⟨rest,hB,rfl,ea,rfl,?_⟩
    have en:n=1:=by lia
    subst en
    have d1:Ek lt (rest.take 1):=by
     rw[show rest.take 1=[rest[0]] by
      cases rest with
      | nil=>simp at h1
      | cons a r=>rfl]
     exact Qb6 _ _
    exact rj L d1 (Qaa _) ep eq (L.lT _ _ elt)
  ·rintro jq ⟨R2,Ph,Ym,Yl,l2,d2⟩
   walk_at"s"
   have one:∀{R:List Keyed} {x:Nat},x<R.length->J0 lt ((R.take (x+1)).drop (x+1 - (0+1))):=λ{R x} hx p hp q hq=>by
    have e:(R.take (x+1)).drop (x+1 - (0+1))=[R[x]]:=by
     rw[fk (OD hx),show x+1 - (0+1)=(R.take x:) by rw[Qad];lia,Qe5]
    rw[e]at hp hq
    rw[Wi.mp hp,Wi.mp hq]
    exact L.JZ _
   refine wpS_bind (wpS_mono (wpS_forRange (I:=λx c aQ=>∃R nX,c=(none,x,nX)/\kY kd a₀ aQ/\pendingOf aQ=pendingOf dJ/\(arrOf aQ).toList=pre++R/\R.length=(rest:)/\Ek lt (R.take x)/\nX+1<=x/\J0 lt ((R.take x).drop (x - (nX+1))))
    (Q:=λc aQ=>∃R m nX,c=(none,m,nX)/\kY kd a₀ aQ/\pendingOf aQ=pendingOf dJ/\(arrOf aQ).toList=pre++R/\R.length=(rest:)/\n+1<=m/\m<=(rest:)/\Ek lt (R.take m)/\nX+1<=m/\J0 lt ((R.take m).drop (m - (nX+1)))) ?_ ?_ ⟨R2,0,rfl,Ph,Ym,Yl,l2,d2,(),one ()⟩) ?_)
   ·rintro x c t_ hax hx ⟨R,nX,rfl,yU,G2,J1,l4,dx,eG,al⟩
    have Yn:n+1<=x:=hax
    have Cr:x<R.length:=by lia
    have at4:∀j,(arrOf t_).toList[(pre:)+j]? =R[j]?:= λj=>by rw[J1,wO]
    have e1:R[x - 1]? =some (R[x - 1]'()):=OD ()
    have e2:R[x]? =some R[x]:=OD Cr
    have a1:(arrOf t_).toList[(pre:)+x]? =some R[x]:=by rw[at4];exact e2
    have a2:(arrOf t_).toList[(pre:)+x - 1]? =some (R[x - 1]'()):=by rw[show (pre:)+x - 1=(pre:)+(x - 1) by lia,at4];exact e1
    refine wpS_bind (nW C yU a1 a2 ?_)
    cases e3:lt R[x] (R[x - 1]'()) with
    | true=>
     have dn:=rj L dx () e1 e2 (L.lT _ _ e3)
     refine aE (λ_=>?_) (λz=>absurd rfl z)
     refine aE (λz=>?_) (λ_=>wpS_pure ⟨R,0,rfl,yU,G2,J1,l4,dn,(),one Cr⟩)
     obtain ⟨R',er,lr,dr,ar,mr⟩:=rev_last (st:=t_) J1 () eG dx al
     have hp:(mirror (arrOf t_) ((pre:)+x - (nX+1)) ((pre:)+x) (((pre:)+x - ((pre:)+x - (nX+1))) / 2)).toList.Perm (arrOf t_).toList:=Qbt.mp (mirror_perm _ _ _ _)
     refine wpS_bind (wpS_reverse (wpS_pure ?_))
     have Yo:x<R'.length:=by lia
     refine ⟨R',0,rfl,yU.set hp,G2,er,(),?_,(),one Yo⟩
     rw[fk (show R'[x]? =some R[x] by rw[ar x (Qaa _)];exact e2)]
     refine Qa9.mpr ⟨dr,Qb6 _ _,λe he f hf=>?_⟩
     rw[Wi.mp hf]
     rw[fk e2]at dn
     exact (Qa9.mp dn).2.2 e (mr e he) _ (Wi.mpr rfl)
    | false=>
     refine aE (λz=>absurd z Qa8) (λ_=>?_)
     refine wpS_bind (nW C yU a2 a1 ?_)
     cases e4:lt (R[x - 1]'()) R[x] with
     | true=>exact aE (λ_=>wpS_pure ⟨R,x,nX,rfl,yU,G2,J1,l4,Yn,(),dx,eG,al⟩) (λz=>absurd rfl z)
     | false=>
      refine aE (λz=>absurd z Qa8) (λ_=>wpS_pure ⟨R,nX+1,rfl,yU,G2,J1,l4,rj L dx () e1 e2 e4,(),?_⟩)
      have hl:(R.take x:)=x:=by rw[Qad];lia
      have et:(R.take (x+1)).drop (x+1 - (nX+1+1))=(R.take x).drop (x - (nX+1))++[R[x]]:=by
       rw[fk e2,show x+1 - (nX+1+1)=x - (nX+1) by lia,Qdv ()]
      have Nd:(R[x - 1]'())∈(R.take x).drop (x - (nX+1)):=by
       refine Qas (i:=nX) ?_
       rw[Qbk,Qa5 (),show x - (nX+1)+nX=x - 1 by lia]
       exact e1
      rw[et]
      intro e he f hf
      rcases Qap.mp he with ge | ge
      ·rcases Qap.mp hf with gf | gf
       ·exact al e ge f gf
       ·rw[Wi.mp gf]
        exact L.tr _ _ _ e4 (al e ge _ Nd)
      ·rw[Wi.mp ge]
       rcases Qap.mp hf with gf | gf
       ·exact L.tr _ _ _ (al _ Nd f gf) e3
       ·rw[Wi.mp gf];exact L.JZ _
   ·rintro c t_ ⟨R,nX,rfl,yU,G2,J1,l4,dx,eG,al⟩
    have em:max (n+1) (rest:)=(rest:):=by lia
    exact ⟨R,max (n+1) (rest:),nX,rfl,yU,G2,J1,l4,(),(),dx,eG,al⟩
   ·rintro c t_ ⟨R,m,nX,rfl,yU,G2,J1,l4,RM,A0,dm,eG,al⟩
    apply UQ (P:=λaQ=>∃R,kY kd a₀ aQ/\pendingOf aQ=pendingOf dJ/\(arrOf aQ).toList=pre++R/\R.length=(rest:)/\Ek lt (R.take m))
    ·intro key
     refine aE (λz=>?_) (λ_=>key t_ ⟨R,yU,G2,J1,l4,dm⟩)
     obtain ⟨R',er,lr,dr,_,_⟩:=rev_last (st:=t_) J1 () eG dm al
     have hp:(mirror (arrOf t_) ((pre:)+m - (nX+1)) ((pre:)+m) (((pre:)+m - ((pre:)+m - (nX+1))) / 2)).toList.Perm (arrOf t_).toList:=Qbt.mp (mirror_perm _ _ _ _)
     refine wpS_bind (wpS_reverse ?_)
     have oX:=yU.set hp
     generalize e7:setArr t_ (mirror (arrOf t_) ((pre:)+m - (nX+1)) ((pre:)+m) (((pre:)+m - ((pre:)+m - (nX+1))) / 2))=nA at oX
     exact key nA ⟨R',oX,by rw[<-e7];exact G2,by rw[<-e7];exact er,(),dr⟩
    ·rintro t_ ⟨ig,hB,G2,ea,l4,dm⟩
     have Yp:(ig.take m:)=m:=by rw[Qad];lia
     have er:(mirror (arrOf t_) (pre:) ((pre:)+m) (((pre:)+m - (pre:)) / 2)).toList=pre++(ig.take m).reverse++ig.drop m:=by
      have:=rh (arr:=arrOf t_) (pre:=pre) (x:=ig.take m) (post:=ig.drop m) (by rw[RI,Qag];exact ea)
      rw[Yp]at this
      exact this
     have hp:(mirror (arrOf t_) (pre:) ((pre:)+m) (((pre:)+m - (pre:)) / 2)).toList.Perm (arrOf t_).toList:=Qbt.mp (mirror_perm _ _ _ _)
     refine wpS_bind (wpS_reverse ?_)
     have Yq:=hB.set hp
     generalize e7:setArr t_ (mirror (arrOf t_) (pre:) ((pre:)+m) (((pre:)+m - (pre:)) / 2))=UR at Yq
     have Yr:(arrOf UR).toList=pre++((ig.take m).reverse++ig.drop m):=by rw[<-e7, <-RI];exact er
     have ep7:pendingOf UR=pendingOf dJ:=by rw[<-e7];exact G2
     have s7:cO lt (((ig.take m).reverse++ig.drop m).take m):=by
      rw[Qbf (by rw[Qa0];lia),Qai (by rw[Qa0];lia)]
      exact K6 dm
     have l7:((ig.take m).reverse++ig.drop m:)=(rest:):=by rw[T6,Qa0,Qad,Qat];lia
     generalize (ig.take m).reverse++ig.drop m=R at Yr s7 l7
     have at7:∀j,(arrOf UR).toList[(pre:)+j]? =R[j]?:= λj=>by rw[Yr,wO]
     refine wpS_bind (wpS_mono (wpS_forRange (I:=λx c aQ=>aQ=UR/\c=(none,x)/\cO lt (R.take x)) (Q:=λc aQ=>aQ=UR/\∃k,c=(none,k)/\1<=k/\k<=(rest:)/\cO lt (R.take k)) ?_ ?_ ⟨rfl,rfl,s7⟩) ?_)
     ·rintro x c US Wr hx ⟨rfl,rfl,sx⟩
      have aaq:m<=x:=Wr
      have e1:R[x - 1]? =some (R[x - 1]'()):=OD ()
      have e2:R[x]? =some (R[x]'()):=OD ()
      refine wpS_bind (nW C Yq (show (arrOf US).toList[(pre:)+x]? =some (R[x]'()) by rw[at7];exact e2) (show (arrOf US).toList[(pre:)+x - 1]? =some (R[x - 1]'()) by rw[show (pre:)+x - 1=(pre:)+(x - 1) by lia,at7];exact e1) ?_)
      cases e3:lt (R[x]'()) (R[x - 1]'()) with
      | true=>exact wpS_pure ⟨rfl,x,rfl,(),(),sx⟩
      | false=>exact wpS_pure ⟨rfl,rfl,yT L sx () e1 e2 e3⟩
     ·rintro c US ⟨e,rfl,sx⟩
      exact ⟨e,max m (rest:),rfl,(),(),sx⟩
     ·rintro c US ⟨rfl,k,rfl,yf,tG,sk⟩
      exact wpS_pure (h k US (R.take k) (R.drop k) Yq ep7 (by rw[RI,Qag];exact Yr) (by rw[Qad];lia) yf (by rw[Qad,Qat];lia) sk)
end
noncomputable def spans:Nat->List (List Keyed)->List (Nat×Nat)
 | _,[]=>[]
 | a,l::r=>(a,(l:))::spans (a+(l:)) r
theorem ko:∀(b1 b2:List (List Keyed)) (a:Nat),spans a (b1++b2)=spans a b1++spans (a+(b1.flatten:)) b2
 | [],b2,a=>by simp[spans]
 | l::b1,b2,a=>by
  show (a,(l:))::spans (a+(l:)) (b1++b2)=(a,(l:))::(spans (a+(l:)) b1++spans (a+(l++b1.flatten:)) b2)
  rw[ko b1 b2,T6,Qeb]
theorem nY:∀(bl:List (List Keyed)) (a:Nat),(spans a bl:)=(bl:)
 | [],a=>rfl
 | l::r,a=>by show (spans (a+(l:)) r:)+1=(r:)+1;rw[nY r]
structure yg(lt:Keyed->Keyed->Bool)(st:SortSt)(bl:List (List Keyed))(rest:List Keyed):Prop where
 arr:(arrOf st).toList=bl.flatten++rest
 K7:cp (pendingOf st)=spans 0 bl
 ok:∀l∈bl,l≠[]/\cO lt l
theorem Cs{P:Array (Nat×Nat×Nat)}(pw:Nat):cp (P.modify i λx=>match x with | (st,len,_)=>(st,len,pw))=cp P:=by
 unfold cp
 refine Qd3 λj=>?_
 rw[Qar,Qar,Qbb,Qbb,Array.getElem?_modify]
 by_cases z:i=j
 ·rw[if_pos z]
  cases P[j]?<;> rfl
 ·rw[if_neg z]
variable{bl:List (List Keyed)}
theorem yg.Nf{lt:Keyed->Keyed->Bool}{rest:List Keyed}(h:yg lt st bl rest):(pendingOf st).size=(bl:):=by
 have:=congrArg List.length h.K7
 unfold cp at this
 rw[Wh,Qa6,nY]at this
 exact this
theorem yg.tH{lt:Keyed->Keyed->Bool}{rest:List Keyed}(h:yg lt st bl rest):(bl:)<=(bl.flatten:):=by
 have key:∀bl:List (List Keyed),(∀l∈bl,l≠[])->(bl:)<=(bl.flatten:):=by
  intro bl
  induction bl with
  | nil=>intro _;exact Qaa _
  | cons l r ih=>
   intro hn
   have h1:=Qab.mpr (hn l Qac)
   have h2:=ih λl hl=>hn l (Qae _ hl)
   rw[Qc3,T6,Qba]
   lia
 exact key bl λl hl=>(h.ok l hl).1
section
variable{prog:Program}{w:World}{A:Around}{E:Value->Shared->Prop}{s:Shared}{kd:SortKind}{lt:Keyed->Keyed->Bool}{a₀:Array Keyed}
theorem A5{rest:List Keyed}(L:gA lt)(C:jA prog w A E s kd lt a₀)(hB:kY kd a₀ st)(hb:yg lt st bl rest)(hi:i+1<(pendingOf st).size)
  (h:∀aQ wQ,kY kd a₀ aQ->yg lt aQ wQ rest->(wQ.flatten:)=(bl.flatten:)->(wQ:)+1=(bl:)->Q true aQ):wpS (model prog w) A E s (mergeAt' i) Q st:=by
 have yV:=hb.Nf
 have ex:bl[i]? =some (bl[i]'()):=OD _
 have ey:bl[i+1]? =some (bl[i+1]'()):=OD _
 generalize hx:(bl[i]'())=x at ex
 generalize hy:(bl[i+1]'())=y at ey
 have e0:=O5 ex ey
 have l1:(bl.take i:)=i:=by rw[Qad];lia
 generalize bl.take i=b1 at e0 l1
 generalize bl.drop (i+2)=b2 at e0
 subst e0
 obtain ⟨⟨sa,na,pw⟩,q1⟩:∃v,(pendingOf st)[i]? =some v:=⟨_,getElem?_pos (pendingOf st) i ()⟩
 obtain ⟨⟨sb,nb,Yg⟩,q2⟩:∃v,(pendingOf st)[i+1]? =some v:=⟨_,getElem?_pos (pendingOf st) (i+1) hi⟩
 have p1:(pendingOf st).toList[i]? =some (sa,na,pw):=by simpa using q1
 have p2:(pendingOf st).toList[i+1]? =some (sb,nb,Yg):=by simpa using q2
 have sp:spans 0 (b1++x::y::b2)=spans 0 b1++((b1.flatten:),(x:))::((b1.flatten:)+(x:),(y:))::spans ((b1.flatten:)+(x:)+(y:)) b2:=by rw[ko,Qcq];rfl
 have ls:(spans 0 b1:)=i:=by rw[nY];exact l1
 have c1:(cp (pendingOf st))[i]? =some (sa,na):=by unfold cp;rw[Qar,p1];rfl
 have c2:(cp (pendingOf st))[i+1]? =some (sb,nb):=by unfold cp;rw[Qar,p2];rfl
 rw[hb.K7,sp]at c1 c2
 rw[Qaw (),ls,Qdj]at c1
 rw[Qaw (),ls,Qbo]at c2
 have d1:(b1.flatten:)=sa/\(x:)=na:=by cases c1;exact ⟨rfl,rfl⟩
 have d2:(b1.flatten:)+(x:)=sb/\(y:)=nb:=by cases c2;exact ⟨rfl,rfl⟩
 rw[<-d1.1, <-d1.2]at q1
 rw[<-d2.1, <-d2.2]at q2
 have Ys:=hb.ok x (by simp)
 have oky:=hb.ok y (by simp)
 refine A4 (pre:=b1.flatten) (x:=x) (y:=y) (post:=b2.flatten++rest) L C hB q1 q2 (by rw[hb.arr];simp) Ys.1 oky.1 Ys.2 oky.2 λaQ z hB' ep pz sz ea=>?_
 have lz:(z:)=(x:)+(y:):=by rw[pz.length_eq,T6]
 refine h aQ (b1++z::b2) hB' ⟨by rw[ea];simp,?_,λl hl=>?_⟩ (by simp[lz];lia) (by simp;lia)
 ·unfold cp
  rw[ep,Array.toList_eraseIdxIfInBounds,Array.toList_setIfInBounds,K0 p1 p2,Qaq,Qa3]
  have t1:(cp (pendingOf st)).take i=spans 0 b1:=by rw[hb.K7,sp,Qbf (),Qai ()]
  have t2:(cp (pendingOf st)).drop (i+2)=spans ((b1.flatten:)+(x:)+(y:)) b2:=by
   rw[hb.K7,sp,Qfm,Qbi (),Qdg,ls,show i+2 - i=2 by lia];rfl
  unfold cp at t1 t2
  rw[Qgd,List.map_drop,t1,t2,ko,Qcq]
  show spans 0 b1++((b1.flatten:),(x:)+(y:))::_=spans 0 b1++((b1.flatten:),(z:))::spans ((b1.flatten:)+(z:)) b2
  rw[lz,Qeb]
 ·rcases Qap.mp hl with g | g
  ·exact hb.ok l (Qca _ g)
  ·rcases Qaf.mp g with g | g
   ·rw[g]
    have Yk:=Qab.mpr Ys.1
    exact ⟨λe=>by rw[e,Qf0]at lz;lia,sz⟩
   ·exact hb.ok l (Qam _ (Qae _ (Qae _ g)))
theorem wR{z r:List Keyed}{P:Array (Nat×Nat×Nat)}{lo x:Nat}(hB:kY kd a₀ st)(hb:yg lt st bl (z++r))(hz:z≠[])(sz:cO lt z)(hP:cp P=cp (pendingOf st))(hlo:lo=(bl.flatten:))(hn:(z:)=n)(hx:x<=lo):
  kY kd a₀ (setPending st (P.push (lo,n,0)))/\∃wQ rest,yg lt (setPending st (P.push (lo,n,0))) wQ rest/\((none,lo+n):Option Unit×Nat)=(none,(wQ.flatten:))/\x+1<=(wQ.flatten:):=by
 subst hlo
 subst hn
 have lz:=Qab.mpr hz
 refine ⟨⟨hB.perm,hB.kind,hB.failed⟩,bl++[z],r,⟨by show (arrOf st).toList=_;rw[hb.arr];simp,?_,λl hl=>?_⟩,by rw[Qf9,T6,Qc3,Qfk,Qa4],by rw[Qf9,T6,Qc3,Qfk,Qa4];lia⟩
 ·show cp (P.push ((bl.flatten:),(z:),0))=_
  have:cp (P.push ((bl.flatten:),(z:),0))=cp P++[((bl.flatten:),(z:))]:=by unfold cp;rw[Qcb,Qaq];rfl
  rw[this,hP,hb.K7,ko,Qcq]
  rfl
 ·rcases Qap.mp hl with g | g
  ·exact hb.ok l g
  ·rw[Wi.mp g];exact ⟨hz,sz⟩
theorem Ct{Q:Unit->SortSt->Prop}(L:gA lt)(C:jA prog w A E s kd lt a₀)(hB:kY kd a₀ st)(hp:pendingOf st= #[])
  (h:∀aQ,(arrOf aQ).Perm a₀->failedOf aQ=none->cO lt (arrOf aQ).toList->Q Unit.unit aQ):wpS (model prog w) A E s sortRuns' Q st:=by
 have hz:=hB.size
 rw[sortRuns'_eq]
 walk_at"u"
 refine wpS_bind (wpS_mono (wpS_forRange (I:=λx c aQ=>kY kd a₀ aQ/\∃bl rest,yg lt aQ bl rest/\c=(none,(bl.flatten:))/\x<=(bl.flatten:)) (Q:=λc aQ=>kY kd a₀ aQ/\∃bl,yg lt aQ bl []/\c=(none,(bl.flatten:))) ?_ ?_ ⟨hB,[],(arrOf st).toList,⟨rfl,by rw[hp];rfl,λl hl=>by cases hl⟩,rfl,Qau _⟩) ?_)
 ·rintro x c dJ _ hx ⟨Ae,bl,rest,b1,rfl,Cr⟩
  have UT:=Ae.size
  have hlen:(bl.flatten:)+(rest:)=a₀.size:=by rw[<-UT, <-Qa6,b1.arr,T6]
  walk_at"M"
  ·have g':(bl.flatten:) ≥ (arrOf st).size:=g
   have e0:rest=[]:=Qct ()
   subst e0
   exact wpS_pure ⟨Ae,bl,b1,rfl⟩
  have g': ¬(bl.flatten:) ≥ (arrOf st).size:=g
  have er:(arrOf st).size - (bl.flatten:)=(rest:):=by lia
  show wpS (model prog w) A E s (countRun' (bl.flatten:) ((arrOf st).size - (bl.flatten:)) >>= _) _ dJ
  rw[er]
  refine wpS_bind (Pe L C Ae b1.arr () λm jq y r Ph e2 a2 hm m1 hyr sy=>?_)
  refine aE (λg2=>wpS_bind (wpS_lift (wpAny_rule ⟨rfl,?_⟩))) (λg2=>wpS_bind (wpS_get ?_))
  ·have Wn:m<minRun' (arrOf st).size (arrOf st).size 0:=g2
   subst hm
   refine wpS_bind (Pd (pre:=bl.flatten) (x:=y) (rest:=r) (n:=min (rest:) (minRun' (arrOf st).size (arrOf st).size 0)) L C Ph a2 (λe=>by rw[e]at m1;cases m1) sy () () λAd z r3 hB3 e3 a3 hz3 sz=>aE (λz=>by cases z) (λ_=>wpS_bind (wpS_get ?_)))
   have yU:=hB3
   have b4:yg lt Ad bl (z++r3):=⟨by rw[<-RI];exact a3,by rw[e3,e2];exact b1.K7,b1.ok⟩
   have hz4:=hz3
   have s4:=sz
   have n4:z≠[]:=λe=>by rw[e,Qf0]at hz3;lia
   generalize hb:(pendingOf Ad).back? =o
   cases o with
   | none=>exact wpS_bind (wpS_modify (wpS_pure (wR yU b4 n4 s4 rfl rfl hz4 Cr)))
   | some v=>
    obtain ⟨s1,l1,p1⟩:=v
    refine wpS_bind (wpS_mono (wpS_forRange (I:=λ_ c aQ=>c=(none,Unit.unit)/\kY kd a₀ aQ/\∃wQ,yg lt aQ wQ (z++r3)/\(wQ.flatten:)=(bl.flatten:)) (Q:=λc aQ=>c=(none,Unit.unit)/\kY kd a₀ aQ/\∃wQ,yg lt aQ wQ (z++r3)/\(wQ.flatten:)=(bl.flatten:)) ?_ (λ_ _ z=>z) ⟨rfl,yU,bl,b4,rfl⟩) ?_)
    ·rintro y' c nA _ _ ⟨rfl,oX,El,b5,l5⟩
     walk_at"u"
     by_cases hs:(pendingOf nA).size>1
     ·obtain ⟨⟨u,v,UU⟩,eo⟩:∃x,(pendingOf nA)[(pendingOf nA).size - 2]? =some x:=⟨_,getElem?_pos (pendingOf nA) ((pendingOf nA).size - 2) ()⟩
      simp only[if_pos hs,eo]
      walk_at"o"
     ·simp only[if_neg hs]
      exact wpS_pure ⟨rfl,oX,El,b5,l5⟩
    ·rintro c nA ⟨rfl,oX,El,b5,l5⟩
     exact wpS_bind (wpS_modify (wpS_bind (wpS_modify (wpS_pure (wR ⟨oX.perm,oX.kind,oX.failed⟩ ⟨b5.arr,(Cs _).trans b5.K7,b5.ok⟩ n4 s4 rfl l5.symm hz4 Cr)))))
  ·subst hm
   have yU:=Ph
   have b4:yg lt jq bl (y++r):=⟨by rw[<-RI];exact a2,by rw[e2];exact b1.K7,b1.ok⟩
   have n4:y≠[]:=λe=>by rw[e]at m1;cases m1
   generalize hb:(pendingOf jq).back? =o
   cases o with
   | none=>exact wpS_bind (wpS_modify (wpS_pure (wR yU b4 n4 sy rfl rfl rfl Cr)))
   | some v=>
    obtain ⟨s1,l1,p1⟩:=v
    refine wpS_bind (wpS_mono (wpS_forRange (I:=λ_ c aQ=>c=(none,Unit.unit)/\kY kd a₀ aQ/\∃wQ,yg lt aQ wQ (y++r)/\(wQ.flatten:)=(bl.flatten:)) (Q:=λc aQ=>c=(none,Unit.unit)/\kY kd a₀ aQ/\∃wQ,yg lt aQ wQ (y++r)/\(wQ.flatten:)=(bl.flatten:)) ?_ (λ_ _ z=>z) ⟨rfl,yU,bl,b4,rfl⟩) ?_)
    ·rintro y' c nA _ _ ⟨rfl,oX,El,b5,l5⟩
     walk_at"u"
     by_cases hs:(pendingOf nA).size>1
     ·obtain ⟨⟨u,v,UU⟩,eo⟩:∃x,(pendingOf nA)[(pendingOf nA).size - 2]? =some x:=⟨_,getElem?_pos (pendingOf nA) ((pendingOf nA).size - 2) ()⟩
      simp only[if_pos hs,eo]
      walk_at"o"
     ·simp only[if_neg hs]
      exact wpS_pure ⟨rfl,oX,El,b5,l5⟩
    ·rintro c nA ⟨rfl,oX,El,b5,l5⟩
     exact wpS_bind (wpS_modify (wpS_bind (wpS_modify (wpS_pure (wR ⟨oX.perm,oX.kind,oX.failed⟩ ⟨b5.arr,(Cs _).trans b5.K7,b5.ok⟩ n4 sy rfl l5.symm rfl Cr)))))
 ·rintro c dJ ⟨Ae,bl,rest,b1,rfl,Cr⟩
  have UT:=Ae.size
  have hlen:(bl.flatten:)+(rest:)=a₀.size:=by rw[<-UT, <-Qa6,b1.arr,T6]
  have e0:rest=[]:=Qct ()
  subst e0
  exact ⟨Ae,bl,b1,rfl⟩
 ·rintro c dJ ⟨Ae,bl,b1,rfl⟩
  have UT:=Ae.size
  have hlen:(bl.flatten:)=a₀.size:=by rw[<-UT, <-Qa6,b1.arr,Qa4]
  have Ks:=b1.tH
  refine wpS_bind (wpS_mono (wpS_forRange (I:=λy c aQ=>c=(none,Unit.unit)/\kY kd a₀ aQ/\∃bl,yg lt aQ bl []/\(bl:)+y<=a₀.size+1) (Q:=λc aQ=>c=(none,Unit.unit)/\kY kd a₀ aQ/\∃bl,yg lt aQ bl []/\(bl:)<=1) ?_ ?_ ⟨rfl,Ae,bl,b1,()⟩) ?_)
  ·rintro y c nA _ _ ⟨rfl,oX,El,b5,hy5⟩
   walk_at"u"
   walk_at"M"
   ·have g':(pendingOf nA).size<=1:=g
    rw[b5.Nf]at g'
    exact wpS_pure ⟨rfl,oX,El,b5,g'⟩
   have g': ¬(pendingOf nA).size<=1:=g
   refine wpS_bind (A5 L C oX b5 ?_ λst6 UW UX b6 l6 n6=>aE (λz=>by cases z) (λz=>wpS_pure ⟨rfl,UX,UW,b6,()⟩))
   exact GS _ g'
  ·rintro c nA ⟨e,oX,El,b5,hy5⟩
   exact ⟨e,oX,El,b5,()⟩
  ·rintro c nA ⟨rfl,oX,El,b5,h5⟩
   refine wpS_pure (h _ oX.perm oX.failed ?_)
   rw[b5.arr,Qa4]
   match El,h5,b5.ok with
   | [],_,_=>exact List.Pairwise.nil
   | [l],_,ok=>rw[Qc3,Qfk,Qa4];exact (ok l Qac).2
   | _::_::_,h5,_=>simp at h5
end
theorem wU:∀a b c:List Int,bT b a=false->bT c b=false->bT c a=false
 | [],[],[],_,_=>rfl
 | [],[],_::_,_,h=>h
 | [],_::_,[],_,_=>rfl
 | [],_::_,_::_,_,_=>rfl
 | _::_,[],_,h,_=>by cases h
 | _::_,_::_,[],_,h=>by cases h
 | x::a,y::b,z::c,h,g=>by
  have h':(if y=x then bT b a else decide (y<x))=false:=h
  have g':(if z=y then bT c b else decide (z<y))=false:=g
  show (if z=x then bT c a else decide (z<x))=false
  by_cases e1:y=x
  ·rw[if_pos e1]at h'
   by_cases e2:z=y
   ·rw[if_pos e2]at g'
    rw[if_pos (e2.trans e1)]
    exact wU a b c h' g'
   ·rw[if_neg e2]at g'
    rw[if_neg λw=>e2 (w.trans e1.symm), <-e1]
    exact g'
  ·rw[if_neg e1]at h'
   have q1:=of_decide_eq_false h'
   by_cases e2:z=y
   ·rw[if_neg λw=>e1 (e2.symm.trans w),e2];exact h'
   ·rw[if_neg e2]at g'
    have q2:=of_decide_eq_false g'
    rw[if_neg ()]
    exact decide_eq_false ()
section
variable{X:Cx}{e st:Expr}{te:TE}{ts:TO}{pos p2:Pos}
theorem Em(l:c7)(t tk:Tok):sliceMade (S l) t none none (some (-1,tk))= .str (S l.reverse):=by
 unfold sliceMade
 rw[if_neg (by simp)]
 have e:slicePicked (S l) none none (some (-1,tk))=(List.range (S l).cps.size).reverse:=by
  rw[<-PySem.W.krv_range, <-PySem.W.krv_sliceRange]
  rfl
 rw[e,List.filterMap_reverse,PySem.W.krv_all,cg]
 rfl
def UY(te:TE)(ts:TO):TE:=λσ H Q=>te σ H λx H1=>ts σ H1 λo H2=>o=some (-1)/\∃l,x= .str (S l)/\(l:)<=sizeLine/\Q (.str (S l.reverse)) H2
theorem K8(he:PE X e te)(hs:PO X (some st) ts):PE X (.Subscript e (.Slice none none (some st) p2) pos) (UY te ts):=by
 walk_at"f"
 refine Subscript_ (cD (he pins s σ H _ I h) λv s1 ⟨x,H1,I1,r1,q1⟩=>?_)
 refine wpAny_Slice ?_
 rw[evalPart_none]
 refine wpAny_pure (wpAny_pure (cD (hs pins s1 σ H1 _ I1 q1) λvk s3 ⟨o,H3,I3,pk,eo,l,ex,hz,q3⟩=>?_))
 subst eo ex
 walk_at"R"
 cases pk with
 | int i tk=>
 have I4:Inv X pins σ H3 { s3 with heap:=s3.heap.push { cls:= .type "slice",data:= .fields #[.none,.none,.int (-1) tk] } }:=I3.kept (t':=s3.toks) λb ob q=>kb _ q
 show wpAny (model X.prog X.w) X.A (subscriptTail e (.Slice none none (some st) p2) (.str (S l) t) (.ref s3.heap.objs.size)) (EP X pins σ Q) X.xe { s3 with heap:=s3.heap.push { cls:= .type "slice",data:= .fields #[.none,.none,.int (-1) tk] } }
 refine tail_any (ops:=[.str (S l) t,.ref s3.heap.objs.size]) (typeIs_str _ _ _) F.slot_str_getitem.lookup (wpAny_getItem_str_slice (l:=none) (u:=none) (st:=some (-1,tk)) ⟨_,Qav _ rfl,rfl,rfl⟩ rfl ?_) (by with_unfolding_all rfl)
 rw[Em]
 refine ⟨by rw[dv,Qa0];exact hz,?_⟩
 exact ⟨.str (S l.reverse),H3,I4.tok _,⟨_,rfl⟩,q3⟩
end
end L2
namespace PySem
open PySem.Spec PyProof.Rows
end PySem
namespace L2
open PySem PySem.Spec PyProof.Rows
noncomputable def G3(p q:Keyed):Bool:=decide ((strOf p.1).cps.toList<(strOf q.1).cps.toList)
theorem Pj:gA G3 where
 lT p q h:=by
  unfold G3 at*
  exact decide_eq_false λz=>Qcu _ (Qfh (of_decide_eq_true h) z)
 tr p q r h1 h2:=by
  unfold G3 at*
  have a:=Qdu.mp (of_decide_eq_false h1)
  have b:=Qdu.mp (of_decide_eq_false h2)
  exact decide_eq_false (Qdu.mpr (Qeq a b))
variable{vs:List Value}{ss:List Str}{n:Nat}{Q:Value->Shared->Prop}
section
variable{prog:Program}{w:World}{A:Around}{E:Value->Shared->Prop}{s:Shared}
theorem Yt(hS:StrsAre vs ss):jA prog w A E s oneType' G3 (pairsOf vs):=by
 intro st p q Q hk hp hq hQ
 have e:(pairsOf vs).toList=vs.zip vs:=pairsOf_toList vs
 rw[e]at hp hq
 obtain ⟨x,t,ex⟩:=hS.all _ (mem_zip_self hp).2
 obtain ⟨y,u,ey⟩:=hS.all _ (mem_zip_self hq).2
 rw[lt'_eq]
 walk_at"u"
 rw[hk]
 have Yu:Q (some (decide (x.cps.toList<y.cps.toList))) st:=by
  have:G3 p q=decide (x.cps.toList<y.cps.toList):=by unfold G3;rw[ex,ey];rfl
  rw[<-this];exact hQ
 refine wpS_bind (wpS_lift (wpAny_attempt ?_))
 rw[ex,ey]
 exact oneLt_str ⟨rfl,wpS_pure Yu⟩
theorem wV{ad:Addr}{xs:List Value}{ep:Nat}{P:Fin->Shared->Prop}(Wt:s.heap.get? ad=some (seqObj "list" xs.toArray ep))
  (hS:StrsAre xs ss) (hkd:∀u v r,xs=u::v::r->keyKind' (u::v::r).toArray=pure oneType') (hlen:(xs:)<=10000)
  (hP:∀J2:SortSt,(arrOf J2).Perm (pairsOf xs)->cO G3 (arrOf J2).toList->P (.done (.ret .none)) { s with heap:=sortedHeap s.heap ad xs ((arrOf J2).map (·.2)) }):
  wpAny (model prog w) A (Builtin.«list.sort» ⟨[.ref ad],[]⟩) P E s:=by
 have lim:(10000:Nat)<sizeLine:=by decide
 have lad:ad<s.heap.objs.size:=Qax Wt
 rw[list_sort_plain]
 refine wpAny_bind (listItems_at Wt rfl (wpAny_bind (listUpdate_at Wt rfl ?_)))
 obtain ⟨ep1,UZ⟩:∃q,(s.heap.update ad (Obj.mapSeq λ_=> #[])).get? ad=some (seqObj "list" #[] q):=⟨_,get?_update_seq Wt (λ_=> #[])⟩
 refine wpAny_bind (seqEpoch_at UZ rfl (wpAny_bind (wpAny_newTuple (wpAny_bind (wpAny_newList (wpAny_holding ?_))))))
 have K9:(((s.heap.update ad (Obj.mapSeq λ_=> #[])).push (seqObj "tuple" xs.toArray 0)).push (seqObj "list" #[] 0)).get? ad=some (seqObj "list" #[] ep1):=by
  have n1:ad<(s.heap.update ad (Obj.mapSeq λ_=> #[])).objs.size:=by rw[Heap.size_update];exact lad
  exact kb _ (kb _ UZ)
 show wpAny (model prog w) A _ P E { s with heap:=((s.heap.update ad (Obj.mapSeq λ_=> #[])).push (seqObj "tuple" xs.toArray 0)).push (seqObj "list" #[] 0) }
 dsimp only
 by_cases tH:xs.toArray.size<2
 ·rw[if_pos tH,if_pos tH]
  walk_at"v"
  rw[StateT.run_pure]
  walk_at"v"
  dsimp only
  refine wpAny_bind (seqEpoch_at K9 rfl (wpAny_bind (listUpdate_at K9 rfl ?_ (hsz2:=by rw[Array.size_map];show (pairsOf xs).size<=_;rw[pairsOf_size];lia))))
  simp only[bne_self_eq_false,Qck,if_false]
  refine wpAny_pure (hP (SortSt.mk' general' (xs.toArray.zip xs.toArray) #[] 7 none) (Qg2 _) ?_)
  show cO G3 (xs.toArray.zip xs.toArray).toList
  have e4:(xs.toArray.zip xs.toArray).toList=xs.zip xs:=by simp
  rw[e4]
  rcases xs with _ | ⟨u,_ | ⟨v,r⟩⟩
  ·exact List.Pairwise.nil
  ·exact Qb6 _ _
  ·exact absurd tH (by simp)
 ·rw[if_neg tH,if_neg tH]
  obtain ⟨u,v,r,rfl⟩:∃u v r,xs=u::v::r:=by
   rcases xs with _ | ⟨u,_ | ⟨v,r⟩⟩
   ·exact absurd (by simp) tH
   ·exact absurd (by simp) tH
   ·exact ⟨u,v,r,rfl⟩
  rw[hkd _ _ _ rfl]
  refine wpAny_bind (wpAny_pure (wpAny_bind (wpAny_mono (Ct (lt:=G3) (kd:=oneType') (a₀:=pairsOf (u::v::r)) (st:=SortSt.mk' oneType' ((u::v::r).toArray.zip (u::v::r).toArray) #[] 7 none)
   (Q:=λ_ J2=>(arrOf J2).Perm (pairsOf (u::v::r))/\failedOf J2=none/\cO G3 (arrOf J2).toList) Pj (Yt hS) ⟨Qg2 _,rfl,rfl⟩ rfl λJ2 a1 a2 a3=>⟨a1,a2,a3⟩) ?_ λ_ _ e=>e)))
  rintro ⟨⟨⟩,J2⟩ s2 ⟨rfl,hp,hf,hsr⟩
  dsimp only
  refine wpAny_bind (seqEpoch_at K9 rfl (wpAny_bind (listUpdate_at K9 rfl ?_ (hsz2:=by refine Qa7 (Qfu ((Array.size_map ..).trans (hp.size_eq.trans (pairsOf_size _)))) ?_;lia))))
  rw[hf]
  simp only[bne_self_eq_false,Qck,if_false]
  exact wpAny_pure (hP J2 hp hsr)
theorem U0(hS:StrsAre vs ss){xs:Array Keyed}(hp:xs.Perm (pairsOf vs))(hs:cO G3 xs.toList):∃kX,StrsAre (xs.map (·.2)).toList kX/\kX.Perm ss/\(kX.map λx=>x.cps.toList).Pairwise λa b=> ¬b<a:=by
 have q1:xs.toList.Perm (vs.zip vs):=by rw[<-pairsOf_toList];exact Qbt.mp hp
 have q2:∀p,p∈xs.toList->p.1=p.2/\p.1∈vs:=λp h=>mem_zip_self (q1.mem_iff.mp h)
 refine ⟨xs.toList.map (λp=>strOf p.1),?_,?_,?_⟩
 ·rw[show (xs.map (·.2)).toList=xs.toList.map (·.1) by rw[Array.toList_map];exact Qb0 λp h=>(q2 p h).1.symm]
  have q3:=strsAre_map (xs.toList.map (·.1)) λv hv=>by
   obtain ⟨p,h,rfl⟩:=Qay.mp hv
   exact hS.all _ (q2 p h).2
  rwa [Qbh]at q3
 ·have q3:=q1.map (λp=>strOf p.1)
  rwa [show (vs.zip vs).map (λp=>strOf p.1)=ss by rw[show (λp:Value×Value=>strOf p.1)=strOf ∘ Prod.fst from rfl, <-Qbh,List.map_fst_zip (Qaa _),hS.strs]]at q3
 ·rw[Qbh,Qb8]
  exact hs.imp λ{p q} h=>of_decide_eq_false h
theorem mH{tp:Addr}{T:String}{o:Obj}(hT:T="list"\/T="tuple")(ho:s.heap.get? tp=some o)(hc:o.cls= .type T)(hd:o.data= .seq vs.toArray n)(hS:StrsAre vs ss)(hsz:(vs:)<=10000)
  (q:∀(h1 h':Heap) (a:Addr) (e:Nat) (out:Array Value) (kX:List Str),(∀b o,s.heap.get? b=some o->h1.get? b=some o)->(∀b o,h1.get? b=some o->h'.get? b=some o)->a=h1.objs.size->h'.get? a=some (seqObj "list" out e)->StrsAre out.toList kX->kX.Perm ss->((kX.map λx=>x.cps.toList).Pairwise λa b=> ¬b<a)->Q (.ref a) { s with heap:=h' }):
  wpAny (model prog w) A (call (.builtin "sorted") [.ref tp]) Q E s:=by
 walk_at"q"
 refine Calls.call_function_entry kind_sorted plain_sorted entry_sorted (args_sorted1 _) ?_
 unfold Builtin.«sorted»
 refine wpAny_bind (m:=checkCount "sorted" 1 1 _) (wpAny_pure (wpAny_bind (wpAny_collect_seq tp hT ho hc hd (λh1 k1=>?_) (by rw[Qah];lia))))
 refine wpAny_bind (wpAny_newList ?_ (by show (vs:)<=_;lia))
 have FI:(h1.push (seqObj "list" vs.toArray 0)).get? h1.objs.size=some (seqObj "list" vs.toArray 0):=Qav _ rfl
 show wpAny _ _ _ _ _ { s with heap:=h1.push (seqObj "list" vs.toArray 0) }
 refine wpAny_bind (wpAny_holding (wpAny_call_entry slot_list_sort ⟨_,FI,rfl⟩ entry_list_sort (wV (s:={ s with heap:=h1.push (seqObj "list" vs.toArray 0) }) FI hS (λv₁ v₂ rest e=>keyKind_strs (by rw[<-e];exact hS)) hsz λaQ hp hs=>⟨_,rfl,?_⟩) (args_list_sort _)))
 obtain ⟨kX,k2,k3,k4⟩:=U0 hS hp hs
 obtain ⟨e,he⟩:=sortedHeap_at (out:=(arrOf aQ).map (·.2)) FI
 refine wpAny_pure ⟨_,rfl,q h1 _ _ e _ kX k1 (λb o hb=>?_) rfl he k2 k3 k4⟩
 have cU:=Qax hb
 rw[sortedHeap_old (Qa1 cU) (by rw[size_push'];exact Qc6 cU)]
 exact kb _ hb
end
section
variable{X:Cx}
def K_(K:c8):List V->Hp->VK->Prop:=λxs H Q=>∃(p:Addr) (ls:List c7),xs=[.ref p]/\(bL K H p (ls.map λl=>V.str (S l))\/di K H p (ls.map λl=>V.str (S l)))/\(ls:)<=10000/\∀(q:Addr) (OQ:List c7),H q=none->OQ.Perm ls->(OQ.Pairwise λa b=> ¬b<a)->Q (.ref q) (upd H q (.lst (OQ.map λl=>V.str (S l))))
theorem Pk{ls:List c7}{kX:List Str}(h2:kX.Perm (ls.map S)):(kX.map λx=>x.cps.toList).Perm ls:=by
 have:=h2.map λx:Str=>x.cps.toList
 rw[Qbh]at this
 have e2:ls.map ((λx:Str=>x.cps.toList) ∘ S)=ls:=by
  have:∀l∈ls,((λx:Str=>x.cps.toList) ∘ S) l=l:=λl _=>cg l
  calc ls.map _=ls.map id:=Qb0 this
   _=ls:=Qec ls
 rwa [e2]at this
theorem ua(K:c8)(h:X.K=K):dS X (.builtin "sorted") (K_ K):=by
 subst h
 walk_at"g"
 obtain ⟨p,ls,rfl,hq,hn,q⟩:=h
 obtain ⟨u,rfl,ru⟩:=vals1 r
 cases ru
 walk_at"q"
 have fin:∀aK:List Value,Vals (ls.map λl=>V.str (S l)) aK->∀(h1 h':Heap) (a:Addr) (e:Nat) (out:Array Value) (kX:List Str),(∀b o,s.heap.get? b=some o->h1.get? b=some o)->(∀b o,h1.get? b=some o->h'.get? b=some o)->a=h1.objs.size->h'.get? a=some (seqObj "list" out e)->StrsAre out.toList kX->kX.Perm (ls.map S)->((kX.map λx=>x.cps.toList).Pairwise λa b=> ¬b<a)->EP X pins σ Q (.ref a) { s with heap:=h' }:=λaK rv h1 h' a e out kX k1 k2 ea he g1 g2 g3=>by
  have I1:Inv X pins σ H { s with heap:=h1 }:=I.kept (t':=s.toks) k1
  have oV:=Pk g2
  have OR:(((kX.map λx=>x.cps.toList).map λl=>V.str (S l)):)<=sizeLine:=by rw[Wh,oV.length_eq];lia
  have I2:Inv X pins σ (upd H a (.lst ((kX.map λx=>x.cps.toList).map λl=>V.str (S l)))) { s with heap:=h' }:=I1.laid (t':=s.toks) (a:=a) (o:= .lst ((kX.map λx=>x.cps.toList).map λl=>V.str (S l))) k2 (by rw[ea];exact Qaa _) ⟨OR,out.toList,e,wJ g1,by simpa [seqObj]using he⟩
  exact ⟨.ref a,_,I2,rfl,q _ _ (I1.bU.fresh (by rw[ea];exact Qaa _)) oV g3⟩
 rcases hq with hq | hq
 ·obtain ⟨aK,rv,pl,hz⟩:=I.list hq
  obtain ⟨o,ho,hc,m,hd⟩:=pl.isList
  exact mH (.inl rfl) ho hc hd (wI rv) (by rw[<-(rv:),Wh];exact hn) (fin aK rv)
 ·obtain ⟨aK,rv,pl,hz⟩:=I.tuple hq
  obtain ⟨o,ho,hc,m,hd⟩:=pl
  exact mH (.inr rfl) ho hc hd (wI rv) (by rw[<-(rv:),Wh];exact hn) (fin aK rv)
end
section
variable{X:Cx}{K:c8}{CX:DV}{k1 k2:Nat}{f1 f2:Addr}{fd1 fd2:FuncData}{ps1 ps2:List Str}{Wu Wv:Sp}{E:XK}{x f:Str}{p pos pos':Pos}{e o value:Expr}{es:List Expr}{ta tv:TE}{t:TA}
theorem bQ(K:c8)(hK:X.K=K)(he:PE X e ta)(hb:attributeBase e f X.env (eval e X.env)=eval e X.env):PE X (.Attribute e f pos) (TM K ta f):=by subst hK;exact Oi he hb
def G4(f1 f2:Addr)(Wu Wv:Sp)(E:XK)(ta:TE)(t:TA):TE:=λσ H Q=>ta σ H λv H1=>(v= .ref f1/\t σ H1 λvs H2=>Wu vs H2 Q E)\/(v= .ref f2/\t σ H1 λvs H2=>Wv vs H2 Q E)
theorem mI(hf:PE X (.Name x p) ta)(F1:bD X.prog X.w X.K X.mg X.base CX k1 f1 fd1 ps1 Wu)(Ng:cH k1 X.A)(yf:PySem.W.keepIn X.K (.ref f1)=true)(En:Binds X.K fd1 ps1 [])(F2:bD X.prog X.w X.K X.mg X.base CX k2 f2 fd2 ps2 Wv)(RN:cH k2 X.A)(tG:PySem.W.keepIn X.K (.ref f2)=true)(AU:Binds X.K fd2 ps2 [])(hx:Passes CX X E)
  (ha:PA X (e::es) t) (he:starEach (e::es) X.env=(false,eval e X.env)::starEach es X.env:=by rfl) (kU:(backTo pos (starEach es X.env)).any (·.1)=false:=by rfl):
  PE X (.Call (.Name x p) (e::es) [] pos) (G4 f1 f2 Wu Wv E ta t):=by
 walk_at"f"
 refine wpAny_Call_Name_kw (cD (hf pins s σ H _ I h) λu s1 ⟨v,H1,I1,r,q⟩=>?_)
 rcases q with ⟨rfl,q⟩ | ⟨rfl,q⟩
 ·obtain rfl:u=Value.ref f1:=r
  refine Qe1 (h₀:=X.base) I1.ok.mod.RC yf (cD (ha pos pins s1 σ H1 _ I1 q) λus s2 ⟨vs,H2,I2,r2,q2⟩=>⟨I2.Ak,?_⟩) he kU
  exact Ax (dvs:=[]) (ds:=[]) F1 Ng En .nil hx I2 r2 (by rw[Qa4];exact q2)
 ·obtain rfl:u=Value.ref f2:=r
  refine Qe1 (h₀:=X.base) I1.ok.mod.RC tG (cD (ha pos pins s1 σ H1 _ I1 q) λus s2 ⟨vs,H2,I2,r2,q2⟩=>⟨I2.Ak,?_⟩) he kU
  exact Ax (dvs:=[]) (ds:=[]) F2 RN AU .nil hx I2 r2 (by rw[Qa4];exact q2)
end
variable{s:Shared}
section
variable{prog:Program}{w:World}{A:Around}{E:Value->Shared->Prop}{R:Result->Shared->Prop}{I S:Addr}{fp wr:List Addr}{n:Nat}{P:Nat->Value->Prop}{St:Nat->Heap->Prop}{kw:List (Str×Value)}{bt:Nat->Nat->Bool}
theorem Cu:(toString "max"++toString ".loop":String)="max.loop":=∅
theorem U1(W:Walks prog w A.in1 I fp wr n P St)(cm:CmpOf prog w A.in1 .Gt P bt)(sf:S∉fp):∀(m j:Nat) (s:Shared) (b:Value) (c:Nat),n=j+1+m->St (j+1) s.heap->P (argBest bt j) b->s.heap.get? S=some { cls:= .type "list",dict:=none,data:= .seq #[b,b] c,slots:= #[] }->
  (∀v h' tk,P (argBest bt (n - 1)) v->(∀a o,a∉wr->a≠S->s.heap.get? a=some o->h'.get? a=some o)->R (.ok (.ret v)) { s with heap:=h',toks:=tk })->
  codeAny (model prog w) A (.builtin "max.loop" ⟨[.ref I,.none,.ref S],kw⟩) R s:=by
 have sw:S∉wr:=λz=>sf (W.sub _ z)
 intro m
 induction m with
 | zero=>
  intro j s b c en oS hb hS hR
  have e1:n=j+1:=en
  subst e1
  refine codeAny_builtin Qft ?_
  rw[Around.under_plainId Qc2 _]
  refine wpAny_bind (m:=seqItems? (.ref S)) (wpAny_seqItems hS rfl ?_)
  refine wpAny_bind (m:=tryCatch (pyNext (.ref I)) _) (wpAny_tryCatch (W.done s _ _ oS λh1 tk k1=>?_))
  refine wpAny_bind (m:=updateSeq S λ_=> #[]) (wpAny_updateSeq (k1 S _ sw hS) rfl (wpAny_bind (wpAny_letGo (wpAny_pure ?_))))
  exact hR b _ tk hb λa o aw aS ea=>(Qbe _ _ (Ne.symm aS)).trans (k1 a o aw ea)
 | succ m ih=>
  intro j s b c en oS hb hS hR
  refine codeAny_builtin Qft ?_
  rw[Around.under_plainId Qc2 _]
  refine wpAny_bind (m:=seqItems? (.ref S)) (wpAny_seqItems hS rfl ?_)
  refine wpAny_bind (m:=tryCatch (pyNext (.ref I)) _) (wpAny_tryCatch (W.item (j+1) s _ _ () oS λv h1 tk pv dJ k1=>?_))
  have RO:=k1 S _ sw hS
  refine wpAny_bind (m:=tryCatch (holding [v,v] (richCompare .Gt v b >>= _)) _) (wpAny_tryCatch (wpAny_holding (wpAny_bind (cm (j+1) (argBest bt j) v b _ _ _ pv hb (wpAny_bind (wpAny_holding (wpAny_truthy_bool (wpAny_bind (wpAny_letGo (wpAny_pure ?_))))))))))
  cases q:bt (j+1) (argBest bt j)
  ·rw[if_neg ∅]
   refine wpAny_bind (wpAny_letGo ?_)
   rw[Cu]
   refine wpAny_pure ⟨plainId_quiet Qc2 _,ih (j+1) _ b c () dJ (by rw[argBest,q];exact hb) RO λv' h2 U2 p2 k2=>?_⟩
   exact hR v' h2 U2 p2 λa o aw aS ea=>k2 a o aw aS (k1 a o aw ea)
  ·rw[if_pos rfl]
   refine wpAny_bind (wpAny_updateSeq RO rfl (wpAny_bind (wpAny_letGo ?_)))
   rw[Cu]
   refine wpAny_pure ⟨plainId_quiet Qc2 _,ih (j+1) _ v _ () (W.frame _ _ _ dJ λa af o ea=>?_) (by rw[argBest,q];exact pv) (Qcy _ RO rfl) λv' h2 U2 p2 k2=>?_⟩
   ·exact (Qbe _ _ (λz:S=a=>sf (z▸af))).trans ea
   ·exact hR v' h2 U2 p2 λa o aw aS ea=>k2 a o aw aS ((Qbe _ _ (Ne.symm aS)).trans (k1 a o aw ea))
theorem U3(a d:Value):argsOk "max" ⟨[a],[(Str.ofString "default",d)]⟩:=by unfold argsOk;kernel_rfl
theorem La{x d:Value}
  (h:wpAny (model prog w) A.in1 (pyIter x) (λit s₂=>∃I fp wr n P St bt,it= .ref I/\Walks prog w A.in1 I fp wr n P St/\St 0 s₂.heap/\(∀b∈fp,b<s₂.heap.objs.size)/\CmpOf prog w A.in1 .Gt P bt/\
   ∀v h' tk,(n=0->v=d)->(0<n->P (argBest bt (n - 1)) v)->(∀b o,b∉wr->s₂.heap.get? b=some o->h'.get? b=some o)->Q v { s₂ with heap:=h',toks:=tk }) E s):
  wpAny (model prog w) A (call (.builtin "max") [x] [(Str.ofString "default",d)]) Q E s:=by
 refine kmk_tree PySem.F.kind_max PySem.F.plain_max PySem.F.entry_max (U3 x d) ?_
 refine wpAny_bind (m:=Builtin.Builtins.bindParams "max" ["key","default"] 0 ⟨[],[(Str.ofString "default",d)]⟩) (wpAny_of_eq (a:=[none,some d]) rfl ?_)
 refine wpAny_bind (wpAny_pure (wpAny_bind (wpAny_mono h (λit s2 h2=>?_) λ_ _ e=>e)))
 obtain ⟨I,fp,wr,n,P,St,bt,rfl,W,oS,hfp,cm,hQ⟩:=h2
 refine wpAny_bind (wpAny_newObj_type ?_)
 have sf:s2.heap.objs.size∉fp:=λz=>Qb1 _ (hfp _ z)
 have sw:s2.heap.objs.size∉wr:=λz=>sf (W.sub _ z)
 have hS:(s2.heap.push { cls:= .type "list",data:= .seq #[] }).get? s2.heap.objs.size=some { cls:= .type "list",dict:=none,data:= .seq #[] 0,slots:= #[] }:=Qav _ rfl
 have U4:=W.frame _ _ (s2.heap.push { cls:= .type "list",data:= .seq #[] }) oS λb _ o e=>kb _ e
 have lo:∀{b o},s2.heap.get? b=some o->b≠s2.heap.objs.size:=λe=>Qa1 (Qax e)
 rw[Cu]
 refine wpAny_pure ⟨plainId_quiet Qc2 _,codeAny_builtin Qft ?_⟩
 rw[Around.under_plainId Qc2 _]
 refine wpAny_bind (m:=seqItems? (.ref s2.heap.objs.size)) (wpAny_seqItems hS rfl ?_)
 cases n with
 | zero=>
  refine wpAny_bind (m:=tryCatch (pyNext (.ref I)) _) (wpAny_tryCatch (W.done _ _ _ U4 λh1 tk k1=>?_))
  walk_at"L"
  refine wpAny_pure (hQ d h1 tk (λ_=>rfl) (λz=>absurd z (Qb1 _)) λb o bw e=>k1 b o bw (kb _ e))
 | succ m=>
  refine wpAny_bind (m:=tryCatch (pyNext (.ref I)) _) (wpAny_tryCatch (W.item 0 _ _ _ (Qgj _) U4 λv h1 tk pv dJ k1=>?_))
  have RO:=k1 _ _ sw hS
  refine wpAny_bind (m:=updateSeq s2.heap.objs.size λ_=> #[v,v]) (wpAny_updateSeq RO rfl ?_)
  rw[Cu]
  refine wpAny_pure ⟨plainId_quiet Qc2 _,U1 W cm sf m 0 _ v _ () (W.frame _ _ _ dJ λa af o ea=>?_) pv (Qcy _ RO rfl) λv' h2 U2 p2 k2=>?_⟩
  ·exact (Qbe _ _ (λz:s2.heap.objs.size=a=>sf (z▸af))).trans ea
  ·exact hQ v' h2 U2 (λz=>by lia) (λ_=>p2) λb o bw e=>k2 b o bw (lo e) ((Qbe _ _ (Ne.symm (lo e))).trans (k1 b o bw (kb _ e)))
end
noncomputable def Pl(d:Int):List Int->Int
 | []=>d
 | a::r=>r.foldl (λx y=>if y>x then y else x) a
noncomputable def fy(l:List Int)(i j:Nat):Bool:=decide (l.getD i 0>l.getD j 0)
theorem mJ(l:List Int):∀n:Nat,n<(l:)->l.getD (argBest (fy l) n) 0=((l.drop 1).take n).foldl (λx y=>if y>x then y else x) (l.getD 0 0)
 | 0,_=>by simp[argBest]
 | n+1,h=>by
  have ih:=mJ l n ()
  have e:(l.drop 1).take (n+1)=(l.drop 1).take n++[l.getD (n+1) 0]:=by
   rw[Qfb,Qbk,show 1+n=n+1 by lia,Qao,OD h]
   rfl
  rw[e,Qfe, <-ih]
  show l.getD (if fy l (n+1) (argBest (fy l) n)=true then n+1 else argBest (fy l) n) 0=if l.getD (n+1) 0>l.getD (argBest (fy l) n) 0 then l.getD (n+1) 0 else l.getD (argBest (fy l) n) 0
  by_cases z:l.getD (n+1) 0>l.getD (argBest (fy l) n) 0
  ·rw[if_pos (show fy l (n+1) (argBest (fy l) n)=true from decide_eq_true z),if_pos z]
  ·rw[if_neg (show ¬fy l (n+1) (argBest (fy l) n)=true from λw=>z (of_decide_eq_true w)),if_neg z]
variable{e:Expr}{pos:Pos}
section
variable{X:Cx}
theorem G5{prog:Program}{w:World}{A:Around}{l:List Int}{aK:List Value}(r:Vals (l.map V.int) aK):CmpOf prog w A .Gt (λi v=>aK.toArray[i]? =some v) (fy l):=by
 intro i j vi vj s Q E hi hj hQ
 have get:∀{i:Nat} {v:Value},aK.toArray[i]? =some v->∃t,v= .int (l.getD i 0) t:=by
  intro i v h
  have h':aK[i]? =some v:=by simpa using h
  have hl:i<(l:):=by have:=(OC.mp h').1;rw[<-(r:),Wh]at this;exact this
  obtain ⟨u,hu,ru⟩:=r.get (i:=i) (x:=V.int (l.getD i 0)) (by rw[Qar,Qao,OD hl];rfl)
  rw[h']at hu;cases hu
  exact ru
 obtain ⟨t,rfl⟩:=get hi
 obtain ⟨u,rfl⟩:=get hj
 exact gt_int hQ
def U5(K:c8)(d:Int)(t:TA):TE:=λσ H Q=>t σ H λvs H1=>∃(p:Addr) (l:List Int),vs=[.ref p]/\bL K H1 p (l.map V.int)/\Q (.int (Pl d l)) H1
theorem Lc{t:TA}{d:Int}{j:Nat}{kp cp p:Pos}(K:c8)(hK:X.K=K)(hc:X.calm=true)(hg:Gl X "max")(hm:X.mg "max"=none)(ha:PA X [e] t)
  (he:backTo pos (starEach [e] X.env)=[(false,eval e X.env)]:=by rfl):PE X (.Call (.Name "max" p) [e] [⟨some "default", .Constant (.int d) j cp,kp⟩] pos) (U5 K d t):=by
 subst hK
 walk_at"f"
 refine wpAny_Call_Name_kw (gR I hg hm boot_max ?_)
 refine callWith_kw (cD (ha pos pins s σ H _ I h) λus s1 ⟨vs,H1,I1,r1,q1⟩=>?_) he (by rw[he];rfl)
 obtain ⟨a,l,rfl,hq,q⟩:=q1
 obtain ⟨u,rfl,ru⟩:=vals1 r1
 cases ru
 refine kws_cons (wpAny_Constant_int (kws_nil ?_))
 obtain ⟨aK,rv,pl,hz⟩:=I1.list hq
 have hlen:(aK:)=(l:):=by rw[<-(rv:),Wh]
 have hp:a<s1.heap.objs.size:=by
  obtain ⟨o,n,e,_⟩:=pl
  exact Qax e
 refine La (wpAny_pyIter_list pl.isList ?_)
 refine ⟨_,_,_,_,_,_,fy l,rfl,Walks.list (A:=X.A.in1) (I1.ok.hd hc) s1.heap.objs.size a (Qa1 hp) aK.toArray,⟨⟨_,Qav _ rfl,rfl,rfl⟩,?_⟩,λb hb=>?_,G5 rv,λv h' tk h0 h1 hk=>?_⟩
 ·obtain ⟨o,ho,hr⟩:=pl.isList
  exact ⟨o,kb _ ho,hr⟩
 ·show b<(s1.heap.push _).objs.size
  rw[Qdz]
  exact (Qaf.mp hb).elim (λz=>z▸Qcz _) λz=>(Wi.mp z)▸Qc6 hp
 ·have ru:RelV (.int (Pl d l)) v:=by
   cases l with
   | nil=>
    have:=h0 (by rw[Qah,hlen];rfl)
    subst this
    exact ⟨_,rfl⟩
   | cons b l=>
    have hn:aK.toArray.size - 1=(l:):=by rw[Qah,hlen];rfl
    have hP:=h1 (by rw[Qah,hlen];exact Qgj _)
    rw[hn]at hP
    have hP':aK[argBest (fy (b::l)) (l:)]? =some v:=by simpa using hP
    have hl:argBest (fy (b::l)) (l:)<((b::l):):=Nat.lt_succ_of_le (argBest_lt _ _)
    have e:=mJ (b::l) (l:) (Qcz _)
    rw[show ((b::l).drop 1).take (l:)=l from Qai (Qaa _),Qao,OD hl]at e
    have e':(b::l)[argBest (fy (b::l)) (l:)]=Pl d (b::l):=e
    obtain ⟨u,hu,ru⟩:=rv.get (i:=argBest (fy (b::l)) (l:)) (x:=V.int (Pl d (b::l))) (by rw[Qar,OD hl,e'];rfl)
    rw[hP']at hu;cases hu
    exact ru
  refine ⟨.int (Pl d l),H1,?_,ru,q⟩
  have I2:Inv X pins σ H1 { s1 with heap:=s1.heap.push { cls:= .type "list_iterator",data:= .fields #[.ref a,.int 0 0] },toks:=s1.toks+1 }:=I1.kept (t':=s1.toks+1) λb o e=>kb _ e
  have f:=I1.tM (H':=H1) (b:=s1.heap.objs.size) (Qaa _) I1.fresh
  exact I2.turned (h':=h') (t':=tk) (it:=s1.heap.objs.size) (λb o hb e=>hk b o (by simpa using hb) e) f.1 f.2.1 f.2.2.2.1 f.2.2.2.2.1 f.2.2.2.2.2
theorem Pm:Tt X .Mult (λx y H Q=>∃i j,x= .int i/\y= .int j/\Kk i j/\Q (.int (i*j)) H):=by
 intro pins s σ H x y v u Q I r1 r2 h
 obtain ⟨i,j,rfl,rfl,c,q⟩:=h
 walk_at"R"
 obtain ⟨t',rfl⟩:=r2
 exact imul_int ⟨.int _,H,I.tok _,⟨_,rfl⟩,q⟩ c.ok
theorem Ld:Tt X .FloorDiv (λx y H Q=>∃i j,x= .int i/\y= .int j/\Xx i j/\Q (.int (i / j)) H):=by
 intro pins s σ H x y v u Q I r1 r2 h
 obtain ⟨i,j,rfl,rfl,hc,q⟩:=h
 walk_at"R"
 obtain ⟨t',rfl⟩:=r2
 have h1:(0:Int)<j:=hc.1
 have h2:j<1073741824:=hc.2
 exact ifloordiv_int () (by rw[Int.fdiv_eq_ediv_of_nonneg i ()];exact ⟨.int _,H,I.tok _,⟨_,rfl⟩,q⟩) (.inl (PyProof.noPylong_small ()))
end
theorem yW:∀{ls:List Int} {aK:List Value},Vals (ls.map V.int) aK->IntsAre aK ls
 | [],_,.nil=> .nil
 | _::_,_,.cons ⟨t,e⟩ h=>e▸ .cons _ t (yW h)
theorem yX:∀{ls:List Int} {aK:List Value},IntsAre aK ls->Vals (ls.map V.int) aK
 | _,_,.nil=> .nil
 | _,_,.cons n t h=> .cons ⟨t,rfl⟩ (yX h)
section
variable{prog:Program}{w:World}{A:Around}{E:Value->Shared->Prop}{s:Shared}
theorem wW(hh:A.handled=none)(d:Addr)(aI:List (Key×Value))(ep:Nat)(ls:List Int)(hk:aI.map (·.1)=ls.map λl=>Sum.inl l)(hd:(d==sysModules)=false)(hm:s.heap.DictAt (cM prog w) d aI ep)(h64:(aI:)<64)
  (h:∀(h1 h':Heap) (tk:Nat) (a:Addr) (out:Array Value) (kX:List Int) (e:Nat),(∀b o,s.heap.get? b=some o->h1.get? b=some o)->(∀b o,h1.get? b=some o->h'.get? b=some o)->a=h1.objs.size->h'.get? a=some (seqObj "list" out e)->IntsAre out.toList kX->kX.Perm ls->(kX.Pairwise λa b=> ¬b<a)->Q (.ref a) { s with heap:=h',toks:=tk }):
  wpAny (model prog w) A (call (.builtin "sorted") [.ref d]) Q E s:=by
 refine Calls.call_function_entry kind_sorted plain_sorted entry_sorted (args_sorted1 _) ?_
 unfold Builtin.«sorted»
 refine wpAny_bind (m:=checkCount "sorted" 1 1 _) (wpAny_pure ?_)
 walk_at"q"
 refine wpAny_bind (mF (A:=A.in1) (show A.in1.handled=none from hh) d aI ep hd hm () (λs' acc Yv hg Pn ho wB=>?_))
 obtain ⟨h1,h2⟩:=wB
 have hlen:(aI:)=(ls:):=by have:=congrArg List.length hk;simpa using this
 have rv:Vals (ls.map V.int) acc.toList:=by
  have key:∀(ls:List Int) (vs:List Value),(vs:)=(ls:)->(∀(j:Nat) (v:Value),vs[j]? =some v->∃l t,ls[j]? =some l/\v=Value.int l t)->Vals (ls.map V.int) vs:=by
   intro ls
   induction ls with
   | nil=>intro vs hl _;have:vs=[]:=Qct hl;subst this;exact .nil
   | cons l ls ih=>
    intro vs hl hv
    cases vs with
    | nil=>simp at hl
    | cons v vs=>
     obtain ⟨l',t,e1,e2⟩:=hv 0 v rfl
     have AN:l=l':=by simpa using e1
     subst AN
     refine .cons ⟨t,e2⟩ (ih vs (by simpa using hl) λj v' e=>?_)
     obtain ⟨l',t',g1,g2⟩:=hv (j+1) v' (by simpa using e)
     exact ⟨l',t',by simpa using g1,g2⟩
  refine key ls acc.toList (by simpa [<-hlen]using h1) λj v e=>?_
  obtain ⟨k,x,e1,e2⟩:=h2 j v (by simpa using e)
  have e3:(aI.map (·.1))[j]? =some k:=by rw[Qar,e1];rfl
  rw[hk,Qar]at e3
  cases e4:ls[j]? with
  | none=>rw[e4]at e3;cases e3
  | some l=>
   rw[e4]at e3
   have e5:k=Sum.inl l:=(Qal e3).symm
   subst e5
   obtain ⟨t,e6⟩:=Value.isInt_shape (k:=l) (v:=v) e2
   exact ⟨l,t,rfl,e6⟩
 have hS:=yW rv
 have hn:(acc.toList:)=(ls:):=by rw[<-(rv:),Wh]
 refine wpAny_bind (wpAny_newList ?_)
 have FI:(s'.heap.push (seqObj "list" acc.toList.toArray 0)).get? s'.heap.objs.size=some (seqObj "list" acc.toList.toArray 0):=Qav _ rfl
 show wpAny _ _ _ _ _ { s' with heap:=s'.heap.push (seqObj "list" acc.toList.toArray 0) }
 refine wpAny_bind (wpAny_holding (wpAny_call_entry slot_list_sort ⟨_,FI,rfl⟩ entry_list_sort (list_sort_tree FI hS () λout kX k1 k2 k3=>⟨_,rfl,?_⟩) (args_list_sort _)))
 obtain ⟨e,he⟩:=sortedHeap_at (out:=out) FI
 refine wpAny_pure ⟨_,rfl,?_⟩
 have es:∀hh:Heap,({ s' with heap:=hh }:Shared)={ s with heap:=hh,toks:=s'.toks }:=λhh=>by
  cases s;cases s'
  simp only at hg Pn ho
  subst hg Pn ho
  rfl
 show Q (.ref s'.heap.objs.size) { s' with heap:=sortedHeap (s'.heap.push (seqObj "list" acc.toList.toArray 0)) s'.heap.objs.size acc.toList (out) }
 rw[es]
 refine h s'.heap _ _ _ _ kX e Yv (λb o hb=>?_) rfl he k1 k2 (k3.imp λh=>Int.not_lt.mpr h)
 have cU:=Qax hb
 rw[sortedHeap_old (Qa1 cU) (by rw[size_push'];exact Qc6 cU)]
 exact kb _ hb
end
section
variable{X:Cx}
def Le:List V->Hp->VK->Prop:=λxs H Q=>∃(d:Addr) (aI:List (Key×V)) (ls:List Int),xs=[.ref d]/\H d=some (.dK aI)/\aI.map (·.1)=(ls.map λl=>Sum.inl l)/\(ls:)<64/\∀(q:Addr) (ms:List Int),H q=none->ms.Perm ls->(ms.Pairwise λa b=> ¬b<a)->Q (.ref q) (upd H q (.lst (ms.map V.int)))
theorem ub(hc:X.calm=true):dS X (.builtin "sorted") Le:=by
 walk_at"g"
 obtain ⟨d,aI,ls,rfl,hd,hk,hn,q⟩:=h
 obtain ⟨u,rfl,ru⟩:=vals1 r
 cases ru
 obtain ⟨hz,Po,vs,kv,o,es,ep,e1,e2,e3,e4,e5,e6⟩:=I.bU d _ hd
 have hlen:(vs:)=(ls:):=by
  have a1:=congrArg List.length (qd kv)
  have a2:=congrArg List.length hk
  simp only[Wh]at a1 a2
  lia
 refine wW (s:=s) (I.ok.hd hc) d vs ep ls ((qd kv).trans hk) Po ⟨o,es,e1,e2,e3,e4,e5,e6⟩ () λh1 h' tk a out kX e k1 k2 ea he g1 g2 g3=>?_
 have oV:=g2
 have hv:=yX g1
 have pw:=g3
 have I1:Inv X pins σ H { s with heap:=h1,toks:=tk }:=I.kept k1
 have hsz:(10000:Nat)<sizeLine:=by decide
 have I2:Inv X pins σ (upd H a (.lst (kX.map V.int))) { s with heap:=h',toks:=tk }:=
  I1.laid (t':=tk) (a:=a) (o:= .lst (kX.map V.int)) k2 (by rw[ea];exact Qaa _) ⟨by rw[Wh,oV.length_eq];lia,out.toList,e,hv,by simpa [seqObj]using he⟩
 exact ⟨.ref a,_,I2,rfl,q _ _ (I1.bU.fresh (by rw[ea];exact Qaa _)) oV pw⟩
theorem Pp:lR X (compareOp .LtE) (Uo λa b=>!decide (b<a)):=by
 walk_at"c"
 obtain ⟨a,b,rfl,rfl,q⟩:=h
 walk_at"e"
 walk_at"V"
 exact P.le_str (bz I (by rw[cg,cg];exact q) rfl)
end
noncomputable def ku(a b:c7):Bool:=if (a:)=(b:) then decide (a<b) else decide ((a:)<(b:))
theorem G6(a b:c7)(h:ku a b=true):ku b a=false:=by
 unfold ku at*
 by_cases e:(a:)=(b:)
 ·rw[if_pos e]at h
  rw[if_pos e.symm]
  exact decide_eq_false λz=>Qcu _ (Qfh (of_decide_eq_true h) z)
 ·rw[if_neg e]at h
  rw[if_neg (Ne.symm e)]
  have:=of_decide_eq_true h
  exact decide_eq_false ()
theorem Pq(a b c:c7)(h:ku b a=false)(g:ku c b=false):ku c a=false:=by
 unfold ku at*
 by_cases e:(b:)=(a:)
 ·rw[if_pos e]at h
  by_cases e2:(c:)=(b:)
  ·rw[if_pos e2]at g
   rw[if_pos (e2.trans e)]
   have x:=Qdu.mp (of_decide_eq_false h)
   have y:=Qdu.mp (of_decide_eq_false g)
   exact decide_eq_false (Qdu.mpr (Qeq x y))
  ·rw[if_neg e2]at g
   rw[if_neg λz=>e2 (z.trans e.symm), <-e]
   exact g
 ·rw[if_neg e]at h
  have q1:=of_decide_eq_false h
  by_cases e2:(c:)=(b:)
  ·rw[if_neg λz=>e (e2.symm.trans z),e2];exact h
  ·rw[if_neg e2]at g
   have q2:=of_decide_eq_false g
   rw[if_neg ()]
   exact decide_eq_false ()
theorem Lg(a b:c7)(h:ku a b=false)(g:ku b a=false):a=b:=by
 unfold ku at*
 by_cases e:(a:)=(b:)
 ·rw[if_pos e]at h
  rw[if_pos e.symm]at g
  exact Qgu (Qdu.mp (of_decide_eq_false g)) (Qdu.mp (of_decide_eq_false h))
 ·rw[if_neg e]at h
  rw[if_neg (Ne.symm e)]at g
  have q1:=of_decide_eq_false h
  have q2:=of_decide_eq_false g
  lia
noncomputable def rk(v:Value):c7:=(PyProof.Rows.strOf v).cps.toList
noncomputable def Pu(p q:Keyed):Bool:=ku (rk p.2) (rk q.2)
theorem Pw:gA Pu:=⟨λ_ _ e=>G6 _ _ e,λ_ _ _ e g=>Pq _ _ _ e g⟩
theorem wX(w:c7)(t:Tok):rk (.str (S w) t)=w:=cg w
def G7(h:Heap)(v:Value)(w:c7):Prop:=∃x ox us m t u,v= .ref x/\h.get? x=some ox/\ox.cls= .type "tuple"/\ox.data= .seq us m/\us.toList=[Value.int ((w:):Nat) t,.str (S w) u]
variable{ks:List Value}{ws:List c7}{D:Addr}
section
variable{prog:Program}{w:World}{A:Around}{E:Value->Shared->Prop}{s:Shared}
theorem Px{u v:Value}{a c:c7}{Q:Bool->Shared->Prop}(hx:G7 s.heap u a)(hy:G7 s.heap v c)(q:Q (ku a c) s):wpAny (model prog w) A (keyLt' (tuples' true) u v) Q E s:=by
 obtain ⟨x,ox,us,n,t1,t2,rfl,gx,_,dx,ix⟩:=hx
 obtain ⟨y,oy,vs,m,t3,t4,rfl,gy,_,dy,iy⟩:=hy
 refine PySem.W.kat_lt gx dx gy dy ?_
 rw[show decide (us.size<vs.size)=false from decide_eq_false (by rw[<-Qa6, <-Qa6,ix,iy];exact Qb1 _),ix,iy]
 refine PySem.W.kat_cons (wpAny_eqBool_int ?_)
 by_cases e:(a:)=(c:)
 ·rw[show (((a:):Int)==((c:):Int))=true by simp[e]]
  refine PySem.W.kat_yes (PySem.W.kat_cons (wpAny_eqBool_str ?_))
  by_cases g:S a=S c
  ·have e2:a=c:=by rw[<-cg a,g,cg]
   rw[decide_eq_true g]
   rw[e2,show ku c c=false by unfold ku;rw[if_pos rfl];exact decide_eq_false (Qcu c)]at q
   exact PySem.W.kat_yes (PySem.W.kat_nil q)
  ·rw[decide_eq_false g]
   rw[show ku a c=decide (a<c) by unfold ku;rw[if_pos e]]at q
   refine PySem.W.kat_no ?_
   refine PySem.W.kat_one _ _ ?_
   show wpAny (model prog w) A (richCompare .Lt _ _) _ _ s
   exact P.lt_str (by rw[cg,cg];exact q)
 ·rw[show (((a:):Int)==((c:):Int))=false by simp;exact λz=>e (Qge z)]
  rw[show ku a c=decide ((a:)<(c:)) by unfold ku;rw[if_neg e]]at q
  refine PySem.W.kat_no (PySem.W.kat_lt_int (E:=λ_ _=>False) ?_)
  have:decide (((a:):Int)<((c:):Int))=decide ((a:)<(c:)):=by simp
  rw[this]
  exact q
def jE(h:Heap):List Value->List c7->Prop
 | [],[]=>True
 | v::vs,w::ws=>G7 h v w/\jE h vs ws
 | _,_=>False
theorem jE.nG{h:Heap}:∀{ks:List Value} {ws:List c7},jE h ks ws->∃fs,PySem.W.KatTups h ks fs/\(fs:)=(ks:)/\∀v∈fs,∃i t,v=Value.int i t
 | [],[],_=>⟨[],trivial,rfl,λ_ h=>absurd h Qaj⟩
 | v::vs,n::ns,⟨⟨x,ox,us,m,t,u,e1,e2,e3,e4,e5⟩,b⟩=>by
  obtain ⟨fs,k1,k2,k3⟩:=jE.nG b
  refine ⟨.int ((n:):Nat) t::fs,⟨⟨x,ox,us,m,e1,e2,e3,e4,by rw[<-Qbb,e5];rfl⟩,k1⟩,by simp[k2],λz hz=>(Qaf.mp hz).elim (λe=>⟨_,_,e⟩) (k3 z)⟩
theorem jE.len{h:Heap}:∀{ks:List Value} {ws:List c7},jE h ks ws->(ks:)=(ws:)
 | [],[],_=>rfl
 | _::_,_::_,⟨_,b⟩=>by rw[Qba,Qba,b.len]
theorem jE.pair{h:Heap}:∀{ks vs:List Value} {ws:List c7},jE h ks ws->Vals (ws.map λl=>V.str (S l)) vs->∀p∈ks.zip vs,∃w t,p.2= .str (S w) t/\G7 h p.1 w
 | [],_,_,_,_,p,hp=>by simp at hp
 | k::ks,_,[],a,_,_,_=>a.elim
 | k::ks,_,w::ws,⟨a,b⟩,r,p,hp=>by
  cases r with
  | cons r1 rs=>
   rw[List.zip_cons_cons]at hp
   rcases Qaf.mp hp with e | e
   ·obtain ⟨t,q⟩:=r1
    rw[e];exact ⟨w,t,q,a⟩
   ·exact jE.pair b rs p e
theorem Yw(hz:∀p∈ks.zip vs,∃w t,p.2= .str (S w) t/\G7 s.heap p.1 w):jA prog w A E s (tuples' true) Pu (ks.toArray.zip vs.toArray):=by
 intro st p q Q hk hp hq hQ
 have e:(ks.toArray.zip vs.toArray).toList=ks.zip vs:=by simp
 rw[e]at hp hq
 obtain ⟨x,t,ex,kx⟩:=hz p hp
 obtain ⟨y,u,ey,ky⟩:=hz q hq
 have Yu:Q (some (ku x y)) st:=by
  have:Pu p q=ku x y:=by unfold Pu;rw[ex,ey,wX,wX]
  rw[<-this];exact hQ
 rw[lt'_eq]
 walk_at"u"
 rw[hk]
 exact wpS_bind (wpS_lift (wpAny_attempt (Px kx ky ⟨rfl,wpS_pure Yu⟩)))
theorem U6:∀{l:List Keyed},(∀p∈l,∃w t,p.2=Value.str (S w) t)->Vals ((l.map λp=>rk p.2).map λw=>V.str (S w)) (l.map (·.2))
 | [],_=> .nil
 | p::l,h=>by
  obtain ⟨w,t,e⟩:=h p Qac
  refine .cons ⟨t,?_⟩ (U6 λq hq=>h q (Qae _ hq))
  show p.2=Value.str (S (rk p.2)) t
  rw[e,wX]
theorem Py:∀{vs:List Value},Vals (ws.map λl=>V.str (S l)) vs->vs.map rk=ws:=by
 induction ws with
 | nil=>intro vs r;cases r;rfl
 | cons w ws ih=>
  intro vs r
  cases r with
  | cons r1 rs=>
   obtain ⟨t,q⟩:=r1
   rw[Qa3,ih rs,q,wX]
theorem G8{kS:Addr}{e e1:Nat}{P:PySem.Fin->Shared->Prop}(hD:s.heap.get? D=some (seqObj "list" #[] e1))(hK:s.heap.get? kS=some (seqObj "list" ks.toArray e))(eG:kS≠D)
  (hk:jE s.heap ks ws) (hv:Vals (ws.map λl=>V.str (S l)) vs) (hn:(ws:)<=10000)
  (h:∀(h':Heap) (i_:List c7) (out:List Value) (c:Nat),(∀b o,b≠D->b≠kS->s.heap.get? b=some o->h'.get? b=some o)->(∃o,h'.get? kS=some o)->h'.get? D=some (seqObj "list" out.toArray c)->Vals (i_.map λl=>V.str (S l)) out->i_.Perm ws->(i_.Pairwise λa b=>ku b a=false)->P (.done (.ret .none)) { s with heap:=h' }):
  wpAny (model prog w) A (ksk_end D false vs.toArray e1 (.ref kS) ks.toArray) P E s:=by
 walk_at"q"
 have hlk:=hk.len
 have hlv:(ws:)=(vs:):=by have:=(hv:);rwa [Wh]at this
 have hz:=hk.pair hv
 have ez:(ks.toArray.zip vs.toArray).toList=ks.zip vs:=by simp
 have fin:∀st:SortSt,(arrOf st).toList.Perm (ks.zip vs)->cO Pu (arrOf st).toList->failedOf st=none->wpAny (model prog w) A (ksk_tail D false e1 (.ref kS) st) P E s:=by
  intro st hp hs hf
  have hlen:(arrOf st).size=(vs:):=by rw[<-Qa6,hp.length_eq,List.length_zip];lia
  unfold ksk_tail
  try dsimp only
  refine wpAny_bind (listUpdate_at hK rfl ?_ (by rw[Qah];lia) (Qau _))
  refine wpAny_bind (wpAny_letGo ?_)
  have Yx:(s.heap.update kS (Obj.mapSeq λ_=>(#[]:Array Value))).get? D=some (seqObj "list" #[] e1):=(Qbe _ _ eG).trans hD
  obtain ⟨c0,hc0⟩:∃c,(s.heap.update kS (Obj.mapSeq λ_=>(#[]:Array Value))).get? kS=some (seqObj "list" #[] c):=⟨_,get?_update_seq hK λ_=> #[]⟩
  refine wpAny_bind (seqEpoch_at Yx rfl ?_)
  refine wpAny_bind (listUpdate_at Yx rfl ?_ (Qau _) (by simp only[Qck,if_false,Array.size_map,hlen];lia))
  rw[hf]
  simp only[bne_self_eq_false,Qck,if_false]
  obtain ⟨c2,RP⟩:∃c2,((s.heap.update kS (Obj.mapSeq λ_=>(#[]:Array Value))).update D (Obj.mapSeq λ_=>(arrOf st).map (·.2))).get? D=some (seqObj "list" ((arrOf st).map (·.2)) c2):=⟨_,get?_update_seq Yx λ_=>(arrOf st).map (·.2)⟩
  refine wpAny_pure (h _ ((arrOf st).toList.map λp=>rk p.2) ((arrOf st).toList.map (·.2)) c2 (λb o n1 n2 g=>?_) ⟨_,(Qbe _ _ (Ne.symm eG)).trans hc0⟩ ?_ (U6 λp A6=>?_) ?_ ?_)
  ·exact (Qbe _ _ (Ne.symm n1)).trans ((Qbe _ _ (Ne.symm n2)).trans g)
  ·rw[RP]
   congr 2
   apply Qd9.mp
   simp
  ·obtain ⟨w,t,g,_⟩:=hz p (hp.mem_iff.mp A6)
   exact ⟨w,t,g⟩
  ·have:=hp.map λp:Keyed=>rk p.2
   rwa [show (ks.zip vs).map (λp:Keyed=>rk p.2)=ws by rw[show (λp:Keyed=>rk p.2)=rk ∘ Prod.snd from rfl, <-Qbh,List.map_snd_zip (),Py hv]]at this
  ·exact Qb8.mpr hs
 unfold ksk_end
 try dsimp only
 simp only[Qck,if_false]
 by_cases h2:vs.toArray.size<2
 ·rw[if_pos h2,if_pos h2]
  walk_at"v"
  rw[StateT.run_pure]
  walk_at"v"
  refine fin (SortSt.mk' general' (ks.toArray.zip vs.toArray) #[] 7 none) (by show (ks.toArray.zip vs.toArray).toList.Perm _;rw[ez]) ?_ rfl
  show cO Pu (ks.toArray.zip vs.toArray).toList
  rw[ez]
  rw[Qah]at h2
  match ks,vs,h2 with
  | [],_,_=>exact List.Pairwise.nil
  | _::_,[],_=>exact List.Pairwise.nil
  | _::k,[_],_=>rw[List.zip_cons_cons,List.zip_nil_right];exact Qb6 _ _
  | _,_::_::_,h=>exact absurd h (by simp)
 ·rw[if_neg h2,if_neg h2]
  rw[Qah]at h2
  obtain ⟨fs,k1,k2,k3⟩:=hk.nG
  refine wpAny_bind (PySem.W.kat_kind (T:= .type "int") k1 () (λv hv=>by obtain ⟨i,t,rfl⟩:=k3 v hv;exact PySem.W.Looks.of_pure rfl) (by rfl) ?_)
  have run:=Ct (prog:=prog) (w:=w) (A:=A) (E:=E) (s:=s) (a₀:=ks.toArray.zip vs.toArray) (st:=SortSt.mk' (tuples' (Value.type "int" != Value.type "tuple")) (ks.toArray.zip vs.toArray) #[] 7 none) (Q:=λ_ aQ=>(arrOf aQ).toList.Perm (ks.zip vs)/\cO Pu (arrOf aQ).toList/\failedOf aQ=none) Pw (Yw hz) ⟨Qg2 _,rfl,rfl⟩ rfl λaQ a1 a2 a3=>⟨by rw[<-ez];exact Qbt.mp a1,a3,a2⟩
  refine wpAny_bind (wpAny_mono run ?_ λ_ _ e=>e)
  rintro ⟨⟨⟩,aQ⟩ s' ⟨rfl,g1,g2,g3⟩
  exact fin aQ g1 g2 g3
end
variable{o:HO}{ps:List Str}{pins:List (Addr×Obj)}{σ:St}{H H':Hp}{E:Value->Shared->Prop}{a:Addr}{h':Heap}{x:Str}
section
variable{X:Cx}{k:Nat}{f:Addr}{fd:FuncData}{sp:Sp}
theorem G9{Q:VK}{us:List Value}{vs:List V}(F:bD X.prog X.w X.K X.mg X.base eQ k f fd ps sp)(hr:cH k X.A.in1.in1)(hb:Binds X.K fd ps [])
  (I:Inv X pins σ H s) (r:Vals vs us) (h:sp vs H Q E0):wpAny (model X.prog X.w) X.A.in1.in1 (call (.ref f) us) (EP X pins σ Q) E s:=by
 have hl:(us++[]:)=(ps:):=by rw[Qa4, <-(r:)];exact F.len _ _ _ _ h
 have G_:=hb s us I.Ak hl
 rw[Qa4]at G_
 refine wpAny_call (codeAny_mono (F.run X.A.in1.in1 X.stack s H ⟨us,[]⟩ us vs Q E0 hr I.Ol.in1.in1 G_ r h) λr s' hq=>?_)
 cases r with
 | error e=>exact (show False from hq).elim
 | ok fl=>
  cases fl with
  | ret u=>exact I.after hq
  | next=>exact False.elim hq
  | brk=>exact False.elim hq
  | cont=>exact False.elim hq
structure Yy(X:Cx)(pins:List (Addr×Obj))(a:Addr):Prop where
 z:X.s₀.heap.objs.size<=a
 l:a≠X.env.locals
 c:∀x c,X.env.cells.lookup x=some c->c≠a
 p:∀p∈X.pn++pins,p.1≠a
 f:a∉X.fs
theorem Inv.RQ(I:Inv X pins σ H s)(ha:s.heap.objs.size<=a):Yy X pins a where
 z:=Qa7 I.sz ha
 l:=Qed (Qa2 I.lt ha)
 c:=λx c e=>by
  obtain ⟨v,o,ho,_⟩:=I.cell x c e
  exact Qa1 (Qa2 (Qax ho) ha)
 p:=λp hp=>Qa1 (Qa2 (Qax (I.pin p hp).1) ha)
 f:=I.Kg ha
theorem Inv.own{t':Nat}{ch:List Addr}(I:Inv X pins σ H s)(hD:D∈ch)(k:∀b u,b∉ch->s.heap.get? b=some u->h'.get? b=some u)
  (hn:∀b∈ch,H b=none) (hf:∀b∈ch,Yy X pins b) (new:cC X.prog X.w (upd H D o) h' D o):Inv X pins σ (upd H D o) { s with heap:=h',toks:=t' }:=by
 have nD:∀b u,H b=some u->b∉ch:=λb u e z=>by rw[hn b z]at e;cases e
 have U7:∀b u,H b=some u->b≠D:=λb u e z=>nD b u e (z▸hD)
 refine I.step (g':=s.gens) (d':=s.drawn) (ch:=ch) (λb hb=>⟨.inr (hf b hb).z,(hf b hb).l,(hf b hb).c,(hf b hb).p⟩) (λb u _ _ hc e n=>k b u hc e) (λb u _ _ hc e _=>⟨u.slots,k b u hc e⟩) (λb u hc _ n=>by rw[au (show b≠D from λz=>hc (by rw[z];exact hD))];exact n)
  (λb u hc e=>⟨u,k b u hc e⟩) (λb xs e=>by rw[au (U7 b _ e)];exact e) (λb _ _ e=>by rw[au (U7 b _ e)];exact e) (λb ps e=>⟨#[],by rw[au (U7 b _ e),e];simp⟩) (λm hm=>?_) (λb u e=>?_) I.bare
 ·obtain ⟨o,es,ep,ho,r⟩:=hm
  exact ⟨o,es,ep,k _ o (λz=>(hf _ z).l rfl) ho,r⟩
 ·by_cases hb:b=D
  ·subst hb;rw[ae]at e;cases e;exact new
  ·rw[au hb]at e
   refine (I.bU b u e).tI (λc v hc q=>k c v ?_ q) (λc q=>by rw[au (U7 c _ q)];exact q) λc xs q=>by rw[au (U7 c _ q)];exact q
   rcases hc with z | z
   ·rw[z];exact nD b u e
   ·exact nD c _ z
def KeysIn(H:Hp):List Addr->List c7->Prop
 | [],[]=>True
 | x::xs,w::ws=>H x=some (.tup [.int ((w:):Nat),.str (S w)])/\KeysIn H xs ws
 | _,_=>False
theorem KeysIn.same(e:az H H'):∀{xs:List Addr} {ws:List c7},KeysIn H xs ws->KeysIn H' xs ws
 | [],[],_=>trivial
 | _::_,_::_,⟨a,b⟩=>⟨e _ _ a,b.same e⟩
theorem KeysIn.snoc{x:Addr}{w:c7}(h:H x=some (.tup [.int ((w:):Nat),.str (S w)])):∀{xs:List Addr} {ws:List c7},KeysIn H xs ws->KeysIn H (xs++[x]) (ws++[w])
 | [],[],_=>⟨h,trivial⟩
 | _::_,_::_,⟨a,b⟩=>⟨a,b.snoc h⟩
theorem KeysIn.at_(I:Inv X pins σ H s):∀{xs:List Addr} {ws:List c7},KeysIn H xs ws->jE s.heap (xs.map Value.ref) ws
 | [],[],_=>trivial
 | x::xs,w::ws,⟨a,b⟩=>by
  refine ⟨?_,KeysIn.at_ I b⟩
  obtain ⟨us,O1,px,_⟩:=I.tuple (di.of (K:=X.K) a)
  obtain ⟨ox,RK,Us,mx,UA⟩:=px
  cases O1 with
  | cons r1 O1=>cases O1 with
   | cons r2 O1=>
    cases O1
    obtain ⟨t1,rfl⟩:=r1
    obtain ⟨t2,rfl⟩:=r2
    exact ⟨_,ox,_,mx,t1,t2,rfl,RK,Us,UA,by simp⟩
theorem KeysIn.len:∀{xs:List Addr} {ws:List c7},KeysIn H xs ws->(xs:)=(ws:)
 | [],[],_=>rfl
 | _::_,_::_,⟨_,b⟩=>by rw[Qba,Qba,b.len]
theorem Eo{h1:Heap}{P:PySem.Fin->Shared->Prop}
  (F:bD X.prog X.w X.K X.mg X.base eQ k f fd [x] sp) (hr:cH k X.A.in1.in1) (hb:Binds X.K fd [x] []) (I:Inv X pins σ H { s with heap:=h1 }) (hv:Vals (ws.map λl=>V.str (S l)) vs) (hn:(ws:)<=10000)
  (yr:∀(H':Hp) (w:c7) (Q:VK),w∈ws->az H H'->(∀p Ww,az H' Ww->Ww p=some (.tup [.int ((w:):Nat),.str (S w)])->Q (.ref p) Ww)->sp [.str (S w)] H' Q E0)
  (q:∀(s':Shared) (H':Hp) (i_:List c7),az H H'->H' h1.objs.size=none->i_.Perm ws->(i_.Pairwise λa b=>ku b a=false)->Inv X pins σ (upd H' h1.objs.size (.lst (i_.map λl=>V.str (S l)))) s'->P (.done (.ret .none)) s'):
  wpAny (model X.prog X.w) X.A.in1.in1 (ksk_tree h1.objs.size (.ref f) false) P E { s with heap:=h1.push (seqObj "list" vs.toArray 0) }:=by
 walk_at"q"
 have hlv:(ws:)=(vs:):=by have:=(hv:);rwa [Wh]at this
 have FD:=I.RQ (a:=h1.objs.size) (Qaa _)
 have ho:(h1.push (seqObj "list" vs.toArray 0)).get? h1.objs.size=some (seqObj "list" vs.toArray 0):=Qav _ rfl
 unfold ksk_tree
 refine wpAny_bind (listItems_at ho rfl ?_)
 refine wpAny_bind (listUpdate_at ho rfl ?_ (by rw[Qah];lia) (Qau _))
 obtain ⟨e1,ho1⟩:∃e1,((h1.push (seqObj "list" vs.toArray 0)).update h1.objs.size (Obj.mapSeq λ_=>(#[]:Array Value))).get? h1.objs.size=some (seqObj "list" #[] e1):=⟨_,get?_update_seq ho λ_=> #[]⟩
 refine wpAny_bind (seqEpoch_at ho1 rfl ?_)
 refine wpAny_bind (wpAny_newTuple ?_ (by show (vs:)<=_;lia))
 refine wpAny_bind (wpAny_newList ?_ (Qau _))
 refine wpAny_holding ?_
 show wpAny (model X.prog X.w) X.A.in1.in1 _ P E { s with heap:=(((h1.push (seqObj "list" vs.toArray 0)).update h1.objs.size (Obj.mapSeq λ_=>(#[]:Array Value))).push (seqObj "tuple" vs.toArray 0)).push (seqObj "list" #[] 0) }
 generalize hkS:(((h1.push (seqObj "list" vs.toArray 0)).update h1.objs.size (Obj.mapSeq λ_=>(#[]:Array Value))).push (seqObj "tuple" vs.toArray 0)).objs.size=kS
 have hz:kS=h1.objs.size+2:=by rw[<-hkS,size_push',Heap.size_update,size_push']
 have hK5:((((h1.push (seqObj "list" vs.toArray 0)).update h1.objs.size (Obj.mapSeq λ_=>(#[]:Array Value))).push (seqObj "tuple" vs.toArray 0)).push (seqObj "list" #[] 0)).get? kS=some (seqObj "list" #[] 0):=by
  rw[<-hkS];exact Qav _ rfl
 have U8:((((h1.push (seqObj "list" vs.toArray 0)).update h1.objs.size (Obj.mapSeq λ_=>(#[]:Array Value))).push (seqObj "tuple" vs.toArray 0)).push (seqObj "list" #[] 0)).get? h1.objs.size=some (seqObj "list" #[] e1):=
  kb _ (kb _ ho1)
 have keep:∀b o,h1.get? b=some o->((((h1.push (seqObj "list" vs.toArray 0)).update h1.objs.size (Obj.mapSeq λ_=>(#[]:Array Value))).push (seqObj "tuple" vs.toArray 0)).push (seqObj "list" #[] 0)).get? b=some o:=λb o e=>
  kb _ (kb _ ((Qbe _ _ (Qed (Qax e))).trans (kb _ e)))
 generalize ((((h1.push (seqObj "list" vs.toArray 0)).update h1.objs.size (Obj.mapSeq λ_=>(#[]:Array Value))).push (seqObj "tuple" vs.toArray 0)).push (seqObj "list" #[] 0))=h5 at hK5 U8 keep
 have FK:=I.RQ (a:=kS) (by show h1.objs.size<=kS;lia)
 have eG:kS≠h1.objs.size:=by lia
 have I5:Inv X pins σ H { s with heap:=h5 }:=I.kept (t':=s.toks) keep
 have HD:H h1.objs.size=none:=I.fresh
 have HK:H kS=none:=I.bU.fresh (show h1.objs.size<=kS by lia)
 generalize h1.objs.size=D at*
 have Pz:∀(e:Nat) (xs:Array Value) (v:Option Value),(seqObj "list" xs e).data≠ .cell v:=λe xs v z=>by cases z
 unfold ksk_rest
 walk_at"L"
 rw[List.forIn_toArray]
 refine wpAny_bind (ksk_fold (λi s'=>∃H' xs e,Inv X ((D,seqObj "list" #[] e1)::(kS,seqObj "list" (xs.map Value.ref).toArray e)::pins) σ H' s'/\az H H'/\KeysIn H' xs (ws.take i)) vs 0 _ ⟨H,[],0,I5.fP λp hp=>?_,az.refl H,trivial⟩ ?step ?done)
 ·rcases Qaf.mp hp with rfl | hp
  ·exact ⟨U8,HD,FD.l,FD.f,Pz _ _⟩
  ·rcases Qaf.mp hp with rfl | hp
   ·exact ⟨hK5,HK,FK.l,FK.f,Pz _ _⟩
   ·exact I5.pin p (Qam _ hp)
 case step=>
  rintro j v s' hx ⟨H',xs,e,I',sm,ki⟩
  simp only[Qcq]at ki ⊢
  obtain ⟨w,hw,rw_⟩:∃w,ws[j]? =some w/\RelV (.str (S w)) v:=by
   have hj:j<(vs:):=(OC.mp hx).1
   have J3:ws[j]? =some (ws[j]'()):=OD _
   obtain ⟨u,hu,ru⟩:=hv.get (show (ws.map λl=>V.str (S l))[j]? =some (.str (S (ws[j]'()))) by rw[Qar,J3];rfl)
   rw[hx]at hu
   cases hu
   exact ⟨_,J3,ru⟩
  have Yz:w∈ws:=Qas hw
  refine wpAny_bind (wpAny_attempt (wpAny_mono (G9 F hr hb (Q:=λv H2=>∃p,v= .ref p/\az H' H2/\H2 p=some (.tup [.int ((w:):Nat),.str (S w)])) (E:=λ_ _=>False) I' (.cons rw_ .nil) (yr H' w _ Yz sm λp Ww a b=>⟨p,rfl,a,b⟩)) (λu s2 hq=>?_) λ_ _ z=>z.elim))
  obtain ⟨_,H2,I2,ru,p,rfl,b7,wL⟩:=hq
  cases ru
  have pK:=I2.pin (kS,seqObj "list" (xs.map Value.ref).toArray e) (Qam _ (.tail _ (.head _)))
  have pD:=I2.pin (D,seqObj "list" #[] e1) (Qam _ (.head _))
  have Cr:(xs:)<=(ws:):=by rw[ki.len,Qad];lia
  try dsimp only
  refine wpAny_bind (listUpdate_at pK.1 rfl ?_ (by rw[Qah,Wh];lia) (Qa7 (Qfu (Array.size_push ..)) (by rw[Qah,Wh];lia)))
  obtain ⟨c2,RP⟩:∃c2,(s2.heap.update kS (Obj.mapSeq (·.push (.ref p)))).get? kS=some (seqObj "list" ((xs.map Value.ref).toArray.push (.ref p)) c2):=⟨_,get?_update_seq pK.1 (·.push (.ref p))⟩
  have ek:ws.take (j+1)=ws.take j++[w]:=by rw[Qfb,hw];rfl
  have ea:(xs.map Value.ref).toArray.push (Value.ref p)=((xs++[p]).map Value.ref).toArray:=by apply Qd9.mp;simp
  rw[ea]at RP
  have ps:∀r∈X.pn++((D,seqObj "list" #[] e1)::pins),r.1≠kS:=λr hr=>by
   rcases Qap.mp hr with g | g
   ·exact FK.p r (Qca _ g)
   ·rcases Qaf.mp g with rfl | g
    ·exact Ne.symm eG
    ·exact FK.p r (Qam _ g)
  have I3:Inv X ((D,seqObj "list" #[] e1)::pins) σ H2 s2:=I2.fP λr hr=>by
   rcases Qaf.mp hr with rfl | g
   ·exact pD
   ·exact I2.pin r (Qam _ (.tail _ (.tail _ g)))
  have kp:∀b o,b≠kS->s2.heap.get? b=some o->(s2.heap.update kS (Obj.mapSeq (·.push (.ref p)))).get? b=some o:=λb o hb g=>(Qbe _ _ (Ne.symm hb)).trans g
  have I4:Inv X ((D,seqObj "list" #[] e1)::pins) σ H2 { s2 with heap:=s2.heap.update kS (Obj.mapSeq (·.push (.ref p))) }:=I3.turned (t':=s2.toks) (it:=kS) kp pK.2.1 FK.l (.inr FK.z) FK.c ps
  refine wpAny_pure ⟨rfl,H2,xs++[p],c2,I4.fP λr hr=>?_,sm.trans b7,by rw[ek];exact (ki.same b7).snoc wL⟩
  rcases Qaf.mp hr with rfl | g
  ·exact I4.pin _ (Qam _ (.head _))
  ·rcases Qaf.mp g with rfl | g
   ·exact ⟨RP,pK.2.1,FK.l,FK.f,Pz _ _⟩
   ·exact I4.pin r (Qam _ (.tail _ g))
 case done=>
  rintro s' ⟨H',xs,e,I',sm,ki⟩
  rw[Qai ()]at ki
  have pK:=I'.pin (kS,seqObj "list" (xs.map Value.ref).toArray e) (Qam _ (.tail _ (.head _)))
  have pD:=I'.pin (D,seqObj "list" #[] e1) (Qam _ (.head _))
  try dsimp only
  refine wpAny_bind (listItems_at pK.1 rfl ?_)
  refine G8 pD.1 pK.1 eG (KeysIn.at_ I' ki) hv hn λh' i_ out c g1 g2 g3 g4 g5 g6=>q _ H' i_ sm pD.2.1 g5 g6 ?_
  have I3:Inv X pins σ H' s':=I'.fP λr hr=>I'.pin r (Qam _ (.tail _ (.tail _ hr)))
  refine I3.own (t':=s'.toks) (ch:=[D,kS]) (.head _) (λb u hb e=>g1 b u (λz=>hb (by simp[z])) (λz=>hb (by simp[z])) e) (λb hb=>?_) (λb hb=>?_) ⟨by rw[Wh,g5.length_eq];lia,out,c,g4,g3⟩
  ·rcases Qaf.mp hb with rfl | g
   ·exact pD.2.1
   ·rw[Wi.mp g];exact pK.2.1
  ·rcases Qaf.mp hb with rfl | g
   ·exact FD
   ·rw[Wi.mp g];exact FK
end
noncomputable def Lh(f:Addr)(o:Obj):HO:= .ext λh=>h.get? f=some o
noncomputable def Li(c:Addr)(q:Str):HO:= .ext λh=>∃oc vs t,h.get? c=some oc/\oc.data= .fields vs/\vs[1]? =some (.str q t)
variable{f:Addr}
theorem Ha{P:Program}{w:World}{h:Heap}{o:Obj}(e:h.get? f=some o):cC P w H h f (Lh f o):=⟨e,⟨_,e⟩,λ_ _ a b=>b _ a⟩
variable{c:Addr}{q:Str}
theorem PB{P:Program}{w:World}{h:Heap}{oc:Obj}{vs:Array Value}{t:Tok}(e:h.get? c=some oc)(d:oc.data= .fields vs)(v:vs[1]? =some (.str q t)):cC P w H h c (Li c q):=
 ⟨⟨oc,vs,t,e,d,v⟩,⟨_,e⟩,λ_ _ ⟨o,vs,t,a,b,d⟩ k=>⟨o,vs,t,k _ a,b,d⟩⟩
def cW(p:Addr->Prop)(H H':Hp):Prop:=∀b o,H b=some o->H' b=some o\/(p b/\(∃ps,o= .o_ ps)/\∃ps,H' b=some (.o_ ps))
variable{b:Addr}{K:c8}
section
variable{p:Addr->Prop}
theorem cW.of(s:az H H'):cW p H H':=λb o h=> .inl (s b o h)
theorem cW.imp{q:Addr->Prop}(s:cW p H H')(h:∀b,p b->q b):cW q H H':=λb o e=>(s b o e).imp id λz=>⟨h b z.1,z.2⟩
theorem cW.get(s:cW p H H')(h:H b=some o)(n:∀ps,o≠ .o_ ps:=by exact λ_ z=>nomatch z):H' b=some o:=by
 rcases s b o h with e | ⟨_,⟨ps,e⟩,_⟩
 ·exact e
 ·exact absurd e (n ps)
theorem cW.off(s:cW p H H')(h:H b=some o)(n: ¬p b):H' b=some o:=by
 rcases s b o h with e | ⟨e,_⟩
 ·exact e
 ·exact absurd e n
theorem cW.free(s:cW p H H')(h:H' b=none):H b=none:=by
 cases q:H b with
 | none=>rfl
 | some o=>rcases s b o q with e | ⟨_,_,ps,e⟩<;>rw[h]at e<;>cases e
theorem cW.trans{H1 H2:Hp}(x:cW p H H1)(y:cW p H1 H2):cW p H H2:=λb o h=>by
 rcases x b o h with e | ⟨t0,t,ps,e⟩
 ·exact y b o e
 ·rcases y b _ e with g | ⟨_,_,ps',g⟩
  ·exact .inr ⟨t0,t,ps,g⟩
  ·exact .inr ⟨t0,t,ps',g⟩
theorem cW.seq{xs:List V}(e:cW p H H')(h:bL K H a xs):bL K H' a xs:=by
 rcases h with (h | ⟨o,h⟩) | h
 ·exact .inl (.inl (e.get h))
 ·exact .inl (.inr ⟨o,e.get h⟩)
 ·exact .inr h
end
def mK(P:Addr)(pos:Pos)(q:Str)(H:Hp):Prop:=H P=some (.o_ #[])\/∃c',H P=some (.o_ #[rawInt pos.line,rawInt pos.col,.ref c'])/\H c'=some (Li c' q)
theorem mK.same{P:Addr}(h:mK P pos q H)(s:az H H'):mK P pos q H':=by
 rcases h with h | ⟨c,h,g⟩
 ·exact .inl (s _ _ h)
 ·exact .inr ⟨c,s _ _ h,s _ _ g⟩
theorem mK.off{p:Addr->Prop}{P:Addr}(h:mK P pos q H)(s:cW p H H')(n: ¬p P):mK P pos q H':=by
 rcases h with h | ⟨c,h,g⟩
 ·exact .inl (s.off h n)
 ·exact .inr ⟨c,s.off h n,s.get g⟩
def yY(base:Heap)(mg:Str->Option Value):Prop:=∃bm ob,mg "__builtins__"=some (.ref bm)/\bm≠builtinsNs/\base.get? bm=some ob/\ob.cls= .type "module"/\ob.dict=some builtinsNs/\ob.data= .plain
section
variable{X:Cx}{pins:List (Addr×Obj)}{σ:St}{H:Hp}{s:Shared}
theorem Inv.grow{P:Addr}{ps more:Array Value}{t':Nat}(I:Inv X pins σ H s)(hP:H P=some (.o_ ps))(k:∀b u,b≠P->s.heap.get? b=some u->h'.get? b=some u)(e:h'.get? P=some { cls:= .none,data:= .fields (ps++more) }):
  Inv X pins σ (upd H P (.o_ (ps++more))) { s with heap:=h',toks:=t' }:=by
 have n0:∀b,H b=none->b≠P:=λb n z=>by rw[z,hP]at n;cases n
 have n1:∀b u,H b=some u->(∀ps,u≠ .o_ ps)->b≠P:=λb u q n z=>by rw[z,hP]at q;cases q;exact n _ rfl
 refine I.un (h':=h') (t':=t') ⟨λb u q n _ _=>k b u (n0 b n) q,λb u q n _ _=>⟨u.slots,k b u (n0 b n) q⟩,λb u q n _=>by rw[au (n0 b n)];exact n,λb u q _=>?_,
  λb xs q=>by rw[au (n1 b _ q λ_ z=>by cases z)];exact q,λb u xs q=>by rw[au (n1 b _ q λ_ z=>by cases z)];exact q,λb qs q=>?_⟩ λb u q=>?_
 ·by_cases hb:b=P
  ·exact ⟨_,hb▸e⟩
  ·exact ⟨u,k b u hb q⟩
 ·by_cases hb:b=P
  ·subst hb;rw[hP]at q;cases q;exact ⟨more,ae⟩
  ·exact ⟨#[],by rw[au hb,q];simp⟩
 ·by_cases hb:b=P
  ·subst hb;rw[ae]at q;cases q;exact e
  ·rw[au hb]at q
   refine (I.bU b u q).tI (λc v hc r=>k c v ?_ r) (λc r=>by rw[au (n1 c _ r λ_ z=>by cases z)];exact r) λc xs r=>by rw[au (n1 c _ r λ_ z=>by cases z)];exact r
   rcases hc with z | z
   ·rw[z];exact hb
   ·exact n1 c _ z λ_ w=>by cases w
end
section
variable{X:Cx}{c P:Addr}{params:Arguments}{body:Expr}{scope:Scope}{pos:Pos}{qual:Str}
def U9(P:Addr)(qual:Str)(params:Arguments)(body:Expr)(scope:Scope)(pos:Pos):TE:=λσ H Q=>mK P pos qual H/\
 ∀f c' pm mj H',cW (· =P) H H'->H f=none->mK P pos qual H'->H' f=some (Lh f (PySem.W.kla_obj "<lambda>" qual params body scope [] pm c' mj))->H' c'=some (Li c' qual)->Q (.ref f) H'
theorem Hb(Nh:X.env.code= .ref c)(hh:PySem.W.codeHdIn X.K c P=true)(hb:yY X.base X.mg)(hq:X.env.qual++"<lambda>"=qual)(PC:closureFor scope X.env=pure [])(hd:defaultsOf params X.env=([],[])):
  PE X (.Lambda params body scope pos) (U9 P qual params body scope pos):=by
 subst hq
 walk_at"f"
 obtain ⟨hT,hQ⟩:=h
 have hg:s.heap.Ns mainGlobals X.mg:=I.mod.glob.keeps I.bk
 have C:=PySem.W.codeHd_of_K I.Ak hh
 obtain ⟨bm,ob,b1,b2,b3,b4,b5,b6⟩:=hb
 obtain ⟨ps,hP,yV⟩:∃ps,H P=some (.o_ ps)/\(ps= #[]\/∃c',ps= #[rawInt pos.line,rawInt pos.col,.ref c']/\H c'=some (Li c' (X.env.qual++"<lambda>"))):=by
  rcases hT with h | ⟨c',h,g⟩
  ·exact ⟨_,h,.inl rfl⟩
  ·exact ⟨_,h,.inr ⟨c',rfl,g⟩⟩
 have KP:s.heap.get? P=some (PySem.W.tabObj ps):=I.bU P _ hP
 have nP:∀b o,X.base.get? b=some o->b≠P:=λb o e z=>by
  have:=(I.bs b o e).2
  rw[z,hP]at this;cases this
 have hgP:mainGlobals≠P:=by
  obtain ⟨o,es,ep,e,_⟩:=I.mod.glob
  exact nP _ _ e
 have hbG:bm≠mainGlobals:=λq=>by
  obtain ⟨o,es,ep,e,hdd,_⟩:=I.mod.glob
  rw[<-q,b3]at e;cases e;rw[hdd]at b6;cases b6
 have Wx:s.heap.BuiltinsAt X.mg P:=⟨bm,ob,b1,b2,hbG,nP _ _ b3,I.bk _ _ b3,b4,b5,b6⟩
 refine PySem.W.kla_eval hd ?_
 rcases yV with rfl | ⟨c',rfl,tL⟩
 ·-- made
  refine PySem.W.kla_makeFunction (mg:=X.mg) (P:=P) (ps:= #[]) PC I.ok.glob hg Nh C KP trivial rfl hgP Wx λc' mj h' tk hx PD cU YA htb=>?_
  obtain ⟨c₂,oc,vs,t,e2,Wb,hdc,hv⟩:=YA
  cases e2
  have hPs:P<s.heap.objs.size:=Qax KP
  have fC:H c'=none:=I.bU.fresh PD
  have hsz:s.heap.objs.size<=h'.objs.size:=Qbu (Qbm PD cU)
  have fF:H h'.objs.size=none:=I.bU.fresh hsz
  have nPc:P≠c':=Qa1 (Qa2 hPs PD)
  have nPf:P≠h'.objs.size:=Qa1 (Qa2 hPs hsz)
  have ncf:c'≠h'.objs.size:=Qa1 cU
  have I1:=I.grow (more:= #[rawInt pos.line,rawInt pos.col,.ref c']) (h':=h') (t':=tk) hP (λb u n e=>hx b u n e) htb
  have F1:Yy X pins c':=I.RQ PD
  have I2:=I1.own (t':=tk) (h':=h') (D:=c') (o:=Li c' (X.env.qual++"<lambda>")) (ch:=[c']) (.head _) (λ_ _ _ e=>e) (λb hb=>by rw[Wi.mp hb,au (Ne.symm nPc)];exact fC) (λb hb=>by rw[Wi.mp hb];exact F1) (PB Wb hdc hv)
  have I3:=I2.laid (a:=h'.objs.size) (o:=Lh h'.objs.size (PySem.W.kla_obj "<lambda>" (X.env.qual++"<lambda>") params body scope [] ((X.mg "__name__").getD .none) c' mj)) (t':=tk) (h':=h'.push (PySem.W.kla_obj "<lambda>" (X.env.qual++"<lambda>") params body scope [] ((X.mg "__name__").getD .none) c' mj)) (λb u e=>kb _ e) (Qaa _) (Ha (Qav _ rfl))
  refine ⟨.ref h'.objs.size,_,I3,rfl,hQ h'.objs.size c' _ mj _ (λb u e=>?_) fF (.inr ⟨c',?_,?_⟩) ae ?_⟩
  ·rw[au (ao e fF),au (ao e fC)]
   by_cases nb:b=P
   ·subst nb
    rw[hP]at e
    cases e
    exact .inr ⟨rfl,⟨_,rfl⟩,_,ae⟩
   ·rw[au nb];exact .inl e
  ·rw[au nPf,au nPc,ae];simp
  ·rw[au ncf,ae]
  ·rw[au ncf,ae]
 ·refine PySem.W.kla_makeFunctionHit (mg:=X.mg) (P:=P) (cv:= .ref c') PC I.ok.glob hg Nh C KP trivial (codeAmong_snoc [] trivial rfl) Wx λmj h' tk hk hsz=>?_
  have fF:H h'.objs.size=none:=I.bU.fresh hsz
  have I1:Inv X pins σ H { s with heap:=h',toks:=tk }:=I.kept (t':=tk) hk
  have I3:=I1.laid (a:=h'.objs.size) (o:=Lh h'.objs.size (PySem.W.kla_obj "<lambda>" (X.env.qual++"<lambda>") params body scope [] ((X.mg "__name__").getD .none) c' mj)) (t':=tk) (h':=h'.push (PySem.W.kla_obj "<lambda>" (X.env.qual++"<lambda>") params body scope [] ((X.mg "__name__").getD .none) c' mj)) (λb u e=>kb _ e) (Qaa _) (Ha (Qav _ rfl))
  have k:∀b u,H b=some u->upd H h'.objs.size (Lh h'.objs.size (PySem.W.kla_obj "<lambda>" (X.env.qual++"<lambda>") params body scope [] ((X.mg "__name__").getD .none) c' mj)) b=some u:=λb u e=>by rw[au (ao e fF)];exact e
  exact ⟨.ref h'.objs.size,_,I3,rfl,hQ h'.objs.size c' _ mj _ (λb u e=> .inl (k b u e)) fF (.inr ⟨c',k _ _ hP,k _ _ tL⟩) ae (k _ _ tL)⟩
end
variable{c':Addr}{params:Arguments}{pm mj:Value}{qual:Str}{N:List Str}
section
variable{P:Program}{w:World}{K:c8}{mg:Str->Option Value}{base:Heap}
theorem PH{k:Nat}{body:Expr}{scope:Scope}{YB:Sp}(S:aH N ps scope)(len:∀vs H Q E,YB vs H Q E->(vs:)=(ps:))
  (qF:∀(A:Around) (outer:List Env) (s:Shared) (H:Hp) (vs:List V) (Q:VK) (E:XK),cH k (A.deeper (envOfC qual scope s.heap.objs.size f (.ref c')))->YB vs H Q E->
   ∃t:TE,PE (wg eQ P w K mg base N qual scope f (.ref c') A outer s H E).JV body t/\t (start N vs) H Q):
  bD P w K mg base eQ (k+1) f (PySem.W.kla_fn "<lambda>" qual params body scope [] pm (.ref c') mj) ps
   (λvs H Q E=>H f=some (Lh f (PySem.W.kla_obj "<lambda>" qual params body scope [] pm c' mj))/\H c'=some (Li c' qual)/\YB vs H Q E):=by
 refine ⟨λvs H Q E h=>len _ _ _ _ h.2.2,λA outer s H args us vs Q E hr e0 hb r yr=>?_⟩
 obtain ⟨h1,h2,yr⟩:=yr
 have hl:=len _ _ _ _ yr
 obtain ⟨ho,_,_⟩:=e0.bU f _ h1
 obtain ⟨⟨oc,ws,tc,g1,g2,g3⟩,_,_⟩:=e0.bU c' _ h2
 have B6:s.heap.get? f=some (PySem.W.kla_obj "<lambda>" qual params body scope [] pm c' mj):=ho
 have lim:s.heap.NoLimit:=e0.mod.nolimit.keeps λb o e=>(e0.bs b o e).1
 have gD:∀y∈ps.zip us,scope.names.lookup y.1=some .local\/(scope.names.lookup y.1=some .cell/\((cellsFrom (s.heap.objs.size+1) scope.names []).lookup y.1).isSome=true):=λ⟨n,v⟩ hy=>by
  rcases S.par n (Qfz hy).1 with q | q
  ·exact .inl q
  ·exact .inr ⟨q,Qfo _ _ _ (.inl q)⟩
 refine PySem.W.kla_callFunE hr.depth B6 rfl S.co S.gen rfl ⟨c',oc,ws,tc,rfl,g1,g2,g3⟩ (hb _ _ _ _ ?_)
 refine wpAny_newFunctionEnv_cells S.kind gD λenv he s1 x=>?_
 subst he
 refine ⟨lim.keeps x.toInCall.keep,PySem.W.kla_codeExpr ?_⟩
 obtain ⟨t,ht,hq⟩:=qF A outer s H vs Q E (hr.deeper _) yr
 have I:Inv (wg eQ P w K mg base N qual scope f (.ref c') A outer s H E) [] (start N vs) H s1:=uL S hr.hd e0 hl r x
 refine wpAny_mono (ht.JV [] s1 (start N vs) H _ I hq) (λu s' hs=>?_) λe s' hs=>hs
 obtain ⟨v,H',J,rv,q⟩:=hs
 exact ⟨v,H',J.os,J.bare,J.base,J.bU,rv,q⟩
end
def Ni:Sp:=λvs H Q _=>∃w:c7,vs=[.str (S w)]/\(w:)<=10000/\∀p H',az H H'->H' p=some (.tup [.int ((w:):Nat),.str (S w)])->Q (.ref p) H'
theorem Ep(vs:List V)(H:Hp)(Q:VK)(E:XK)(h:Ni vs H Q E):(vs:)=1:=by obtain ⟨_,rfl,_⟩:=h;rfl
variable{p:Addr}
section
variable{X:Cx}{k:Nat}{c P:Addr}{params:Arguments}{body:Expr}{scope:Scope}{qual x:Str}
inductive Hc(K:c8)(H:Hp)(p:Addr)(ws:List c7):Prop
 | lst (_:bL K H p (ws.map λl=>V.str (S l)))
 | M9 (aI:List (Key×V)) (_:H p=some (.dK aI)) (_:aI.map (·.1)=ws.map λl=>Sum.inr (S l))
theorem Hc.U_{pp:Addr->Prop}(h:Hc K H p ws)(s:cW pp H H'):Hc K H' p ws:=by
 cases h with
 | lst h=>exact .lst (s.seq h)
 | M9 aI h e=>exact .M9 aI (s.get h) e
def Hd(X:Cx)(k:Nat)(x qual:Str)(params:Arguments)(body:Expr)(scope:Scope):Prop:=∀(f c':Addr) (pm mj:Value),
 bD X.prog X.w X.K X.mg X.base eQ k f (PySem.W.kla_fn "<lambda>" qual params body scope [] pm (.ref c') mj) [x] (λvs H Q E=>H f=some (Lh f (PySem.W.kla_obj "<lambda>" qual params body scope [] pm c' mj))/\H c'=some (Li c' qual)/\Ni vs H Q E)/\
  Binds X.K (PySem.W.kla_fn "<lambda>" qual params body scope [] pm (.ref c') mj) [x] []
theorem wY{Q:VK}(hc:X.calm=true)(hF:Hd X k x qual params body scope)(hr:cH k X.A.in1.in1)(I:Inv X pins σ H s)(h:Hc X.K H p ws)(hn:(ws:)<=10000)(hw:∀w∈ws,(w:)<=10000)
  (h1:H f=some (Lh f (PySem.W.kla_obj "<lambda>" qual params body scope [] pm c' mj))) (h2:H c'=some (Li c' qual))
  (q:∀(D:Addr) (H':Hp) (i_:List c7),az H H'->H D=none->H' D=some (.lst (i_.map λl=>V.str (S l)))->i_.Perm ws->(i_.Pairwise λa b=>ku b a=false)->Q (.ref D) H'):
  wpAny (model X.prog X.w) X.A (call (.builtin "sorted") [.ref p] [(Str.ofString "key",.ref f)]) (EP X pins σ Q) X.xe s:=by
 walk_at"q"
 obtain ⟨F,hb⟩:=hF f c' pm mj
 have fin:∀(s1:Shared) (vs:List Value),Inv X pins σ H s1->(∀a,s1.heap.objs.size<=a->H a=none)->Vals (ws.map λl=>V.str (S l)) vs->
   wpAny (model X.prog X.w) X.A.in1 (newList vs >>= λl=>holding [l] (call (.builtin "list.sort") [l] [(Str.ofString "key",.ref f)]) >>= λ_=>(ret l:Sem PySem.Fin)) (λfin s'=>∃v,fin= .done (.ret v)/\EP X pins σ Q v s') X.xe s1:=by
  intro s1 vs I1 Gh rv
  have hlv:(ws:)=(vs:):=by have:=(rv:);rwa [Wh]at this
  refine wpAny_bind (wpAny_newList ?_ (by show (vs:)<=_;lia))
  have FI:(s1.heap.push (seqObj "list" vs.toArray 0)).get? s1.heap.objs.size=some (seqObj "list" vs.toArray 0):=Qav _ rfl
  show wpAny _ _ _ _ _ { s1 with heap:=s1.heap.push (seqObj "list" vs.toArray 0) }
  refine wpAny_bind (wpAny_holding (wpAny_call_entry_kw slot_list_sort ⟨_,FI,rfl⟩ entry_list_sort ?_ (ksk_l1 _ _)))
  show wpAny (model X.prog X.w) X.A.in1.in1 (Builtin.«list.sort» ⟨[.ref s1.heap.objs.size],[(Str.ofString "key",.ref f)]⟩) _ _ _
  rw[ksk_t1]
  refine Eo (s:=s1) (h1:=s1.heap) F hr hb I1 rv hn (λH' w Q' hm sm hQ=>⟨sm _ _ h1,sm _ _ h2,w,rfl,hw w hm,hQ⟩) λs' H' i_ sm hD pw ord I'=>⟨_,rfl,?_⟩
  have hD0:H s1.heap.objs.size=none:=Gh _ (Qaa _)
  exact wpAny_pure ⟨_,rfl,.ref s1.heap.objs.size,_,I',rfl,q _ _ i_ (sm.trans λb o e=>by rw[au (ao e hD)];exact e) hD0 ae pw ord⟩
 refine call_function_entry_kw kind_sorted plain_sorted entry_sorted (ksk_s1 _ _) ?_
 unfold Builtin.«sorted»
 refine wpAny_bind (m:=checkCount "sorted" 1 1 _) (wpAny_pure ?_)
 cases h with
 | lst hq=>
  obtain ⟨aK,rv,pl,hz⟩:=I.list hq
  obtain ⟨o,ho,PC,m,hd⟩:=pl.isList
  refine wpAny_bind (wpAny_collect_seq p (.inl rfl) ho PC hd (λh1 k1=>?_) (by rw[Qah, <-(rv:)];exact hz))
  have I1:Inv X pins σ H { s with heap:=h1 }:=I.kept (t':=s.toks) k1
  exact fin { s with heap:=h1 } aK I1 (λa ha=>I1.bU.fresh ha) (by simpa using rv)
 | M9 aI hd hk=>
  obtain ⟨hz,Po,vs,kv,o,es,ep,e1,e2,e3,e4,e5,e6⟩:=I.bU p _ hd
  have hlen:(vs:)=(ws:):=by
   have a1:=congrArg List.length (qd kv)
   have a2:=congrArg List.length hk
   simp only[Wh]at a1 a2
   lia
  refine wpAny_bind (mF (A:=X.A.in1) (show X.A.in1.handled=none from I.ok.hd hc) p vs ep Po ⟨o,es,e1,e2,e3,e4,e5,e6⟩ () (λs' acc Yv hg Pn ho wB=>?_))
  obtain ⟨g1,g2⟩:=wB
  have rv:Vals (ws.map λl=>V.str (S l)) acc.toList:=by
   have key:∀(ls:List c7) (vs:List Value),(vs:)=(ls:)->(∀(j:Nat) (v:Value),vs[j]? =some v->∃l t,ls[j]? =some l/\v=Value.str (S l) t)->Vals (ls.map λl=>V.str (S l)) vs:=by
    intro ls
    induction ls with
    | nil=>intro vs hl _;have:vs=[]:=Qct hl;subst this;exact .nil
    | cons l ls ih=>
     intro vs hl hv
     cases vs with
     | nil=>simp at hl
     | cons v vs=>
      obtain ⟨l',t,e1,e2⟩:=hv 0 v rfl
      have AN:l=l':=by simpa using e1
      subst AN
      refine .cons ⟨t,e2⟩ (ih vs (by simpa using hl) λj v' e=>?_)
      obtain ⟨l',t',g1,g2⟩:=hv (j+1) v' (by simpa using e)
      exact ⟨l',t',by simpa using g1,g2⟩
   refine key ws acc.toList (by simpa [<-hlen]using g1) λj v e=>?_
   obtain ⟨k,x,e1,e2⟩:=g2 j v (by simpa using e)
   have e3:(vs.map (·.1))[j]? =some k:=by rw[Qar,e1];rfl
   rw[qd kv,hk,Qar]at e3
   cases e4:ws[j]? with
   | none=>rw[e4]at e3;cases e3
   | some l=>
    rw[e4]at e3
    have e5:k=Sum.inr (S l):=(Qal e3).symm
    subst e5
    obtain ⟨t,e6⟩:=Value.isStrOf_shape (x:=S l) (v:=v) e2
    exact ⟨l,t,rfl,e6⟩
  have I1:Inv X pins σ H s':=by
   have:=I.kept (t':=s'.toks) Yv
   have es:({ s with heap:=s'.heap,toks:=s'.toks }:Shared)=s':=by
    cases s;cases s'
    simp only at hg Pn ho
    subst hg Pn ho
    rfl
   rwa [es]at this
  exact fin s' acc.toList I1 (λa ha=>I1.bU.fresh ha) rv
inductive yZ(K:c8)(P:Addr)(pos:Pos)(qual:Str)(vs:List V)(H:Hp)(Q:VK):Prop
 | mk (p:Addr) (ws:List c7) (_:vs=[.ref p]) (_:Hc K H p ws) (_:(ws:)<=10000) (_:∀w∈ws,(w:)<=10000) (_:mK P pos qual H)
  (_:∀(D:Addr) (H':Hp) (i_:List c7),cW (· =P) H H'->mK P pos qual H'->H D=none->H' D=some (.lst (i_.map λl=>V.str (S l)))->i_.Perm ws->(i_.Pairwise λa b=>ku b a=false)->Q (.ref D) H'):yZ K P pos qual vs H Q
def PJ(K:c8)(P:Addr)(pos:Pos)(qual:Str)(t:TA):TE:=λσ H Q=>t σ H λvs H1=>yZ K P pos qual vs H1 Q
theorem y6{t:TA}{kp p pl:Pos}(K:c8)(hK:X.K=K)(hc:X.calm=true)(hg:Gl X "sorted")(hm:X.mg "sorted"=none)(hv:bootBuiltins "sorted"=some (.builtin "sorted"))(ha:PA X [e] t)
  (hl:PE X (.Lambda params body scope pl) (U9 P qual params body scope pl)) (hF:Hd X k x qual params body scope) (hr:cH k X.A.in1.in1)
  (he:starEach [e] X.env=[(false,eval e X.env)]:=by rfl):PE X (.Call (.Name "sorted" p) [e] [⟨some "key", .Lambda params body scope pl,kp⟩] pos) (PJ K P pl qual t):=by
 subst hK
 walk_at"f"
 refine wpAny_Call_Name_kw (gR I hg hm hv ?_)
 refine callWith_kw (cD (ha pos pins s σ H _ I h) λus s1 ⟨vs,H1,I1,r1,q1⟩=>?_) (by rw[he];rfl) (by rw[he];rfl)
 obtain ⟨a,ws,rfl,hq,hn,hw,hT,q⟩:=q1
 obtain ⟨u,rfl,ru⟩:=vals1 r1
 cases ru
 refine kws_cons (cD (hl pins s1 σ H1 (λv H2=>∃f c' pm mj,v= .ref f/\cW (· =P) H1 H2/\mK P pl qual H2/\H2 f=some (Lh f (PySem.W.kla_obj "<lambda>" qual params body scope [] pm c' mj))/\H2 c'=some (Li c' qual)) I1 ⟨hT,λf c' pm mj H' a1 _ a3 a4 a5=>⟨f,c',pm,mj,rfl,a1,a3,a4,a5⟩⟩) λv s2 hq2=>kws_nil ?_)
 obtain ⟨_,H2,I2,r2,f,c',pm,mj,rfl,sT,UG,hf,RP⟩:=hq2
 cases r2
 refine wY hc hF hr I2 (hq.U_ sT) hn hw hf RP λD H' i_ sm hD hD' pw ord=>q D H' i_ (sT.trans (.of sm)) (UG.same sm) (sT.free hD) hD' pw ord
end
def Nj(H:Hp):Prop:=∀b o,H b=some o->(∃ob xs,o= .DJ ob (.lst xs))\/o= .o_ #[]
theorem Er{P:Program}{w:World}{mg mb:Str->Option Value}{CX:DV}{k:Nat}{fa:Addr}{fd:FuncData}{sp:Sp}{s₁:Shared}{ns:List Int}{ts:List Addr}
  (KX:K.In s₁.heap) (Wj:s₁.heap.Ns mainGlobals mg) (hb:s₁.heap.Ns builtinsNs mb) (hbb:∀x:Str,x≠"__name__"->mb x=bootBuiltins x) (YC:s₁.heap.NoLimit) (hg:s₁.gens= #[])
  (hT:∀Q∈ts,s₁.heap.get? Q=some (PySem.W.tabObj #[])/\isCodeTable s₁.heap Q) (Va:PySem.W.noTabs K=true) (Wx:yY s₁.heap mg)
  (ha:s₁.heap.get? a=some { cls:= .type "list",data:= .seq vs.toArray }) (hi:IntsAre vs ns) (hl:(ns:)<=sizeLine) (hr:cH k callerA)
  (F:∀base:Heap,K.In base->base.Ns mainGlobals mg->yY base mg->bD P w K mg base CX k fa fd [x] sp) (Vb:∀(s:Shared) (u:Value),BindsTo s fd ⟨[u],[]⟩ [(x,u)])
  (yr:∀H:Hp,Nj H->(∀Q∈ts,H Q=some (.o_ #[]))->bL K H a (ns.map V.int)->sp [.ref a] H (λv _=>v= .bl true) λ_ _ _=>False)
  (YD:∀H e s',CX [] H s₁ (λ_ _ _=>False) e s'->False):
  codeAny (model P w) callerA (.call (.ref fa) ⟨[.ref a],[]⟩) (λr s'=>r= .ok (.ret (.bool true))/\OldK s₁.heap s'.heap/\s'.os=s₁.os/\AllBare s'.gens) s₁:=by
 have rv:=uR hi
 have YE:=(hi:)
 have YF:∀{b:Addr} {o:Obj},K.lookup b=some o->o≠PySem.W.tabObj #[]:=λ{b o} e z=>by
  have h2:=Qcg.mp Va (b,o) (PySem.W.mem_of_lookupK e)
  subst z
  exact absurd (show false=true from h2) Qa8
 have core:∀H:Hp,(∀b o,H b=some o->(b∈ts/\o= .o_ #[])\/(b=a/\∃ob xs,o= .DJ ob (.lst xs)))->(∀Q∈ts,H Q=some (.o_ #[]))->bL K H a (ns.map V.int)->lO P w H s₁.heap->(H a≠none->K.lookup a=none)->
   codeAny (model P w) callerA (.call (.ref fa) ⟨[.ref a],[]⟩) (λr s'=>r= .ok (.ret (.bool true))/\OldK s₁.heap s'.heap/\s'.os=s₁.os/\AllBare s'.gens) s₁:=by
  intro H hA YG hS bU hK
  have wZ:∀{b:Addr} {o:Obj},s₁.heap.get? b=some o->H b=none->(tK s₁.heap H).get? b=some o:=λe n=>FG e n
  have Cv:∀{b:Addr} {o:Obj},s₁.heap.get? b=some o->o≠PySem.W.tabObj #[]->(b=a->False)->H b=none:=λ{b o} e n na=>by
   cases q:H b with
   | none=>rfl
   | some u=>
    rcases hA b u q with ⟨hm,_⟩ | ⟨z,_⟩
    ·have:=(hT b hm).1
     rw[e]at this
     exact absurd (Qal this) n
    ·exact (na z).elim
  have TV:∀{b:Addr} {o:Obj} {es:Array DictEntry} {ep:Nat},s₁.heap.get? b=some o->o.data= .dict es ep->H b=none:=λ{b o es ep} e d=>by
   refine Cv e (λz=>by rw[z]at d;cases d) λz=>?_
   rw[z,ha]at e
   cases e
   have d':Data.seq vs.toArray _=Data.dict es ep:=d
   cases d'
  have Wy:∀{b:Addr} {m:Str->Option Value},s₁.heap.Ns b m->(tK s₁.heap H).Ns b m:=λ{b m} ⟨o,es,ep,e,d,r⟩=>⟨o,es,ep,wZ e (TV e d),d,r⟩
  have hKb:K.In (tK s₁.heap H):=λb o e=>wZ (KX b o e) (by
   cases q:H b with
   | none=>rfl
   | some u=>
    rcases hA b u q with ⟨hm,_⟩ | ⟨z,_⟩
    ·have:=(hT b hm).1
     rw[KX b o e]at this
     exact absurd (Qal this) (YF e)
    ·rw[z]at e q
     rw[hK (by rw[q];simp)]at e;cases e)
  have hBm:yY (tK s₁.heap H) mg:=by
   obtain ⟨bm,ob,b1,b2,b3,b4,b5,b6⟩:=Wx
   refine ⟨bm,ob,b1,b2,wZ b3 (Cv b3 (λz=>by rw[z]at b4;cases b4) λz=>?_),b4,b5,b6⟩
   rw[z,ha]at b3
   cases b3
   cases b6
  have hM:Mod K mg (tK s₁.heap H):=⟨hKb,Wy Wj,⟨mb,Wy hb,hbb⟩,let ⟨mc,h1,h2⟩:=YC;⟨mc,Wy h1,h2⟩⟩
  have e0:tN P w K mg (tK s₁.heap H) callerA [] s₁ H:=⟨rfl,hM,λb o e=>Ke e,Qfu (DK _ _),trivial,λb hb=>absurd (show b∈([]:List Addr) from hb) (by simp),bU,.of_eq hg⟩
  have hO:Nj H:=λb o e=>(hA b o e).elim (λz=> .inr z.2) λz=> .inl z.2
  refine codeAny_mono ((F _ hKb (Wy Wj) hBm).run callerA [] s₁ H ⟨[.ref a],[]⟩ [.ref a] [.ref a] _ _ hr e0 (Vb s₁ (.ref a)) (.cons rfl .nil) (yr H hO YG hS)) λr s' h=>?_
  cases r with
  | error e=>exact (YD H e s' h).elim
  | ok fl=>
   cases fl with
   | next=>exact False.elim h
   | brk=>exact False.elim h
   | cont=>exact False.elim h
   | ret u=>
    obtain ⟨v,H',os,bare,un,Vc,r',q⟩:=h
    have q':v= .bl true:=q
    subst q'
    obtain rfl:u=Value.bool true:=r'
    refine ⟨rfl,⟨λb o e=>?_,λb o e=>un.there b o e (by simp)⟩,os,bare⟩
    cases q:H b with
    | none=>exact .inl (un.keep b o e q (by intro z;exact absurd (show b∈([]:List Addr) from z) (by simp)) (by simp))
    | some u=>
     rcases hA b u q with ⟨hm,rfl⟩ | ⟨_,ob,xs,rfl⟩
     ·obtain ⟨t1,t2⟩:=hT b hm
      rw[e]at t1
      cases t1
      obtain ⟨more,z2⟩:=un.tJ b _ q
      exact .inr (.inl ⟨t2,rfl, #[],more,rfl,Vc b _ z2⟩)
     ·have z2:=un.qy b ob _ q
      obtain ⟨e1,_⟩:=bU b _ q
      obtain ⟨e2,_⟩:=Vc b _ z2
      rw[e]at e1;cases e1
      exact .inl e2
 have aT:a∉ts:=λhm=>by
  have:=(hT a hm).1
  rw[ha]at this
  cases this
 have Nk:∀(H:Hp) (b:Addr),b∈ts->cC P w H s₁.heap b (.o_ #[]):=λH b hm=>(hT b hm).1
 cases hk:K.lookup a with
 | some o=>
  have e:=KX a o hk
  rw[ha]at e
  cases e
  refine core (λb=>if b∈ts then some (.o_ #[]) else none) (λb o e=>?_) (λQ hm=>if_pos hm) (.inr ⟨_,vs.toArray,_,hk,rfl,rfl,rfl,by rw[Qah,YE];exact hl,by simpa using rv⟩) (λb u z=>?_) λz=>absurd (if_neg aT) z
  ·by_cases hm:b∈ts
   ·have e':=(if_pos hm).symm.trans e
    cases e'
    exact .inl ⟨hm,rfl⟩
   ·have e':=(if_neg hm).symm.trans e
    cases e'
  ·by_cases hm:b∈ts
   ·have e':=(if_pos hm).symm.trans z
    cases e'
    exact Nk _ b hm
   ·have e':=(if_neg hm).symm.trans z
    cases e'
 | none=>
  have hA2:∀b o,(if b∈ts then some (HO.o_ #[]) else if b=a then some (HO.DJ { cls:= .type "list",data:= .seq vs.toArray } (.lst (ns.map V.int))) else none)=some o->(b∈ts/\o= .o_ #[])\/(b=a/\o= .DJ { cls:= .type "list",data:= .seq vs.toArray } (.lst (ns.map V.int))):=λb o e=>by
   by_cases hm:b∈ts
   ·rw[if_pos hm]at e
    cases e
    exact .inl ⟨hm,rfl⟩
   ·rw[if_neg hm]at e
    by_cases hb:b=a
    ·rw[if_pos hb]at e
     cases e
     exact .inr ⟨hb,rfl⟩
    ·rw[if_neg hb]at e
     cases e
  refine core (λb=>if b∈ts then some (.o_ #[]) else if b=a then some (.DJ { cls:= .type "list",data:= .seq vs.toArray } (.lst (ns.map V.int))) else none) (λb o e=>(hA2 b o e).imp id λz=>⟨z.1,_,_,z.2⟩) (λQ hm=>if_pos hm)
   (.inl (.inr ⟨{ cls:= .type "list",data:= .seq vs.toArray },by show (if a∈ts then _ else if a=a then _ else _)=_;rw[if_neg aT,if_pos rfl]⟩)) (λb u z=>?_) λ_=>hk
  rcases hA2 b u z with ⟨hm,rfl⟩ | ⟨rfl,rfl⟩
  ·exact Nk _ b hm
  ·exact ⟨ha,by rw[Wh];exact hl,vs,_,rv,ha⟩
theorem He{h:Heap}{P:Addr}(x:PySem.W.CodeHd h c P):isCodeTable h P:=let ⟨o,vs,_,_,_,_,_,_,_,e1,e2,e3,e4,_⟩:=x;⟨c,o,vs,e1,e2,e3,e4⟩
def Tab(K:c8)(x:Str)(pos:Pos)(q:Str)(H:Hp):Prop:=∀c P,PySem.W.tabIn K x=some (c,P)->mK P pos q H
theorem Tab.same(h:Tab K x pos q H)(s:az H H'):Tab K x pos q H':=λc P e=>(h c P e).same s
def TabAt(K:c8)(x:Str)(P:Addr):Prop:=∃c,PySem.W.tabIn K x=some (c,P)
theorem TabAt.eq{P Q:Addr}(h:TabAt K x P)(g:TabAt K x Q):P=Q:=by
 obtain ⟨c,e⟩:=h
 obtain ⟨d,f⟩:=g
 rw[e]at f
 cases f
 rfl
theorem Tab.at_{P:Addr}(h:Tab K x pos q H)(t:TabAt K x P):mK P pos q H:=let ⟨c,e⟩:=t;h c P e
theorem Tab.mk{P:Addr}(t:TabAt K x P)(h:mK P pos q H):Tab K x pos q H:=λc Q e=>by rw[<-t.eq ⟨c,e⟩];exact h
theorem Tab.off{z:Str}{P Q:Addr}(h:Tab K x pos q H)(tx:TabAt K x P)(tz:TabAt K z Q)(n:P≠Q)(s:cW (TabAt K z) H H'):Tab K x pos q H':= .mk tx ((h.at_ tx).off s λg=>n (g.eq tz))
noncomputable def Hf(K:c8)(P:Addr):Bool:=K.any λp=>PySem.W.codeHdIn K p.1 P
noncomputable def tabOf(K:c8)(ts:List Addr)(x:Str):Bool:=match PySem.W.tabIn K x with
 | some (_,P)=>ts.contains P
 | none=>true
class Cw (base:Heap) (mg:Str->Option Value):Prop where
 bm:yY base mg
theorem Hg{l:PySem.W.OpenLaw}{k:Nat}{q:Program}{loose:List Str}{XP:(Str->Option Value)->Heap->Prop}{YP:World->Heap->Prop}{d:DefRec}{K:Params->c8}{CX:DV}{sp:c8->Sp}{ts:List Addr}{xs:List Str}
  (hn:l.most=some n) (we:n<=sizeLine) (T8:d.params.defaults=[]) (hr:cH k callerA)
  (hY:∀(w:World) (h:Heap),YP w h->(K w.params).In h/\∀r∈ts,h.get? r=some (PySem.W.tabObj #[])) (Va:∀w:World,PySem.W.noTabs (K w.params)=true) (hC:∀w:World,ts.all (Hf (K w.params))=true) (hX:∀w:World,xs.all (tabOf (K w.params) ts)=true)
  (F:∀(w:World) (mg:Str->Option Value) (fa:Addr) (h:Heap),(K w.params).In h->h.Ns mainGlobals mg->mg d.name=some (.ref fa)->
   ∃fd:FuncData,(∀(s:Shared) (u:Value),BindsTo s fd ⟨[u],[]⟩ [(x,u)])/\
    ∀base:Heap,(K w.params).In base->base.Ns mainGlobals mg->yY base mg->bD l.prog w (K w.params) mg base CX k fa fd [x] (sp (K w.params)))
  (yr:∀(K:c8) (H:Hp) (a:Addr) (ns:List Int),(ns:)<=n->(∀x∈xs,∀pos q,Tab K x pos q H)->bL K H a (ns.map V.int)->sp K [.ref a] H (λv _=>v= .bl true) λ_ _ _=>False)
  (YD:∀(H:Hp) (s:Shared) (e:Value) (s':Shared),CX [] H s (λ_ _ _=>False) e s'->False):
  PySem.W.WalkO q loose XP YP l.row.toRowW d [] (λf vs=>PySem.call f vs):=by
 refine Att.yy hn T8 λw s₀ s₁ mg mb fa o pm cd doc a vs ns G Y ho hd kT hmg OB hints hlen hg=>?_
 obtain ⟨KX,hT⟩:=hY w _ Y
 obtain ⟨fd,hb,hF⟩:=F w mg fa _ KX G.T.g hmg
 refine Er (ts:=ts) KX G.T.g G.T.b G.T.builtins G.T.nolimit hg (λQ hm=>⟨hT Q hm,?_⟩) (Va w) ?_ OB hints (Qa7 hlen we) hr hF hb (λH hO YG hS=>yr _ H a ns hlen (λx hx pos q c P e=> .inl (YG P ?_)) hS) λH e s'=>YD H s₁ e s'
 ·have h1:=Qcg.mp (hC w) Q hm
  obtain ⟨p,_,h2⟩:=Qc4.mp h1
  exact He (PySem.W.codeHd_of_K KX h2)
 ·obtain ⟨bm,ob,b1,b2,b3,b4,b5,b6⟩:=G.T.bmain
  exact ⟨bm,ob,b1,b2,b3,b4,b5,b6⟩
 ·have h1:=Qcg.mp (hX w) x hx
  unfold tabOf at h1
  rw[e]at h1
  simpa using h1
structure Es(K:c8)(x qual:Str)(st:Stmt)(f:Addr)(fd:FuncData)(P:Addr):Prop where
 ex:∃(oc:Value) (od:Option Addr) (kV doc pm:Value) (an:Option Addr) (c:Addr) (ct:Value) (x8:Array (Option Value)),
  fd=PySem.W.fnOf x qual (da st) (cE st) (aB st) .none kV doc pm an (.ref c) ct/\K.lookup f=some ⟨oc,od,.func fd,x8⟩/\PySem.W.codeIn K (.ref c) qual=true/\PySem.W.codeHdIn K c P=true
 kp:PySem.W.keepIn K (.ref f)=true
variable{st:Stmt}
section
variable{P:Program}{w:World}{K:c8}{mg:Str->Option Value}{base:Heap}
theorem Es.ok{fd:FuncData}{T:Addr}{k:Nat}{sp:Sp}(F:Es K x qual st f fd T)(S:aH N ps (aB st))(len:∀vs H Q E,sp vs H Q E->(vs:)=(ps:))
  (qF:∀(c:Addr) (A:Around) (outer:List Env) (s:Shared) (H:Hp) (vs:List V) (Q:VK) (E:XK),PySem.W.codeHdIn K c T=true->cH k (A.deeper (envOfC qual (aB st) s.heap.objs.size f (.ref c)))->sp vs H Q E->
   ∃t,x6 (wg eQ P w K mg base N qual (aB st) f (.ref c) A outer s H E).JV (cE st) t/\t { nx:=λ_ H'=>Q .gz H',rt:=Q } (start N vs) H):bD P w K mg base eQ (k+1) f fd ps sp:=by
 obtain ⟨oc,od,kV,doc,pm,an,c,ct,x8,rfl,lk,kT,hh⟩:=F.ex
 refine MY lk kT S len λA outer s H vs Q E hr yr=>?_
 obtain ⟨t,h,q⟩:=qF c A outer s H vs Q E hh hr yr
 exact ⟨t,h.JV,q⟩
theorem Lj{T:Addr}{oc:Value}{od an:Option Addr}{x8:Array (Option Value)}{kV doc ct:Value}(l:K.lookup f=some ⟨oc,od,.func (PySem.W.fnOf x qual (da st) (cE st) (aB st) .none kV doc pm an (.ref c) ct),x8⟩)
  (cc:PySem.W.codeIn K (.ref c) qual=true) (k:PySem.W.keepIn K (.ref f)=true) (h:PySem.W.codeHdIn K c T=true):Es K x qual st f (PySem.W.fnOf x qual (da st) (cE st) (aB st) .none kV doc pm an (.ref c) ct) T:=⟨⟨oc,od,kV,doc,pm,an,c,ct,x8,rfl,l,cc,h⟩,k⟩
end
theorem y7{X:Cx}{scope:Scope}{p1 p2 p3 p4:Pos}{cx:Nat}(hz:X.mg "len"=none)(S:aH [x] [x] scope)(hg:scope.names.lookup ("len":Str)=some .globalImplicit)(hl:scope.names.lookup x=some .local)(hd:(x==("__debug__":Str))=false)(hd2:(x==("__classdict__":Str))=false)
  (hp:∀(pm cd mj:Value) (us:List Value),(us:)=1->bindArgs (PySem.W.kla_fn "<lambda>" qual params (.Tuple [.Call (.Name "len" p1) [.Name x p2] [] p3, .Name x p4] cx pos) scope [] pm cd mj) ⟨us,[]⟩=pure ([x].zip us)):
  Hd X 2 x qual params (.Tuple [.Call (.Name "len" p1) [.Name x p2] [] p3, .Name x p4] cx pos) scope:=λf c' pm mj=>
 ⟨PH (N:=[x]) S Ep λA outer s H vs Q E hr h=>⟨_,dz (ai (aY bM hg hz boot_len (ai (Al (i:=0) rfl (.inl hl) hd hd2) bW)) (ai (Al (i:=0) rfl (.inl hl) hd hd2) bW)),by
  obtain ⟨w,rfl,hw,q⟩:=h
  walk_at"q"
  exact ⟨_,rfl,⟨w,rfl,(),_,rfl,(by decide:2<=sizeLine),λp e=>q p _ (λb o z=>by rw[au (ao z e)];exact z) ae⟩⟩⟩,.all (hp pm _ mj)⟩
end L2
namespace My
open PySem PySem.Spec PyProof.Rows L2 XL
theorem Zs1:(100000:Nat)<sizeLine:=∅
noncomputable def kz:List Str:=["_law_due","law"]
noncomputable abbrev Lk:Pos:=⟨256,34,256,79⟩
noncomputable abbrev Ll:Str:=(("_law_due":Str)++".<locals>.")++"<lambda>"
abbrev qf(K:c8)(H:Hp):Prop:=Tab K "_law_due" Lk Ll H
noncomputable abbrev PK:Pos:=⟨274,107,274,152⟩
noncomputable abbrev PL:Str:=(("law":Str)++".<locals>.")++"<lambda>"
abbrev A7(K:c8)(H:Hp):Prop:=Tab K "law" PK PL H
noncomputable def aR:c7:=[97,98,99,100,101,102,103,104,105,106,107,108,109,110,111,112,113,114,115,116,117,118,119,120,121,122]
noncomputable def lU:c7:=[65,66,67,68,69,70,71,72,73,74,75,76,77,78,79,80,81,82,83,84,85,86,87,88,89,90]
def Lt(c:Nat):Prop:=c∈aR\/c∈lU
noncomputable instance (c:Nat):Decidable (Lt c):=by unfold Lt;infer_instance
noncomputable def ay(c:Nat):Nat:=if aC c=true then PyProof.Rows.up1 c else PyProof.Rows.lo1 c
theorem w4:∀c∈aR++lU,c<128/\ay c∈aR++lU/\ay (ay c)=c/\ay c≠c:=⋯
variable{c:Nat}
theorem Lt.mem(h:Lt c):c∈aR++lU:=Qap.mpr h
theorem Lt.lt(h:Lt c):c<128:=(w4 c h.mem).1
theorem Lt.ay{c:Nat}(h:Lt c):Lt (ay c):=Qap.mp (w4 c h.mem).2.1
theorem aF(h:Lt c):ay (ay c)=c:=(w4 c h.mem).2.2.1
theorem iN(h:Lt c):ay c≠c:=(w4 c h.mem).2.2.2
variable{a b:Nat}
theorem dk(ha:Lt a)(hb:Lt b)(e:My.ay a=My.ay b):a=b:=by rw[<-aF ha,e,aF hb]
theorem y8:∀c∈aR,tF lU ((aR.idxOf c:Nat):Int)=some (ay c):=⋯
theorem Et:∀c∈lU,tF aR ((lU.idxOf c:Nat):Int)=some (ay c):=⋯
noncomputable def bC(l:c7):c7:=(l.map ay).reverse
def bE(b:Addr)(H H':Hp):Prop:=∀c o,H c=some o->c≠b->H' c=some o
theorem bE.refl(b:Addr)(H:Hp):bE b H H:=λ_ _ h _=>h
variable{H:Hp}
theorem bE.trans{b:Addr}{H1 H2:Hp}(x:bE b H H1)(y:bE b H1 H2):bE b H H2:=λc o h n=>y c o (x c o h n) n
variable{H':Hp}
theorem bE.of{b:Addr}(x:az H H'):bE b H H':=λc o h _=>x c o h
theorem bE.upd(b:Addr)(H:Hp)(o:HO):bE b H (upd H b o):=λc o h n=>by rw[au n];exact h
variable{o:HO}
theorem az.upd{p:Addr}(h:H p=none):az H (L2.upd H p o):=λc u e=>by rw[au (ao e h)];exact e
def oY(H:Hp)(b:Addr):Prop:=∃x y:Int,H b=some (.lst [.int x,.int y])
structure Yd(y:c7):Prop where
 nd:y.Nodup
 lt:∀c∈y,Lt c
 cl:∀c∈y,ay c∈y
def oZ(_:c8):Sp:=λvs H Q _=>∃c,vs=[.str (S [c])]/\c<128/\Q (.str (S [ay c])) H
variable{K:c8}{vs:List V}{Q:VK}{E:XK}
theorem w5(h:oZ K vs H Q E):(vs:)=1:=by obtain ⟨c,rfl,_⟩:=h;rfl
def vd(_:c8):Sp:=λvs H Q _=>∃c,vs=[.str (S [c])]/\Lt c/\Q (.str (S [ay c])) H
theorem A8(h:vd K vs H Q E):(vs:)=1:=by obtain ⟨c,rfl,_⟩:=h;rfl
def ve(_:c8):Sp:=λvs H Q _=>∃l:c7,vs=[.str (S l)]/\(∀c∈l,c<128)/\(l:)<=1000/\∀H',az H H'->Q (.str (S (bC l))) H'
theorem A9(h:ve K vs H Q E):(vs:)=1:=by obtain ⟨c,rfl,_⟩:=h;rfl
inductive vf(K:c8)(vs:List V)(H:Hp)(Q:VK)(dA:XK):Prop
 | mk (a:Addr) (ns:List Int) (k:Nat) (_:vs=[.ref a,.int k]) (_:bL K H a (ns.map V.int)) (_:k<=1000) (_:∀b H',H b=none->oY H' b->az H H'->Q (.ref b) H'):vf K vs H Q dA
def Cy(K:c8):Sp:=vf K
theorem Hh(h:Cy K vs H Q E):(vs:)=2:=by obtain ⟨a,ns,k,rfl,_⟩:=h;rfl
inductive rm(p_:c8)(vs:List V)(H:Hp)(Q:VK)(dA:XK):Prop
 | mk (b:Addr) (m:Int) (_:vs=[.ref b,.int m]) (_:oY H b) (_:1<=m) (_:m<1000000) (_:∀(r:Nat) H',(r:Int)<m->oY H' b->bE b H H'->Q (.int r) H'):rm p_ vs H Q dA
def y9(p_:c8):Sp:=rm p_
theorem Eu(h:y9 K vs H Q E):(vs:)=2:=by obtain ⟨b,m,rfl,_⟩:=h;rfl
theorem y_:∀l:c7,(l.map λc=>[c]).flatten=l
 | []=>rfl
 | c::l=>by rw[Qa3,Qc3,y_ l];rfl
theorem Hi:∀l:c7,((l.map λc=>[c]).map List.length).sum=(l:)
 | []=>rfl
 | c::l=>by
  rw[Qa3,Qa3,Qdo,Hi l]
  show 1+(l:)=(l:)+1
  lia
theorem kA(l:c7):eR l=(l.map λc=>[c]).map λl=>V.str (S l):=by unfold eR;rw[Qbh];rfl
theorem Lm(l:c7):(eR l).reverse=eR l.reverse:=by unfold eR;rw[Qd7]
theorem gi(l:c7)(c:Nat):eR l++[V.str (S [c])]=eR (l++[c]):=by unfold eR;rw[Qaq];rfl
variable{i:Nat}
theorem take_snoc{α:Type}{l:List α}{x:α}(h:l[i]? =some x):l.take i++[x]=l.take (i+1):=by rw[Qfb,h];rfl
theorem Cz{ns:List Int}(h:i<(ns:)):∃z,(ns.map V.int)[i]? =some (V.int z):=⟨ns[i],by rw[Qar,OD h];rfl⟩
theorem kB{σ:L2.St}{A B:Hp->Prop}(h:A H):Ua σ H λb H3=>if b=true then A H3 else B H3:=by
 show (if true=true then A H else B H)
 rw[if_pos rfl]
 exact h
theorem A_(b:Bool)(z:Int):∃y,tF [V.int 0,V.int z] (if b=true then 1 else 0)=some (V.int y):=by
 cases b
 ·exact ⟨0,rfl⟩
 ·exact ⟨z,rfl⟩
theorem Ew(l:c7)(i:Nat):(eR l).eraseIdx i=eR (l.eraseIdx i):=by
 unfold eR
 induction l generalizing i with
 | nil=>rfl
 | cons a l ih=>
  cases i with
  | zero=>rfl
  | succ i=>rw[Qa3,Qfl,ih,Qfl,Qa3]
variable{l:c7}
theorem Hj(h:i<(l:)):(eR l)[i]? =some (V.str (S [l[i]])):=by unfold eR;rw[Qar,OD h];rfl
theorem vg:aR.Nodup:=⋯
theorem Yd.perm{a b:c7}(h:Yd a)(p:a.Perm b):Yd b:=
 ⟨p.nodup_iff.mp h.nd,λc hc=>h.lt c (p.mem_iff.mpr hc),λc hc=>p.mem_iff.mp (h.cl c (p.mem_iff.mpr hc))⟩
theorem oY.Hk{b p:Addr}(h:oY H b)(n:p≠b):oY (L2.upd H p o) b:=let ⟨x,y,e⟩:=h;⟨x,y,by rw[au (Ne.symm n)];exact e⟩
theorem oY.ne{b p:Addr}(h:oY H b)(n:H p=none):p≠b:=λz=>by obtain ⟨x,y,e⟩:=h;rw[<-z,n]at e;cases e
variable{A B:Prop}
theorem Hl{c:Bool}(h:c=false)(hB:B):if c=true then A else B:=by rw[h];exact T9 hB
theorem Vd{c:Bool}(h:c=true)(hA:A):if c=true then A else B:=by rw[h];exact XI hA
theorem bA(l:c7):(bC l:)=(l:):=by unfold bC;rw[Qa0,Wh]
theorem kC(a b:c7):bC (a++b)=bC b++bC a:=by unfold bC;rw[Qaq,Qc7]
theorem Ln(h:c∈l):ay c∈bC l:=Qcf.mpr (Qay.mpr ⟨c,h,rfl⟩)
theorem jF(h:∀c∈l,Lt c):∀c∈bC l,Lt c:=λc hc=>by
 obtain ⟨d,hd,rfl⟩:=Qay.mp (Qcf.mp hc)
 exact (h d hd).ay
theorem qg(h:∀c∈l,Lt c):bC (bC l)=l:=by
 unfold bC
 rw[Qd7,Qf6,Qbh]
 have:∀c∈l,(ay ∘ ay) c=c:=λc hc=>aF (h c hc)
 calc l.map (ay ∘ ay)=l.map id:=Qb0 this
  _=l:=Qec l
theorem za(h:∀c∈l,Lt c):∀c∈l,c<128:=λc hc=>(h c hc).lt
theorem zc(a:c7):a.take (eR a:)=a:=by rw[b_];exact Qai (Qaa _)
theorem bE.same{b:Addr}{H2 H3:Hp}(n:H b=Option.none)(s:az H H2)(t:bE b H2 H3):az H H3:=λc o e=>t c o (s c o e) (ao e n)
noncomputable def dD(ws:List c7):List V:=ws.map λl=>V.str (S l)
theorem cy(ws:List c7):(dD ws:)=(ws:):=by unfold dD;rw[Wh]
theorem rq(ws:List c7)(l:c7):dD ws++[V.str (S l)]=dD (ws++[l]):=by unfold dD;rw[Qaq];rfl
variable{ws:List c7}
theorem rz(h:i<(ws:)):(dD ws)[i]? =some (V.str (S ws[i])):=by unfold dD;rw[Qar,OD h];rfl
theorem Nl{s:TS}{D:Ends}{σ:L2.St}(h:∀D':Ends,(∀σ' H',D.nx σ' H'->D'.nx σ' H')->s D' σ H):s D σ H:=h D λ_ _ z=>z
inductive ze(K:c8)(vs:List V)(H:Hp)(Q:VK)(dA:XK):Prop
 | mk (a:Addr) (ns:List Int) (_:vs=[.ref a]) (_:bL K H a (ns.map V.int)) (_:(ns:)<=63) (_:(∀x∈kz,∀pos q,Tab K x pos q H)) (_:∀H',Q (.bl true) H'):ze K vs H Q dA
def nM(K:c8):Sp:=ze K
theorem Lo(h:nM K vs H Q E):(vs:)=1:=by obtain ⟨b,m,rfl,_⟩:=h;rfl
noncomputable def bP(st:c7)(c:Nat):c7:=if st.getLast? =some (ay c) then st.dropLast else st++[c]
noncomputable def red(l:c7):c7:=l.foldl bP []
def iO:c7->Prop
 | []=>True
 | [_]=>True
 | a::b::r=>a≠ay b/\iO (b::r)
theorem iO.tail:∀{a:Nat} {r:c7},iO (a::r)->iO r
 | _,[],_=>trivial
 | _,_::_,h=>h.2
theorem iO.snoc:∀{l:c7} {c:Nat},iO l->l.getLast?≠ some (ay c)->iO (l++[c])
 | [],_,_,_=>trivial
 | [a],c,_,h=>⟨λz=>h (by rw[z];rfl),trivial⟩
 | a::b::r,c,h,k=>⟨h.1,iO.snoc (l:=b::r) h.2 (by simpa using k)⟩
theorem iO.init:∀{l:c7} {c:Nat},iO (l++[c])->iO l/\l.getLast?≠ some (ay c)
 | [],_,_=>⟨trivial,by simp⟩
 | [a],c,h=>⟨trivial,λz=>h.1 (by simpa using z)⟩
 | a::b::r,c,h=>by
  have ih:=iO.init (l:=b::r) (c:=c) h.2
  exact ⟨⟨h.1,ih.1⟩,by simpa using ih.2⟩
theorem snoc_cases(l:c7):l=[]\/∃m a,l=m++[a]:=by
 by_cases h:l=[]
 ·exact .inl h
 ·exact .inr ⟨l.dropLast,l.getLast h,(List.dropLast_concat_getLast h).symm⟩
theorem iO.left:∀{m l:c7},iO (m++l)->iO m
 | [],_,_=>trivial
 | [_],_,_=>trivial
 | a::b::r,l,h=>⟨h.1,iO.left (m:=b::r) (l:=l) h.2⟩
theorem kD(h:l.getLast? =some c):∃m,l=m++[c]:=by
 rcases snoc_cases l with rfl | ⟨m,a,rfl⟩
 ·simp at h
 ·refine ⟨m,?_⟩
  have:a=c:=by simpa using h
  rw[this]
theorem Ex{st:c7}(h:iO st):iO (bP st c):=by
 unfold bP
 by_cases e:st.getLast? =some (ay c)
 ·rw[if_pos e]
  obtain ⟨m,rfl⟩:=kD e
  rw[Qc0]
  exact h.init.1
 ·rw[if_neg e]
  exact h.snoc e
variable{d:Nat}
theorem vh{st:c7}(h:d∈bP st c):d∈st\/d=c:=by
 unfold bP at h
 by_cases e:st.getLast? =some (ay c)
 ·rw[if_pos e]at h
  exact .inl (List.dropLast_subset _ h)
 ·rw[if_neg e]at h
  rcases Qap.mp h with z | z
  ·exact .inl z
  ·exact .inr (Wi.mp z)
variable{x:Nat}
theorem Ba{st:c7}{y:Nat}(h:iO st)(hy:Lt y)(e:x=ay y):bP (bP st x) y=st:=by
 subst e
 unfold bP
 by_cases z:st.getLast? =some (ay (ay y))
 ·rw[if_pos z]
  obtain ⟨m,rfl⟩:=kD z
  rw[Qc0,aF hy]
  have:=h.init.2
  rw[aF hy]at this
  rw[if_neg this]
 ·rw[if_neg z,if_pos (by simp),Qc0]
theorem rA:∀(l st:c7),iO st->iO (l.foldl bP st)
 | [],_,h=>h
 | _::l,_,h=>rA l _ (Ex h)
theorem w6(l:c7):iO (red l):=rA l [] trivial
theorem ik{a b:c7}{y:Nat}(hy:Lt y)(e:x=ay y):red (a++x::y::b)=red (a++b):=by
 unfold red
 rw[Qfe,Qcw,Qcw,Ba (rA a [] trivial) hy e, <-Qfe]
theorem fold_same:∀(l st:c7),iO (st++l)->l.foldl bP st=st++l
 | [],st,_=>by simp
 | c::l,st,h=>by
  have h':iO ((st++[c])++l):=by rw[RI];exact h
  have h2:=(iO.left h').init.2
  rw[Qcw]
  have:bP st c=st++[c]:=by unfold bP;rw[if_neg h2]
  rw[this,fold_same l (st++[c]) h',RI]
  rfl
theorem fz(h:iO l):red l=l:=by
 exact fold_same l [] h
theorem fold_lt:∀(l st:c7),(∀c∈l,Lt c)->(∀c∈st,Lt c)->∀c∈l.foldl bP st,Lt c
 | [],_,_,h=>h
 | a::l,st,h1,h2=>fold_lt l _ (λc hc=>h1 c (Qae _ hc)) λc hc=>(vh hc).elim (h2 c) λz=>z▸h1 a Qac
theorem w9(h:∀c∈l,Lt c):∀c∈red l,Lt c:=fold_lt l [] h λ_ h=>absurd h Qaj
theorem Ey(st:c7)(c:Nat):(bP st c:)<=(st:)+1:=by
 unfold bP
 by_cases e:st.getLast? =some (ay c)
 ·rw[if_pos e,Qf7];lia
 ·rw[if_neg e,T6];exact Qaa _
theorem rB:∀(l st:c7),(l.foldl bP st:)<=(st:)+(l:)
 | [],_=>Qaa _
 | c::l,st=>by
  have:=rB l (bP st c)
  have h2:=Ey st c
  rw[Qcw,Qba]
  lia
theorem kE(l:c7):(red l:)<=(l:):=by
 have:=rB l []
 rw[Qf0,Qcq]at this
 exact this
theorem Hm(h:l[i]? =some c):red (l.take (i+1))=bP (red (l.take i)) c:=by
 unfold red
 rw[<-take_snoc h,Qfe]
 rfl
theorem Hn:∀{l:c7},(∀k a b,l[k]? =some a->l[k+1]? =some b->a≠ay b)->iO l
 | [],_=>trivial
 | [_],_=>trivial
 | a::b::r,h=>⟨h 0 a b rfl rfl,Hn (l:=b::r) λk x y h1 h2=>h (k+1) x y (by simpa using h1) (by simpa using h2)⟩
noncomputable def Fu(l:c7)(s e:Nat):c7:=(l.drop s).take (e - s)
noncomputable def strip:Nat->c7->c7
 | 0,l=>l
 | n+1,l=>match l with
  | []=>[]
  | [a]=>[a]
  | a::b::r=>if a=ay ((b::r).getLast (by simp)) then strip n (b::r).dropLast else a::b::r
theorem fA:∀(n:Nat) {l:c7},(l:)<2->strip n l=l
 | 0,_,_=>rfl
 | _+1,[],_=>rfl
 | _+1,[_],_=>rfl
 | _+1,_::_::_,h=>by simp at h;lia
theorem mL(l:c7)(y:Nat):(l++[y]).getLast (by simp)=y:=by simp
theorem strip_go(n:Nat){y:Nat}{m:c7}(h:a=ay y):strip (n+1) (a::(m++[y]))=strip n m:=by
 cases m with
 | nil=>
  show (if a=ay (([y]:c7).getLast (by simp)) then strip n ([y]:c7).dropLast else _)=strip n []
  rw[if_pos (by simpa using h)]
  rfl
 | cons b r=>
  show (if a=ay ((b::(r++[y])).getLast (by simp)) then strip n (b::(r++[y])).dropLast else _)=strip n (b::r)
  have e1:(b::(r++[y])).getLast (by simp)=y:=mL (b::r) y
  have e2:(b::(r++[y])).dropLast=b::r:=by
   have:b::(r++[y])=(b::r)++[y]:=rfl
   rw[this,Qc0]
  rw[if_pos (by rw[e1];exact h),e2]
theorem strip_stop(n:Nat){y:Nat}{m:c7}(h:a≠ay y):strip n (a::(m++[y]))=a::(m++[y]):=by
 cases n with
 | zero=>rfl
 | succ n=>
  cases m with
  | nil=>
   show (if a=ay (([y]:c7).getLast (by simp)) then _ else _)=_
   rw[if_neg (by simpa using h)]
   rfl
  | cons b r=>
   show (if a=ay ((b::(r++[y])).getLast (by simp)) then _ else _)=_
   have e1:(b::(r++[y])).getLast (by simp)=y:=mL (b::r) y
   rw[if_neg (by rw[e1];exact h)]
   rfl
theorem zf(h:2<=(l:)):∃a m y,l=a::(m++[y]):=by
 cases l with
 | nil=>simp at h
 | cons a r=>
  rcases snoc_cases r with rfl | ⟨m,y,rfl⟩
  ·simp at h
  ·exact ⟨a,m,y,rfl⟩
theorem rC:∀(n:Nat) (l:c7) (k:Nat),(l:)<=n->strip (n+k) l=strip n l
 | 0,l,k,h=>by rw[fA _ (),fA _ ()]
 | n+1,l,k,h=>by
  by_cases h2:(l:)<2
  ·rw[fA _ h2,fA _ h2]
  ·obtain ⟨a,m,y,rfl⟩:=zf (l:=l) ()
   have hm:(m:)<=n:=by simp at h;lia
   by_cases e:a=ay y
   ·have:n+1+k=(n+k)+1:=by lia
    rw[this,strip_go _ e,strip_go _ e,rC n m k hm]
   ·rw[strip_stop _ e,strip_stop _ e]
noncomputable def core(l:c7):c7:=strip (l:) l
theorem mM{y:Nat}{m:c7}(h:a=ay y):core (a::(m++[y]))=core m:=by
 unfold core
 have:((a::(m++[y])):)=((m:)+1)+1:=by simp
 rw[this,strip_go _ h,rC _ _ _ (Qaa _)]
theorem eY{y:Nat}{m:c7}(h:a≠ay y):core (a::(m++[y]))=a::(m++[y]):=strip_stop _ h
theorem eZ(h:(l:)<2):core l=l:=fA _ h
theorem gj{P:c7->c7->Prop}(h1:∀l,(l:)<2->P l l)(h2:∀a m y,a≠ay y->P (a::(m++[y])) (a::(m++[y])))(h3:∀a m y r,a=ay y->P m r->P (a::(m++[y])) r):∀(n:Nat) (l:c7),(l:)<=n->P l (core l)
 | 0,l,h=>by rw[eZ ()];exact h1 l ()
 | n+1,l,h=>by
  by_cases hl:(l:)<2
  ·rw[eZ hl];exact h1 l hl
  ·obtain ⟨a,m,y,rfl⟩:=zf (l:=l) ()
   by_cases e:a=ay y
   ·rw[mM e]
    exact h3 a m y _ e (gj h1 h2 h3 n m (by simp at h;lia))
   ·rw[eY e];exact h2 a m y e
theorem vm(l:c7):core (core l)=core l:=
 gj (P:=λ_ r=>core r=r) (λl h=>eZ h) (λa m y h=>eY h) (λ_ _ _ _ _ h=>h) (l:) l (Qaa _)
theorem zg(h:iO l):iO (core l):=
 gj (P:=λl r=>iO l->iO r) (λ_ _ h=>h) (λ_ _ _ _ h=>h) (λa m y r _ k h=>k (by
  have h':iO (a::m++[y]):=h
  exact h'.init.1.tail)) (l:) l (Qaa _) h
theorem mN:c∈core l->c∈l:=
 gj (P:=λl r=>c∈r->c∈l) (λ_ _ h=>h) (λ_ _ _ _ h=>h) (λa m y r _ k h=>Qae _ (Qca _ (k h))) (l:) l (Qaa _)
theorem mO(l:c7):(core l:)<=(l:):=
 gj (P:=λl r=>(r:)<=(l:)) (λ_ _=>Qaa _) (λ_ _ _ _=>Qaa _) (λa m y r _ k=>by simp;lia) (l:) l (Qaa _)
variable{s e:Nat}
theorem PM(h1:s+2<=e)(h2:e<=(l:)):Fu l s e=l[s]::(Fu l (s+1) (e - 1)++[l[e - 1]]):=by
 unfold Fu
 rw[Qbz ()]
 have e1:e - s=(e - 1 - (s+1))+1+1:=by lia
 rw[e1,List.take_succ_cons,Qfb,Qbk]
 have e2:s+1+(e - 1 - (s+1))=e - 1:=by lia
 rw[e2,OD ()]
 rfl
theorem Lp(h2:e<=(l:)):(Fu l s e:)=e - s:=by unfold Fu;rw[Qad,Qat];lia
theorem Lq(l:c7):Fu l 0 (l:)=l:=by unfold Fu;simp
def mP(_:c8):Sp:=λvs H Q _=>∃l:c7,vs=[.str (S l)]/\(∀c∈l,Lt c)/\(l:)<=1000/\∀H',az H H'->Q (.str (S (red l))) H'
theorem uc(h:mP K vs H Q E):(vs:)=1:=by obtain ⟨c,rfl,_⟩:=h;rfl
def o4(_:c8):Sp:=λvs H Q _=>∃l:c7,vs=[.str (S l)]/\(∀c∈l,Lt c)/\(l:)<=1000/\∀H',az H H'->Q (.str (S (core (red l)))) H'
theorem w_(h:o4 K vs H Q E):(vs:)=1:=by obtain ⟨c,rfl,_⟩:=h;rfl
theorem jG{α:Type}(l:List α)(k:Nat):cut l none (some (k:Int))=l.take k:=by
 unfold cut
 rw[HT.yt,HT.gE,Qcv,Qdi]
 by_cases h:k<=(l:)
 ·rw[Qbs h]
 ·rw[Qcr (),Qai (Qaa _),Qai ()]
theorem rD{α:Type}(l:List α)(k:Nat):cut l (some (k:Int)) none=l.drop k:=by
 unfold cut
 rw[HT.yt,HT.gE]
 by_cases h:k<=(l:)
 ·rw[Qbs h,Qai (by rw[Qat];exact Qaa _)]
 ·rw[Qcr (),Qbi (Qaa _),Qbi ()]
  simp
noncomputable def CA(ws:List c7):List PyData:=ws.map λl=>PyData.str (S l)
theorem gk{K:c8}{H:Hp}:∀ws:List c7,qV K H (dD ws) (CA ws)
 | []=> .nil
 | w::ws=> .cons (.str _) (gk ws)
theorem PN(h:∀c∈l,c<128):PyData.strOk (S l)=true:=by
 unfold PyData.strOk
 rw[Array.all_eq_true_iff_forall_mem]
 intro c hc
 have:c∈l:=by simpa [S]using hc
 have:=h c this
 simp;lia
theorem CB:∀{ws:List c7},(∀l∈ws,∀c∈l,c<128)->PyData.canLayAll0 (CA ws)=true
 | [],_=>rfl
 | w::ws,h=>by
  show (PyData.strOk (S w)&&PyData.canLayAll0 (CA ws))=true
  rw[PN (h w Qac),CB λl hl=>h l (Qae _ hl)]
  rfl
theorem vn:∀ws:List c7,PyData.depthAll (CA ws)=0
 | []=>rfl
 | k::ks=>by show max (PyData.depth (.str _)) (PyData.depthAll (CA ks))=0;rw[vn ks];rfl
mutual
theorem eqv_refl:∀d:PyData,d.hasDict=false->PyData.eqv d d=true
 | .none,_=>rfl
 | .bool b,_=>by simp[PyData.eqv]
 | .int i,_=>by simp[PyData.eqv]
 | .str x,_=>by simp[PyData.eqv]
 | .list xs,h=>by show PyData.eqvAll xs xs=true;exact eqvAll_refl xs (by simpa [PyData.hasDict]using h)
 | .tuple xs,h=>by show PyData.eqvAll xs xs=true;exact eqvAll_refl xs (by simpa [PyData.hasDict]using h)
 | .dict aI,h=>by simp[PyData.hasDict]at h
theorem eqvAll_refl:∀ds:List PyData,PyData.hasDictAll ds=false->PyData.eqvAll ds ds=true
 | [],_=>rfl
 | d::ds,h=>by
  simp[PyData.hasDictAll]at h
  show (PyData.eqv d d&&PyData.eqvAll ds ds)=true
  rw[eqv_refl d h.1,eqvAll_refl ds h.2]
  rfl
end
noncomputable def bR(c:c7)(k:Nat):c7:=c.drop k++c.take k
noncomputable def jo(c:c7)(n:Nat):List c7:=(List.range n).map λk=>bR c (k+1)
noncomputable def bV(c:c7):c7:=cn c (jo c ((c:) - 1))
@[irreducible] noncomputable def aP (w:c7):c7:=bV (core (red w))
theorem jH(w:c7):aP w=bV (core (red w)):=by unfold aP;rfl
theorem vp(c:c7)(n:Nat):jo c (n+1)=jo c n++[bR c (n+1)]:=by unfold jo;rw[Qco,Qaq];rfl
theorem iP:∀(r:List c7) (a b:c7),cn a (r++[b])=a_ (cn a r) b
 | [],_,_=>rfl
 | _::r,_,_=>iP r _ _
theorem bK(c:c7)(k:Nat):(bR c k:)=(c:):=by unfold bR;rw[T6,Qat,Qad];lia
theorem iQ:∀(r:List c7) (a:c7),cn a r=a\/cn a r∈r
 | [],a=> .inl rfl
 | b::r,a=>by
  rcases iQ r (a_ a b) with h | h
  ·have hl:a_ a b=a\/a_ a b=b:=by unfold a_;split<;>simp
   rcases hl with e | e
   ·left;show cn (a_ a b) r=a;rw[h,e]
   ·right;show cn (a_ a b) r∈b::r;rw[h,e];exact Qac
  ·right;exact Qae _ h
theorem kF(c:c7):∃k,bV c=bR c k:=by
 rcases iQ (jo c ((c:) - 1)) c with h | h
 ·exact ⟨0,by show cn _ _=_;rw[h];unfold bR;simp⟩
 ·unfold jo at h
  obtain ⟨k,_,e⟩:=Qay.mp h
  exact ⟨k+1,e.symm⟩
theorem CC{w:c7}(h:∀c∈w,Lt c):∀c∈core (red w),Lt c:=λc hc=>w9 h c (mN hc)
theorem nZ(w:c7):(aP w:)<=(w:):=by
 obtain ⟨k,e⟩:=kF (core (red w))
 unfold aP
 rw[e,bK]
 exact Qa7 (mO _) (kE w)
def CD(_:c8):Sp:=λvs H Q _=>∃l:c7,vs=[.str (S l)]/\(∀c∈l,Lt c)/\(l:)<=1000/\∀H',az H H'->Q (.str (S (aP l))) H'
theorem Ho(h:CD K vs H Q E):(vs:)=1:=by obtain ⟨c,rfl,_⟩:=h;rfl
def CF(_:c8):Sp:=λvs H Q _=>∃l:c7,vs=[.str (S l)]/\(∀c∈l,Lt c)/\(l:)<=1000/\∀H',az H H'->Q (.str (S (a_ (aP l) (aP (bC l))))) H'
theorem Hq(h:CF K vs H Q E):(vs:)=1:=by obtain ⟨c,rfl,_⟩:=h;rfl
def AllLt(l:c7):Prop:=∀c∈l,Lt c
theorem AllLt.app{a b:c7}(h:AllLt a)(g:AllLt b):AllLt (a++b):=λc hc=>(Qap.mp hc).elim (h c) (g c)
theorem AllLt.left{a b:c7}(h:AllLt (a++b)):AllLt a:=λc hc=>h c (Qca _ hc)
theorem AllLt.right{a b:c7}(h:AllLt (a++b)):AllLt b:=λc hc=>h c (Qam _ hc)
theorem rE:∀(t st x y:c7),AllLt t->red (x++(st++t)++y)=red (x++t.foldl bP st++y)
 | [],st,x,y,_=>by rw[Qa4];rfl
 | c::t,st,x,y,h=>by
  have hc:Lt c:=h c Qac
  have ht:AllLt t:=λd hd=>h d (Qae _ hd)
  rw[Qcw, <-rE t (bP st c) x y ht]
  unfold bP
  by_cases e:st.getLast? =some (ay c)
  ·rw[if_pos e]
   obtain ⟨m,rfl⟩:=kD e
   rw[Qc0]
   have:=ik (a:=x++m) (b:=t++y) hc rfl
   simpa [RI]using this
  ·rw[if_neg e]
   simp[RI]
theorem CG{t:c7}(x y:c7)(h:AllLt t):red (x++t++y)=red (x++red t++y):=by
 have:red (x++([]++t)++y)=red (x++red t++y):=rE t [] x y h
 simpa using this
theorem Hr{t:c7}(y:c7)(h:AllLt t):red (t++y)=red (red t++y):=by simpa using CG [] y h
theorem Ez{t:c7}(x:c7)(h:AllLt t):red (x++t)=red (x++red t):=by simpa using CG x [] h
theorem rF(c:Nat)(l:c7):bC (c::l)=bC l++[ay c]:=by unfold bC;rw[Qa3,Qgl]
theorem rG:∀(t st x y:c7),AllLt t->red (x++bC (st++t)++y)=red (x++bC (t.foldl bP st)++y)
 | [],st,x,y,_=>by rw[Qa4];rfl
 | c::t,st,x,y,h=>by
  have hc:Lt c:=h c Qac
  have ht:AllLt t:=λd hd=>h d (Qae _ hd)
  rw[Qcw, <-rG t (bP st c) x y ht]
  unfold bP
  by_cases e:st.getLast? =some (ay c)
  ·rw[if_pos e]
   obtain ⟨m,rfl⟩:=kD e
   rw[Qc0]
   have:=ik (a:=x++bC t) (b:=bC m++y) hc.ay.ay (x:=ay c) (by rw[aF hc])
   simpa [kC,rF,RI,bC]using this
  ·rw[if_neg e]
   simp[kC,RI]
theorem Lr{t:c7}(h:AllLt t):red (bC t)=red (bC (red t)):=by
 have:red ([]++bC ([]++t)++[])=red ([]++bC (red t)++[]):=rG t [] [] [] h
 simpa using this
theorem zh:∀(v x y:c7),AllLt v->red (x++(bC v++v)++y)=red (x++y)
 | [],x,y,_=>by simp[bC]
 | c::v,x,y,h=>by
  have hc:Lt c:=h c Qac
  have hv:AllLt v:=λd hd=>h d (Qae _ hd)
  rw[rF]
  have:=ik (a:=x++bC v) (b:=v++y) hc (x:=ay c) rfl
  have e:x++(bC v++[ay c]++c::v)++y=(x++bC v)++ay c::c::(v++y):=by simp[RI]
  rw[e,this]
  have:=zh v x y hv
  rw[<-this]
  simp[RI]
theorem rH(a b:c7): ¬a<a_ a b:=by
 unfold a_
 split
 ·rename_i h;exact λg=>Qcu a (Qfh g h)
 ·exact Qcu a
theorem pJ(a b:c7): ¬b<a_ a b:=by
 unfold a_
 split
 ·exact Qcu b
 ·rename_i h;exact h
theorem Nm{a b c:c7}(h: ¬b<a)(g: ¬c<b): ¬c<a:=Qeq (show a<=b from h) (show b<=c from g)
theorem CH{a b:c7}(h: ¬b<a)(g: ¬a<b):a=b:=Qgu (show a<=b from h) (show b<=a from g)
theorem iR:∀(r:List c7) (a:c7),∀x∈a::r, ¬x<cn a r
 | [],a,x,hx=>by rw[Wi.mp hx];exact Qcu a
 | b::r,a,x,hx=>by
  show ¬x<cn (a_ a b) r
  have h0:=iR r (a_ a b) (a_ a b) Qac
  rcases Qaf.mp hx with e | hx
  ·rw[e];exact Nm h0 (rH a b)
  ·rcases Qaf.mp hx with e | hx
   ·rw[e];exact Nm h0 (pJ a b)
   ·exact iR r (a_ a b) x (Qae _ hx)
theorem mQ(c:c7):bR c 0=c:=by unfold bR;simp
theorem Ls(c:c7):bR c (c:)=c:=by unfold bR;simp
theorem mR(c:c7)(k:Nat)(hk:k<=(c:)): ¬bR c k<bV c:=by
 have h:=iR (jo c ((c:) - 1)) c
 by_cases z:k=0
 ·rw[z,mQ];exact h c Qac
 ·by_cases z2:k=(c:)
  ·rw[z2,Ls];exact h c Qac
  ·refine h _ (Qae _ ?_)
   unfold jo
   exact Qay.mpr ⟨k - 1,Qbr.mpr (),by rw[show k - 1+1=k by lia]⟩
theorem iS(c:c7):∃k,k<=(c:)/\bV c=bR c k:=by
 rcases iQ (jo c ((c:) - 1)) c with h | h
 ·exact ⟨0,Qau _,by show cn _ _=_;rw[h,mQ]⟩
 ·unfold jo at h
  obtain ⟨k,hk,e⟩:=Qay.mp h
  have:=Qbr.mp hk
  exact ⟨k+1,(),e.symm⟩
theorem Hs{c m:c7}(h1:∃k,k<=(c:)/\m=bR c k)(h2:∀k,k<=(c:)-> ¬bR c k<m):bV c=m:=by
 obtain ⟨k,hk,e⟩:=h1
 obtain ⟨j,hj,e2⟩:=iS c
 refine CH ?_ ?_
 ·rw[e];exact mR c k hk
 ·rw[e2];exact h2 j hj
theorem CI(a b:c7):bR (a++b) (a:)=b++a:=by unfold bR;rw[Qe5,List.take_left]
variable{j:Nat}
theorem CJ{c:c7}{k:Nat}(hk:k<=(c:))(hj:j<=(c:)):∃i,i<=(c:)/\bR (bR c k) j=bR c i:=by
 by_cases z:j<=(c:) - k
 ·refine ⟨k+j,(),?_⟩
  unfold bR
  rw[Qdv (by rw[Qat];lia),Qbf (by rw[Qat];lia),Qe6,RI, <-List.take_add]
 ·refine ⟨j - ((c:) - k),(),?_⟩
  unfold bR
  have e1:(c.drop k:)=(c:) - k:=Qat
  rw[Qfm,Qgt,e1,Qbi (by rw[e1];lia),Qai (l:=c.drop k) (by rw[e1];lia),Qdg,List.drop_take,List.take_take]
  have e2:min (j - ((c:) - k)) k=j - ((c:) - k):=by lia
  rw[e2]
  have e3:c.drop (j - ((c:) - k))=(c.drop (j - ((c:) - k))).take (k - (j - ((c:) - k)))++c.drop k:=by
   have:=Qag (k - (j - ((c:) - k))) (c.drop (j - ((c:) - k)))
   rw[Qe6]at this
   have e:j - ((c:) - k)+(k - (j - ((c:) - k)))=k:=by lia
   rw[e]at this
   exact this.symm
  rw[e3,RI]
  congr 2
  exact e3.symm
theorem Bb{c:c7}{k:Nat}(hk:k<=(c:)):bV (bR c k)=bV c:=by
 refine (Hs (c:=c) ?_ λj hj=>?_).symm
 ·obtain ⟨j,hj,e⟩:=iS (bR c k)
  rw[bK]at hj
  rw[e]
  exact CJ hk hj
 ·have hb:c=bR (bR c k) ((c:) - k):=by
   have e:bR c k=c.drop k++c.take k:=rfl
   have:=CI (c.drop k) (c.take k)
   rw[Qat, <-e]at this
   rw[this,Qag]
  obtain ⟨i,hi,e⟩:=CJ (c:=bR c k) (k:=(c:) - k) (j:=j) (by rw[bK];lia) (by rw[bK];exact hj)
  rw[<-hb]at e
  rw[e]
  exact mR _ i hi
theorem rJ(a b:c7):bV (a++b)=bV (b++a):=by
 rw[<-CI a b]
 exact (Bb (by rw[T6];lia)).symm
theorem Bc(ha:Lt a)(hb:Lt b)(h:a≠ay b):b≠ay a:=λz=>h (by rw[z,aF ha])
theorem vq(h:∀a m y,l=a::(m++[y])->a≠ay y):core l=l:=by
 by_cases z:(l:)<2
 ·exact eZ z
 ·obtain ⟨a,m,y,rfl⟩:=zf (l:=l) ()
  exact eY (h a m y rfl)
theorem Ht{r:c7}(h:iO (d::r))(hc:c≠ay d):iO (c::d::r):=⟨hc,h⟩
theorem PQ{t:c7}(hc:Lt c)(ht:AllLt t):bV (core (red (c::t)))=bV (core (red (t++[c]))):=by
 have e1:red (c::t)=red (c::red t):=Ez [c] ht
 have e2:red (t++[c])=red (red t++[c]):=Hr [c] ht
 rw[e1,e2]
 have hr:iO (red t):=w6 t
 have PR:AllLt (red t):=w9 ht
 generalize red t=r at hr PR
 cases r with
 | nil=>rfl
 | cons d s=>
  have hd:Lt d:=PR d Qac
  have Ve:AllLt s:=λx hx=>PR x (Qae _ hx)
  obtain ⟨m,e,J4⟩:∃m e,d::s=m++[e]:=by
   rcases snoc_cases (d::s) with z | ⟨m,e,z⟩
   ·cases z
   ·exact ⟨m,e,z⟩
  have hel:Lt e:=PR e (by rw[J4];simp)
  have last:(d::s).getLast? =some e:=by rw[J4];simp
  by_cases kT:c=ay d
  ·have f1:red (c::d::s)=s:=by
    have:=ik (a:=[]) (b:=s) hd kT
    rw[Qdg,Qdg]at this
    rw[this,fz hr.tail]
   rw[f1]
   by_cases Nn:e=ay c
   ·have f2:red (d::s++[c])=m:=by
     rw[J4,RI]
     have:=ik (a:=m) (b:=[]) hc Nn
     rw[Qa4]at this
     show red (m++e::c::[])=m
     rw[this,fz]
     rw[J4]at hr
     exact hr.init.1
    rw[f2]
    have hed:e=d:=by rw[Nn,kT,aF hd]
    subst hed
    cases m with
    | nil=>
     have:s=[]:=by cases J4;rfl
     rw[this]
    | cons x m'=>
     have hx:x=e/\s=m'++[e]:=by
      have:=J4
      rw[Qda]at this
      injection this with h1 h2
      exact ⟨h1.symm,h2⟩
     obtain ⟨rfl,rfl⟩:=hx
     have k1:core (m'++[x])=m'++[x]:=vq λa mm y z=>by
      cases m' with
      | nil=>simp at z
      | cons a' m''=>
       rw[Qda]at z
       injection z with z1 z2
       have z3:y=x:=by
        have:=congrArg List.getLast? z2
        simpa using this.symm
       rw[<-z1,z3]
       exact Bc hd (Ve a' (by simp)) hr.1
     have k2:core (x::m')=x::m':=vq λa mm y z=>by
      injection z with z1 z2
      rw[<-z1]
      subst z2
      have:=hr.tail
      rw[RI]at this
      have h4:iO ((mm++[y])++[x]):=by rw[RI];exact this
      have h5:=h4.init.2
      intro z
      exact h5 (by rw[z,List.getLast?_concat,aF (Ve y (by simp))])
     rw[k1,k2]
     exact rJ m' [x]
   ·have f2:red (d::s++[c])=d::s++[c]:=fz (hr.snoc (by rw[last];intro z;exact Nn (by injection z)))
    rw[f2]
    have:core (d::(s++[c]))=core s:=mM (by rw[kT,aF hd])
    rw[Qda,this]
  ·have f1:red (c::d::s)=c::d::s:=fz (Ht hr kT)
   rw[f1]
   by_cases Nn:e=ay c
   ·have f2:red (d::s++[c])=m:=by
     rw[J4,RI]
     have:=ik (a:=m) (b:=[]) hc Nn
     rw[Qa4]at this
     show red (m++e::c::[])=m
     rw[this,fz]
     rw[J4]at hr
     exact hr.init.1
    rw[f2,J4,mM (by rw[Nn,aF hc])]
   ·have f2:red (d::s++[c])=d::s++[c]:=fz (hr.snoc (by rw[last];intro z;exact Nn (by injection z)))
    rw[f2]
    have k1:core (c::d::s)=c::d::s:=by
     rw[J4]
     exact eY (Bc hel hc Nn)
    have k2:core (d::s++[c])=d::s++[c]:=by
     rw[Qda]
     exact eY (Bc hc hd kT)
    rw[k1,k2]
    exact rJ [c] (d::s)
theorem kG:∀{u v:c7},AllLt u->AllLt v->aP (u++v)=aP (v++u)
 | [],v,_,_=>by rw[Qa4];rfl
 | c::u,v,hu,hv=>by
  have hc:Lt c:=hu c Qac
  have hu':AllLt u:=λx hx=>hu x (Qae _ hx)
  have e1:aP (c::u++v)=aP (u++v++[c]):=by
   rw[jH,jH]
   exact PQ hc (hu'.app hv)
  have e2:=kG (u:=u) (v:=v++[c]) hu' (hv.app λx hx=>by rw[Wi.mp hx];exact hc)
  rw[e1,RI,e2,RI]
  rfl
theorem Bd{r:c7}:AllLt r->∃p,AllLt p/\r=p++core r++bC p:=
 gj (P:=λl c=>AllLt l->∃p,AllLt p/\l=p++c++bC p) (λl _ _=>⟨[],λ_ h=>absurd h Qaj,by simp[bC]⟩) (λa m y _ _=>⟨[],λ_ h=>absurd h Qaj,by simp[bC]⟩)
  (λa m y c e ih h=>by
   have ha:Lt a:=h a Qac
   have hy:Lt y:=h y (by simp)
   obtain ⟨p,hp,e2⟩:=ih λx hx=>h x (by simp[hx])
   refine ⟨a::p,λx hx=>?_,?_⟩
   ·rcases Qaf.mp hx with z | z
    ·rw[z];exact ha
    ·exact hp x z
   ·have e3:ay a=y:=by rw[e,aF hy]
    rw[rF,e3]
    have:m++[y]=p++c++bC p++[y]:=by rw[<-e2]
    rw[this]
    simp[RI]) (r:) r (Qaa _)
variable{u v:c7}
theorem EA(hu:AllLt u)(hv:AllLt v):aP (v++u++bC v)=aP u:=by
 rw[RI,kG hv (hu.app (jF hv))]
 have:=zh v u [] hv
 unfold aP
 rw[Qa4,Qa4, <-RI]at this
 rw[this]
theorem EB{w:c7}(h:AllLt w):aP (core (red w))=aP w:=by
 have h1:=zg (w6 w)
 unfold aP
 rw[fz h1,vm]
theorem zi{w:c7}{k:Nat}(h:AllLt w):aP (bR w k)=aP w:=by
 unfold bR
 have h1:AllLt (w.take k++w.drop k):=by rw[Qag];exact h
 rw[kG h1.right h1.left,Qag]
theorem vv{w:c7}(h:AllLt w):aP (aP w)=aP w:=by
 obtain ⟨k,_,e⟩:=iS (core (red w))
 have:aP w=bR (core (red w)) k:=(jH w).trans e
 rw[this,zi (CC h),EB h,this]
theorem Lu(c:c7)(k:Nat):bC (bR c k)=bC (c.take k)++bC (c.drop k):=by unfold bR;rw[kC]
theorem mS{w:c7}(h:AllLt w):aP (bC (aP w))=aP (bC w):=by
 obtain ⟨k,_,e⟩:=iS (core (red w))
 have e0:aP w=bR (core (red w)) k:=(jH w).trans e
 have hc:AllLt (core (red w)):=CC h
 have e1:aP (bC (aP w))=aP (bC (core (red w))):=by
  have h1:AllLt ((core (red w)).take k++(core (red w)).drop k):=by rw[Qag];exact hc
  rw[e0,Lu,kG (jF h1.left) (jF h1.right), <-kC,Qag]
 have e2:aP (bC w)=aP (bC (red w)):=by unfold aP;rw[Lr h]
 obtain ⟨p,hp,es⟩:=Bd (r:=red w) (w9 h)
 rw[e1,e2]
 have e3:bC (red w)=p++bC (core (red w))++bC p:=by
  have:=congrArg bC es
  rw[kC,kC,qg hp, <-RI]at this
  exact this
 rw[e3,EA (jF hc) hp]
theorem zj(a b:c7):a_ a b=a_ b a:=by
 unfold a_
 by_cases h:b<a
 ·rw[if_pos h,if_neg λg=>Qcu a (Qfh g h)]
 ·rw[if_neg h]
  by_cases g:a<b
  ·rw[if_pos g]
  ·rw[if_neg g];exact CH h g
noncomputable def aG(w:c7):c7:=a_ (aP w) (aP (bC w))
theorem zk{w:c7}(h:AllLt w):aG (bC w)=aG w:=by unfold aG;rw[qg h,zj]
theorem EC{w:c7}(h:AllLt w):aG (aG w)=aG w:=by
 have hl:aG w=aP w\/aG w=aP (bC w):=by unfold aG a_;split<;>simp
 rcases hl with e | e
 ·rw[e]
  unfold aG at e ⊢
  rw[vv h,mS h,e]
 ·have e2:aG (aP (bC w))=aG (bC w):=by unfold aG;rw[vv (jF h),mS (jF h)]
  rw[e,e2,zk h,e]
theorem mT(u:c7):∀(m i:Nat),i<m*(u:)->(dZ m u)[i]? =u[i%(u:)]?
 | 0,i,h=>by simp at h
 | m+1,i,h=>by
  rw[eX,List.getElem?_append]
  by_cases z:i<(u:)
  ·rw[if_pos z,Qdr z]
  ·rw[if_neg z,mT u m (i - (u:)) (by rw[Qey]at h;lia), <-Nat.mod_eq_sub_mod ()]
def fM(w:c7)(s:Nat):Prop:=dZ ((w:) / s) (w.take s)=w
def il(w:c7)(k:Nat):Prop:=bR w k=w
noncomputable instance (w:c7)(s:Nat):Decidable (fM w s):=by unfold fM;infer_instance
noncomputable instance (w:c7)(s:Nat):Decidable (il w s):=by unfold il;infer_instance
def bN(w:c7)(s:Nat):Prop:=(w=[]/\s=0)\/(1<=s/\s<=(w:)/\fM w s/\∀j,1<=j->j<s-> ¬fM w j)
def lV(w:c7)(s:Nat):Prop:=(w=[]/\s=0)\/(1<=s/\s<=(w:)/\il w s/\∀j,1<=j->j<s-> ¬il w j)
theorem qh{w:c7}(h1:1<=s)(h2:s<=(w:))(h:fM w s):il w s:=by
 unfold fM at h
 have hm:1<=(w:) / s:=Nat.div_pos h2 h1
 obtain ⟨m,e⟩:∃m,(w:) / s=m+1:=⟨(w:) / s - 1,()⟩
 rw[e]at h
 have hu:(w.take s:)=s:=by rw[Qad];lia
 generalize w.take s=u at h hu
 unfold il bR
 rw[<-h,eX,List.drop_left' hu,List.take_left' hu, <-AR,eX]
noncomputable def Fw(w:c7)(i:Nat):Option Nat:=w[i%(w:)]?
theorem qj{w:c7}{k:Nat}(hk:k<=(w:))(hi:i<(w:)):(bR w k)[i]? =Fw w (i+k):=by
 unfold bR Fw
 rw[List.getElem?_append,Qat]
 by_cases z:i<(w:) - k
 ·rw[if_pos z,Qbk,Qdr (),Nat.add_comm]
 ·rw[if_neg z,Qe4,if_pos (),Nat.mod_eq_sub_mod (),Qdr ()]
  congr 1
  lia
def Af(w:c7)(k:Nat):Prop:=∀i,Fw w (i+k)=Fw w i
theorem Hu(w:c7)(i k:Nat):Fw w (i%(w:)+k)=Fw w (i+k):=by unfold Fw;rw[Nat.mod_add_mod]
theorem gI{w:c7}{k:Nat}(hn:w≠[])(hk:k<=(w:)):il w k↔Af w k:=by
 have hl:0<(w:):=Qab.mpr hn
 constructor
 ·intro h i
  have hi:=Qd4 i hl
  rw[<-Hu, <-qj hk hi,h]
  rfl
 ·intro h
  refine Qd3 λi=>?_
  by_cases hi:i<(w:)
  ·rw[qj hk hi,h i]
   unfold Fw
   rw[Qdr hi]
  ·have hr:(bR w k:)=(w:):=bK w k
   rw[Qde (),Qde ()]
theorem Af.mul{w:c7}{k:Nat}(h:Af w k):∀j i,Fw w (i+k*j)=Fw w i
 | 0,i=>rfl
 | j+1,i=>by rw[Nat.mul_succ, <-Qeb,h,Af.mul h j]
theorem Af.whole(w:c7):Af w (w:):=λi=>by unfold Fw;rw[Nat.add_mod_right]
theorem Af.rest{w:c7}{k:Nat}(h:Af w k):Af w ((w:)%k):=λi=>by
 rw[<-h.mul ((w:) / k) (i+(w:)%k),Qeb,Qfy]
 exact Af.whole w i
theorem vw{w:c7}{k:Nat}(hn:w≠[])(h1:1<=k)(h2:k<=(w:))(h:il w k)(hl:∀j,1<=j->j<k-> ¬il w j):fM w k:=by
 have hp:=(gI hn h2).mp h
 have hr:(w:)%k=0:=by
  by_cases z:(w:)%k=0
  ·exact z
  ·have cU:=Qd4 (w:) (show k>0 by lia)
   exact absurd ((gI hn ()).mpr hp.rest) (hl _ () cU)
 have hm:(w:) / k*k=(w:):=by
  have:=Qfy (w:) k
  rw[hr,Qcq,Qc8]at this
  exact this
 have hu:(w.take k:)=k:=by rw[Qad];lia
 unfold fM
 refine Qd3 λi=>?_
 by_cases hi:i<(w:)
 ·rw[mT _ _ _ (by rw[hu,hm];exact hi),hu,Qe4]
  have hik:=Qd4 i (show k>0 by lia)
  rw[if_pos hik]
  have e:=hp.mul (i / k) (i%k)
  rw[Qfy]at e
  unfold Fw at e
  rw[Qdr hi,Qdr ()]at e
  exact e.symm
 ·rw[Qde (by rw[yH,hu,hm];lia),Qde ()]
theorem kH{w:c7}{k:Nat}(h:bN w s)(g:lV w k):s=k:=by
 rcases h with ⟨e,e2⟩ | ⟨h1,h2,h3,h4⟩
 ·rcases g with ⟨_,g2⟩ | ⟨g1,g2,_,_⟩
  ·rw[e2,g2]
  ·rw[e]at g2;simp at g2;lia
 ·rcases g with ⟨e,_⟩ | ⟨g1,g2,g3,g4⟩
  ·rw[e]at h2;simp at h2;lia
  ·have hn:w≠[]:=λz=>by rw[z]at h2;simp at h2;lia
   by_cases z:s<k
   ·exact absurd (qh h1 h2 h3) (g4 s h1 z)
   ·by_cases z2:k<s
    ·exact absurd (vw hn g1 g2 g3 g4) (h4 k g1 z2)
    ·lia
theorem ED(w:c7)(h:w≠[]):fM w (w:):=by
 have hl:0<(w:):=Qab.mpr h
 unfold fM
 rw[Nat.div_self hl,Qai (Qaa _)]
 show dZ (0+1) w=w
 rw[eX]
 simp[dZ]
theorem EE(w:c7):il w (w:):=by
 unfold il bR
 rw[Qbi (Qaa _),Qai (Qaa _)]
 rfl
noncomputable def Lv(c:c7)(n:Nat):c7:=((List.range n).map (· +1)).filter λk=>decide (il c k)
variable{n:Nat}
theorem xa{c:c7}{k:Nat}:k∈Lv c n↔(1<=k/\k<=n)/\il c k:=by
 unfold Lv
 rw[Qbq,Qay]
 constructor
 ·rintro ⟨⟨j,hj,rfl⟩,h⟩
  have:=Qbr.mp hj
  exact ⟨(),of_decide_eq_true h⟩
 ·rintro ⟨h1,h2⟩
  exact ⟨⟨k - 1,Qbr.mpr (),()⟩,decide_eq_true h2⟩
theorem Be(c:c7)(n:Nat):(Lv c n).Pairwise (· < ·):=by
 unfold Lv
 refine List.Pairwise.filter _ ?_
 rw[Qb8]
 exact (List.pairwise_lt_range (n:=n)).imp λh=>Qgs h
theorem rK{c:c7}(h:c≠[]):∃k r,Lv c (c:)=k::r/\lV c k:=by
 have hl:0<(c:):=Qab.mpr h
 have hm:(c:)∈Lv c (c:):=xa.mpr ⟨(),EE c⟩
 rcases e:Lv c (c:) with _ | ⟨k,r⟩
 ·rw[e]at hm;exact absurd hm Qaj
 ·refine ⟨k,r,rfl,.inr ?_⟩
  have hk:k∈Lv c (c:):=by rw[e];exact Qac
  obtain ⟨⟨h1,h2⟩,h3⟩:=xa.mp hk
  refine ⟨h1,h2,h3,λj j1 j2 z=>?_⟩
  have hj:j∈Lv c (c:):=xa.mpr ⟨(),z⟩
  have hs:=Be c (c:)
  rw[e]at hj hs
  rcases Qaf.mp hj with w | w
  ·lia
  ·have:=Qe9 hs w
   lia
noncomputable def Np(w:c7)(s:Nat):List V:=[.str (S (w.take s)),.int (((w:) / s:Nat):Int)]
def CK(_:c8):Sp:=λvs H Q _=>∃l:c7,vs=[.str (S l)]/\(∀c∈l,Lt c)/\(l:)<=1000/\∀p s H',H p=none->H' p=some (.tup (Np (aP l) s))->bN (aP l) s->az H H'->Q (.ref p) H'
theorem Hv(h:CK K vs H Q E):(vs:)=1:=by obtain ⟨c,rfl,_⟩:=h;rfl
theorem bp:∀c∈aR,aC c=true/\PyProof.Rows.lo1 c=c/\ay c∈lU:=⋯
theorem bY:∀c∈lU,aC c=false/\PyProof.Rows.lo1 c=ay c/\c∉aR/\ay c∈aR:=⋯
theorem vx:∀c∈lU,c∉aR:=⋯
theorem kI(h:Lt c):aC c=decide (c∈aR):=by
 rcases h with h | h
 ·rw[(bp c h).1,decide_eq_true h]
 ·rw[(bY c h).1,decide_eq_false (bY c h).2.2.1]
noncomputable def gr(y:c7)(a b c:Nat):Bool:=decide ((((y.idxOf b:Nat):Int) - ((y.idxOf a:Nat):Int))%((y:):Int)<(((y.idxOf c:Nat):Int) - ((y.idxOf a:Nat):Int))%((y:):Int))
def kJ(i j k:Nat):Prop:=(i<j/\j<k)\/(j<k/\k<i)\/(k<i/\i<j)
noncomputable instance (i j k:Nat):Decidable (kJ i j k):=by unfold kJ;infer_instance
theorem jI(hi:i<n)(hj:j<n):((j:Int) - (i:Int))%(n:Int)=if i<=j then (j:Int) - i else (j:Int) - i+n:=by
 split
 ·exact Qbg () ()
 ·rw[<-Qdc]
  exact Qbg () ()
variable{y:c7}
theorem fH(hn:y.Nodup)(ha:a∈y)(hb:b∈y)(hc:c∈y)(Ag:a≠b)(Nq:a≠c)(Nr:b≠c):gr y a b c=decide (kJ (y.idxOf a) (y.idxOf b) (y.idxOf c)):=by
 have ia:=Qak ha
 have ib:=Qak hb
 have ic:=Qak hc
 have inj:∀{u v:Nat},u∈y->v∈y->u≠v->y.idxOf u≠y.idxOf v:=λ{u v} hu hv h z=>h (by
  have e1:=Qcx (Qak hu)
  have e2:=Qcx (Qak hv)
  rw[<-e1, <-e2]
  congr 1)
 have n1:=inj ha hb Ag
 have n2:=inj ha hc Nq
 have n3:=inj hb hc Nr
 unfold gr
 rw[jI ia ib,jI ia ic]
 generalize y.idxOf a=i at*
 generalize y.idxOf b=j at*
 generalize y.idxOf c=k at*
 refine decide_eq_decide.mpr ?_
 unfold kJ
 split<;>split<;>lia
theorem Hw{k:Nat}:kJ j k i↔kJ i j k:=by unfold kJ;lia
theorem Lw{k:Nat}(h1:i≠j)(h2:i≠k)(h3:j≠k):kJ i k j↔ ¬kJ i j k:=by unfold kJ;lia
theorem Ly(hn:y.Nodup)(ha:a∈y)(hb:b∈y)(hc:c∈y)(Ag:a≠b)(Nq:a≠c)(Nr:b≠c):gr y b c a=gr y a b c:=by
 rw[fH hn ha hb hc Ag Nq Nr,fH hn hb hc ha Nr (Ne.symm Ag) (Ne.symm Nq)]
 exact decide_eq_decide.mpr Hw
theorem cq{u v:Nat}(hu:u∈y)(hv:v∈y)(h:u≠v):y.idxOf u≠y.idxOf v:=λz=>h (by
 have e1:=Qcx (Qak hu)
 have e2:=Qcx (Qak hv)
 rw[<-e1, <-e2]
 congr 1)
theorem PU(hn:y.Nodup)(ha:a∈y)(hb:b∈y)(hc:c∈y)(Ag:a≠b)(Nq:a≠c)(Nr:b≠c):gr y a c b=!gr y a b c:=by
 rw[fH hn ha hb hc Ag Nq Nr,fH hn ha hc hb Nq Ag (Ne.symm Nr)]
 rw[<-decide_not]
 exact decide_eq_decide.mpr (Lw (cq ha hb Ag) (cq ha hc Nq) (cq hb hc Nr))
theorem PV(d:Nat)(t:c7)(a:Nat):(d::t).idxOf a=if d=a then 0 else t.idxOf a+1:=by
 by_cases h:d=a
 ·subst h;rw[if_pos rfl,List.idxOf_cons_self]
 ·rw[if_neg h,Qf1,show (d==a)=false by simp[h]];rfl
theorem EF{a b:c7}(h:a.Perm b)(ha:a.Pairwise (· <= ·))(hb:b.Pairwise (· <= ·)):a=b:=
 List.Perm.eq_of_pairwise (le:=λx y=>x<=y) (λ_ _ _ _ h1 h2=>Qdf h1 h2) ha hb h
def zl(_:c8):Sp:=λvs H Q _=>∃l:c7,vs=[.str (S l)]/\(∀c∈l,c<128)/\(l:)<64/\∀l' H',l'.Perm (l.filter aC)->l'.Pairwise (· <= ·)->az H H'->Q (.str (S l')) H'
theorem EG(h:zl K vs H Q E):(vs:)=1:=by obtain ⟨c,rfl,_⟩:=h;rfl
inductive iq(p_:c8)(vs:List V)(H:Hp)(Q:VK)(dA:XK):Prop
 | mk (y:c7) (a b:Nat) (_:vs=[.str (S y),.str (S [a]),.str (S [b])]) (_:a∈y) (_:b∈y) (_:(y:)<=1000) (_:Q (.int ((((y.idxOf b:Nat):Int) - ((y.idxOf a:Nat):Int))%((y:):Int))) H):iq p_ vs H Q dA
def jJ(p_:c8):Sp:=iq p_
theorem pL(h:jJ K vs H Q E):(vs:)=3:=by obtain ⟨c,_,_,rfl,_⟩:=h;rfl
theorem zm{p:Nat->Bool}(h:l[i]? =some c):(l.take (i+1)).filter p=(l.take i).filter p++if p c=true then [c] else []:=by
 rw[<-take_snoc h,Qcc]
 congr 1
 by_cases z:p c=true
 ·rw[if_pos z,Qbx z];rfl
 ·rw[if_neg z,Qbj z];rfl
theorem zo:∀ws:List c7,PyData.hasDictAll (CA ws)=false
 | []=>rfl
 | w::ws=>by show (PyData.hasDict (.str (S w))||PyData.hasDictAll (CA ws))=false;rw[zo ws];rfl
theorem Hx(h:Yd y):2*(y.filter aC:)=(y:):=by
 have key:∀p q:Nat->Bool,(∀c∈y,p c=true->q (ay c)=true)->(y.filter p:)<=(y.filter q:):=λp q Vf=>by
  have hn:((y.filter p).map ay).Nodup:=by
   show ((y.filter p).map ay).Pairwise (· ≠ ·)
   rw[Qb8]
   refine (h.nd.filter p).imp_of_mem λ{a b} ha hb z e=>z ?_
   exact dk (h.lt a (Qbq.mp ha).1) (h.lt b (Qbq.mp hb).1) e
  have:=hn.length_le_of_subset (l₂:=y.filter q) λc hc=>by
   obtain ⟨d,hd,rfl⟩:=Qay.mp hc
   obtain ⟨d1,d2⟩:=Qbq.mp hd
   exact Qbq.mpr ⟨h.cl d d1,Vf d d1 d2⟩
  rwa [Wh]at this
 have k1:=key aC (λc=>!aC c) λc hc z=>by
  rw[kI (h.lt c hc)]at z
  have hs:=of_decide_eq_true z
  rw[(bY _ (bp c hs).2.2).1];rfl
 have k2:=key (λc=>!aC c) aC λc hc z=>by
  rcases h.lt c hc with q | q
  ·rw[(bp c q).1]at z;cases z
  ·exact (bp _ (bY c q).2.2.2).1
 have k3:(y.filter aC:)+((y.filter λc=>!aC c):)=(y:):=by
  clear k1 k2 key h
  induction y with
  | nil=>rfl
  | cons a r ih=>
   cases hq:aC a
   ·rw[Qbj (by simp[hq]),Qbx (by simp[hq]),Qba,Qba];lia
   ·rw[Qbx hq,Qbj (by simp[hq]),Qba,Qba];lia
 lia
noncomputable def rd(w:c7)(k:Int):Nat:=w.getD (k%((w:):Int)).toNat 0
theorem Vg{w:c7}(h:w≠[])(k:Int):(k%((w:):Int)).toNat<(w:):=by
 have:0<(w:):=Qab.mpr h
 walk_at"F"
 walk_at"E"
 lia
theorem fI{w:c7}(h:w≠[])(k:Int):w[(k%((w:):Int)).toNat]? =some (rd w k):=by
 unfold rd
 rw[Qao,OD (Vg h k)]
 rfl
theorem rL{w:c7}(h:w≠[])(k:Int):rd w k∈w:=Qas (fI h k)
theorem e_(w:c7)(k:Int):rd w (k+(w:))=rd w k:=by unfold rd;rw[Qdc]
theorem fJ(w:c7)(k:Int):rd w (k%(w:))=rd w k:=by unfold rd;rw[Qf8 _ (Int.dvd_refl _)]
theorem n5{w:c7}{k:Nat}(h:k<(w:)):w[k]? =some (rd w k):=by
 have eG:w≠[]:=λz=>by rw[z]at h;exact absurd h (Qdx _)
 have:=fI eG (k:Int)
 rwa [Qbg () (),Qan]at this
theorem CL{w:c7}{k:Int}(hn:n<(w:))(e:k%((w:):Int)=n)(h:w[n]? =some c):rd w k=c:=by
 have:=n5 hn
 rw[h]at this
 rw[<-fJ,e]
 exact (Qal this).symm
theorem Hy{w:c7}{k:Int}(h1: -((w:):Int)<=k)(h2:k<(w:)):tF w k=some (rd w k):=by
 have eG:w≠[]:=λz=>by rw[z]at h1 h2;simp at h1 h2;lia
 unfold tF JW
 by_cases h0:0<=k
 ·rw[if_pos h0,if_pos h2]
  have:=fI eG k
  rw[Qbg h0 h2]at this
  exact this
 ·rw[if_neg h0,if_pos h1]
  have:=fI eG (k+(w:))
  rw[e_,Qbg () ()]at this
  exact this
theorem iT{f:Int->Nat}{p:Nat}(P:∀k,f (k+p)=f k)(k:Int):∀t:Nat,f (k+t*p)=f k
 | 0=>by simp
 | t+1=>by
  have:k+((t+1:Nat):Int)*p=k+t*p+p:=by rw[Qbl,Int.add_mul];simp;lia
  rw[this,P,iT P k t]
variable{p q:Nat}{f g:Int->Nat}
theorem fw(hp:0<p)(hq:0<q)(Pf:∀k,f (k+p)=f k)(Pg:∀k,g (k+q)=g k)(h:∀n:Nat,n<p+q->f n=g n)(k:Int):f k=g k:=by
 have up:∀N n:Nat,n<N->f n=g n:=by
  intro N
  induction N with
  | zero=>intro n hn;lia
  | succ N ih=>
   intro n hn
   by_cases z:n<p+q
   ·exact h n z
   ·have e1:f n=f ((n - p:Nat):Int):=by have:=Pf ((n - p:Nat):Int);rwa [show ((n - p:Nat):Int)+p=n by lia]at this
    have e2:g ((n - p:Nat):Int)=g ((n - p - q:Nat):Int):=by have:=Pg ((n - p - q:Nat):Int);rwa [show ((n - p - q:Nat):Int)+q=((n - p:Nat):Int) by lia]at this
    have e3:f ((n - q:Nat):Int)=f ((n - p - q:Nat):Int):=by have:=Pf ((n - p - q:Nat):Int);rwa [show ((n - p - q:Nat):Int)+p=((n - q:Nat):Int) by lia]at this
    have e4:g n=g ((n - q:Nat):Int):=by have:=Pg ((n - q:Nat):Int);rwa [show ((n - q:Nat):Int)+q=n by lia]at this
    rw[e1,ih (n - p) (),e2, <-ih (n - p - q) (), <-e3,ih (n - q) (), <-e4]
 have Ea:∃m:Nat,k+((k.natAbs*q:Nat):Int)*p=m/\k+((k.natAbs*p:Nat):Int)*q=m:=by
  have e1:((k.natAbs*q:Nat):Int)*p=((k.natAbs*(q*p):Nat):Int):=by rw[Nat.mul_assoc k.natAbs q p |>.symm];simp
  have e2:((k.natAbs*p:Nat):Int)*q=((k.natAbs*(q*p):Nat):Int):=by rw[Qc8 q p,Nat.mul_assoc k.natAbs p q |>.symm];simp
  have hle:k.natAbs<=k.natAbs*(q*p):=Nat.le_mul_of_pos_right _ (Nat.mul_pos hq hp)
  generalize k.natAbs*(q*p)=M at e1 e2 hle
  exact ⟨(k+M).toNat,(),()⟩
 obtain ⟨m,h1,h2⟩:=Ea
 rw[<-iT Pf k (k.natAbs*q),h1, <-iT Pg k (k.natAbs*p),h2]
 exact up (m+1) m (Qcz m)
noncomputable def kK(f g:Int->Nat):Nat->Nat->Nat
 | 0,i=>i
 | n+1,i=>if f i=g i then kK f g n (i+1) else i
theorem fD(f g:Int->Nat):∀n i:Nat,i<=kK f g n i/\kK f g n i<=i+n/\(∀j:Nat,i<=j->j<kK f g n i->f j=g j)/\(kK f g n i<i+n->f (kK f g n i)≠g (kK f g n i))
 | 0,i=>⟨Qaa _,Qaa _,λj h1 h2=>absurd (Qbm h1 h2) (Qb1 _),λh=>absurd h (Qb1 _)⟩
 | n+1,i=>by
  unfold kK
  by_cases z:f i=g i
  ·rw[if_pos z]
   obtain ⟨h1,h2,h3,h4⟩:=fD f g n (i+1)
   refine ⟨(),(),λj g1 g2=>?_,λg1=>h4 ()⟩
   by_cases e:j=i
   ·rw[e];exact z
   ·exact h3 j () g2
  ·rw[if_neg z]
   exact ⟨Qaa _,(),λj g1 g2=>absurd (Qbm g1 g2) (Qb1 _),λ_=>z⟩
variable{m:Nat}
theorem PX(h1:∀j:Nat,j<m->f j=g j)(h2:f m≠g m)(hm:m<n):kK f g n 0=m:=by
 obtain ⟨_,b,c,d⟩:=fD f g n 0
 by_cases z:kK f g n 0<m
 ·exact absurd (h1 _ z) (d ())
 ·by_cases y:m<kK f g n 0
  ·exact absurd (c m (Qau _) y) h2
  ·lia
noncomputable def al(y:c7)(f g:Int->Nat)(n:Nat):Nat:=
 if f 0≠g 0\/f (-1)=g (-1) then 0 else
 if gr y (ay (f (-1))) (ay (g (-1))) (f 0)=gr y (f (kK f g n 0)) (g (kK f g n 0)) (ay (f ((kK f g n 0:Nat) - 1))) then kK f g n 0 else 0
noncomputable def ac(y:c7)(a b p q:Nat):Bool:=if p=a\/p=b\/q=a\/q=b then false else (gr y a p b != gr y a q b)
noncomputable def sq(w:c7)(i:Int):Int->Nat:=λn=>rd w (i+n)
noncomputable def bq(v:c7)(j:Int):Int->Nat:=λn=>ay (rd v (j - n))
theorem cL(w:c7)(i k:Int):sq w i (k+(w:))=sq w i k:=by unfold sq;rw[<-Qes,e_]
theorem Bf(w:c7)(k:Int):rd w (k - (w:))=rd w k:=by rw[<-e_ w (k - (w:))];congr 1;lia
theorem n_(w:c7)(i k:Int):bq w i (k+(w:))=bq w i k:=by unfold bq;rw[show i - (k+((w:):Int))=i - k - (w:) by lia,Bf]
theorem iU(h:v≠[])(k:Int):rd (bC v) k=ay (rd v (-1 - k)):=by
 have Ea:0<(v:):=Qab.mpr h
 have h1:=Qcp k (b:=((v:):Int)) ()
 have h2:=Qcj k (b:=((v:):Int)) ()
 have e:(-1 - k)%((v:):Int)=(v:) - 1 - k%(v:):=by
  have e1:=Qf5 k (v:)
  have: -1 - k=((v:) - 1 - k%(v:))+(v:)*(-(k / (v:)) - 1):=by rw[Int.mul_sub,Int.mul_neg];lia
  rw[this,Qe7,Qbg () ()]
 generalize hr:k%((v:):Int)=r at h1 h2 e
 obtain ⟨n,rfl⟩:∃n:Nat,r=n:=⟨r.toNat,()⟩
 have hn:n<(v:):=by lia
 have e2:rd v (-1 - k)=v[(v:) - 1 - n]'():=CL (n:=(v:) - 1 - n) () (by rw[e];lia) (OD ())
 rw[e2]
 refine CL (n:=n) (by rw[bA];exact hn) (by rw[bA];exact hr) ?_
 unfold bC
 rw[Qd1 (by rw[Wh];exact hn),Wh,Qar,OD ()]
 rfl
theorem PY(h:v≠[])(j:Nat):sq (bC v) (((v:):Int) - 1 - j)=bq v j:=by
 funext n
 unfold sq bq
 rw[iU h,show -1 - (((v:):Int) - 1 - j+n)=j - n - (v:) by lia,Bf]
structure SW(y w:c7):Prop where
 ne:w≠[]
 bO:∀c∈w,c∈y
 red:∀k:Int,rd w k≠ay (rd w (k - 1))
theorem SW.rd{y w:c7}(h:SW y w)(k:Int):rd w k∈y:=h.bO _ (rL h.ne k)
theorem ir{w:c7}(hw:w≠[])(hv:v≠[])(pf:∀k,f (k+(w:))=f k)(pg:∀k,g (k+(v:))=g k)(h:f (-1)≠g (-1)):kK f g ((w:)+(v:)) 0<(w:)+(v:)/\f (kK f g ((w:)+(v:)) 0)≠g (kK f g ((w:)+(v:)) 0):=by
 obtain ⟨_,b,c,d⟩:=fD f g ((w:)+(v:)) 0
 by_cases z:kK f g ((w:)+(v:)) 0<(w:)+(v:)
 ·exact ⟨z,d ()⟩
 ·exact absurd (fw (Qab.mpr hw) (Qab.mpr hv) pf pg (λn hn=>c n (Qau _) ()) (-1)) h
noncomputable def zp(ws:List c7):Nat->List (Nat×Nat)
 | 0=>[]
 | n+1=>zp ws n++(List.range ((ws|||n):)).map λi=>(n,i)
noncomputable def places(ws:List c7):List (Nat×Nat):=zp ws (ws:)
theorem xb{ws:List c7}:∀{n:Nat} {o:Nat×Nat},o∈zp ws n↔o.1<n/\o.2<(ws.getD o.1 []:)
 | 0,o=>by simp[zp]
 | n+1,o=>by
  unfold zp
  rw[Qap,xb (n:=n),Qay]
  constructor
  ·rintro (⟨h1,h2⟩ | ⟨i,hi,rfl⟩)
   ·exact ⟨(),h2⟩
   ·exact ⟨by simp,Qbr.mp hi⟩
  ·rintro ⟨h1,h2⟩
   by_cases z:o.1<n
   ·exact .inl ⟨z,h2⟩
   ·have e:o.1=n:=by lia
    exact .inr ⟨o.2,Qbr.mpr (by rw[<-e];exact h2),by rw[<-e]⟩
theorem CM{ws:List c7}:∀n:Nat,(zp ws n).Pairwise λa b=>JY a.1 a.2 b.1 b.2=true
 | 0=>List.Pairwise.nil
 | n+1=>by
  unfold zp
  rw[Qa9]
  refine ⟨CM n,?_,λa ha b hb=>?_⟩
  ·rw[Qb8]
   refine List.pairwise_lt_range.imp λ{a b} h=>?_
   unfold JY
   rw[if_pos rfl]
   exact decide_eq_true (by show (a:Int)<b;lia)
  ·obtain ⟨i,hi,rfl⟩:=Qay.mp hb
   have:=(xb.mp ha).1
   unfold JY
   rw[if_neg (by show ¬((a.1:Nat):Int)=(n:Nat);lia)]
   exact decide_eq_true (by show ((a.1:Nat):Int)<(n:Nat);lia)
theorem oa:∀{a b:List Int},bT a b=true->bT b a=false/\a≠b
 | [],[],h=>by simp[bT]at h
 | [],_::_,h=>⟨rfl,by simp⟩
 | _::_,[],h=>by simp[bT]at h
 | x::r,z::t,h=>by
  simp only[bT]at h ⊢
  split at h
  ·rename_i e
   obtain ⟨h1,h2⟩:=oa h
   rw[if_pos e.symm]
   exact ⟨h1,λq=>h2 (List.cons.inj q).2⟩
  ·rename_i e
   have h':=of_decide_eq_true h
   rw[if_neg (λq=>e q.symm)]
   exact ⟨decide_eq_false (),λq=>e (List.cons.inj q).1⟩
def Adj(w:c7):Prop:=∀(k a b:Nat),w[k]? =some a->w[k+1]? =some b->b≠ay a
theorem SW.of{w:c7}(ne:w≠[])(bO:∀c∈w,c∈y)(Wz:Adj w)(hd:∀a b,w.head? =some a->w.getLast? =some b->a≠ay b):SW y w:=by
 refine ⟨ne,bO,λk=>?_⟩
 have Ea:0<(w:):=Qab.mpr ne
 walk_at"F"
 walk_at"E"
 have hk:=fI ne k
 have yf:=fI ne (k - 1)
 by_cases z:k%((w:):Int)=0
 ·have e:(k - 1)%((w:):Int)=(w:) - 1:=by
   rw[<-Qgq,z]
   have:(0:Int) - 1=((w:) - 1)+(w:)*(-1):=by lia
   rw[this,Qe7,Qbg () ()]
  rw[z]at hk
  rw[e]at yf
  refine hd _ _ ?_ ?_
  ·rw[Qfv];exact hk
  ·rw[Qfa, show (w:) - 1=(((w:):Int) - 1).toNat by lia];exact yf
 ·have e:(k - 1)%((w:):Int)=k%(w:) - 1:=by
   rw[<-Qgq,Qbg () ()]
  rw[e]at yf
  refine Wz _ _ _ yf ?_
  rw[show (k%((w:):Int) - 1).toNat+1=(k%((w:):Int)).toNat by lia]
  exact hk
theorem SW.Wz{w:c7}(h:SW y w):Adj w:=λk a b h1 h2=>by
 have hk:=(OC.mp h2).1
 have e1:=n5 (w:=w) (k:=k) ()
 have e2:=n5 (w:=w) (k:=k+1) hk
 rw[h1]at e1
 rw[h2]at e2
 rw[Qal e1,Qal e2]
 have:=h.red ((k+1:Nat):Int)
 rwa [show (((k+1:Nat):Int) - 1)=(k:Int) by lia]at this
theorem xc{w:c7}(h:w≠[])(hn:n<=(w:))(k:Int):rd (w.drop n++w.take n) k=rd w (k+n):=by
 have Ea:0<(w:):=Qab.mpr h
 have hl:(w.drop n++w.take n:)=(w:):=by rw[T6,Qat,Qad];lia
 walk_at"F"
 walk_at"E"
 have e:(k+n)%((w:):Int)=(k%(w:)+n)%(w:):=by rw[Qgr]
 generalize hr:k%((w:):Int)=r at h1 h2 e
 obtain ⟨m,rfl⟩:∃m:Nat,r=m:=⟨r.toNat,()⟩
 have hm:m<(w:):=by lia
 by_cases z:m+n<(w:)
 ·have hg:w[m+n]? =some (rd w (k+n)):=by
   have:=fI h (k+n)
   rwa [e,Qbg () (),show ((m:Int)+n).toNat=m+n by lia]at this
  refine CL (n:=m) (by rw[hl];exact hm) (by rw[hl];exact hr) ?_
  rw[Qbc (by rw[Qat];lia),Qbk,Nat.add_comm]
  exact hg
 ·have hg:w[m+n - (w:)]? =some (rd w (k+n)):=by
   have:=fI h (k+n)
   have e2:((m:Int)+n)%(w:)=((m+n - (w:):Nat):Int):=by
    have:(m:Int)+n=((m+n - (w:):Nat):Int)+(w:):=by lia
    rw[this,Qdc,Qbg () ()]
   rwa [e,e2,Qan]at this
  refine CL (n:=m) (by rw[hl];exact hm) (by rw[hl];exact hr) ?_
  rw[Qaw (by rw[Qat];lia),Qat,Qe4,if_pos (),show m - ((w:) - n)=m+n - (w:) by lia]
  exact hg
theorem SW.bR{w:c7}(h:SW y w)(hn:n<=(w:)):SW y (w.drop n++w.take n):=by
 refine ⟨λz=>h.ne ?_,λc hc=>?_,λk=>?_⟩
 ·have l0:(w.drop n++w.take n:)=0:=by rw[z];rfl
  rw[T6,Qat,Qad]at l0
  exact Qb7.mp ()
 ·exact h.bO c ((Qap.mp hc).elim Qch Qb9)
 ·rw[xc h.ne hn,xc h.ne hn,show k - 1+n=k+n - 1 by lia]
  exact h.red _
theorem SW.bC{y w:c7}(hy:Yd y)(h:SW y w):SW y (bC w):=by
 refine ⟨λz=>h.ne ?_,λc hc=>?_,λk=>?_⟩
 ·have:=bA w
  rw[z]at this
  exact Qb7.mp this.symm
 ·obtain ⟨d,hd,rfl⟩:=Qay.mp (Qcf.mp hc)
  exact hy.cl d (h.bO d hd)
 ·rw[iU h.ne,iU h.ne,show -1 - (k - 1)= -1 - k+1 by lia]
  intro q
  have l1:=hy.lt _ (h.rd (-1 - k))
  have l2:=hy.lt _ (h.rd (-1 - k+1))
  rw[aF l2]at q
  have:=h.red (-1 - k+1)
  rw[show -1 - k+1 - 1= -1 - k by lia]at this
  exact this q.symm
theorem Lz{w:c7}(h:w≠[]):w.getLast? =some (rd w (-1)):=by
 have Ea:0<(w:):=Qab.mpr h
 have:=fI h (-1)
 have e:(-1:Int)%((w:):Int)=(w:) - 1:=by
  have e2:(-1:Int)=(((w:):Int) - 1)+(w:)*(-1):=by lia
  rw[e2,Qe7,Qbg () ()]
 rw[e]at this
 rw[Qfa, show (w:) - 1=(((w:):Int) - 1).toNat by lia]
 exact this
theorem LB{w:c7}(h:w≠[]):w.head? =some (rd w 0):=by
 have:=fI h 0
 rw[Qfv]
 simpa using this
theorem EH(w:c7):∃k,lV w k:=by
 by_cases h:w=[]
 ·exact ⟨0,.inl ⟨h,rfl⟩⟩
 ·obtain ⟨k,_,_,t⟩:=rK h
  exact ⟨k,t⟩
theorem bN.turn{w:c7}(h:bN w s):lV w s:=by
 obtain ⟨k,t⟩:=EH w
 rw[kH h t];exact t
theorem bN.least{w:c7}(h:bN w s)(j1:1<=j)(j2:j<s)(hp:Af w j):False:=by
 rcases h.turn with ⟨_,e⟩ | ⟨h1,h2,h3,h4⟩
 ·lia
 ·have hn:w≠[]:=λz=>by rw[z]at h2;simp at h2;lia
  exact h4 j j1 j2 ((gI hn ()).mpr hp)
theorem SW.rdd{w:c7}(hy:Yd y)(h:SW y w):iO w:=Hn λk a b ha hb e=>by
 have G_:b∈y:=h.bO b (Qas hb)
 have:=h.Wz k a b ha hb
 rw[e,aF (hy.lt b G_)]at this
 exact this rfl
theorem SW.core{w:c7}(hy:Yd y)(h:SW y w):My.core (My.red w)=w:=by
 rw[fz (h.rdd hy)]
 by_cases z:(w:)<2
 ·exact eZ z
 ·obtain ⟨a,m,e,hw⟩:=zf (l:=w) ()
  have h0:=LB h.ne
  have h1:=Lz h.ne
  have hr:=h.red 0
  rw[show (0:Int) - 1= -1 by lia]at hr
  rw[hw]at h0 h1 hr ⊢
  have e0:a=My.rd (a::(m++[e])) 0:=Qal h0
  have e1:e=My.rd (a::(m++[e])) (-1):=by
   have:(a::(m++[e])).getLast? =some e:=by rw[<-Qda,List.getLast?_append];rfl
   exact Qal (this.symm.trans h1)
  exact eY (by rw[<-e0, <-e1]at hr;exact hr)
theorem xf{w:c7}{k:Nat}(hk:k<=(w:))(i:Nat):Fw (bR w k) i=Fw w (i+k):=by
 by_cases z:w=[]
 ·subst z
  unfold Fw bR
  simp
 ·have hp:0<(w:):=Qab.mpr z
  have e:Fw (bR w k) i=(bR w k)[i%(w:)]?:= by unfold Fw;rw[bK]
  rw[e,qj hk (Qd4 _ hp),Hu]
theorem CN{w:c7}{k:Nat}(hk:k<=(w:))(hn:w≠[]):Af (bR w k) s↔Af w s:=by
 constructor
 ·intro h i
  have h1:=h (i+((w:) - k))
  rw[xf hk,xf hk]at h1
  have e1:i+((w:) - k)+s+k=i+s+(w:):=by lia
  have e2:i+((w:) - k)+k=i+(w:):=by lia
  rw[e1,e2,Af.whole w,Af.whole w]at h1
  exact h1
 ·intro h i
  rw[xf hk,xf hk,show i+s+k=i+k+s by lia]
  exact h _
theorem vy{w:c7}(hn:w≠[])(h:bN w s):lV w s:=by
 obtain ⟨k,r,_,g⟩:=rK hn
 rw[kH h g]
 exact g
theorem Hz{w:c7}{k:Nat}(hk:k<=(w:))(hn:w≠[])(h:lV (bR w k) s):lV w s:=by
 have we:bR w k≠[]:=λz=>hn (Qb7.mp (by have:=bK w k;rw[z]at this;exact this.symm))
 rcases h with ⟨z,_⟩ | ⟨h1,h2,h3,h4⟩
 ·exact absurd z we
 ·rw[bK]at h2
  refine .inr ⟨h1,h2,(gI hn h2).mpr ((CN hk hn).mp ((gI we (by rw[bK];exact h2)).mp h3)),λj j1 j2 j3=>h4 j j1 j2 ?_⟩
  exact (gI we (by rw[bK];lia)).mpr ((CN hk hn).mpr ((gI hn ()).mp j3))
theorem EI{w:c7}{t:Nat}(hy:Yd y)(h:SW y w)(hr:bN (aP w) s)(hw:bN w t):s=t/\(aP w:)=(w:):=by
 have e:aP w=bV w:=by unfold aP;rw[h.core hy]
 obtain ⟨k,ek⟩:=kF w
 have tG:∃k,k<=(w:)/\bV w=bR w k:=by
  by_cases z:k<=(w:)
  ·exact ⟨k,z,ek⟩
  ·refine ⟨(w:),Qaa _,?_⟩
   rw[ek]
   unfold bR
   rw[Qbi (),Qai (),List.drop_length,Qbv]
 obtain ⟨k,hk,ek⟩:=tG
 rw[e,ek]at hr ⊢
 have we:bR w k≠[]:=λz=>h.ne (Qb7.mp (by have:=bK w k;rw[z]at this;exact this.symm))
 refine ⟨?_,bK w k⟩
 exact (kH hw (Hz hk h.ne (vy we hr))).symm
theorem CO{w:c7}(hn:w≠[]):∃s,bN w s:=by
 obtain ⟨k,r,_,g⟩:=rK hn
 rcases g with ⟨z,_⟩ | ⟨h1,h2,h3,h4⟩
 ·exact absurd z hn
 ·exact ⟨k,.inr ⟨h1,h2,vw hn h1 h2 h3 h4,λj j1 j2 j3=>h4 j j1 j2 (qh j1 () j3)⟩⟩
theorem HN{w:c7}{t:Nat}(hn:w≠[])(h:bN w s)(g:bN w t):s=t:=kH h (vy hn g)
theorem xg{a b:c7}(hn:(a++b).Nodup)(he:e∈a++b):(b++a).idxOf e=if (a++b).idxOf e<(a:) then (a++b).idxOf e+(b:) else (a++b).idxOf e - (a:):=by
 rw[Qcn]at hn
 obtain ⟨na,nb,dis⟩:=hn
 by_cases z:e∈a
 ·have zb:e∉b:=λq=>dis e z e q rfl
  rw[Qfd,Qfd,if_pos z,if_neg zb,if_pos (Qak z)]
 ·have zb:e∈b:=(Qap.mp he).resolve_left z
  rw[Qfd,Qfd,if_pos zb,if_neg z,if_neg ()]
  lia
structure Vh(y:c7)(ws:List c7):Prop where
 sw:∀w∈ws,SW y w/\(w:)<=12
 tH:(ws:)<=4
 all:(places ws:)<=24
theorem getD_in(h:c<(ws:)):(ws|||c)∈ws:=by
 rw[Qao,OD h];exact Qb3 h
inductive iu(p_:c8)(vs:List V)(H:Hp)(Q:VK)(dA:XK):Prop
 | mk (w:c7) (i:Nat) (_:vs=[.str (S w),.int i]) (_:(∀c∈w,Lt c)) (_:(w:)<=1000) (_:i<(w:)) (_:∀q H',H q=none->H' q=some (.tup [.str (S [ay (rd w ((i:Int) - 1))]),.str (S [rd w i])])->az H H'->Q (.ref q) H'):iu p_ vs H Q dA
def jK(p_:c8):Sp:=iu p_
theorem pM(h:jK K vs H Q E):(vs:)=2:=by obtain ⟨_,_,rfl,_⟩:=h;rfl
theorem CP{ws:List c7}{m:Nat}(h:∀w∈ws,(w:)<=m):∀n:Nat,n<=(ws:)->(zp ws n:)<=n*m
 | 0,_=>Qau _
 | n+1,hn=>by
  unfold zp
  have:=CP h n ()
  have h2:=h _ (getD_in (ws:=ws) (c:=n) ())
  rw[T6,Wh,Qd2,Qey]
  lia
noncomputable def zq(y:c7)(a b:Nat):Int:=((y.idxOf b:Int) - (y.idxOf a:Int))%((y:):Int)
noncomputable def ff(y:c7)(f:Int->Nat)(k:Int):Int:=zq y (ay (f (k - 1))) (f k)
structure g_(y:c7)(f:Int->Nat):Prop where
 bO:∀k,f k∈y
 red:∀k,f k≠ay (f (k - 1))
structure Run(f g:Int->Nat)(a b:Nat):Prop where
 oe:∀k:Int, -(b:Int)<=k->k<=a->f k=g k
 hi:f (a+1)≠g (a+1)
 lo:f (-(b:Int) - 1)≠g (-(b:Int) - 1)
noncomputable def kZ(f:Int->Nat):Int->Nat:=λk=>ay (f (-k))
noncomputable def dB(f:Int->Nat):Int->Nat:=λk=>f (k - 1)
noncomputable def gJ(y:c7)(f g:Int->Nat)(a:Nat):Bool:=decide (ff y f (a+1)<ff y g (a+1))
noncomputable def gS(y:c7)(f g:Int->Nat)(b:Nat):Bool:=decide (ff y f (-(b:Int))<ff y g (-(b:Int)))
noncomputable def yh(x a b:Nat):Bool:=decide (b<a\/(a=b/\aC x=false))
noncomputable def Bg(y:c7)(f g:Int->Nat)(a b:Nat):Bool:=if yh (f 0) a b=true then gS y f g b else gJ y f g a
variable{a' b':Nat}
theorem Run.one(h:Run f g a b)(h':Run f g a' b'):a=a'/\b=b':=by
 constructor
 ·by_cases z:a<a'
  ·exact absurd (h'.oe (a+1) () ()) h.hi
  ·by_cases z2:a'<a
   ·exact absurd (h.oe (a'+1) () ()) h'.hi
   ·lia
 ·by_cases z:b<b'
  ·exact absurd (h'.oe (-(b:Int) - 1) () ()) h.lo
  ·by_cases z2:b'<b
   ·exact absurd (h.oe (-(b':Int) - 1) () ()) h'.lo
   ·lia
theorem Run.bk(h:Run f g a (b+1)):Run (dB f) (dB g) (a+1) b:=
 ⟨λk h1 h2=>h.oe (k - 1) () (),λz=>h.hi (by
  unfold dB at z
  rwa [show ((a+1:Nat):Int)+1 - 1=a+1 by lia]at z),λz=>h.lo (by
  unfold dB at z
  rwa [show -(b:Int) - 1 - 1= -((b+1:Nat):Int) - 1 by lia]at z)⟩
theorem Run.fd(h:Run (dB f) (dB g) (a+1) b):Run f g a (b+1):=
 ⟨λk h1 h2=>by
  have:=h.oe (k+1) () ()
  unfold dB at this
  rwa [show k+1 - 1=k by lia]at this,λz=>h.hi (by
  unfold dB
  rwa [show ((a+1:Nat):Int)+1 - 1=a+1 by lia]),λz=>h.lo (by
  unfold dB
  rwa [show -(b:Int) - 1 - 1= -((b+1:Nat):Int) - 1 by lia])⟩
theorem qk(y:c7)(f:Int->Nat)(k:Int):ff y (dB f) k=ff y f (k - 1):=rfl
theorem mU(y:c7)(f g:Int->Nat)(a:Nat):gJ y (dB f) (dB g) (a+1)=gJ y f g a:=by
 unfold gJ
 rw[qk,qk,show ((a+1:Nat):Int)+1 - 1=a+1 by lia]
theorem mV(y:c7)(f g:Int->Nat)(b:Nat):gS y (dB f) (dB g) b=gS y f g (b+1):=by
 unfold gS
 rw[qk,qk,show -(b:Int) - 1= -((b+1:Nat):Int) by lia]
theorem HP{x z a b:Nat}(h:yh x a (b+1)=true):yh z (a+1) b=true:=by
 unfold yh at h ⊢
 have:=of_decide_eq_true h
 exact decide_eq_true ()
theorem fg(ha:a∈y)(hb:b∈y)(h:a≠b):0<zq y a b/\zq y a b<(y:)/\zq y b a=(y:) - zq y a b:=by
 have ia:=Qak ha
 have ib:=Qak hb
 have n:=cq ha hb h
 unfold zq
 rw[jI ia ib,jI ib ia]
 generalize y.idxOf a=i at*
 generalize y.idxOf b=j at*
 split<;>split<;>lia
theorem mW(ha:a∈y)(hb:b∈y)(hc:c∈y)(h:zq y a b=zq y a c):b=c:=by
 have ia:=Qak ha
 have ib:=Qak hb
 have ic:=Qak hc
 refine Classical.byContradiction λz=>cq hb hc z ?_
 unfold zq at h
 rw[jI ia ib,jI ia ic]at h
 split at h<;>split at h<;>lia
theorem g_.rv(hy:Yd y)(h:g_ y f):g_ y (kZ f):=⟨λk=>hy.cl _ (h.bO _),λk z=>by
 unfold kZ at z
 have e:=aF (hy.lt _ (h.bO (-(k - 1))))
 rw[e]at z
 have:=h.red (-(k - 1))
 rw[show -(k - 1) - 1= -k by lia]at this
 exact this z.symm⟩
theorem o5(hy:Yd y)(h:g_ y f):kZ (kZ f)=f:=by
 funext k
 unfold kZ
 rw[aF (hy.lt _ (h.bO _)),Int.neg_neg]
theorem jL(hy:Yd y)(h:g_ y f)(k:Int):ff y (kZ f) (k+1)=(y:) - ff y f (-k):=by
 unfold ff kZ
 rw[show k+1 - 1=k by lia,aF (hy.lt _ (h.bO _)),show -(k+1)= -k - 1 by lia]
 exact (fg (hy.cl _ (h.bO _)) (h.bO _) (Ne.symm (h.red _))).2.2
theorem Run.rv(hy:Yd y)(hf:g_ y f)(hg:g_ y g)(h:Run f g a b):Run (kZ f) (kZ g) b a:=
 ⟨λk h1 h2=>by unfold kZ;rw[h.oe _ () ()],λz=>h.lo (by
  unfold kZ at z
  have:=dk (hy.lt _ (hf.bO _)) (hy.lt _ (hg.bO _)) z
  rwa [show -((b:Int)+1)= -(b:Int) - 1 by lia]at this),λz=>h.hi (by
  unfold kZ at z
  have:=dk (hy.lt _ (hf.bO _)) (hy.lt _ (hg.bO _)) z
  rwa [show -(-(a:Int) - 1)=a+1 by lia]at this)⟩
theorem fS:∀c∈aR++lU,aC (ay c)=!aC c:=⋯
theorem PZ(hy:Yd y)(hf:g_ y f)(hg:g_ y g)(h0:f 0=g 0):Bg y (kZ g) (kZ f) b a=Bg y f g a b:=by
 have e1:gS y (kZ g) (kZ f) a=gJ y f g a:=by
  unfold gS gJ
  have h1:=jL hy hf (-(a:Int) - 1)
  have h2:=jL hy hg (-(a:Int) - 1)
  rw[show -(a:Int) - 1+1= -a by lia,show -(-(a:Int) - 1)=a+1 by lia]at h1 h2
  rw[h1,h2]
  exact decide_eq_decide.mpr ()
 have e2:gJ y (kZ g) (kZ f) b=gS y f g b:=by
  unfold gS gJ
  rw[jL hy hf,jL hy hg]
  exact decide_eq_decide.mpr ()
 unfold Bg
 rw[e1,e2]
 have e3:yh (kZ g 0) b a=!yh (f 0) a b:=by
  unfold yh kZ
  rw[show (-0:Int)=0 from rfl, <-h0,fS _ (hy.lt _ (hf.bO 0)).mem]
  rw[<-decide_not]
  refine decide_eq_decide.mpr ?_
  cases aC (f 0)
  ·simp;lia
  ·simp;lia
 rw[e3]
 cases yh (f 0) a b<;>rfl
def uB(y:c7)(f g:Int->Nat):Prop:=∃a b,Run f g a b/\yh (f 0) a b=true/\gJ y f g a≠gS y f g b
def gT(y:c7)(f g:Int->Nat):Prop:=∃a,Run f g a 0/\gJ y f g a≠gS y f g 0
open Classical in
noncomputable def one(p:Prop):Int:=if p then 1 else 0
theorem eT{p:Prop}(h:p):one p=1:=by unfold one;rw[if_pos h]
theorem ba{p:Prop}(h: ¬p):one p=0:=by unfold one;rw[if_neg h]
theorem br{p q:Prop}(h:p↔q):one p=one q:=by rw[propext h]
theorem Run.zero(h:Run f g a b):f 0=g 0:=h.oe 0 () ()
theorem HQ{e0 e1:Bool}{m:Prop}
  (r0:f 0=g 0->∃a b,Run f g a b) (r1:f (-1)=g (-1)->∃a b,Run (dB f) (dB g) a b)
  (h0:∀a b,Run f g a b->e0=Bg y f g a b) (h1:∀a b,Run (dB f) (dB g) a b->e1=Bg y (dB f) (dB g) a b)
  (ma:f 0=g 0->f (-1)≠g (-1)->(m↔e0≠gS y f g 0)) (mb:f (-1)=g (-1)->f 0≠g 0->(m↔e1≠gJ y (dB f) (dB g) 0)) (mc:f (-1)=g (-1)->f 0=g 0->(m↔e1≠e0))
  (t:f 0=g 0\/f (-1)=g (-1)):one m=one (gT y f g)+one (uB y (dB f) (dB g)) - one (uB y f g):=by
 have hb:∀{a b},Run (dB f) (dB g) a b->f (-1)=g (-1):=λh=>h.zero
 by_cases z0:f 0=g 0
 ·obtain ⟨a,b,r⟩:=r0 z0
  have e:=h0 a b r
  unfold Bg at e
  have hu:uB y f g↔(yh (f 0) a b=true/\gJ y f g a≠gS y f g b):=⟨λ⟨a',b',r',x⟩=>by obtain ⟨rfl,rfl⟩:=r.one r';exact x,λx=>⟨a,b,r,x⟩⟩
  by_cases z1:f (-1)=g (-1)
  ·cases b with
   | zero=>exact absurd z1 r.lo
   | succ b=>
    have r2:=r.bk
    have e2:=h1 _ _ r2
    unfold Bg at e2
    have Vi:uB y (dB f) (dB g)↔(yh (dB f 0) (a+1) b=true/\gJ y f g a≠gS y f g (b+1)):=⟨λ⟨a',b',r',x⟩=>by
     obtain ⟨rfl,rfl⟩:=r2.one r'
     rw[mU,mV]at x;exact x,λx=>⟨_,_,r2,by rw[mU,mV];exact x⟩⟩
    rw[mU,mV]at e2
    have Vj: ¬gT y f g:=λ⟨a',r',_⟩=>absurd (r.one r').2 (Qep b)
    rw[ba Vj,br hu,br Vi,br (mc z1 z0),e,e2]
    have mono:= @HP (f 0) (dB f 0) a b
    generalize yh (f 0) a (b+1)=B0 at*
    generalize yh (dB f 0) (a+1) b=B1 at*
    generalize gJ y f g a=A at*
    generalize gS y f g (b+1)=C at*
    revert mono
    cases B0<;>cases B1<;>cases A<;>cases C<;>simp[one]
  ·have b0:b=0:=by
    cases b with
    | zero=>rfl
    | succ b=>exact absurd (r.oe (-1) () ()) z1
   subst b0
   have Vi: ¬uB y (dB f) (dB g):=λ⟨_,_,r',_⟩=>z1 (hb r')
   have Vj:gT y f g↔gJ y f g a≠gS y f g 0:=⟨λ⟨a',r',x⟩=>by obtain ⟨rfl,_⟩:=r.one r';exact x,λx=>⟨a,r,x⟩⟩
   rw[ba Vi,br Vj,br hu,br (ma z0 z1),e]
   generalize yh (f 0) a 0=B0 at*
   generalize gJ y f g a=A at*
   generalize gS y f g 0=C at*
   cases B0<;>cases A<;>cases C<;>simp[one]
 ·have z1:=t.resolve_left z0
  obtain ⟨a,b,r⟩:=r1 z1
  have a0:a=0:=by
   cases a with
   | zero=>rfl
   | succ a=>exact absurd (r.fd.zero) z0
  subst a0
  have e:=h1 _ _ r
  unfold Bg at e
  have hu0: ¬uB y f g:=λ⟨_,_,r',_⟩=>z0 r'.zero
  have Vj: ¬gT y f g:=λ⟨_,r',_⟩=>z0 r'.zero
  have Vi:uB y (dB f) (dB g)↔(yh (dB f 0) 0 b=true/\gJ y (dB f) (dB g) 0≠gS y (dB f) (dB g) b):=⟨λ⟨a',b',r',x⟩=>by
   obtain ⟨rfl,rfl⟩:=r.one r';exact x,λx=>⟨_,_,r,x⟩⟩
  rw[ba hu0,ba Vj,br Vi,br (mb z1 z0),e]
  generalize yh (dB f 0) 0 b=B0 at*
  generalize gJ y (dB f) (dB g) 0=A at*
  generalize gS y (dB f) (dB g) b=C at*
  cases B0<;>cases A<;>cases C<;>simp[one]
theorem dG(hp:0<p)(hq:0<q)(Pf:∀k,f (k+p)=f k)(Pg:∀k,g (k+q)=g k)(h0:f 0=g 0)(hn:∃k,f k≠g k):∃a b,Run f g a b/\a<p+q/\b<p+q:=by
 obtain ⟨k0,K2⟩:=hn
 have up:∃a:Nat,a<p+q/\(∀j:Nat,j<a->f (j+1)=g (j+1))/\f (a+1)≠g (a+1):=by
  obtain ⟨_,b,c,d⟩:=fD (λk=>f (k+1)) (λk=>g (k+1)) (p+q) 0
  by_cases z:kK (λk=>f (k+1)) (λk=>g (k+1)) (p+q) 0<p+q
  ·exact ⟨_,z,λj hj=>c j (Qau _) hj,d ()⟩
  ·refine absurd ?_ K2
   have:=fw (f:=λk=>f (k+1)) (g:=λk=>g (k+1)) hp hq (λk=>by rw[show k+(p:Int)+1=k+1+p by lia];exact Pf _) (λk=>by rw[show k+(q:Int)+1=k+1+q by lia];exact Pg _) (λn hn=>c n (Qau _) ()) (k0 - 1)
   rwa [show k0 - 1+1=k0 by lia]at this
 have Pf':∀k,f (-(k+p))=f (-k):=λk=>by have:=Pf (-(k+p));rw[<-this];congr 1;lia
 have Pg':∀k,g (-(k+q))=g (-k):=λk=>by have:=Pg (-(k+q));rw[<-this];congr 1;lia
 have dn:∃a:Nat,a<p+q/\(∀j:Nat,j<a->f (-(j:Int) - 1)=g (-(j:Int) - 1))/\f (-(a:Int) - 1)≠g (-(a:Int) - 1):=by
  obtain ⟨_,b,c,d⟩:=fD (λk=>f (-k - 1)) (λk=>g (-k - 1)) (p+q) 0
  by_cases z:kK (λk=>f (-k - 1)) (λk=>g (-k - 1)) (p+q) 0<p+q
  ·exact ⟨_,z,λj hj=>c j (Qau _) hj,d ()⟩
  ·refine absurd ?_ K2
   have:=fw (f:=λk=>f (-k - 1)) (g:=λk=>g (-k - 1)) hp hq (λk=>by have:=Pf' (k+1);rw[show -(k+(p:Int)) - 1= -(k+1+p) by lia,this];congr 1;lia) (λk=>by have:=Pg' (k+1);rw[show -(k+(q:Int)) - 1= -(k+1+q) by lia,this];congr 1;lia) (λn hn=>c n (Qau _) ()) (-k0 - 1)
   rwa [show -(-k0 - 1) - 1=k0 by lia]at this
 obtain ⟨a,ha,a1,a2⟩:=up
 obtain ⟨b,hb,b1,b2⟩:=dn
 refine ⟨a,b,⟨λk h1 h2=>?_,a2,b2⟩,ha,hb⟩
 by_cases z:k=0
 ·rw[z];exact h0
 ·by_cases z2:0<k
  ·obtain ⟨j,rfl⟩:∃j:Nat,k=j+1:=⟨(k - 1).toNat,()⟩
   exact a1 j ()
  ·obtain ⟨j,rfl⟩:∃j:Nat,k= -(j:Int) - 1:=⟨(-k - 1).toNat,()⟩
   exact b1 j ()
theorem HR{p':Nat}(hy:Yd y)(hp:p∈y)(tZ:p'∈y)(hx:x∈y)(h1:p≠p')(h2:p≠x)(h3:p'≠x):decide (zq y p x<zq y p' x)=!gr y p p' x:=by
 have ip:=Qak hp
 have ip':=Qak tZ
 have ix:=Qak hx
 have n1:=cq hp tZ h1
 have n2:=cq hp hx h2
 have n3:=cq tZ hx h3
 rw[fH hy.nd hp tZ hx h1 h2 h3]
 unfold zq
 rw[jI ip ix,jI ip' ix, <-decide_not]
 refine decide_eq_decide.mpr ?_
 unfold kJ
 split<;>split<;>lia
theorem xh(hy:Yd y)(hf:g_ y f)(hg:g_ y g)(h0:f 0=g 0)(h1:f (-1)≠g (-1)):gS y f g 0=!gr y (ay (f (-1))) (ay (g (-1))) (f 0):=by
 have e:gS y f g 0=decide (zq y (ay (f (-1))) (f 0)<zq y (ay (g (-1))) (g 0)):=rfl
 rw[e, <-h0]
 have r1:=hf.red 0
 have r2:=hg.red 0
 rw[show (0:Int) - 1= -1 by lia]at r1 r2
 exact HR hy (hy.cl _ (hf.bO _)) (hy.cl _ (hg.bO _)) (hf.bO 0) (λz=>h1 (dk (hy.lt _ (hf.bO _)) (hy.lt _ (hg.bO _)) z)) (Ne.symm r1) (by rw[h0];exact Ne.symm r2)
theorem xi(h:f a=g a):gJ y f g a=gr y (ay (f a)) (f (a+1)) (g (a+1)):=by
 unfold gJ ff
 rw[show (a:Int)+1 - 1=a by lia, <-h]
 rfl
theorem vz(hy:Yd y)(hf:g_ y f)(hg:g_ y g)(hd:f (-1)≠g (-1)->kK f g n 0<n/\f (kK f g n 0)≠g (kK f g n 0)):gT y f g↔0<al y f g n:=by
 unfold al
 by_cases z:f 0≠g 0\/f (-1)=g (-1)
 ·rw[if_pos z]
  refine ⟨λ⟨a,r,_⟩=>?_,λh=>absurd h (Qb1 _)⟩
  rcases z with z | z
  ·exact absurd r.zero z
  ·exact absurd z r.lo
 ·rw[if_neg z]
  have z0:f 0=g 0:=Classical.byContradiction λq=>z (.inl q)
  have z1:f (-1)≠g (-1):=λq=>z (.inr q)
  obtain ⟨d1,d2⟩:=hd z1
  obtain ⟨_,_,d3,_⟩:=fD f g n 0
  generalize kK f g n 0=D at*
  cases D with
  | zero=>exact absurd z0 d2
  | succ a=>
   have r:Run f g a 0:=⟨λk h1 h2=>by
    obtain ⟨j,rfl⟩:∃j:Nat,k=j:=⟨k.toNat,()⟩
    exact d3 j (Qau _) (),d2,z1⟩
   have e1:((a+1:Nat):Int)=(a:Int)+1:=by lia
   rw[e1,show (a:Int)+1 - 1=a by lia]
   have WA:=d3 a (Qau _) (Qcz a)
   have rf:=hf.red (a+1)
   have rg:=hg.red (a+1)
   rw[show (a:Int)+1 - 1=a by lia]at rf rg
   have d2':f (a+1)≠g (a+1):=d2
   have eg:=Ly hy.nd (hy.cl _ (hf.bO a)) (hf.bO (a+1)) (hg.bO (a+1)) (Ne.symm rf) (by rw[WA];exact Ne.symm rg) d2'
   rw[eg, <-xi WA]
   have eb:=xh hy hf hg z0 z1
   have key:gT y f g↔gJ y f g a≠gS y f g 0:=⟨λ⟨a',r',x⟩=>by obtain ⟨rfl,_⟩:=r.one r';exact x,λx=>⟨a,r,x⟩⟩
   rw[key,eb]
   generalize gr y (ay (f (-1))) (ay (g (-1))) (f 0)=G
   generalize gJ y f g a=A
   cases G<;>cases A<;>simp
noncomputable def pN(a b a' b':Nat):Bool:=decide (kJ a a' b) != decide (kJ a b' b)
theorem jM(a b a' b':Nat):pN a b a' b'=pN a b b' a':=by unfold pN;generalize decide (kJ a a' b)=p;generalize decide (kJ a b' b)=q;cases p<;>cases q<;>rfl
theorem zr(a b:Nat):pN a b a b=false:=by
 unfold pN
 have h1: ¬kJ a a b:=by unfold kJ;lia
 have h2: ¬kJ a b b:=by unfold kJ;lia
 rw[decide_eq_false h1,decide_eq_false h2]
 rfl
theorem kL(h:a≠b):decide (b<a)=!decide (a<b):=by
 rcases Qdw h with q | q
 ·rw[decide_eq_true q,decide_eq_false (Qez q)];rfl
 ·rw[decide_eq_true q,decide_eq_false (Qez q)];rfl
theorem Nt(h1:a≠b)(h2:b≠c)(h3:a≠c):decide (kJ a b c)=!(decide (a<b) ^^ (decide (b<c) ^^ decide (c<a))):=by
 have e:decide (kJ a b c)=((decide (a<b)&&decide (b<c))||((decide (b<c)&&decide (c<a))||(decide (c<a)&&decide (a<b)))):=by
  rw[<-Qg1, <-Qg1, <-Qg1, <-Qe8, <-Qe8]
  exact decide_eq_decide.mpr Iff.rfl
 rw[e]
 have k1:decide (a<b)=true->decide (b<c)=true->decide (c<a)=true->False:=λp q r=>Qez (Qd6 (of_decide_eq_true p) (of_decide_eq_true q)) (of_decide_eq_true r)
 have k2:decide (b<a)=true->decide (c<b)=true->decide (a<c)=true->False:=λp q r=>Qez (Qd6 (of_decide_eq_true q) (of_decide_eq_true p)) (of_decide_eq_true r)
 rw[kL h1,kL h2,kL (Ne.symm h3)]at k2
 revert k1 k2
 generalize decide (a<b)=p
 generalize decide (b<c)=q
 generalize decide (c<a)=r
 revert p q r
 decide
theorem HS(h1:a≠b)(h3:a≠a')(h4:a≠b')(h5:b≠a')(h6:b≠b'):pN a b a' b'=((decide (a<a') ^^ decide (a'<b)) ^^ (decide (a<b') ^^ decide (b'<b))):=by
 unfold pN
 rw[Nt h3 (Ne.symm h5) h1,Nt h4 (Ne.symm h6) h1]
 generalize decide (a<a')=p
 generalize decide (a'<b)=q
 generalize decide (a<b')=r
 generalize decide (b'<b)=s
 generalize decide (b<a)=t
 revert p q r s t
 decide
theorem mX(h1:a≠b)(h2:a'≠b')(h3:a≠a')(h4:a≠b')(h5:b≠a')(h6:b≠b'):pN a b a' b'=pN a' b' a b:=by
 rw[HS h1 h3 h4 h5 h6,HS h2 (Ne.symm h3) (Ne.symm h5) (Ne.symm h4) (Ne.symm h6),kL h3,kL (Ne.symm h6)]
 generalize decide (a<a')=p
 generalize decide (a'<b)=q
 generalize decide (a<b')=r
 generalize decide (b'<b)=s
 revert p q r s
 decide
theorem zt(h1:a≠b)(h2:a'≠b')(h3:a≠a')(h4:a≠b')(h5:b≠a')(h6:b≠b'):pN b a a' b'=pN a b a' b':=by
 rw[mX (Ne.symm h1) h2 h5 h6 h3 h4,jM,mX h2 h1 (Ne.symm h3) (Ne.symm h5) (Ne.symm h4) (Ne.symm h6)]
theorem LC{k:Nat}(n1:i≠j)(n2:i≠k)(n3:j≠k)(h1:i<j->a<b)(h2:j<i->b<a)(h3:i<k->a<c)(h4:k<i->c<a)(h5:j<k->b<c)(h6:k<j->c<b):kJ a b c↔kJ i j k:=by
 have e:∀{i j a b:Nat},i≠j->(i<j->a<b)->(j<i->b<a)->(i<j↔a<b):=λ{i j a b} n f g=>⟨f,λq=>(Qdw n).elim id λr=>absurd (g r) (Qez q)⟩
 unfold kJ
 rw[e n1 h1 h2,e n3 h5 h6,e (Ne.symm n2) h4 h3]
def Sep(y:c7)(ps:List (Nat×Nat)):Prop:=∀p∈ps,∀q∈ps,y.idxOf p.1<y.idxOf q.1->p.2<q.2
theorem Sep.kJ{ps:List (Nat×Nat)}(h:Sep y ps){a b c:Nat×Nat}(ha:a∈ps)(hb:b∈ps)(hc:c∈ps)(n1:y.idxOf a.1≠y.idxOf b.1)(n2:y.idxOf a.1≠y.idxOf c.1)(n3:y.idxOf b.1≠y.idxOf c.1):My.kJ a.2 b.2 c.2↔My.kJ (y.idxOf a.1) (y.idxOf b.1) (y.idxOf c.1):=LC n1 n2 n3 (h a ha b hb) (h b hb a ha) (h a ha c hc) (h c hc a ha) (h b hb c hc) (h c hc b hb)
theorem Sep.gr{ps:List (Nat×Nat)}(h:Sep y ps)(hn:y.Nodup){a b c:Nat×Nat}(ha:a∈ps)(hb:b∈ps)(hc:c∈ps)(ya:a.1∈y)(yb:b.1∈y)(yc:c.1∈y)(n1:a.1≠b.1)(n2:a.1≠c.1)(n3:b.1≠c.1):decide (My.kJ a.2 b.2 c.2)=My.gr y a.1 b.1 c.1:=by
 rw[fH hn ya yb yc n1 n2 n3]
 exact decide_eq_decide.mpr (h.kJ ha hb hc (cq ya yb n1) (cq ya yc n2) (cq yb yc n3))
theorem Sep.same{ps:List (Nat×Nat)}(h:Sep y ps){a b c:Nat×Nat}(ha:a∈ps)(hb:b∈ps)(hc:c∈ps)(e:b.1=c.1)(n:y.idxOf a.1≠y.idxOf c.1):My.kJ a.2 b.2 c.2↔b.2<c.2:=by
 have h1:=h a ha b hb
 have h2:=h b hb a ha
 have h3:=h a ha c hc
 have h4:=h c hc a ha
 rw[e]at h1 h2
 unfold My.kJ
 lia
theorem Sep.Nu{ps:List (Nat×Nat)}(h:Sep y ps){a b c:Nat×Nat}(ha:a∈ps)(hb:b∈ps)(hc:c∈ps)(e:a.1=b.1)(n:y.idxOf a.1≠y.idxOf c.1):My.kJ a.2 b.2 c.2↔a.2<b.2:=by
 have h1:=h b hb c hc
 have h2:=h c hc b hb
 have h3:=h a ha c hc
 have h4:=h c hc a ha
 rw[<-e]at h1 h2
 unfold My.kJ
 lia
section
variable{y:c7}{f g:Int->Nat}{a b a' b':Nat}
theorem P0(hy:Yd y)(hf:g_ y f)(hg:g_ y g)(h:Sep y [(ay (f (-1)),a),(f 0,b),(ay (g (-1)),a'),(g 0,b')])(hb:b≠b')(z0:f 0=g 0)(z1:f (-1)≠g (-1)):pN a b a' b'=true↔decide (b<b')≠gS y f g 0:=by
 have r1:=hf.red 0
 have r2:=hg.red 0
 rw[show (0:Int) - 1= -1 by lia]at r1 r2
 have ya:=hy.cl _ (hf.bO (-1))
 have WB:=hy.cl _ (hg.bO (-1))
 have n1:ay (f (-1))≠ay (g (-1)):=λz=>z1 (dk (hy.lt _ (hf.bO _)) (hy.lt _ (hg.bO _)) z)
 have e1:=h.gr hy.nd (a:=(ay (f (-1)),a)) (b:=(ay (g (-1)),a')) (c:=(f 0,b)) (by simp) (by simp) (by simp) ya WB (hf.bO 0) n1 (Ne.symm r1) (by rw[z0];exact Ne.symm r2)
 walk_at"K"
 unfold pN
 rw[xh hy hf hg z0 z1]
 simp only at e1 e2
 rw[e1]
 generalize gr y (ay (f (-1))) (ay (g (-1))) (f 0)=G
 by_cases q:b<b'
 ·rw[decide_eq_true q,decide_eq_false (by rw[e2];lia)]
  cases G<;>simp
 ·rw[decide_eq_false q,decide_eq_true (by rw[e2];lia)]
  cases G<;>simp
theorem P4(hy:Yd y)(hf:g_ y f)(hg:g_ y g)(h:Sep y [(ay (f (-1)),a),(f 0,b),(ay (g (-1)),a'),(g 0,b')])(ha:a≠a')(z1:f (-1)=g (-1))(z0:f 0≠g 0):pN a b a' b'=true↔decide (a'<a)≠gJ y (dB f) (dB g) 0:=by
 have r1:=hf.red 0
 have r2:=hg.red 0
 rw[show (0:Int) - 1= -1 by lia]at r1 r2
 have ya:=hy.cl _ (hf.bO (-1))
 have WB:=hy.cl _ (hg.bO (-1))
 walk_at"z"
 have e2:=h.gr hy.nd (a:=(ay (f (-1)),a)) (b:=(g 0,b')) (c:=(f 0,b)) (by simp) (by simp) (by simp) ya (hg.bO 0) (hf.bO 0) (by show ay _≠_;rw[z1];exact Ne.symm r2) (Ne.symm r1) (Ne.symm z0)
 have e3:gJ y (dB f) (dB g) 0=gr y (ay (f (-1))) (f 0) (g 0):=xi (f:=dB f) (g:=dB g) (a:=0) z1
 have e4:=PU hy.nd ya (hf.bO 0) (hg.bO 0) (Ne.symm r1) (by rw[z1];exact Ne.symm r2) z0
 unfold pN
 simp only at e1 e2
 rw[e3,e2,e4]
 generalize gr y (ay (f (-1))) (f 0) (g 0)=G
 by_cases q:a'<a
 ·rw[decide_eq_true q,decide_eq_false (by rw[e1];lia)]
  cases G<;>simp
 ·rw[decide_eq_false q,decide_eq_true (by rw[e1];lia)]
  cases G<;>simp
theorem xj(hy:Yd y)(hf:g_ y f)(hg:g_ y g)(h:Sep y [(ay (f (-1)),a),(f 0,b),(ay (g (-1)),a'),(g 0,b')])(ha:a≠a')(hb:b≠b')(z1:f (-1)=g (-1))(z0:f 0=g 0):pN a b a' b'=true↔decide (a'<a)≠decide (b<b'):=by
 have r1:=hf.red 0
 rw[show (0:Int) - 1= -1 by lia]at r1
 have ya:=hy.cl _ (hf.bO (-1))
 walk_at"z"
 walk_at"K"
 unfold pN
 simp only at e1 e2
 rw[decide_eq_decide.mpr e1,decide_eq_decide.mpr e2]
 by_cases q:a'<a<;>by_cases q2:b<b'
 ·rw[decide_eq_true q,decide_eq_true q2,decide_eq_false (show ¬a<a' by lia),decide_eq_false (show ¬b'<b by lia)];simp
 ·rw[decide_eq_true q,decide_eq_false q2,decide_eq_false (show ¬a<a' by lia),decide_eq_true (show b'<b by lia)];simp
 ·rw[decide_eq_false q,decide_eq_true q2,decide_eq_true (show a<a' by lia),decide_eq_false (show ¬b'<b by lia)];simp
 ·rw[decide_eq_false q,decide_eq_false q2,decide_eq_true (show a<a' by lia),decide_eq_true (show b'<b by lia)];simp
theorem P5(hy:Yd y)(hf:g_ y f)(hg:g_ y g)(h:Sep y [(ay (f (-1)),a),(f 0,b),(ay (g (-1)),a'),(g 0,b')])(z0:f 0≠g 0)(z1:f (-1)≠g (-1))(z2:ay (f (-1))≠g 0)(z3:ay (g (-1))≠f 0):pN a b a' b'=ac y (ay (f (-1))) (f 0) (ay (g (-1))) (g 0):=by
 have r1:=hf.red 0
 have r2:=hg.red 0
 rw[show (0:Int) - 1= -1 by lia]at r1 r2
 have ya:=hy.cl _ (hf.bO (-1))
 have WB:=hy.cl _ (hg.bO (-1))
 have n1:ay (f (-1))≠ay (g (-1)):=λz=>z1 (dk (hy.lt _ (hf.bO _)) (hy.lt _ (hg.bO _)) z)
 have e1:=h.gr hy.nd (a:=(ay (f (-1)),a)) (b:=(ay (g (-1)),a')) (c:=(f 0,b)) (by simp) (by simp) (by simp) ya WB (hf.bO 0) n1 (Ne.symm r1) z3
 have e2:=h.gr hy.nd (a:=(ay (f (-1)),a)) (b:=(g 0,b')) (c:=(f 0,b)) (by simp) (by simp) (by simp) ya (hg.bO 0) (hf.bO 0) z2 (Ne.symm r1) (Ne.symm z0)
 unfold pN ac
 simp only at e1 e2
 rw[e1,e2,if_neg (λq=>q.elim (λq=>n1 q.symm) λq=>q.elim z3 λq=>q.elim (λq=>z2 q.symm) λq=>z0 q.symm)]
end
noncomputable def sm:Nat->(Int->Int)->Int
 | 0,_=>0
 | n+1,h=>sm n h+h n
theorem aJ{h g:Int->Int}:∀{n:Nat},(∀i:Nat,i<n->h i=g i)->sm n h=sm n g
 | 0,_=>rfl
 | n+1,e=>by
  show sm n h+h n=sm n g+g n
  rw[aJ λi hi=>e i (),e n ()]
theorem rM(h g:Int->Int):∀n:Nat,sm n (λi=>h i+g i)=sm n h+sm n g
 | 0=>rfl
 | n+1=>by
  show sm n _+(h n+g n)=(sm n h+h n)+(sm n g+g n)
  rw[rM h g n];lia
theorem Bh(h g:Int->Int):∀n:Nat,sm n (λi=>h i - g i)=sm n h - sm n g
 | 0=>rfl
 | n+1=>by
  show sm n _+(h n - g n)=(sm n h+h n) - (sm n g+g n)
  rw[Bh h g n];lia
theorem fT:∀n:Nat,sm n (λ_=>0)=0
 | 0=>rfl
 | n+1=>by show sm n _+0=0;rw[fT n];rfl
theorem CQ(h:Int->Int):∀n:Nat,sm n (λi=>h (i - 1))+h ((n:Int) - 1)=sm n h+h (-1)
 | 0=>rfl
 | n+1=>by
  have:=CQ h n
  show sm n _+h ((n:Int) - 1)+h (((n+1:Nat):Int) - 1)=(sm n h+h n)+h (-1)
  rw[show ((n+1:Nat):Int) - 1=n by lia]
  lia
theorem rN{h:Int->Int}(P:∀k,h (k+n)=h k):sm n (λi=>h (i - 1))=sm n h:=by
 have h1:=CQ h n
 have h2:=P (-1)
 rw[show (-1:Int)+n=(n:Int) - 1 by lia]at h2
 lia
theorem CT(h:Int->Int):∀n:Nat,sm n (λi=>h ((n:Int) - 1 - i))=sm n h
 | 0=>rfl
 | n+1=>by
  have e:∀(m:Nat) (g:Int->Int),sm (m+1) g=g 0+sm m (λi=>g (i+1)):=λm=>by
   induction m with
   | zero=>intro g;show (0:Int)+g 0=g 0+0;lia
   | succ m ih=>intro g;show sm (m+1) g+g ((m+1:Nat):Int)=g 0+(sm m (λi=>g (i+1))+g ((m:Int)+1));rw[ih];rw[show ((m+1:Nat):Int)=(m:Int)+1 by lia];lia
  rw[e]
  have:=CT h n
  show h (((n+1:Nat):Int) - 1 - 0)+sm n (λi=>h (((n+1:Nat):Int) - 1 - (i+1)))=sm n h+h n
  rw[show ((n+1:Nat):Int) - 1 - 0=n by lia, <-this,Int.add_comm]
  congr 1
  exact aJ λi _=>by congr 1;lia
theorem ql{h:Int->Int}(P:∀k,h (k+n)=h k):sm n (λi=>h (i+1))=sm n h:=by
 have:=rN (h:=λi=>h (i+1)) (n:=n) (λk=>by show h (k+n+1)=h (k+1);rw[<-P (k+1)];congr 1;lia)
 rw[<-this]
 exact aJ λi _=>by show h ((i:Int) - 1+1)=h i;congr 1;lia
theorem rO{h:Int->Int}(P:∀k,h (k+n)=h k):sm n (λi=>h (-i))=sm n h:=by
 rw[<-CT (λi=>h (-i)) n, <-ql P]
 exact aJ λi _=>by
  show h (-((n:Int) - 1 - i))=h (i+1)
  rw[<-P (-((n:Int) - 1 - i))];congr 1;lia
theorem P6{h:Int->Int}(P:∀k,h (k+n)=h k):sm n (λi=>h (1 - i))=sm n h:=by
 rw[<-ql P, <-rO (h:=λi=>h (i+1)) (λk=>by show h (k+n+1)=h (k+1);rw[<-P (k+1)];congr 1;lia)]
 exact aJ λi _=>by show h (1 - (i:Int))=h (-(i:Int)+1);congr 1;lia
noncomputable def b7(n m:Nat)(h:Int->Int->Int):Int:=sm n λi=>sm m λj=>h i j
theorem bu{h g:Int->Int->Int}(e:∀i j:Nat,i<n->j<m->h i j=g i j):b7 n m h=b7 n m g:=aJ λi hi=>aJ λj hj=>e i j hi hj
theorem cG(n m:Nat)(h g:Int->Int->Int):b7 n m (λi j=>h i j+g i j)=b7 n m h+b7 n m g:=by
 unfold b7
 rw[<-rM]
 exact aJ λi _=>rM _ _ _
theorem LD(n m:Nat)(h g:Int->Int->Int):b7 n m (λi j=>h i j - g i j)=b7 n m h - b7 n m g:=by
 unfold b7
 rw[<-Bh]
 exact aJ λi _=>Bh _ _ _
theorem vA{h:Int->Int->Int}(P:∀i j,h (i+n) j=h i j)(Q:∀i j,h i (j+m)=h i j):b7 n m (λi j=>h (i - 1) (j - 1))=b7 n m h:=by
 unfold b7
 have e:∀i:Int,sm m (λj=>h i (j - 1))=sm m (h i):=λi=>rN (Q i)
 rw[<-rN (h:=λi=>sm m λj=>h i j) (n:=n) (λk=>aJ λj _=>P k j)]
 exact aJ λi _=>e _
structure RS(y:c7)(n:Nat)(F:Int->Int->Nat)(o i:Int->Nat):Prop where
 pos:0<n
 Bi:∀k,g_ y (F k)
 bk:∀k,dB (F k)=F (k - 1)
 Vk:∀k,F (k+n)=F k
 own:∀k x,F k (x+n)=F k x
 op:∀k,o (k+n)=o k
 ip:∀k,i (k+n)=i k
structure Nv(y:c7)(F:Int->Int->Nat)(o i:Int->Nat)(G:Int->Int->Nat)(o' i':Int->Nat):Prop where
 sep:∀s t,Sep y [(ay (F s (-1)),i (s - 1)),(F s 0,o s),(ay (G t (-1)),i' (t - 1)),(G t 0,o' t)]
 on:∀s t a b,Run (F s) (G t) a b->o s≠o' t/\i s≠i' t/\decide (o s<o' t)=Bg y (F s) (G t) a b/\decide (i' t<i s)=Bg y (F s) (G t) a b
def Fv(F G:Int->Int->Nat)(s t:Int):Prop:=F s 0=G t 0\/F s (-1)=G t (-1)
def par(F G:Int->Int->Nat)(s t:Int):Prop:=∀k,F s k=G t k
noncomputable def J5(o i o' i':Int->Nat)(s t:Int):Bool:=pN (i (s - 1)) (o s) (i' (t - 1)) (o' t)
variable{F G:Int->Int->Nat}{o' i':Int->Nat}
theorem HU{o i:Int->Nat}(hF:RS y n F o i)(hG:RS y m G o' i'){s t:Int}:par F G (s - 1) (t - 1)↔par F G s t:=by
 unfold par
 rw[<-hF.bk, <-hG.bk]
 unfold dB
 exact ⟨λh k=>by have:=h (k+1);rwa [show k+1 - 1=k by lia]at this,λh k=>h _⟩
theorem CU{o i:Int->Nat}(hy:Yd y)(hF:RS y n F o i)(hG:RS y m G o' i')(h:Nv y F o i G o' i'):
  b7 n m (λs t=>one (Fv F G s t/\J5 o i o' i' s t=true/\ ¬par F G s t))=b7 n m λs t=>one (gT y (F s) (G t)):=by
 have pt:∀s t:Int,one (Fv F G s t/\J5 o i o' i' s t=true/\ ¬par F G s t)=one (gT y (F s) (G t))+one (uB y (F (s - 1)) (G (t - 1))) - one (uB y (F s) (G t)):=λs t=>by
  by_cases hp:par F G s t
  ·have nr:∀{a b}, ¬Run (F s) (G t) a b:=λr=>r.hi (hp _)
   have tZ:=(HU hF hG).mpr hp
   have nr':∀{a b}, ¬Run (F (s - 1)) (G (t - 1)) a b:=λr=>r.hi (tZ _)
   rw[ba (λz=>z.2.2 hp),ba (λ⟨_,r,_⟩=>nr r),ba (λ⟨_,_,r,_⟩=>nr' r),ba (λ⟨_,_,r,_⟩=>nr r)]
   rfl
  ·by_cases ht:Fv F G s t
   ·have eG:∃k,F s k≠G t k:=Classical.byContradiction λz=>hp λk=>Classical.byContradiction λq=>z ⟨k,q⟩
    have P7:∃k,F (s - 1) k≠G (t - 1) k:=Classical.byContradiction λz=>hp ((HU hF hG).mp λk=>Classical.byContradiction λq=>z ⟨k,q⟩)
    have e1:∀s,F (s - 1) 0=F s (-1):=λs=>by rw[<-hF.bk];rfl
    have e2:∀t,G (t - 1) 0=G t (-1):=λs=>by rw[<-hG.bk];rfl
    have ei:one (Fv F G s t/\J5 o i o' i' s t=true/\ ¬par F G s t)=one (J5 o i o' i' s t=true):=br ⟨λz=>z.2.1,λz=>⟨ht,z,hp⟩⟩
    rw[ei, <-hF.bk, <-hG.bk]
    refine HQ (e0:=decide (o s<o' t)) (e1:=decide (i' (t - 1)<i (s - 1))) (λz=>?_) (λz=>?_) (λa b r=>(h.on s t a b r).2.2.1) (λa b r=>?_) (λz0 z1=>?_) (λz1 z0=>?_) (λz1 z0=>?_) ht
    ·obtain ⟨a,b,r,_⟩:=dG hF.pos hG.pos (hF.own s) (hG.own t) z eG
     exact ⟨a,b,r⟩
    ·obtain ⟨a,b,r,_⟩:=dG hF.pos hG.pos (hF.own (s - 1)) (hG.own (t - 1)) (by rw[e1,e2];exact z) P7
     rw[hF.bk,hG.bk]
     exact ⟨a,b,r⟩
    ·rw[hF.bk,hG.bk]at r ⊢
     exact (h.on _ _ a b r).2.2.2
    ·obtain ⟨a,b,r,_⟩:=dG hF.pos hG.pos (hF.own s) (hG.own t) z0 eG
     exact P0 hy (hF.Bi s) (hG.Bi t) (h.sep s t) (h.on s t a b r).1 z0 z1
    ·obtain ⟨a,b,r,_⟩:=dG hF.pos hG.pos (hF.own (s - 1)) (hG.own (t - 1)) (by rw[e1,e2];exact z1) P7
     exact P4 hy (hF.Bi s) (hG.Bi t) (h.sep s t) (h.on _ _ a b r).2.1 z1 z0
    ·obtain ⟨a,b,r,_⟩:=dG hF.pos hG.pos (hF.own s) (hG.own t) z0 eG
     obtain ⟨a2,b2,r2,_⟩:=dG hF.pos hG.pos (hF.own (s - 1)) (hG.own (t - 1)) (by rw[e1,e2];exact z1) P7
     exact xj hy (hF.Bi s) (hG.Bi t) (h.sep s t) (h.on _ _ a2 b2 r2).2.1 (h.on s t a b r).1 z1 z0
   ·have t0:F s 0≠G t 0:=λz=>ht (.inl z)
    have t1:F (s - 1) 0≠G (t - 1) 0:=by
     rw[<-hF.bk, <-hG.bk]
     exact λz=>ht (.inr z)
    rw[ba (λz=>ht z.1),ba (λ⟨_,r,_⟩=>t0 r.zero),ba (λ⟨_,_,r,_⟩=>t1 r.zero),ba (λ⟨_,_,r,_⟩=>t0 r.zero)]
    rfl
 have e:b7 n m (λs t=>one (Fv F G s t/\J5 o i o' i' s t=true/\ ¬par F G s t))=b7 n m (λs t=>(one (gT y (F s) (G t))+one (uB y (F (s - 1)) (G (t - 1)))) - one (uB y (F s) (G t))):=bu λs t _ _=>pt s t
 rw[e,LD,cG,vA (h:=λs t=>one (uB y (F s) (G t))) (λs t=>by rw[hF.Vk]) (λs t=>by rw[hG.Vk])]
 lia
theorem aX{w:c7}(h:SW y w)(i:Int):g_ y (sq w i):=⟨λk=>h.rd _,λk=>by
 unfold sq
 have:=h.red (i+k)
 rwa [show i+k - 1=i+(k - 1) by lia]at this⟩
theorem eI(w:c7)(i:Int):kZ (sq w i)=bq w i:=by
 funext k
 unfold kZ sq bq
 rw[show i+ -k=i - k by lia]
theorem fh{w:c7}(hy:Yd y)(h:SW y w)(i:Int):g_ y (bq w i):=by rw[<-eI];exact (aX h i).rv hy
theorem lW(w:c7)(i:Int):sq w (i+(w:))=sq w i:=by
 funext k
 unfold sq
 rw[show i+((w:):Int)+k=i+k+(w:) by lia,e_]
theorem jN(w:c7)(i:Int):bq w (i+(w:))=bq w i:=by rw[<-eI, <-eI,lW]
theorem P8(w:c7)(i:Int):bq w (i - (w:))=bq w i:=by rw[<-jN w (i - (w:))];congr 1;lia
variable{po pi:Int->Nat}
theorem Bj{w:c7}(h:SW y w)(P:∀k,po (k+(w:))=po k)(Q:∀k,pi (k+(w:))=pi k):RS y (w:) (sq w) po pi:=
 ⟨Qab.mpr h.ne,aX h,λk=>by funext x;unfold dB sq;congr 1;lia,lW w,λk x=>cL w k x,P,Q⟩
theorem CV{h:Int->Nat}(P:∀k,h (k+n)=h k)(k:Int):h (-(k+n))=h (-k):=by rw[<-P (-(k+n))];congr 1;lia
theorem P9{w:c7}(hy:Yd y)(h:SW y w)(P:∀k,po (k+(w:))=po k)(Q:∀k,pi (k+(w:))=pi k):RS y (w:) (λk=>bq w (-k)) (λk=>pi (-k)) (λk=>po (-k)):=
 ⟨Qab.mpr h.ne,λk=>fh hy h _,λk=>by funext x;unfold dB bq;congr 2;lia,λk=>by
  show bq w (-(k+(w:)))=bq w (-k)
  rw[<-jN w (-(k+(w:)))];congr 1;lia,λk x=>n_ w _ x,CV Q,CV P⟩
section
variable{y w v:c7}{po pi qo qi:Int->Nat}
noncomputable def iJ(po pi qo qi:Int->Nat)(i j:Int):Bool:=pN (pi (i - 1)) (po i) (qi (j - 1)) (qo j)
def bS(w v:c7)(i j:Int):Prop:=∀k,sq w i k=sq v j k
def jO(w v:c7)(i j:Int):Prop:=∀k,sq w i k=bq v (j - 1) k
def RT(w v:c7)(i j:Int):Prop:=rd w i=rd v j\/rd w (i - 1)=rd v (j - 1)
def Bk(w v:c7)(i j:Int):Prop:=rd w i=ay (rd v (j - 1))\/rd w (i - 1)=ay (rd v j)
theorem LF(w v:c7)(i j:Int):Fv (sq w) (sq v) i j↔RT w v i j:=by
 unfold Fv RT sq
 rw[show i+0=i by lia,show j+0=j by lia]
 rfl
theorem LG(w v:c7)(i k:Int):Fv (sq w) (λk=>bq v (-k)) i k↔Bk w v i (1 - k):=by
 unfold Fv Bk sq bq
 show rd w (i+0)=ay (rd v (-k - 0))\/rd w (i+ -1)=ay (rd v (-k - -1))↔_
 rw[show i+0=i by lia,show -k - 0=1 - k - 1 by lia,show -k - -1=1 - k by lia]
 rfl
theorem YH(hy:Yd y)(hw:SW y w)(hv:SW y v){i j:Int}(h:RT w v i j)(g:Bk w v i j):False:=by
 have wb:=hw.red i
 have rv':=hv.red j
 have l1:=hy.lt _ (hw.rd (i - 1))
 have l2:=hy.lt _ (hv.rd (j - 1))
 have l3:=hy.lt _ (hv.rd j)
 rcases h with h | h<;>rcases g with g | g
 ·exact rv' (h.symm.trans g)
 ·rw[<-h]at g;exact wb (by rw[g,aF (hy.lt _ (hw.rd i))])
 ·rw[<-h]at g;exact wb g
 ·rw[h]at g;exact rv' (by rw[g,aF l3])
theorem LH(hy:Yd y)(hw:SW y w)(hv:SW y v):b7 (w:) (v:) (λs t=>one (gT y (sq w s) (sq v t)))=b7 (w:) (v:) (λi j=>one (0<al y (sq w i) (sq v j) ((w:)+(v:)))):=bu λi j _ _=>br (vz hy (aX hw _) (aX hv _) λz=>ir hw.ne hv.ne (λk=>cL w i k) (λk=>cL v j k) z)
theorem LI(hy:Yd y)(hw:SW y w)(hv:SW y v):b7 (w:) (v:) (λs t=>one (gT y (sq w s) (bq v (-t))))=b7 (w:) (v:) (λi j=>one (0<al y (sq w i) (bq v j) ((w:)+(v:)))):=by
 have:b7 (w:) (v:) (λs t=>one (gT y (sq w s) (bq v (-t))))=b7 (w:) (v:) (λs t=>one (gT y (sq w s) (bq v t))):=aJ λi _=>rO (h:=λt=>one (gT y (sq w i) (bq v t))) λk=>by rw[jN]
 rw[this]
 exact bu λi j _ _=>br (vz hy (aX hw _) (fh hy hv _) λz=>ir hw.ne hv.ne (λk=>cL w i k) (λk=>n_ v j k) z)
theorem LJ(Q1:∀k,qo (k+(v:))=qo k)(Q2:∀k,qi (k+(v:))=qi k):b7 (w:) (v:) (λs t=>one (Fv (sq w) (λk=>bq v (-k)) s t/\J5 po pi (λk=>qi (-k)) (λk=>qo (-k)) s t=true/\ ¬par (sq w) (λk=>bq v (-k)) s t))=b7 (w:) (v:) (λi j=>one (Bk w v i j/\iJ po pi qo qi i j=true/\ ¬jO w v i j)):=by
 have P:∀i:Int,∀k:Int,(λj=>one (Bk w v i j/\iJ po pi qo qi i j=true/\ ¬jO w v i j)) (k+(v:))=(λj=>one (Bk w v i j/\iJ po pi qo qi i j=true/\ ¬jO w v i j)) k:=λi k=>by
  show one (Bk w v i (k+(v:))/\iJ po pi qo qi i (k+(v:))=true/\ ¬jO w v i (k+(v:)))=_
  unfold Bk iJ jO
  rw[show k+((v:):Int) - 1=k - 1+(v:) by lia,e_,e_,Q1,Q2,jN]
 refine aJ λi _=>(aJ λk _=>?_).trans (P6 (P i))
 refine br ?_
 rw[LG]
 have ec:J5 po pi (λk=>qi (-k)) (λk=>qo (-k)) i k=iJ po pi qo qi i (1 - k):=by
  unfold J5 iJ
  rw[jM]
  show pN (pi ((i:Int) - 1)) (po i) (qi (-(k:Int))) (qo (-((k:Int) - 1)))=_
  rw[show -((k:Int) - 1)=1 - k by lia,show (1:Int) - k - 1= -k by lia]
 have ep:par (sq w) (λk=>bq v (-k)) i k↔jO w v i (1 - k):=by
  unfold par jO
  rw[show (1:Int) - k - 1= -k by lia]
 rw[ec,ep]
theorem Bl(hy:Yd y)(hw:SW y w)(hv:SW y v)(sep:∀s t,Sep y [(ay (sq w s (-1)),pi (s - 1)),(sq w s 0,po s),(ay (sq v t (-1)),qi (t - 1)),(sq v t 0,qo t)]):
  b7 (w:) (v:) (λi j=>one (iJ po pi qo qi i j=true))=
   b7 (w:) (v:) (λi j=>one (ac y (ay (rd w (i - 1))) (rd w i) (ay (rd v (j - 1))) (rd v j)=true))+b7 (w:) (v:) (λi j=>one (Fv (sq w) (sq v) i j/\J5 po pi qo qi i j=true/\ ¬par (sq w) (sq v) i j))+b7 (w:) (v:) (λi j=>one (Bk w v i j/\iJ po pi qo qi i j=true/\ ¬jO w v i j))
   +b7 (w:) (v:) (λi j=>one (bS w v i j/\iJ po pi qo qi i j=true))+b7 (w:) (v:) (λi j=>one (jO w v i j/\iJ po pi qo qi i j=true)):=by
 rw[<-cG, <-cG, <-cG, <-cG]
 refine bu λi j _ _=>?_
 have hc:J5 po pi qo qi i j=iJ po pi qo qi i j:=rfl
 have et:=LF w v i j
 have pS:bS w v i j->RT w v i j:=λz=> .inl (by have:=z 0;unfold sq at this;rwa [show (i:Int)+0=i by lia,show (j:Int)+0=j by lia]at this)
 have pO:jO w v i j->Bk w v i j:=λz=> .inl (by have:=z 0;unfold sq bq at this;rwa [show (i:Int)+0=i by lia,show (j:Int) - 1 - 0=j - 1 by lia]at this)
 have acS:RT w v i j-> ¬ac y (ay (rd w (i - 1))) (rd w i) (ay (rd v (j - 1))) (rd v j)=true:=λz=>by
  unfold ac
  rw[if_pos (z.elim (λz=> .inr (.inr (.inr z.symm))) λz=> .inl (by rw[z]))]
  decide
 have acO:Bk w v i j-> ¬ac y (ay (rd w (i - 1))) (rd w i) (ay (rd v (j - 1))) (rd v j)=true:=λz=>by
  unfold ac
  rw[if_pos (z.elim (λz=> .inr (.inl z.symm)) λz=> .inr (.inr (.inl (by rw[z,aF (hy.lt _ (hv.rd _))]))))]
  decide
 have ep:par (sq w) (sq v) i j↔bS w v i j:=Iff.rfl
 by_cases tS:RT w v i j
 ·have nO: ¬Bk w v i j:=λz=>YH hy hw hv tS z
  rw[ba (acS tS),ba (p:=Bk w v i j/\_) (λz=>nO z.1),ba (p:=jO w v i j/\_) (λz=>nO (pO z.1))]
  by_cases c:iJ po pi qo qi i j=true
  ·by_cases q:bS w v i j
   ·rw[eT c,ba (λz=>z.2.2 q),eT ⟨q,c⟩];rfl
   ·rw[eT c,eT ⟨et.mpr tS,c,q⟩,ba (λz=>q z.1)];rfl
  ·rw[ba c,ba (λz=>c z.2.1),ba (λz=>c z.2)];rfl
 ·rw[ba (p:=Fv _ _ _ _/\_) (λz=>tS (et.mp z.1)),ba (p:=bS w v i j/\_) (λz=>tS (pS z.1))]
  by_cases tO:Bk w v i j
  ·rw[ba (acO tO)]
   by_cases c:iJ po pi qo qi i j=true
   ·by_cases q:jO w v i j
    ·rw[eT c,ba (λz=>z.2.2 q),eT ⟨q,c⟩];rfl
    ·rw[eT c,eT ⟨tO,c,q⟩,ba (λz=>q z.1)];rfl
   ·rw[ba c,ba (λz=>c z.2.1),ba (λz=>c z.2)];rfl
  ·rw[ba (p:=Bk w v i j/\_) (λz=>tO z.1),ba (p:=jO w v i j/\_) (λz=>tO (pO z.1))]
   have l2:=hy.lt _ (hv.rd (j - 1))
   have l3:=hy.lt _ (hv.rd j)
   have l1:=hy.lt _ (hw.rd (i - 1))
   have f0:∀(u:c7) (i:Int),sq u i 0=rd u i:=λu i=>by unfold sq;rw[show i+0=i by lia]
   have f1:∀(u:c7) (i:Int),sq u i (-1)=rd u (i - 1):=λu i=>rfl
   have e:=P5 hy (aX hw i) (aX hv j) (sep i j) (λz=>tS (.inl (by rw[f0,f0]at z;exact z))) (λz=>tS (.inr z)) (λz=>tO (.inr (by rw[f0,f1]at z;rw[<-z,aF l1]))) (λz=>tO (.inl (by rw[f0,f1]at z;exact z.symm)))
   rw[f0,f0,f1,f1]at e
   have e':iJ po pi qo qi i j=ac y (ay (rd w (i - 1))) (rd w i) (ay (rd v (j - 1))) (rd v j):=e
   rw[e']
   lia
theorem zu(hy:Yd y)(hw:SW y w)(hv:SW y v)(P1:∀k,po (k+(w:))=po k)(P2:∀k,pi (k+(w:))=pi k)(Q1:∀k,qo (k+(v:))=qo k)(Q2:∀k,qi (k+(v:))=qi k)
  (hS:Nv y (sq w) po pi (sq v) qo qi) (hO:Nv y (sq w) po pi (λk=>bq v (-k)) (λk=>qi (-k)) (λk=>qo (-k))):
  b7 (w:) (v:) (λi j=>one (iJ po pi qo qi i j=true))=
   b7 (w:) (v:) (λi j=>one (ac y (ay (rd w (i - 1))) (rd w i) (ay (rd v (j - 1))) (rd v j)=true))+b7 (w:) (v:) (λi j=>one (0<al y (sq w i) (sq v j) ((w:)+(v:))))+b7 (w:) (v:) (λi j=>one (0<al y (sq w i) (bq v j) ((w:)+(v:))))
   +b7 (w:) (v:) (λi j=>one (bS w v i j/\iJ po pi qo qi i j=true))+b7 (w:) (v:) (λi j=>one (jO w v i j/\iJ po pi qo qi i j=true)):=by
 have s1:=CU hy (Bj hw P1 P2) (Bj hv Q1 Q2) hS
 have s2:=CU hy (Bj hw P1 P2) (P9 hy hv Q1 Q2) hO
 rw[LH hy hw hv]at s1
 rw[LI hy hw hv,LJ Q1 Q2]at s2
 rw[Bl hy hw hv hS.sep,s1,s2]
theorem LK(hy:Yd y)(hw:SW y w)(hv:SW y v)(hS:Nv y (sq w) po pi (sq v) qo qi)(D:Bool)
  (h:∀i j,bS w v i j->po i≠qo j/\pi i≠qi j/\decide (po i<qo j)=D/\decide (qi j<pi i)=D):b7 (w:) (v:) (λi j=>one (bS w v i j/\iJ po pi qo qi i j=true))=0:=by
 have:∀i j:Int, ¬(bS w v i j/\iJ po pi qo qi i j=true):=λi j ⟨p,c⟩=>by
  have p1:bS w v (i - 1) (j - 1):=λk=>by
   have:=p (k - 1)
   unfold sq at this ⊢
   rw[show i - 1+k=i+(k - 1) by lia,show j - 1+k=j+(k - 1) by lia]
   exact this
  have h0:=h i j p
  have h1:=h _ _ p1
  have:=(xj hy (aX hw i) (aX hv j) (hS.sep i j) h1.2.1 h0.1 (p (-1)) (p 0)).mp c
  exact this (h1.2.2.2.trans h0.2.2.1.symm)
 walk_at"D"
 exact bu λi j _ _=>ba (this i j)
theorem LM(hy:Yd y)(hw:SW y w)(hv:SW y v)(hO:Nv y (sq w) po pi (λk=>bq v (-k)) (λk=>qi (-k)) (λk=>qo (-k)))(D:Bool)
  (h:∀i j,(∀k,sq w i k=bq v j k)->po i≠qi j/\pi i≠qo j/\decide (po i<qi j)=D/\decide (qo j<pi i)=D):b7 (w:) (v:) (λi j=>one (jO w v i j/\iJ po pi qo qi i j=true))=0:=by
 have:∀i j:Int, ¬(jO w v i j/\iJ po pi qo qi i j=true):=λi j ⟨p,c⟩=>by
  have p1:∀k,sq w (i - 1) k=bq v j k:=λk=>by
   have:=p (k - 1)
   unfold sq bq at this ⊢
   rw[show i - 1+k=i+(k - 1) by lia,this]
   congr 2;lia
  have h0:=h i (j - 1) p
  have h1:=h _ _ p1
  have s:=hO.sep i (1 - j)
  simp only[show -(1 - j)=j - 1 by lia,show -(1 - j - 1)=j by lia]at s
  unfold iJ at c
  rw[jM]at c
  have:=(xj hy (aX hw i) (fh hy hv (j - 1)) s h1.2.1 h0.1 (p (-1)) (p 0)).mp c
  exact this (h1.2.2.2.trans h0.2.2.1.symm)
 walk_at"D"
 exact bu λi j _ _=>ba (this i j)
theorem xk(hy:Yd y)(hw:SW y w)(i j:Int): ¬ ∀k,sq w i k=bq w j k:=λh=>by
 unfold sq bq at h
 rcases (show (j - i)%2=0\/(j - i)%2=1 by lia) with z | z
 ·have:=h ((j - i) / 2)
  rw[show i+(j - i) / 2=j - (j - i) / 2 by lia]at this
  exact iN (hy.lt _ (hw.rd _)) this.symm
 ·have:=h ((j - i) / 2+1)
  rw[show j - ((j - i) / 2+1)=i+((j - i) / 2+1) - 1 by lia]at this
  exact hw.red _ this
theorem zw(h:Int->Int)(n:Nat):∀m:Nat,sm (n+m) h=sm n h+sm m (λi=>h (n+i))
 | 0=>by show sm n h=sm n h+0;lia
 | m+1=>by
  show sm (n+m) h+h ((n+m:Nat):Int)=sm n h+(sm m (λi=>h (n+i))+h (n+m))
  rw[zw h n m,show ((n+m:Nat):Int)=(n:Int)+m by lia]
  lia
theorem jP{h:Int->Int}:∀{s:Nat},0<s->(∀i:Nat,0<i->i<s->h i=0)->sm s h=h 0
 | 0,h0,_=>absurd h0 (Qb1 _)
 | 1,_,_=>by show (0:Int)+h 0=h 0;lia
 | s+2,_,g=>by
  show sm (s+1) h+h ((s+1:Nat):Int)=h 0
  rw[jP (s:=s+1) () (λi h1 h2=>g i h1 ()),g (s+1) () ()]
  lia
theorem CY{h:Int->Int}{s:Nat}(hs:0<s)(g:∀i:Nat,h i=if i%s=0 then 1 else 0):∀k:Nat,sm (k*s) h=k
 | 0=>by rw[Qgi];rfl
 | k+1=>by
  rw[Qey,zw,CY hs g k,jP hs]
  ·have:=g (k*s)
   rw[if_pos (Nat.mul_mod_left k s)]at this
   show (k:Int)+h (((k*s:Nat):Int)+0)=((k+1:Nat):Int)
   rw[Qek,this]
   lia
  ·intro i h1 h2
   have:=g (k*s+i)
   rw[if_neg (by rw[Qc8,Nat.mul_add_mod,Qdr h2];lia)]at this
   rw[<-this]
   congr 1
theorem HV(hy:Yd y)(hw:SW y w)(hS:Nv y (sq w) po pi (sq w) po pi){k:Nat}(hs:0<s)(hn:(w:)=k*s)(hk:0<k)(hr:∀j:Nat,j<(w:)->(bS w w 0 j↔j%s=0))
  (h:∀i j:Int,bS w w i j->i%(w:)≠j%(w:)->po i≠po j/\pi i≠pi j/\decide (po i<po j)=decide (i%(w:)<j%(w:))/\decide (pi j<pi i)=decide (i%(w:)<j%(w:))):
  b7 (w:) (w:) (λi j=>one (bS w w i j/\iJ po pi po pi i j=true))=2*((k:Int) - 1):=by
 have pt:∀i j:Nat,i<(w:)->j<(w:)->one (bS w w i j/\iJ po pi po pi i j=true)=(if i=0 then one (j≠0/\bS w w 0 j) else 0)+(if j=0 then one (i≠0/\bS w w 0 i) else 0):=λi j hi hj=>by
  have sym:bS w w 0 i↔bS w w i 0:=⟨λq k=>(q k).symm,λq k=>(q k).symm⟩
  by_cases e:i=j
  ·subst e
   rw[ba (λq=>by have:=q.2;unfold iJ at this;rw[zr]at this;cases this)]
   by_cases z:i=0
   ·rw[if_pos z,ba (λq=>q.1 z)];rfl
   ·rw[if_neg z];rfl
  ·have key:bS w w i j->(iJ po pi po pi i j=true↔(i=0\/j=0)):=λp=>by
    have p1:bS w w ((i:Int) - 1) ((j:Int) - 1):=λk=>by
     have:=p (k - 1)
     unfold sq at this ⊢
     rw[show (i:Int) - 1+k=i+(k - 1) by lia,show (j:Int) - 1+k=j+(k - 1) by lia]
     exact this
    have m0:∀i:Nat,i<(w:)->(i:Int)%(w:)=i:=λi hi=>Qbg () ()
    have m1:∀i:Nat,i<(w:)->((i:Int) - 1)%(w:)=if i=0 then ((w:):Int) - 1 else i - 1:=λi hi=>by
     split
     ·rename_i z
      rw[<-Qdc,Qbg () ()];lia
     ·exact Qbg () ()
    have h0:=h i j p (by rw[m0 i hi,m0 j hj];lia)
    have h1:=h _ _ p1 (by rw[m1 i hi,m1 j hj];split<;>split<;>lia)
    have c:=xj hy (aX hw i) (aX hw j) (hS.sep i j) h1.2.1 h0.1 (p (-1)) (p 0)
    rw[h0.2.2.1,h1.2.2.2,m0 i hi,m0 j hj,m1 i hi,m1 j hj]at c
    have c':iJ po pi po pi i j=true↔_:=c
    rw[c',Ne,decide_eq_decide]
    split<;>split<;>lia
   by_cases z:i=0
   ·have j0:j≠0:=λq=>e (z.trans q.symm)
    rw[if_pos z,if_neg j0]
    rw[z]at key ⊢
    have:one (bS w w ((0:Nat):Int) j/\iJ po pi po pi ((0:Nat):Int) j=true)=one (j≠0/\bS w w 0 j):=br ⟨λq=>⟨j0,q.1⟩,λq=>⟨q.2,(key q.2).mpr (.inl rfl)⟩⟩
    rw[this];lia
   ·rw[if_neg z]
    by_cases j0:j=0
    ·rw[if_pos j0]
     rw[j0]at key ⊢
     have:one (bS w w i ((0:Nat):Int)/\iJ po pi po pi i ((0:Nat):Int)=true)=one (i≠0/\bS w w 0 i):=br ⟨λq=>⟨z,sym.mpr q.1⟩,λq=>⟨sym.mp q.2,(key (sym.mp q.2)).mpr (.inr rfl)⟩⟩
     rw[this];lia
    ·rw[if_neg j0,ba (λq=>by rcases (key q.1).mp q.2 with q | q<;>contradiction)];rfl
 have cnt:sm (w:) (λj=>one (j≠0/\bS w w 0 j))=(k:Int) - 1:=by
  have e1:sm (w:) (λj=>one (bS w w 0 j))=k:=by
   have:sm (w:) (λj=>one (bS w w 0 j))=sm (w:) (λj=>if j.toNat%s=0 then 1 else 0):=aJ λj hj=>by
    rw[br (hr j hj),Qan]
    by_cases z:j%s=0
    ·rw[eT z,if_pos z]
    ·rw[ba z,if_neg z]
   rw[this,hn]
   exact CY hs (λi=>by rw[Qan]) k
  have e2:sm (w:) (λj=>one (bS w w 0 j))=sm (w:) (λj=>one (j≠0/\bS w w 0 j))+sm (w:) (λj=>if j=0 then 1 else 0):=by
   rw[<-rM]
   refine aJ λj hj=>?_
   by_cases z:j=0
   ·subst z
    rw[eT (show bS w w 0 ((0:Nat):Int) from λk=>rfl),ba (λq=>q.1 rfl)];rfl
   ·rw[if_neg (),Qek]
    exact br ⟨λq=>⟨(),q⟩,λq=>q.2⟩
  have e3:sm (w:) (λj=>if j=0 then (1:Int) else 0)=1:=by
   rw[jP (Qab.mpr hw.ne) (λi h1 _=>by rw[if_neg ()]),if_pos rfl]
  lia
 have lp:0<(w:):=Qab.mpr hw.ne
 have e:b7 (w:) (w:) (λi j=>one (bS w w i j/\iJ po pi po pi i j=true))=b7 (w:) (w:) (λi j=>(if i=0 then one (j≠0/\bS w w 0 j) else 0)+(if j=0 then one (i≠0/\bS w w 0 i) else 0)):=bu λi j hi hj=>by
  rw[pt i j hi hj]
  congr 1
  ·by_cases z:i=0
   ·rw[if_pos z,if_pos ()]
    exact br ⟨λq=>⟨(),q.2⟩,λq=>⟨(),q.2⟩⟩
   ·rw[if_neg z,if_neg ()]
  ·by_cases z:j=0
   ·rw[if_pos z,if_pos ()]
    exact br ⟨λq=>⟨(),q.2⟩,λq=>⟨(),q.2⟩⟩
   ·rw[if_neg z,if_neg ()]
 rw[e,cG]
 have a1:b7 (w:) (w:) (λi j=>if i=0 then one (j≠0/\bS w w 0 j) else 0)=(k:Int) - 1:=by
  unfold b7
  rw[jP lp]
  ·rw[<-cnt]
   exact aJ λj _=>if_pos rfl
  ·intro i h1 _
   refine Eq.trans (aJ (g:=λ_=>0) λj _=>?_) (fT _)
   have: ¬((i:Int)=0):=by lia
   exact if_neg this
 have a2:b7 (w:) (w:) (λi j=>if j=0 then one (i≠0/\bS w w 0 i) else 0)=(k:Int) - 1:=by
  unfold b7
  rw[<-cnt]
  refine aJ λi _=>?_
  have:∀j:Nat,0<j-> ¬((j:Int)=0):=λj h=>by lia
  rw[jP lp (λj h1 _=>if_neg (this j h1))]
  exact if_pos rfl
 lia
end
noncomputable def kk(y:c7)(f:Int->Nat):Nat->Nat->List Int
 | _,0=>[]
 | k,n+1=>ff y f (k+1)::ff y f (-(k:Int))::kk y f (k+1) n
theorem fE:∀(l r t:List Int),bT (l++r) (l++t)=bT r t
 | [],_,_=>rfl
 | a::l,r,t=>by
  show (if a=a then bT (l++r) (l++t) else _)=_
  rw[if_pos rfl,fE l r t]
theorem og{y:c7}{f g:Int->Nat}{a b:Nat}(hy:Yd y)(hf:g_ y f)(hg:g_ y g)(h:Run f g a b)(r t:List Int):∀(n k:Nat),k<=a->k<=b->a<k+n->b<k+n->bT (kk y f k n++r) (kk y g k n++t)=if a<=b then gJ y f g a else gS y f g b
 | 0,k,h1,_,h3,_=>by lia
 | n+1,k,h1,h2,h3,h4=>by
  show (if ff y f (k+1)=ff y g (k+1) then (if ff y f (-(k:Int))=ff y g (-(k:Int)) then bT (kk y f (k+1) n++r) (kk y g (k+1) n++t) else decide (ff y f (-(k:Int))<ff y g (-(k:Int)))) else decide (ff y f (k+1)<ff y g (k+1)))=_
  have e0:=h.oe k () ()
  have e1:=h.oe (-(k:Int)) () ()
  by_cases z:k=a
  ·subst z
   rw[if_neg (λq=>h.hi (by
    unfold ff at q
    rw[show (k:Int)+1 - 1=k by lia, <-e0]at q
    exact mW (hy.cl _ (hf.bO _)) (hf.bO _) (hg.bO _) q)),if_pos h2]
   rfl
  ·have e2:=h.oe (k+1) () ()
   rw[if_pos (by unfold ff;rw[show (k:Int)+1 - 1=k by lia,e0,e2])]
   by_cases z2:k=b
   ·subst z2
    rw[if_neg (λq=>h.lo (by
     unfold ff at q
     rw[<-e1]at q
     have r1:=hf.red (-(k:Int))
     have r2:=hg.red (-(k:Int))
     have c1:=(fg (hy.cl _ (hf.bO (-(k:Int) - 1))) (hf.bO (-(k:Int))) (Ne.symm r1)).2.2
     have c2:=(fg (hy.cl _ (hg.bO (-(k:Int) - 1))) (hf.bO (-(k:Int))) (by rw[e1];exact Ne.symm r2)).2.2
     have:=mW (hf.bO (-(k:Int))) (hy.cl _ (hf.bO (-(k:Int) - 1))) (hy.cl _ (hg.bO (-(k:Int) - 1))) (by rw[c1,c2,q])
     exact dk (hy.lt _ (hf.bO _)) (hy.lt _ (hg.bO _)) this)),if_neg ()]
    rfl
   ·have e3:=h.oe (-(k:Int) - 1) () ()
    rw[if_pos (by unfold ff;rw[e1,e3])]
    exact og hy hf hg h r t n (k+1) () () () ()
noncomputable def nB(w:c7)(i:Int):Int->Nat:=if aC (rd w i)=true then sq w i else bq w i
noncomputable def J6(n r:Nat)(l low:Bool)(c i:Nat):List Int:=if low=l then [(c:Int),(((if low=true then i else n - 1 - i) / r:Nat):Int)] else [-(c:Int), -(((if low=true then n - 1 - i else i) / r:Nat):Int)]
noncomputable def eJ(y:c7)(ws:List c7)(L:Nat->Bool)(r:Nat->Nat)(M c i:Nat):List Int:=kk y (nB (ws|||c) i) 0 M++J6 ((ws|||c):) (r c) (L c) (aC (rd (ws|||c) i)) c i
def Dl(w:c7)(i:Int)(f:Int->Nat):Prop:=f=sq w i\/f=bq w i
theorem xl{w:c7}{i:Int}(hy:Yd y)(hw:SW y w)(h:Dl w i f):nB w i=if aC (f 0)=true then f else kZ f:=by
 have s0:sq w i 0=rd w i:=by unfold sq;rw[show i+0=i by lia]
 have b0:bq w i 0=ay (rd w i):=by unfold bq;rw[show i - 0=i by lia]
 have lc:=fS _ (hy.lt _ (hw.rd i)).mem
 unfold nB
 rcases h with rfl | rfl
 ·rw[s0,eI]
 ·rw[b0,lc, <-eI,o5 hy (aX hw i)]
  cases aC (rd w i)<;>rfl
theorem Dl.Bi{w:c7}{i:Int}(hy:Yd y)(hw:SW y w)(h:Dl w i f):g_ y f:=by
 rcases h with rfl | rfl
 ·exact aX hw i
 ·exact fh hy hw i
theorem Run.sy(h:Run f g a b):Run g f a b:=⟨λk h1 h2=>(h.oe k h1 h2).symm,Ne.symm h.hi,Ne.symm h.lo⟩
section
variable{y:c7}{ws:List c7}{L:Nat->Bool}{r:Nat->Nat}{M:Nat}{N:Nat->Nat->Nat->Nat}
structure gm(y:c7)(ws:List c7)(R:Nat->Nat->Nat->Nat->Bool)(N:Nat->Nat->Nat->Nat):Prop where
 sep:∀c i d j e e',c<(ws:)->d<(ws:)->i<((ws|||c):)->j<((ws|||d):)->(e=rd (ws|||c) i\/e=ay (rd (ws|||c) i))->(e'=rd (ws|||d) j\/e'=ay (rd (ws|||d) j))->y.idxOf e<y.idxOf e'->N c i e<N d j e'
 low:∀c i d j x,c<(ws:)->d<(ws:)->i<((ws|||c):)->j<((ws|||d):)->(c,i)≠(d,j)->aC x=true->(rd (ws|||c) i=x\/rd (ws|||c) i=ay x)->(rd (ws|||d) j=x\/rd (ws|||d) j=ay x)->
  N c i x≠N d j x/\N c i (ay x)≠N d j (ay x)/\decide (N c i x<N d j x)=R c i d j/\decide (N d j (ay x)<N c i (ay x))=R c i d j
abbrev Lies(y:c7)(ws:List c7)(L:Nat->Bool)(r:Nat->Nat)(M:Nat)(N:Nat->Nat->Nat->Nat):Prop:=gm y ws (λc i d j=>bT (eJ y ws L r M c i) (eJ y ws L r M d j)) N
theorem gm.at{R:Nat->Nat->Nat->Nat->Bool}(hy:Yd y)(hN:gm y ws R N){c i d j:Nat}{f g:Int->Nat}(hc:c<(ws:))(hd:d<(ws:))(hi:i<((ws|||c):))(hj:j<((ws|||d):))(hw:SW y (ws|||c))(hv:SW y (ws|||d))
  (hf:Dl (ws|||c) i f) (hg:Dl (ws|||d) j g) (h0:f 0=g 0) (eG:(c,i)≠(d,j)):
  N c i (f 0)≠N d j (f 0)/\N c i (ay (f 0))≠N d j (ay (f 0))/\decide (N c i (f 0)<N d j (f 0))=(if aC (f 0)=true then R c i d j else R d j c i)/\decide (N d j (ay (f 0))<N c i (ay (f 0)))=(if aC (f 0)=true then R c i d j else R d j c i):=by
 walk_at"b"
 walk_at"i"
 have ly:Lt (f 0):=hy.lt _ ((hf.Bi hy hw).bO 0)
 have RD:=aF ly
 have ef:rd (ws|||c) i=f 0\/rd (ws|||c) i=ay (f 0):=by
  rcases hf with rfl | rfl
  ·exact .inl (s0 _ _).symm
  ·exact .inr (by rw[b0,aF (hy.lt _ (hw.rd _))])
 have eg:rd (ws|||d) j=f 0\/rd (ws|||d) j=ay (f 0):=by
  rw[h0]
  rcases hg with rfl | rfl
  ·exact .inl (s0 _ _).symm
  ·exact .inr (by rw[b0,aF (hy.lt _ (hv.rd _))])
 by_cases z:aC (f 0)=true
 ·rw[if_pos z]
  exact hN.low c i d j (f 0) hc hd hi hj eG z ef eg
 ·rw[if_neg z]
  have z':aC (ay (f 0))=true:=by rw[fS _ ly.mem];simpa using z
  have:=hN.low d j c i (ay (f 0)) hd hc hj hi (Ne.symm eG) z' (by rw[RD];exact eg.symm) (by rw[RD];exact ef.symm)
  rw[RD]at this
  exact ⟨Ne.symm this.2.1,Ne.symm this.1,this.2.2.2,this.2.2.1⟩
theorem Lies.run(hy:Yd y)(hN:Lies y ws L r M N)(hc:c<(ws:))(hd:d<(ws:))(hi:i<((ws|||c):))(hj:j<((ws|||d):))(hw:SW y (ws|||c))(hv:SW y (ws|||d))
  (hf:Dl (ws|||c) i f) (hg:Dl (ws|||d) j g) (hr:Run f g a b) (ha:a<M) (hb:b<M) (eG:(c,i)≠(d,j)):
  N c i (f 0)≠N d j (g 0)/\N c i (ay (f 0))≠N d j (ay (g 0))/\decide (N c i (f 0)<N d j (g 0))=Bg y f g a b/\decide (N d j (ay (g 0))<N c i (ay (f 0)))=Bg y f g a b:=by
 have h0:=hr.zero
 have lf:=hf.Bi hy hw
 have lg:=hg.Bi hy hv
 have e:(if aC (f 0)=true then bT (eJ y ws L r M c i) (eJ y ws L r M d j) else bT (eJ y ws L r M d j) (eJ y ws L r M c i))=Bg y f g a b:=by
  unfold eJ
  rw[xl hy hw hf,xl hy hv hg, <-h0]
  by_cases z:aC (f 0)=true
  ·rw[if_pos z,if_pos z,if_pos z,og hy lf lg hr _ _ M 0 (Qau _) (Qau _) () ()]
   unfold Bg yh
   by_cases q:a<=b
   ·rw[if_pos q,if_neg (by simp[z];lia)]
   ·rw[if_neg q,if_pos (by simp;lia)]
  ·rw[if_neg z,if_neg z,if_neg z,og hy (lg.rv hy) (lf.rv hy) (hr.rv hy lf lg).sy _ _ M 0 (Qau _) (Qau _) () (), <-PZ hy lf lg h0]
   unfold Bg yh
   have z':aC (kZ g 0)=true:=by
    show aC (ay (g 0))=true
    rw[<-h0,fS _ (hy.lt _ (lf.bO 0)).mem];simpa using z
   by_cases q:b<=a
   ·rw[if_pos q,if_neg (by simp[z'];lia)]
   ·rw[if_neg q,if_pos (by simp;lia)]
 have:=hN.at hy hc hd hi hj hw hv hf hg h0 eG
 rw[e]at this
 rw[<-h0]
 exact this
end
noncomputable def jQ(n:Nat)(k:Int):Nat:=(k%(n:Int)).toNat
theorem bI(h:0<n)(k:Int):jQ n k<n:=by
 unfold jQ
 have h1:=Qcp k (b:=(n:Int)) ()
 have h2:=Qcj k (b:=(n:Int)) ()
 lia
theorem eK(h:0<n)(k:Int):((jQ n k:Nat):Int)=k%n:=by
 unfold jQ
 have h1:=Qcp k (b:=(n:Int)) ()
 lia
theorem CZ(k:Int):jQ n (k+n)=jQ n k:=by unfold jQ;rw[Qdc]
theorem cf{w:c7}(h:w≠[])(k:Int):rd w (jQ (w:) k:Nat)=rd w k:=by rw[eK (Qab.mpr h),fJ]
theorem cP{w:c7}(h:w≠[])(k:Int):sq w (jQ (w:) k:Nat)=sq w k:=by
 funext x
 unfold sq
 rw[eK (Qab.mpr h), <-fJ w (k%(w:)+x),Qgr,fJ]
theorem xm{w:c7}(h:w≠[])(k:Int):bq w (jQ (w:) k:Nat)=bq w k:=by rw[<-eI, <-eI,cP h]
noncomputable def pO(ws:List c7)(N:Nat->Nat->Nat->Nat)(c:Nat)(k:Int):Nat:=N c (jQ ((ws|||c):) k) (rd (ws|||c) k)
noncomputable def pI(ws:List c7)(N:Nat->Nat->Nat->Nat)(c:Nat)(k:Int):Nat:=N c (jQ ((ws|||c):) k) (ay (rd (ws|||c) k))
theorem P_{x x' p p':Int}(h:x≠x'):bT [x,p] [x',p']=decide (x<x'):=by
 show (if x=x' then _ else decide (x<x'))=_
 rw[if_neg h]
theorem xn{x p p':Int}(h:p≠p'):bT [x,p] [x,p']=decide (p<p'):=by
 show (if x=x then (if p=p' then bT [] [] else decide (p<p')) else _)=_
 rw[if_pos rfl,if_neg h]
variable{R:Nat->Nat->Nat->Nat->Bool}
section
variable{y:c7}{ws:List c7}{L:Nat->Bool}{r:Nat->Nat}{M:Nat}{N:Nat->Nat->Nat->Nat}
structure dH(y:c7)(ws:List c7)(L:Nat->Bool)(r:Nat->Nat)(M:Nat):Prop where
 yd:Yd y
 sw:∀c,c<(ws:)->SW y (ws|||c)
 big:∀c d,c<(ws:)->d<(ws:)->((ws|||c):)+((ws|||d):)<=M
 l1:∀c d i j,c<(ws:)->d<(ws:)->bS (ws|||c) (ws|||d) i j->L c=L d
 l2:∀c d i j,c<(ws:)->d<(ws:)->(∀k,sq (ws|||c) i k=bq (ws|||d) j k)->L d=!L c
 rp:∀c,c<(ws:)->0<r c
 rr:∀c,c<(ws:)->∀i j:Int,(bS (ws|||c) (ws|||c) i j↔(i - j)%(r c:Int)=0)
theorem gm.YI(h:dH y ws L r M)(hN:gm y ws R N)(hc:c<(ws:))(hd:d<(ws:))(s t:Int):Sep y [(ay (sq (ws|||c) s (-1)),pI ws N c (s - 1)),(sq (ws|||c) s 0,pO ws N c s),(ay (sq (ws|||d) t (-1)),pI ws N d (t - 1)),(sq (ws|||d) t 0,pO ws N d t)]:=by
 have hw:=h.sw c hc
 have hv:=h.sw d hd
 have lw:=Qab.mpr hw.ne
 have lv:=Qab.mpr hv.ne
 walk_at"b"
 have key:∀p∈[(ay (sq (ws|||c) s (-1)),pI ws N c (s - 1)),(sq (ws|||c) s 0,pO ws N c s),(ay (sq (ws|||d) t (-1)),pI ws N d (t - 1)),(sq (ws|||d) t 0,pO ws N d t)],∃e i:Nat,e<(ws:)/\i<((ws|||e):)/\(p.1=rd (ws|||e) i\/p.1=ay (rd (ws|||e) i))/\p.2=N e i p.1:=by
  intro p hp
  simp only[Qaf,Qaj,or_false]at hp
  rcases hp with rfl | rfl | rfl | rfl
  ·exact ⟨c,_,hc,bI lw (s - 1),.inr (by rw[cf hw.ne];rfl),rfl⟩
  ·exact ⟨c,_,hc,bI lw s,.inl (by rw[cf hw.ne,s0]),by rw[s0];rfl⟩
  ·exact ⟨d,_,hd,bI lv (t - 1),.inr (by rw[cf hv.ne];rfl),rfl⟩
  ·exact ⟨d,_,hd,bI lv t,.inl (by rw[cf hv.ne,s0]),by rw[s0];rfl⟩
 intro p hp q hq cU
 obtain ⟨e,i,he,hi,h1,h2⟩:=key p hp
 obtain ⟨e',j,Fx,hj,h3,h4⟩:=key q hq
 rw[h2,h4]
 exact hN.sep e i e' j _ _ he Fx hi hj h1 h3 cU
theorem gm.YJ(h:dH y ws L r M)(hN:gm y ws R N)(hc:c<(ws:))(hd:d<(ws:))(s t:Int):Sep y [(ay (sq (ws|||c) s (-1)),pI ws N c (s - 1)),(sq (ws|||c) s 0,pO ws N c s),(ay (bq (ws|||d) (-t) (-1)),pO ws N d (-(t - 1))),(bq (ws|||d) (-t) 0,pI ws N d (-t))]:=by
 have hw:=h.sw c hc
 have hv:=h.sw d hd
 have lw:=Qab.mpr hw.ne
 have lv:=Qab.mpr hv.ne
 walk_at"b"
 walk_at"i"
 have bb:∀t:Int,ay (bq (ws|||d) (-t) (-1))=rd (ws|||d) (-(t - 1)):=λt=>by
  unfold bq
  rw[aF (h.yd.lt _ (hv.rd _))]
  congr 1;lia
 have key:∀p∈[(ay (sq (ws|||c) s (-1)),pI ws N c (s - 1)),(sq (ws|||c) s 0,pO ws N c s),(ay (bq (ws|||d) (-t) (-1)),pO ws N d (-(t - 1))),(bq (ws|||d) (-t) 0,pI ws N d (-t))],∃e i:Nat,e<(ws:)/\i<((ws|||e):)/\(p.1=rd (ws|||e) i\/p.1=ay (rd (ws|||e) i))/\p.2=N e i p.1:=by
  intro p hp
  simp only[Qaf,Qaj,or_false]at hp
  rcases hp with rfl | rfl | rfl | rfl
  ·exact ⟨c,_,hc,bI lw (s - 1),.inr (by rw[cf hw.ne];rfl),rfl⟩
  ·exact ⟨c,_,hc,bI lw s,.inl (by rw[cf hw.ne,s0]),by rw[s0];rfl⟩
  ·exact ⟨d,_,hd,bI lv (-(t - 1)),.inl (by rw[cf hv.ne];exact bb t),by rw[bb t];rfl⟩
  ·exact ⟨d,_,hd,bI lv (-t),.inr (by rw[cf hv.ne,b0]),by rw[b0];rfl⟩
 intro p hp q hq cU
 obtain ⟨e,i,he,hi,h1,h2⟩:=key p hp
 obtain ⟨e',j,Fx,hj,h3,h4⟩:=key q hq
 rw[h2,h4]
 exact hN.sep e i e' j _ _ he Fx hi hj h1 h3 cU
theorem Lies.two(h:dH y ws L r M)(hN:Lies y ws L r M N)(hc:c<(ws:))(hd:d<(ws:)):Nv y (sq (ws|||c)) (pO ws N c) (pI ws N c) (sq (ws|||d)) (pO ws N d) (pI ws N d):=by
 have hw:=h.sw c hc
 have hv:=h.sw d hd
 have lw:=Qab.mpr hw.ne
 have lv:=Qab.mpr hv.ne
 walk_at"b"
 refine ⟨gm.YI h hN hc hd,λs t a b rn=>?_⟩
 obtain ⟨a',b',YK,ha,hb⟩:=dG lw lv (λk=>cL _ s k) (λk=>cL _ t k) rn.zero ⟨_,rn.hi⟩
 obtain ⟨rfl,rfl⟩:=rn.one YK
 have:=h.big c d hc hd
 have key:=hN.run h.yd hc hd (bI lw s) (bI lv t) hw hv (.inl (cP hw.ne s).symm) (.inl (cP hv.ne t).symm) rn () () (λz=>rn.hi (by
  obtain ⟨z1,z2⟩:=Prod.mk.inj z
  subst z1
  rw[<-cP hw.ne s, <-cP hw.ne t,z2]))
 rw[s0,s0]at key
 exact key
theorem Lies.opp(h:dH y ws L r M)(hN:Lies y ws L r M N)(hc:c<(ws:))(hd:d<(ws:)):Nv y (sq (ws|||c)) (pO ws N c) (pI ws N c) (λk=>bq (ws|||d) (-k)) (λk=>pI ws N d (-k)) (λk=>pO ws N d (-k)):=by
 have hw:=h.sw c hc
 have hv:=h.sw d hd
 have lw:=Qab.mpr hw.ne
 have lv:=Qab.mpr hv.ne
 walk_at"b"
 walk_at"i"
 have bb:∀t:Int,ay (bq (ws|||d) (-t) (-1))=rd (ws|||d) (-(t - 1)):=λt=>by
  unfold bq
  rw[aF (h.yd.lt _ (hv.rd _))]
  congr 1;lia
 refine ⟨gm.YJ h hN hc hd,λs t a b rn=>?_⟩
 obtain ⟨a',b',YK,ha,hb⟩:=dG lw lv (λk=>cL _ s k) (λk=>n_ _ (-t) k) rn.zero ⟨_,rn.hi⟩
 obtain ⟨rfl,rfl⟩:=rn.one YK
 have:=h.big c d hc hd
 have key:=hN.run h.yd hc hd (bI lw s) (bI lv (-t)) hw hv (.inl (cP hw.ne s).symm) (.inr (xm hv.ne (-t)).symm) rn () () (λz=>by
  obtain ⟨z1,z2⟩:=Prod.mk.inj z
  subst z1
  have z0:=rn.zero
  rw[s0,b0, <-cf hw.ne s, <-cf hw.ne (-t),z2]at z0
  exact iN (h.yd.lt _ (hw.rd _)) z0.symm)
 rw[s0,b0,aF (h.yd.lt _ (hv.rd _))]at key
 exact key
theorem xo{n n' r r' c d i j:Nat}{l low Qa:Bool}(h:c≠d):bT (J6 n r l low c i) (J6 n' r' (if Qa=low then l else !l) Qa d j)=if low=l then decide (c<d) else decide (d<c):=by
 unfold J6
 cases low<;>cases Qa<;>cases l<;>simp only[Qgf,Bool.not_false,if_true,if_false,Bool.true_eq_false,Qck]<;>rw[P_ ()]<;>exact decide_eq_decide.mpr ()
theorem Lies.HW(h:dH y ws L r M)(hN:Lies y ws L r M N)(hc:c<(ws:))(hd:d<(ws:))(kT:c≠d)(hi:i<((ws|||c):))(hj:j<((ws|||d):))(hf:Dl (ws|||c) i f)(hg:Dl (ws|||d) j g)(hp:∀k,f k=g k)
  (hl:L d=if aC (rd (ws|||d) j)=aC (rd (ws|||c) i) then L c else !L c) (hs:f=sq (ws|||c) i):
  N c i (f 0)≠N d j (g 0)/\N c i (ay (f 0))≠N d j (ay (g 0))/\decide (N c i (f 0)<N d j (g 0))=(if L c=true then decide (c<d) else decide (d<c))/\decide (N d j (ay (g 0))<N c i (ay (f 0)))=(if L c=true then decide (c<d) else decide (d<c)):=by
 have hw:=h.sw c hc
 have hv:=h.sw d hd
 have e:(if aC (f 0)=true then bT (eJ y ws L r M c i) (eJ y ws L r M d j) else bT (eJ y ws L r M d j) (eJ y ws L r M c i))=if L c=true then decide (c<d) else decide (d<c):=by
  have es:nB (ws|||c) i=nB (ws|||d) j:=by
   rw[xl h.yd hw hf,xl h.yd hv hg,show f=g from funext hp]
  have f0:f 0=rd (ws|||c) i:=by rw[hs];unfold sq;rw[show (i:Int)+0=i by lia]
  unfold eJ
  rw[es,fE,fE,f0]
  have Ac:L c=if aC (rd (ws|||c) i)=aC (rd (ws|||d) j) then L d else !L d:=by
   rw[hl]
   cases aC (rd (ws|||d) j)<;>cases aC (rd (ws|||c) i)<;>cases L c<;>rfl
  have e1:= @xo ((ws|||c):) ((ws|||d):) (r c) (r d) c d i j (L c) (aC (rd (ws|||c) i)) (aC (rd (ws|||d) j)) kT
  have e2:= @xo ((ws|||d):) ((ws|||c):) (r d) (r c) d c j i (L d) (aC (rd (ws|||d) j)) (aC (rd (ws|||c) i)) (Ne.symm kT)
  rw[<-hl]at e1
  rw[<-Ac]at e2
  rw[e1,e2,hl]
  cases aC (rd (ws|||d) j)<;>cases aC (rd (ws|||c) i)<;>cases L c<;>rfl
 have:=hN.at h.yd hc hd hi hj hw hv hf hg (hp 0) (λz=>kT (Prod.mk.inj z).1)
 rw[e]at this
 rw[<-hp 0]
 exact this
end
theorem zx{k r:Nat}(hr:0<r)(hn:n=k*r)(hi:i<n):(n - 1 - i) / r=k - 1 - i / r:=by
 have h1:=Qeu i r
 have h2:=Qd4 i hr
 have h3:i / r<k:=by
  rw[Qf3 hr];lia
 rw[Nat.div_eq_iff hr]
 obtain ⟨t,rfl⟩:∃t,k=i / r+1+t:=⟨k - 1 - i / r,()⟩
 generalize hq:i / r=q at*
 rw[Nat.add_mul,Nat.add_mul,Nat.one_mul,Qc8 q r]at hn
 have e:q+1+t - 1 - q=t:=by lia
 rw[e]
 generalize r*q=A at*
 generalize t*r=B at*
 lia
theorem EJ{r:Nat}(hr:0<r)(h:i%r=j%r)(eG:i≠j):(i / r<j / r↔i<j)/\i / r≠j / r:=by
 have h1:=Qeu i r
 have h2:=Qeu j r
 have xp:i / r≠j / r:=λz=>eG (by rw[<-h1, <-h2,z,h])
 refine ⟨⟨λq=>?_,λq=>?_⟩,xp⟩
 ·have:r*(i / r+1)<=r*(j / r):=Nat.mul_le_mul_left r q
  rw[Qgy,Nat.mul_one]at this
  lia
 ·refine Classical.byContradiction λz=>?_
  have h3:j / r+1<=i / r:=by lia
  have:r*(j / r+1)<=r*(i / r):=Nat.mul_le_mul_left r h3
  rw[Qgy,Nat.mul_one]at this
  lia
theorem Bm{n k r c i j:Nat}{l low:Bool}(hr:0<r)(hn:n=k*r)(hi:i<n)(hj:j<n)(h:i%r=j%r)(eG:i≠j):(if low=true then bT (J6 n r l low c i) (J6 n r l low c j) else bT (J6 n r l low c j) (J6 n r l low c i))=decide (i<j):=by
 obtain ⟨d1,d2⟩:=EJ hr h eG
 have e1:=zx hr hn hi
 have e2:=zx hr hn hj
 have b1:i / r<k:=by rw[Qf3 hr];lia
 have b2:j / r<k:=by rw[Qf3 hr];lia
 unfold J6
 cases low<;>cases l<;>simp only[if_true,if_false,Bool.true_eq_false,Qck]
 ·rw[e1,e2,xn ()];exact decide_eq_decide.mpr ()
 ·rw[xn ()];exact decide_eq_decide.mpr ()
 ·rw[e1,e2,xn ()];exact decide_eq_decide.mpr ()
 ·rw[xn ()];exact decide_eq_decide.mpr ()
noncomputable def fc(y w v:c7)(i j:Int):Int:=one (ac y (ay (rd w (i - 1))) (rd w i) (ay (rd v (j - 1))) (rd v j)=true)+one (0<al y (sq w i) (sq v j) ((w:)+(v:)))+one (0<al y (sq w i) (bq v j) ((w:)+(v:)))
section
variable{y:c7}{ws:List c7}{L:Nat->Bool}{r:Nat->Nat}{M:Nat}{N:Nat->Nat->Nat->Nat}
theorem xq(ws:List c7)(N:Nat->Nat->Nat->Nat)(c:Nat)(k:Int):pO ws N c (k+((ws|||c):))=pO ws N c k:=by unfold pO;rw[CZ,e_]
theorem xr(ws:List c7)(N:Nat->Nat->Nat->Nat)(c:Nat)(k:Int):pI ws N c (k+((ws|||c):))=pI ws N c k:=by unfold pI;rw[CZ,e_]
theorem dH.root(h:dH y ws L r M)(hc:c<(ws:)):((ws|||c):)=((ws|||c):) / r c*r c/\0<((ws|||c):) / r c:=by
 have hp:=h.rp c hc
 have hl:=Qab.mpr (h.sw c hc).ne
 have h1:=(h.rr c hc ((ws|||c):) 0).mp (λk=>by
  have:=congrFun (lW (ws|||c) 0) k
  rwa [Qd8]at this)
 rw[Qe0]at h1
 have h2:((ws|||c):)%r c=0:=by
  have:(((((ws|||c):)%r c:Nat)):Int)=0:=by rw[<-h1];rfl
  lia
 have h3:=Qeu ((ws|||c):) (r c)
 rw[h2,Qdl,Qc8]at h3
 refine ⟨h3.symm,Qe2 λz=>?_⟩
 rw[z,Qgi]at h3
 lia
theorem EK(h:dH y ws L r M)(hN:Lies y ws L r M N)(hc:c<(ws:))(hd:d<(ws:))(kT:c≠d):
  b7 ((ws|||c):) ((ws|||d):) (λi j=>one (iJ (pO ws N c) (pI ws N c) (pO ws N d) (pI ws N d) i j=true))=b7 ((ws|||c):) ((ws|||d):) (fc y (ws|||c) (ws|||d)):=by
 have hw:=h.sw c hc
 have hv:=h.sw d hd
 have lw:=Qab.mpr hw.ne
 have lv:=Qab.mpr hv.ne
 walk_at"b"
 walk_at"i"
 have hS:=hN.two h hc hd
 have hO:=hN.opp h hc hd
 rw[zu h.yd hw hv (xq ws N c) (xr ws N c) (xq ws N d) (xr ws N d) hS hO,LK h.yd hw hv hS (if L c=true then decide (c<d) else decide (d<c)),LM h.yd hw hv hO (if L c=true then decide (c<d) else decide (d<c)), <-cG, <-cG]
 ·unfold fc
  lia
 ·intro i j p
  have p0:=p 0
  rw[s0,b0]at p0
  have lo:=fS _ (h.yd.lt _ (hv.rd j)).mem
  have:=hN.HW h hc hd kT (bI lw i) (bI lv j) (f:=sq (ws|||c) i) (g:=bq (ws|||d) j) (.inl (cP hw.ne i).symm) (.inr (xm hv.ne j).symm) p (by
   rw[cf hw.ne,cf hv.ne,p0,lo,h.l2 c d i j hc hd p]
   cases aC (rd (ws|||d) j)<;>rfl) (cP hw.ne i).symm
  rw[s0,b0,aF (h.yd.lt _ (hv.rd _))]at this
  exact this
 ·intro i j p
  have p0:=p 0
  rw[s0,s0]at p0
  have:=hN.HW h hc hd kT (bI lw i) (bI lv j) (f:=sq (ws|||c) i) (g:=sq (ws|||d) j) (.inl (cP hw.ne i).symm) (.inl (cP hv.ne j).symm) p (by
   rw[cf hw.ne,cf hv.ne,p0,if_pos rfl]
   exact (h.l1 c d i j hc hd p).symm) (cP hw.ne i).symm
  rw[s0,s0]at this
  exact this
theorem Bn(h:dH y ws L r M)(hN:Lies y ws L r M N)(hc:c<(ws:)):
  b7 ((ws|||c):) ((ws|||c):) (λi j=>one (iJ (pO ws N c) (pI ws N c) (pO ws N c) (pI ws N c) i j=true))=b7 ((ws|||c):) ((ws|||c):) (fc y (ws|||c) (ws|||c))+2*((((ws|||c):) / r c:Nat) - 1):=by
 have hw:=h.sw c hc
 have lw:=Qab.mpr hw.ne
 walk_at"b"
 have hS:=hN.two h hc hc
 have hO:=hN.opp h hc hc
 obtain ⟨Ng,RN⟩:=h.root hc
 have hrp:=h.rp c hc
 have e0:b7 ((ws|||c):) ((ws|||c):) (λi j=>one (jO (ws|||c) (ws|||c) i j/\iJ (pO ws N c) (pI ws N c) (pO ws N c) (pI ws N c) i j=true))=0:=by
  rw[show (0:Int)=b7 ((ws|||c):) ((ws|||c):) (λ_ _=>0) by unfold b7;rw[show (λ_:Int=>sm ((ws|||c):) λ_=>0)=λ_=>0 from funext λ_=>fT _,fT]]
  exact bu λi j _ _=>ba λz=>xk h.yd hw _ _ z.1
 rw[zu h.yd hw hw (xq ws N c) (xr ws N c) (xq ws N c) (xr ws N c) hS hO,e0,HV h.yd hw hS hrp Ng RN, <-cG, <-cG]
 ·unfold fc
  lia
 ·intro j hj
  rw[h.rr c hc]
  constructor
  ·intro q
   have:(j:Int)%(r c:Int)=0:=by
    rw[Int.zero_sub]at q
    exact Int.emod_eq_zero_of_dvd (Int.dvd_neg.mp (Int.dvd_of_emod_eq_zero q))
   have h2:((j%r c:Nat):Int)=0:=by rw[<-this];rfl
   lia
  ·intro q
   have:(j:Int)%(r c:Int)=0:=by
    have h2:((j%r c:Nat):Int)=(j:Int)%(r c:Int):=rfl
    rw[<-h2,q];rfl
   rw[Int.zero_sub]
   exact Int.emod_eq_zero_of_dvd (Int.dvd_neg.mpr (Int.dvd_of_emod_eq_zero this))
 ·intro i j p eG
  have p0:=p 0
  rw[s0,s0]at p0
  have xp:jQ ((ws|||c):) i≠jQ ((ws|||c):) j:=λz=>eG (by rw[<-eK lw, <-eK lw,z])
  have:=hN.at h.yd hc hc (bI lw i) (bI lw j) hw hw (f:=sq (ws|||c) i) (g:=sq (ws|||c) j) (.inl (cP hw.ne i).symm) (.inl (cP hw.ne j).symm) (p 0) (λz=>xp (Prod.mk.inj z).2)
  have LN:jQ ((ws|||c):) i%r c=jQ ((ws|||c):) j%r c:=by
   have p':bS (ws|||c) (ws|||c) (jQ ((ws|||c):) i:Nat) (jQ ((ws|||c):) j:Nat):=λk=>by rw[cP hw.ne,cP hw.ne];exact p k
   have q:=(h.rr c hc _ _).mp p'
   have q2:=Int.emod_eq_emod_iff_emod_sub_eq_zero.mpr q
   have q3:((jQ ((ws|||c):) i%r c:Nat):Int)=((jQ ((ws|||c):) j%r c:Nat):Int):=q2
   lia
  have es:nB (ws|||c) (jQ ((ws|||c):) i:Nat)=nB (ws|||c) (jQ ((ws|||c):) j:Nat):=by
   unfold nB
   rw[cf hw.ne,cf hw.ne,p0,cP hw.ne,cP hw.ne,xm hw.ne,xm hw.ne,show sq (ws|||c) i=sq (ws|||c) j from funext p, <-eI, <-eI,show sq (ws|||c) i=sq (ws|||c) j from funext p]
  have e:= @Bm ((ws|||c):) _ (r c) c _ _ (L c) (aC (rd (ws|||c) j)) hrp Ng (bI lw i) (bI lw j) LN xp
  unfold eJ at this
  rw[es,fE,fE,s0,cf hw.ne,cf hw.ne,p0,e,decide_eq_decide.mpr (show jQ ((ws|||c):) i<jQ ((ws|||c):) j↔i%(((ws|||c):):Int)<j%(((ws|||c):):Int) by rw[<-eK lw, <-eK lw];lia)]at this
  unfold pO pI
  rw[p0]
  exact this
end
noncomputable def yi:Nat->(Int->Int->Int)->Int
 | 0,_=>0
 | n+1,h=>yi n h+sm n (λj=>h j n)
theorem xt(n m:Nat)(h:Int->Int->Int):b7 (n+1) m h=b7 n m h+sm m (λj=>h n j):=rfl
theorem xu(m:Nat)(h:Int->Int->Int):∀n:Nat,b7 n (m+1) h=b7 n m h+sm n (λi=>h i m)
 | 0=>rfl
 | n+1=>by
  rw[xt,xt,xu m h n]
  show b7 n m h+sm n (λi=>h i m)+(sm m (λj=>h n j)+h n m)=b7 n m h+sm m (λj=>h n j)+(sm n (λi=>h i m)+h n m)
  lia
theorem C0{h:Int->Int->Int}:∀{n:Nat},(∀i j:Nat,i<n->j<n->h i j=h j i)->(∀i:Nat,i<n->h i i=0)->b7 n n h=2*yi n h
 | 0,_,_=>rfl
 | n+1,sy,dg=>by
  rw[xu,xt,C0 (n:=n) (λi j hi hj=>sy i j () ()) (λi hi=>dg i ())]
  show 2*yi n h+sm n (λj=>h n j)+(sm n (λi=>h i n)+h n n)=2*(yi n h+sm n (λj=>h j n))
  rw[dg n (),aJ (h:=λj=>h n j) (g:=λj=>h j n) (λj hj=>sy n j () ())]
  lia
theorem oh{h g:Int->Int->Int}:∀{n:Nat},(∀i j:Nat,i<j->j<n->h i j=g i j)->yi n h=yi n g
 | 0,_=>rfl
 | n+1,e=>by
  show yi n h+_=yi n g+_
  rw[oh (n:=n) λi j h1 h2=>e i j h1 (),aJ (g:=λj=>g j n) λj hj=>e j n hj ()]
section
variable{y:c7}{ws:List c7}{L:Nat->Bool}{r:Nat->Nat}{M:Nat}{N:Nat->Nat->Nat->Nat}
theorem gm.inj(h:dH y ws L r M)(hN:gm y ws R N){e':Nat}(hc:c<(ws:))(hd:d<(ws:))(hi:i<((ws|||c):))(hj:j<((ws|||d):))(he:e=rd (ws|||c) i\/e=ay (rd (ws|||c) i))(Fx:e'=rd (ws|||d) j\/e'=ay (rd (ws|||d) j))
  (eG:(c,i,e)≠(d,j,e')):N c i e≠N d j e':=by
 have ly:∀{c i e:Nat},c<(ws:)->(e=rd (ws|||c) i\/e=ay (rd (ws|||c) i))->e∈y:=λhc he=>he.elim (λz=>z▸(h.sw _ hc).rd _) λz=>z▸h.yd.cl _ ((h.sw _ hc).rd _)
 have ye:=ly hc he
 have ye':=ly hd Fx
 by_cases z:e=e'
 ·subst z
  have xp:(c,i)≠(d,j):=λq=>eG (by rw[(Prod.mk.inj q).1,(Prod.mk.inj q).2])
  have le:=h.yd.lt _ ye
  have lc:=h.yd.lt _ ((h.sw c hc).rd i)
  have ld:=h.yd.lt _ ((h.sw d hd).rd j)
  by_cases l:aC e=true
  ·exact (hN.low c i d j e hc hd hi hj xp l (he.elim (λz=> .inl z.symm) λz=> .inr (by rw[z,aF lc])) (Fx.elim (λz=> .inl z.symm) λz=> .inr (by rw[z,aF ld]))).1
  ·have:=(hN.low c i d j (ay e) hc hd hi hj xp (by rw[fS _ le.mem];simpa using l) (by rw[aF le];exact he.elim (λz=> .inr z.symm) λz=> .inl (by rw[z,aF lc])) (by rw[aF le];exact Fx.elim (λz=> .inr z.symm) λz=> .inl (by rw[z,aF ld]))).2.1
   rwa [aF le]at this
 ·have n:=cq ye ye' z
  rcases Qdw n with q | q
  ·exact Qa1 (hN.sep c i d j e e' hc hd hi hj he Fx q)
  ·exact Qed (hN.sep d j c i e' e hd hc hj hi Fx he q)
theorem C1{k:Int}(hi:i<n)(hj:j<n)(q:jQ n ((i:Int) - k)=jQ n ((j:Int) - k)):i=j:=by
 have lw:0<n:=Qbm (Qau _) hi
 have q2:((i:Int) - k)%n=((j:Int) - k)%n:=by rw[<-eK lw, <-eK lw,q]
 have q3:=(Int.emod_sub_cancel_right k).mp q2
 rw[Qbg (Qgh _) (Int.ofNat_lt.mpr hi),Qbg (Qgh _) (Int.ofNat_lt.mpr hj)]at q3
 exact Qge q3
theorem eL(h:dH y ws L r M)(hN:gm y ws R N)(hc:c<(ws:))(hd:d<(ws:))(hi:i<((ws|||c):))(hj:j<((ws|||d):)):
  pI ws N c ((i:Int) - 1)≠pO ws N d j/\((c,i)≠(d,j)->pI ws N c ((i:Int) - 1)≠pI ws N d ((j:Int) - 1)/\pO ws N c i≠pO ws N d j):=by
 have hw:=h.sw c hc
 have hv:=h.sw d hd
 have lw:=Qab.mpr hw.ne
 have lv:=Qab.mpr hv.ne
 have vo:∀{c:Nat} (hw:SW y (ws|||c)) (k:Int),rd (ws|||c) k=rd (ws|||c) (jQ ((ws|||c):) k:Nat)\/rd (ws|||c) k=ay (rd (ws|||c) (jQ ((ws|||c):) k:Nat)):=λhw k=> .inl (cf hw.ne k).symm
 have vi:∀{c:Nat} (hw:SW y (ws|||c)) (k:Int),ay (rd (ws|||c) k)=rd (ws|||c) (jQ ((ws|||c):) k:Nat)\/ay (rd (ws|||c) k)=ay (rd (ws|||c) (jQ ((ws|||c):) k:Nat)):=λhw k=> .inr (by rw[cf hw.ne k])
 refine ⟨hN.inj h hc hd (bI lw _) (bI lv _) (vi hw _) (vo hv _) λq=>?_,λeG=>⟨hN.inj h hc hd (bI lw _) (bI lv _) (vi hw _) (vi hv _) λq=>?_,hN.inj h hc hd (bI lw _) (bI lv _) (vo hw _) (vo hv _) λq=>?_⟩⟩
 ·obtain ⟨q1,q⟩:=Prod.mk.inj q
  obtain ⟨q2,q3⟩:=Prod.mk.inj q
  subst q1
  rw[<-cf hw.ne ((i:Int) - 1), <-cf hw.ne (j:Int),q2]at q3
  exact iN (h.yd.lt _ (hw.rd _)) q3
 ·obtain ⟨q1,q⟩:=Prod.mk.inj q
  subst q1
  exact eG (by rw[C1 hi hj (Prod.mk.inj q).1])
 ·obtain ⟨q1,q⟩:=Prod.mk.inj q
  subst q1
  exact eG (by rw[C1 (k:=0) hi hj (by rw[Qe0,Qe0];exact (Prod.mk.inj q).1)])
theorem LO(h:dH y ws L r M)(hN:gm y ws R N)(hc:c<(ws:))(hd:d<(ws:))(hi:i<((ws|||c):))(hj:j<((ws|||d):)):iJ (pO ws N c) (pI ws N c) (pO ws N d) (pI ws N d) i j=iJ (pO ws N d) (pI ws N d) (pO ws N c) (pI ws N c) j i:=by
 by_cases z:(c,i)=(d,j)
 ·obtain ⟨rfl,rfl⟩:=Prod.mk.inj z
  rfl
 have n:=eL h hN hc hd hi hj
 exact mX (eL h hN hc hc hi hi).1 (eL h hN hd hd hj hj).1 (n.2 z).1 n.1 (Ne.symm (eL h hN hd hc hj hi).1) (n.2 z).2
theorem HX(h:dH y ws L r M)(hN:Lies y ws L r M N)(hc:c<(ws:)):
  2*yi ((ws|||c):) (λi j=>one (iJ (pO ws N c) (pI ws N c) (pO ws N c) (pI ws N c) i j=true))=b7 ((ws|||c):) ((ws|||c):) (fc y (ws|||c) (ws|||c))+2*((((ws|||c):) / r c:Nat) - 1):=by
 rw[<-Bn h hN hc]
 exact (C0 (λi j hi hj=>by rw[LO h hN hc hc hi hj]) (λi hi=>ba (by unfold iJ;rw[zr];decide))).symm
end
theorem HY(hy:Yd y)(hf:g_ y f)(hg:g_ y g)(h:f a=g a)(hn:f (a+1)≠g (a+1)):gJ y g f a=!gJ y f g a:=by
 have:ff y f (a+1)≠ff y g (a+1):=λq=>hn (by
  unfold ff at q
  rw[show (a:Int)+1 - 1=a by lia, <-h]at q
  exact mW (hy.cl _ (hf.bO _)) (hf.bO _) (hg.bO _) q)
 unfold gJ
 rw[<-decide_not]
 exact decide_eq_decide.mpr ()
theorem Bo(hy:Yd y)(hf:g_ y f)(hg:g_ y g)(h:f (-(b:Int))=g (-(b:Int)))(hn:f (-(b:Int) - 1)≠g (-(b:Int) - 1)):gS y g f b=!gS y f g b:=by
 have:ff y f (-(b:Int))≠ff y g (-(b:Int)):=λq=>hn (by
  unfold ff at q
  rw[<-h]at q
  have r1:=hf.red (-(b:Int))
  have r2:=hg.red (-(b:Int))
  have c1:=(fg (hy.cl _ (hf.bO (-(b:Int) - 1))) (hf.bO (-(b:Int))) (Ne.symm r1)).2.2
  have c2:=(fg (hy.cl _ (hg.bO (-(b:Int) - 1))) (hf.bO (-(b:Int))) (by rw[h];exact Ne.symm r2)).2.2
  have:=mW (hf.bO (-(b:Int))) (hy.cl _ (hf.bO (-(b:Int) - 1))) (hy.cl _ (hg.bO (-(b:Int) - 1))) (by rw[c1,c2,q])
  exact dk (hy.lt _ (hf.bO _)) (hy.lt _ (hg.bO _)) this)
 unfold gS
 rw[<-decide_not]
 exact decide_eq_decide.mpr ()
theorem Nw(hy:Yd y)(hf:g_ y f)(hg:g_ y g):gT y f g->gT y g f:=λ⟨a,r,x⟩=>⟨a,r.sy,by
 rw[HY hy hf hg (r.oe a () ()) r.hi,Bo hy hf hg (r.oe _ () ()) r.lo]
 exact λq=>x (by simpa using q)⟩
theorem Bp(hy:Yd y)(ha:a∈y)(hb:b∈y)(hp:p∈y)(hq:q∈y)(Ag:a≠b)(Vf:p≠q):ac y a b p q=ac y p q a b:=by
 unfold ac
 by_cases z:p=a\/p=b\/q=a\/q=b
 ·rw[if_pos z,if_pos (z.elim (λz=> .inl z.symm) λz=>z.elim (λz=> .inr (.inr (.inl z.symm))) λz=>z.elim (λz=> .inr (.inl z.symm)) λz=> .inr (.inr (.inr z.symm)))]
 ·have n1:a≠p:=λq=>z (.inl q.symm)
  have n2:b≠p:=λq=>z (.inr (.inl q.symm))
  have n3:a≠q:=λq=>z (.inr (.inr (.inl q.symm)))
  have n4:b≠q:=λq=>z (.inr (.inr (.inr q.symm)))
  rw[if_neg z,if_neg (λz=>z.elim n1 λz=>z.elim n3 λz=>z.elim n2 n4)]
  rw[fH hy.nd ha hp hb n1 Ag (Ne.symm n2),fH hy.nd ha hq hb n3 Ag (Ne.symm n4),fH hy.nd hp ha hq (Ne.symm n1) Vf n3,fH hy.nd hp hb hq (Ne.symm n2) Vf n4]
  exact mX (cq ha hb Ag) (cq hp hq Vf) (cq ha hp n1) (cq ha hq n3) (cq hb hp n2) (cq hb hq n4)
theorem HZ{Q:Int->Prop}{P:Nat->Bool}:∀{m:Nat},(∀j:Nat,j<m->(Q j↔P j=true))->sm m (λj=>one (Q j))=((List.range m).filter P:)
 | 0,_=>rfl
 | m+1,h=>by
  show sm m _+one (Q m)=_
  rw[HZ (m:=m) λj hj=>h j (),Qco,Qcc,T6,br (h m ())]
  cases e:P m
  ·rw[Qbj (by rw[e];decide),ba ∅];simp
  ·rw[Qbx e,eT rfl];simp
theorem C2(n:Nat)(h:Int->Int->Int):∀m:Nat,sm n (λi=>sm m λj=>h i j)=sm m λj=>sm n λi=>h i j
 | 0=>fT n
 | m+1=>by
  show b7 n (m+1) h=sm m (λj=>sm n λi=>h i j)+sm n (λi=>h i m)
  rw[xu, <-C2 n h m]
  rfl
theorem oj(h:Nat->Int):∀n:Nat,((List.range n).map h).sum=sm n (λi=>h i.toNat)
 | 0=>rfl
 | n+1=>by
  rw[Qco,Qaq,List.sum_append,oj h n]
  show _=sm n _+h (((n:Nat):Int).toNat)
  rw[Qan]
  simp
theorem C3(ws:List c7)(h:Nat×Nat->Int):∀n:Nat,((zp ws n).map h).sum=sm n λc=>sm (ws.getD c.toNat []:) λi=>h (c.toNat,i.toNat)
 | 0=>rfl
 | n+1=>by
  unfold zp
  rw[Qaq,List.sum_append,C3 ws h n,Qbh]
  show _+((List.range _).map λi=>h (n,i)).sum=_
  rw[oj]
  rfl
noncomputable def cl{α:Type}(p:α->α->Bool):List α->Nat
 | []=>0
 | x::r=>(r.filter (p x):)+cl p r
theorem Bq{α:Type}(p:α->α->Bool)(m:List α):∀l:List α,(cl p (l++m):Int)=cl p l+cl p m+(l.map λx=>((m.filter (p x):):Int)).sum
 | []=>by show (cl p m:Int)=((0:Nat):Int)+cl p m+0;lia
 | a::l=>by
  show ((((l++m).filter (p a):)+cl p (l++m):Nat):Int)=(((l.filter (p a):)+cl p l:Nat):Int)+cl p m+(((a::l).map λx=>((m.filter (p x):):Int)).sum)
  rw[Qcc,T6,Qa3,Qdo,Qbl,Qbl,Bq p m l,Qbl]
  lia
theorem H_(p:Nat×Nat->Nat×Nat->Bool)(c:Nat):∀n:Nat,(cl p ((List.range n).map λi=>(c,i)):Int)=yi n (λi j=>one (p (c,i.toNat) (c,j.toNat)=true))
 | 0=>rfl
 | n+1=>by
  rw[Qco,Qaq,Bq,H_ p c n,Qbh]
  show _+((0:Nat):Int)+((List.range n).map λi=>((([(c,n)]:List (Nat×Nat)).filter (p (c,i)):):Int)).sum=yi n _+sm n _
  rw[oj,Qes]
  congr 1
  rw[show ((0:Nat):Int)=0 from rfl,Qd8]
  refine aJ λi _=>?_
  show (((([(c,n)]:List (Nat×Nat)).filter (p (c,i)):):Int))=one (p (c,((i:Nat):Int).toNat) (c,((n:Nat):Int).toNat)=true)
  rw[Qan,Qan]
  cases e:p (c,i) (c,n)
  ·rw[Qbj (by rw[e];decide),ba ∅];rfl
  ·rw[Qbx e,eT rfl];rfl
theorem LP(P:Nat×Nat->Bool)(c n:Nat):((((List.range n).map λi=>(c,i)).filter P:):Int)=sm n (λj=>one (P (c,j.toNat)=true)):=by
 rw[List.filter_map,Wh,HZ (P:=λj=>P (c,j)) λj _=>by rw[Qan]]
 rfl
theorem Ia(ws:List c7)(p:Nat×Nat->Nat×Nat->Bool):∀n:Nat,(cl p (zp ws n):Int)=sm n (λc=>yi (ws.getD c.toNat []:) (λi j=>one (p (c.toNat,i.toNat) (c.toNat,j.toNat)=true)))+yi n (λc d=>b7 (ws.getD c.toNat []:) (ws.getD d.toNat []:) λi j=>one (p (c.toNat,i.toNat) (d.toNat,j.toNat)=true))
 | 0=>rfl
 | n+1=>by
  unfold zp
  rw[Bq,Ia ws p n,H_,C3]
  have u:((n:Nat):Int).toNat=n:=Qan n
  show _+_+sm n _=(sm n _+yi (ws.getD ((n:Nat):Int).toNat []:) (λi j=>one (p (((n:Nat):Int).toNat,i.toNat) (((n:Nat):Int).toNat,j.toNat)=true)))+(yi n _+sm n (λc=>b7 (ws.getD c.toNat []:) (ws.getD ((n:Nat):Int).toNat []:) λi j=>one (p (c.toNat,i.toNat) (((n:Nat):Int).toNat,j.toNat)=true)))
  rw[u]
  have:sm n (λc=>sm (ws.getD c.toNat []:) λi=>(((((List.range ((ws|||n):)).map λi=>(n,i)).filter (p (c.toNat,i.toNat)):):Nat):Int))=sm n (λc=>b7 (ws.getD c.toNat []:) ((ws|||n):) λi j=>one (p (c.toNat,i.toNat) (n,j.toNat)=true)):=aJ λc _=>aJ λi _=>LP _ _ _
  rw[this]
  lia
section
variable{y:c7}{ws:List c7}{L:Nat->Bool}{r:Nat->Nat}{M:Nat}{N:Nat->Nat->Nat->Nat}
noncomputable def RU(ws:List c7)(N:Nat->Nat->Nat->Nat)(o p:Nat×Nat):Bool:=iJ (pO ws N o.1) (pI ws N o.1) (pO ws N p.1) (pI ws N p.1) o.2 p.2
end
def Lx(f g:Int->Nat):Prop:=∃m:Nat,f m<g m/\∀l:Nat,l<m->f l=g l
theorem xv{w:c7}(hw:w≠[]){k:Nat}(hi:i<=(w:))(hk:k<(w:)):(bR w i)[k]? =some (rd w ((i:Int)+k)):=by
 rw[qj hi hk]
 unfold Fw
 have:=fI hw ((i:Int)+k)
 rw[<-this]
 congr 1
 have e:(((k+i)%(w:):Nat):Int)=((i:Int)+k)%(w:):=by rw[Qdt,Qbl,Int.add_comm]
 lia
theorem Ib{w:c7}(hw:w≠[])(hl:(u:)=(w:))(hi:i<=(w:))(hj:j<=(w:)):bR w i<bR u j↔Lx (sq w i) (sq u j):=by
 have hu:u≠[]:=λz=>hw (by rw[z]at hl;exact Qb7.mp hl.symm)
 have g1:∀{k:Nat} (hk:k<(bR w i:)),(bR w i)[k]=sq w i k:=λ{k} hk=>by
  have:=xv hw hi (k:=k) (by rw[bK]at hk;exact hk)
  rw[OD hk]at this
  exact Qal this
 have g2:∀{k:Nat} (hk:k<(bR u j:)),(bR u j)[k]=sq u j k:=λ{k} hk=>by
  have:=xv hu (i:=j) (k:=k) () (by rw[bK]at hk;exact hk)
  rw[OD hk]at this
  exact Qal this
 rw[List.lt_iff_exists]
 constructor
 ·rintro (⟨_,h⟩ | ⟨m,h1,h2,h3,h4⟩)
  ·rw[bK,bK,hl]at h;lia
  ·refine ⟨m,by rw[<-g1 h1, <-g2 h2];exact h4,λl Ac=>?_⟩
   rw[<-g1 (), <-g2 ()]
   exact h3 l Ac
 ·rintro ⟨m,h1,h2⟩
  have hp:=Qab.mpr hw
  have hm:m<(w:):=by
   refine Classical.byContradiction λz=>?_
   have d:=Qfy m (w:)
   have c1:=iT (f:=sq w i) (p:=(w:)) (λk=>cL w i k) (m%(w:):Nat) (m / (w:))
   have c2:=iT (f:=sq u j) (p:=(w:)) (λk=>by rw[<-hl];exact cL u j k) (m%(w:):Nat) (m / (w:))
   have e:((m%(w:):Nat):Int)+((m / (w:):Nat):Int)*((w:):Nat)=m:=by
    rw[Int.mul_comm];exact_mod_cast d
   rw[e]at c1 c2
   rw[c1,c2,h2 (m%(w:)) (by have:=Qd4 m hp;lia)]at h1
   lia
  refine .inr ⟨m,by rw[bK];exact hm,by rw[bK,hl];exact hm,λl Ac=>?_,?_⟩
  ·rw[g1,g2];exact h2 l Ac
  ·rw[g1,g2];exact h1
theorem mY{w:c7}(hw:w≠[]):∃i:Nat,i<(w:)/\bV w=bR w i:=by
 have hp:=Qab.mpr hw
 rcases iQ (jo w ((w:) - 1)) w with h | h
 ·exact ⟨0,hp,by unfold bV;rw[h,mQ]⟩
 ·unfold jo at h
  obtain ⟨k,hk,e⟩:=Qay.mp h
  have:=Qbr.mp hk
  exact ⟨k+1,(),by unfold bV;exact e.symm⟩
theorem o6{w:c7}(hi:i<(w:)): ¬bR w i<bV w:=by
 unfold bV
 refine iR _ _ _ ?_
 cases i with
 | zero=>rw[mQ];exact Qac
 | succ i=>exact Qae _ (Qay.mpr ⟨i,Qbr.mpr (),rfl⟩)
noncomputable def leads(w:c7):Bool:=decide (bV w<bV (bC w))
theorem gK(h:v≠[])(k:Int):sq (bC v) k=bq v (-1 - k):=by
 funext x
 unfold sq bq
 rw[iU h]
 congr 2;lia
theorem om(h:v≠[]):bC v≠[]:=λz=>h (Qb7.mp (by rw[<-bA v,z];rfl))
theorem vB{w:c7}(hw:w≠[]):leads w=true↔ ∃i:Int,∀j:Int,Lx (sq w i) (bq w j):=by
 have hp:=Qab.mpr hw
 have hl:=bA w
 have ht:=om hw
 unfold leads
 rw[decide_eq_true_iff]
 constructor
 ·intro h
  obtain ⟨i,hi,ei⟩:=mY hw
  refine ⟨i,λj=>?_⟩
  have hj:=bI (n:=(bC w:)) (by rw[hl];exact hp) (-1 - j)
  have h2:bV w<bR (bC w) (jQ (bC w:) (-1 - j)):=List.not_le.mp λz=>by
   have:=List.lt_of_le_of_lt z h
   exact o6 hj this
  rw[ei]at h2
  have h3:=(Ib hw hl () ()).mp h2
  rw[cP ht,gK hw,show -1 - (-1 - j)=j by lia]at h3
  exact h3
 ·rintro ⟨i,h⟩
  obtain ⟨j,hj,ej⟩:=mY ht
  have h2:=h (-1 - j)
  rw[show (-1:Int) - (j:Int)= -1 - j by lia, <-gK hw, <-cP hw]at h2
  have hi:=bI hp i
  have h3:=(Ib hw hl () ()).mpr h2
  rw[<-ej]at h3
  exact List.lt_of_le_of_lt (Qdu.mp (o6 hi)) h3
theorem vC{w:c7}(hw:w≠[])(hv:v≠[]){i j:Int}(h:bS w v i j):leads w=leads v:=by
 have e1:∀k,sq w k=sq v (k - i+j):=λk=>by
  funext x
  have:=h (k - i+x)
  unfold sq at this ⊢
  rw[show k+x=i+(k - i+x) by lia,this]
  congr 1;lia
 have e2:∀k,bq w k=bq v (k - i+j):=λk=>by rw[<-eI, <-eI,e1]
 rw[Qew,vB hw,vB hv]
 constructor
 ·rintro ⟨a,h⟩
  refine ⟨a - i+j,λb=>?_⟩
  have:=h (b - j+i)
  rwa [e1,e2,show b - j+i - i+j=b by lia]at this
 ·rintro ⟨a,h⟩
  refine ⟨a - j+i,λb=>?_⟩
  rw[e1,e2,show a - j+i - i+j=a by lia]
  exact h _
theorem vD{w:c7}(hy:Yd y)(hw:SW y w):leads (bC w)=!leads w:=by
 have hl:AllLt w:=λc hc=>hy.lt c (hw.bO c hc)
 have ne:bV w≠bV (bC w):=λz=>by
  obtain ⟨i,hi,ei⟩:=mY hw.ne
  obtain ⟨j,hj,ej⟩:=mY (om hw.ne)
  rw[bA]at hj
  have:∀k:Nat,k<(w:)->sq w i k=sq (bC w) j k:=λk hk=>by
   have h1:=xv hw.ne (i:=i) (k:=k) () hk
   have h2:=xv (om hw.ne) (i:=j) (k:=k) (by rw[bA];lia) (by rw[bA];exact hk)
   rw[<-ei,z,ej,h2]at h1
   exact (Qal h1).symm
  refine xk hy hw i (-1 - j) ?_
  rw[<-gK hw.ne]
  have hp:=Qab.mpr hw.ne
  refine fw (p:=(w:)) (q:=(w:)) hp hp (λk=>cL w i k) (λk=>by rw[<-bA w];exact cL (bC w) j k) λn hn=>?_
  by_cases q:n<(w:)
  ·exact this n q
  ·have c1:=cL w i ((n - (w:):Nat):Int)
   have c2:=cL (bC w) j ((n - (w:):Nat):Int)
   rw[show ((n - (w:):Nat):Int)+(w:)=n by lia]at c1
   rw[bA,show ((n - (w:):Nat):Int)+(w:)=n by lia]at c2
   rw[c1,c2]
   exact this _ ()
 unfold leads
 rw[qg hl, <-decide_not]
 refine decide_eq_decide.mpr ⟨λh z=>?_,λh=>?_⟩
 ·exact Qcu _ (Qfh h z)
 ·exact List.not_le.mp λz=>ne (Qgu z (Qdu.mp h))
theorem EL{w:c7}(hy:Yd y)(hw:SW y w)(hv:SW y v){i j:Int}(h:∀k,sq w i k=bq v j k):leads v=!leads w:=by
 have:bS w (bC v) i (-1 - j):=λk=>by rw[gK hv.ne,show -1 - (-1 - j)=j by lia];exact h k
 rw[vC hw.ne (om hv.ne) this,vD hy hv,Bool.not_not]
theorem Ic{w:c7}(hw:w≠[]):Af w d↔ ∀k:Int,rd w (k+d)=rd w k:=by
 have hp:=Qab.mpr hw
 have fr:∀i:Nat,Fw w i=some (rd w i):=λi=>by
  unfold Fw
  rw[<-fI hw (i:Int)]
  congr 1
 constructor
 ·intro h k
  have:=h (jQ (w:) k)
  rw[fr,fr]at this
  have:=Qal this
  rw[cf hw]at this
  rw[<-this, <-fJ w (k+d), <-fJ w (((jQ (w:) k+d:Nat)):Int),Qbl,eK hp,Qgr]
 ·intro h i
  rw[fr,fr,Qbl,h]
theorem gn{w:c7}(hw:w≠[])(h:bN w s):0<s/\∀i j:Int,bS w w i j↔(i - j)%(s:Int)=0:=by
 rcases h with ⟨z,_⟩ | h'
 ·exact absurd z hw
 have h:bN w s:= .inr h'
 obtain ⟨h1,h2,h3,_⟩:=h'
 have ps:∀k:Int,rd w (k+s)=rd w k:=(Ic hw).mp ((gI hw h2).mp (qh h1 h2 h3))
 have pm:∀(k t:Int),rd w (k+t*s)=rd w k:=λk t=>by
  rcases Int.le_total 0 t with q | q
  ·obtain ⟨n,rfl⟩:∃n:Nat,t=n:=⟨t.toNat,()⟩
   exact iT ps k n
  ·obtain ⟨n,rfl⟩:∃n:Nat,t= -(n:Int):=⟨(-t).toNat,()⟩
   have:=iT ps (k+ -(n:Int)*s) n
   rw[<-this]
   congr 1
   rw[Int.neg_mul];lia
 refine ⟨h1,λi j=>⟨λp=>?_,λp k=>?_⟩⟩
 ·have pd:∀k:Int,rd w (k+(i - j))=rd w k:=λk=>by
   have:=p (k - j)
   unfold sq at this
   rw[show i+(k - j)=k+(i - j) by lia,show j+(k - j)=k by lia]at this
   exact this
  have e:=Qf5 (i - j) s
  have hn:=Qcp (i - j) (b:=(s:Int)) ()
  have cU:=Qcj (i - j) (b:=(s:Int)) ()
  refine Classical.byContradiction λz=>?_
  obtain ⟨d,hd⟩:∃d:Nat,(i - j)%(s:Int)=d:=⟨((i - j)%(s:Int)).toNat,()⟩
  refine bN.least h (j:=d) () () ((Ic hw).mpr λk=>?_)
  have q:=pd k
  rw[<-e,hd,Int.mul_comm, <-Qes,pm]at q
  exact q
 ·unfold sq
  have e:=Qf5 (i - j) s
  rw[p,Qd8,Int.mul_comm]at e
  rw[show i+k=j+k+(i - j) by lia, <-e,pm]
variable{r:Nat->Nat}{M:Nat}
theorem Ie(hy:Yd y)(hw:∀c,c<(ws:)->SW y (ws|||c))(hr:∀c,c<(ws:)->bN (ws|||c) (r c))(hM:∀c d,c<(ws:)->d<(ws:)->((ws|||c):)+((ws|||d):)<=M):dH y ws (λc=>leads (ws|||c)) r M:=
 ⟨hy,hw,hM,λc d i j hc hd h=>vC (hw c hc).ne (hw d hd).ne h,λc d i j hc hd h=>EL hy (hw c hc) (hw d hd) h,λc hc=>(gn (hw c hc).ne (hr c hc)).1,λc hc=>(gn (hw c hc).ne (hr c hc)).2⟩
noncomputable def bs(y w v:c7)(i j:Int):Int:=one (ac y (ay (rd w (i - 1))) (rd w i) (ay (rd v (j - 1))) (rd v j)=true)+one (gT y (sq w i) (sq v j))+one (gT y (sq w i) (bq v j))
noncomputable def SS(y w v:c7):Int:=b7 (w:) (v:) (bs y w v)
theorem Ny{w:c7}(hy:Yd y)(hw:SW y w)(hv:SW y v):b7 (w:) (v:) (fc y w v)=SS y w v:=bu λi j _ _=>by
 unfold fc bs
 rw[br (vz (n:=(w:)+(v:)) hy (aX hw i) (aX hv j) λz=>ir hw.ne hv.ne (λk=>cL w i k) (λk=>cL v j k) z),br (vz (n:=(w:)+(v:)) hy (aX hw i) (fh hy hv j) λz=>ir hw.ne hv.ne (λk=>cL w i k) (λk=>n_ v j k) z)]
theorem Nz(w:c7)(i:Int):rd w (i+(w:) - 1)=rd w (i - 1):=by rw[show i+((w:):Int) - 1=i - 1+(w:) by lia,e_]
theorem Vl(y w v:c7)(i j:Int):bs y w v (i+(w:)) j=bs y w v i j:=by unfold bs;rw[lW,e_,Nz]
def RV(y:c7)(f g:Int->Nat):Prop:=∃b,Run f g 0 b/\gJ y f g 0≠gS y f g b
theorem Ig(bF:∀k,dB (F k)=F (k - 1))(bG:∀k,dB (G k)=G (k - 1))(pF:∀k,F (k+n)=F k)(pG:∀k,G (k+m)=G k):b7 n m (λs t=>one (gT y (F s) (G t)))=b7 n m λs t=>one (RV y (F s) (G t)):=by
 have key:∀s t:Int,one (gT y (F s) (G t))+one (∃a b,Run (F (s - 1)) (G (t - 1)) (a+1) b/\gJ y (F (s - 1)) (G (t - 1)) (a+1)≠gS y (F (s - 1)) (G (t - 1)) b)=one (RV y (F s) (G t))+one (∃a b,Run (F s) (G t) (a+1) b/\gJ y (F s) (G t) (a+1)≠gS y (F s) (G t) b):=λs t=>by
  rw[<-bF, <-bG]
  generalize F s=f
  generalize G t=g
  by_cases X:∃a b,Run f g a b/\gJ y f g a≠gS y f g b
  ·obtain ⟨a,b,r,x⟩:=X
   have u:∀{a' b'},Run f g a' b'->a'=a/\b'=b:=λr'=>r'.one r
   have e1:one (gT y f g)+one (∃a b,Run (dB f) (dB g) (a+1) b/\gJ y (dB f) (dB g) (a+1)≠gS y (dB f) (dB g) b)=1:=by
    cases b with
    | zero=>
     rw[eT ⟨a,r,x⟩,ba (λ⟨a',b',r',_⟩=>absurd (u r'.fd).2 (Qep _))]
     rfl
    | succ b=>
     rw[ba (λ⟨a',r',_⟩=>absurd (u r').2.symm (Qep _)),eT ⟨a,b,r.bk,by rw[mU,mV];exact x⟩]
     rfl
   have e2:one (RV y f g)+one (∃a b,Run f g (a+1) b/\gJ y f g (a+1)≠gS y f g b)=1:=by
    cases a with
    | zero=>
     rw[eT ⟨b,r,x⟩,ba (λ⟨a',b',r',_⟩=>absurd (u r').1 (Qep _))]
     rfl
    | succ a=>
     rw[ba (λ⟨b',r',_⟩=>absurd (u r').1.symm (Qep _)),eT ⟨a,b,r,x⟩]
     rfl
   rw[e1,e2]
  ·rw[ba (λ⟨a,r,x⟩=>X ⟨a,0,r,x⟩),ba (λ⟨a,b,r,x⟩=>X ⟨a,b+1,r.fd,by rw[mU,mV]at x;exact x⟩),ba (λ⟨b,r,x⟩=>X ⟨0,b,r,x⟩),ba (λ⟨a,b,r,x⟩=>X ⟨a+1,b,r,x⟩)]
 have sh:=vA (n:=n) (m:=m) (h:=λs t=>one (∃a b,Run (F s) (G t) (a+1) b/\gJ y (F s) (G t) (a+1)≠gS y (F s) (G t) b)) (λi j=>by rw[pF]) (λi j=>by rw[pG])
 refine (Int.add_left_inj (b7 n m (λs t=>one (∃a b,Run (F s) (G t) (a+1) b/\gJ y (F s) (G t) (a+1)≠gS y (F s) (G t) b)))).mp ?_
 rw[<-cG n m (λs t=>one (RV y (F s) (G t))), <-sh, <-cG]
 exact bu λi j _ _=>key i j
theorem NA(hy:Yd y)(hf:g_ y f)(hg:g_ y g):RV y f g↔gT y (kZ g) (kZ f):=by
 have a1:∀b:Nat,gJ y (kZ g) (kZ f) b=gS y f g b:=λb=>by
  unfold gJ gS
  rw[jL hy hf,jL hy hg]
  exact decide_eq_decide.mpr ⟨λq=>by lia,λq=>by lia⟩
 have a2:gS y (kZ g) (kZ f) 0=gJ y f g 0:=by
  unfold gJ gS
  have e1:=jL hy hf (-1)
  have e2:=jL hy hg (-1)
  rw[show (-1:Int)+1= -((0:Nat):Int) from rfl]at e1 e2
  rw[e1,e2]
  exact decide_eq_decide.mpr ⟨λq=>by have:((y:):Int) - ff y g 1<(y:) - ff y f 1:=q;show ff y f 1<ff y g 1;lia,λq=>by have:ff y f 1<ff y g 1:=q;show ((y:):Int) - ff y g 1<(y:) - ff y f 1;lia⟩
 constructor
 ·rintro ⟨b,r,x⟩
  exact ⟨b,(r.rv hy hf hg).sy,by rw[a1,a2];exact Ne.symm x⟩
 ·rintro ⟨b,r,x⟩
  have r2:=r.rv hy (hg.rv hy) (hf.rv hy)
  rw[o5 hy hf,o5 hy hg]at r2
  rw[a1,a2]at x
  exact ⟨b,r2.sy,Ne.symm x⟩
theorem xw(hy:Yd y)(hf:g_ y f)(hg:g_ y g):gT y f g↔gT y g f:=⟨Nw hy hf hg,Nw hy hg hf⟩
theorem Ih(w:c7)(k:Int):dB (sq w k)=sq w (k - 1):=by
 funext x
 unfold dB sq
 congr 1
 lia
theorem Vm{w:c7}(hy:Yd y)(h:SW y w)(i:Int):kZ (bq w i)=sq w i:=by rw[<-eI,o5 hy (aX h i)]
theorem LQ{w:c7}(hy:Yd y)(hw:SW y w)(hv:SW y v):b7 (w:) (v:) (λi j=>one (gT y (bq w i) (bq v j)))=b7 (w:) (v:) λi j=>one (gT y (sq w i) (sq v j)):=by
 rw[Ig (F:=sq w) (G:=sq v) (Ih w) (Ih v) (lW w) (lW v)]
 exact bu λi j _ _=>br (by rw[NA hy (aX hw i) (aX hv j),eI,eI];exact xw hy (fh hy hw i) (fh hy hv j))
theorem Ii{w:c7}(hy:Yd y)(hw:SW y w)(hv:SW y v):b7 (w:) (v:) (λi j=>one (gT y (bq w i) (sq v j)))=b7 (w:) (v:) λi j=>one (gT y (sq w i) (bq v j)):=by
 have fb:∀k,dB (bq v (-k))=bq v (-(k - 1)):=λk=>by
  funext x
  unfold dB bq
  congr 2
  lia
 have fp:∀k:Int,bq v (-(k+(v:)))=bq v (-k):=λk=>by rw[show -(k+((v:):Int))= -k - (v:) by lia,P8]
 have e:=Ig (y:=y) (n:=(w:)) (m:=(v:)) (F:=sq w) (G:=λk=>bq v (-k)) (Ih w) fb (lW w) fp
 have n1:∀H:Int->Int->Int,(∀i j,H i (j+(v:))=H i j)->b7 (w:) (v:) (λi j=>H i (-j))=b7 (w:) (v:) H:=λH P=>aJ λi _=>rO (h:=H i) λk=>P i k
 rw[n1 (λi j=>one (gT y (sq w i) (bq v j))) (λi j=>by rw[jN]),n1 (λi j=>one (RV y (sq w i) (bq v j))) (λi j=>by rw[jN])]at e
 rw[e]
 exact bu λi j _ _=>br (by rw[NA hy (aX hw i) (fh hy hv j),eI,Vm hy hv];exact xw hy (fh hy hw i) (aX hv j))
theorem EM{w:c7}(hy:Yd y)(h:SW y w)(i:Int):ay (rd w (i - 1))∈y/\rd w i∈y/\ay (rd w (i - 1))≠rd w i:=⟨hy.cl _ (h.rd _),h.rd _,Ne.symm (h.red i)⟩
theorem Ij{w:c7}(hy:Yd y)(hw:SW y w)(hv:SW y v):SS y w v=SS y v w:=by
 have sw:∀H:Int->Int->Int,b7 (v:) (w:) (λj i=>H i j)=b7 (w:) (v:) H:=λH=>C2 _ _ _
 have e:∀u z:c7,SS y u z=b7 (u:) (z:) (λi j=>one (ac y (ay (rd u (i - 1))) (rd u i) (ay (rd z (j - 1))) (rd z j)=true))+b7 (u:) (z:) (λi j=>one (gT y (sq u i) (sq z j)))+b7 (u:) (z:) (λi j=>one (gT y (sq u i) (bq z j))):=λu z=>by
  unfold SS bs
  rw[cG,cG]
 rw[e w v,e v w, <-Ii hy hw hv, <-sw, <-sw, <-sw]
 congr 1
 ·congr 1
  ·exact bu λj i _ _=>by
    obtain ⟨a1,a2,a3⟩:=EM hy hw i
    obtain ⟨b1,b2,b3⟩:=EM hy hv j
    rw[Bp hy a1 a2 b1 b2 a3 b3]
  ·exact bu λj i _ _=>br (xw hy (aX hw i) (aX hv j))
 ·exact bu λj i _ _=>br (xw hy (fh hy hw i) (aX hv j))
theorem NB{h:Int->Int}{n:Nat}(P:∀k,h (k+n)=h k):∀k:Nat,sm n (λi=>h (i+k))=sm n h
 | 0=>aJ λi _=>by rw[show (i:Int)+((0:Nat):Int)=i by lia]
 | k+1=>by
  rw[<-NB P k, <-ql (h:=λi=>h (i+k)) (n:=n) (λj=>by rw[show j+(n:Int)+k=j+k+n by lia,P])]
  exact aJ λi _=>by rw[show (i:Int)+((k+1:Nat):Int)=i+1+k by lia]
theorem Ik{w:c7}(hw:w≠[]){k:Nat}(hk:k<=(w:)):SS y (bR w k) v=SS y w v:=by
 have r:∀i,rd (bR w k) i=rd w (i+k):=xc hw hk
 have ls:(bR w k:)=(w:):=by unfold bR;rw[T6,Qat,Qad];lia
 have q:∀i,sq (bR w k) i=sq w (i+k):=λi=>by
  funext x
  unfold sq
  rw[r,show i+x+(k:Int)=i+k+x by lia]
 unfold SS
 rw[ls]
 show sm _ (λi=>sm _ λj=>bs y (bR w k) v i j)=sm _ λi=>sm _ λj=>bs y w v i j
 rw[<-NB (h:=λi=>sm (v:) λj=>bs y w v i j) (n:=(w:)) (λi=>aJ λj _=>Vl y w v i j) k]
 exact aJ λi _=>aJ λj _=>by
  unfold bs
  rw[q,r,r,show (i:Int) - 1+k=i+k - 1 by lia]
theorem LR(y:c7)(a b p q:Nat):ac y a b q p=ac y a b p q:=by
 unfold ac
 have e:(q=a\/q=b\/p=a\/p=b)↔(p=a\/p=b\/q=a\/q=b):=⟨λh=>by rcases h with h | h | h | h<;>simp[h],λh=>by rcases h with h | h | h | h<;>simp[h]⟩
 by_cases z:p=a\/p=b\/q=a\/q=b
 ·rw[if_pos z,if_pos (e.mpr z)]
 ·rw[if_neg z,if_neg λg=>z (e.mp g)]
  cases gr y a p b<;>cases gr y a q b<;>rfl
theorem Il{w:c7}(hy:Yd y)(hw:SW y w)(hv:SW y v):SS y (bC w) v=SS y w v:=by
 have e:∀u z:c7,SS y u z=b7 (u:) (z:) (λi j=>one (ac y (ay (rd u (i - 1))) (rd u i) (ay (rd z (j - 1))) (rd z j)=true))+b7 (u:) (z:) (λi j=>one (gT y (sq u i) (sq z j)))+b7 (u:) (z:) (λi j=>one (gT y (sq u i) (bq z j))):=λu z=>by
  unfold SS bs
  rw[cG,cG]
 have n1:∀H:Int->Int->Int,(∀i j,H (i+(w:)) j=H i j)->b7 (w:) (v:) (λi j=>H (-1 - i) j)=b7 (w:) (v:) H:=λH P=>by
  show sm _ (λi=>sm _ λj=>H (-1 - i) j)=sm _ λi=>sm _ λj=>H i j
  rw[<-rO (h:=λi=>sm (v:) λj=>H i j) (n:=(w:)) (λi=>aJ λj _=>P i j), <-ql (h:=λi=>sm (v:) λj=>H (-i) j) (n:=(w:)) (λi=>aJ λj _=>by rw[<-P (-(i+(w:))),show -(i+((w:):Int))+(w:)= -i by lia])]
  exact aJ λi _=>aJ λj _=>by rw[show -1 - (i:Int)= -((i:Int)+1) by lia]
 rw[e (bC w) v,e w v,bA, <-LQ hy hw hv, <-Ii hy hw hv, <-n1 (λi j=>one (gT y (bq w i) (bq v j))) (λi j=>by rw[jN]), <-n1 (λi j=>one (gT y (bq w i) (sq v j))) (λi j=>by rw[jN])]
 rw[show b7 (w:) (v:) (λi j=>one (gT y (sq (bC w) i) (sq v j)))=b7 (w:) (v:) (λi j=>one (gT y (bq w (-1 - i)) (sq v j))) from bu λi j _ _=>by rw[gK hw.ne],show b7 (w:) (v:) (λi j=>one (gT y (sq (bC w) i) (bq v j)))=b7 (w:) (v:) (λi j=>one (gT y (bq w (-1 - i)) (bq v j))) from bu λi j _ _=>by rw[gK hw.ne]]
 have ea:b7 (w:) (v:) (λi j=>one (ac y (ay (rd (bC w) (i - 1))) (rd (bC w) i) (ay (rd v (j - 1))) (rd v j)=true))=b7 (w:) (v:) (λi j=>one (ac y (ay (rd w (i - 1))) (rd w i) (ay (rd v (j - 1))) (rd v j)=true)):=by
  show sm _ (λi=>sm _ λj=>one (ac y (ay (rd (bC w) (i - 1))) (rd (bC w) i) (ay (rd v (j - 1))) (rd v j)=true))=sm _ λi=>sm _ λj=>one (ac y (ay (rd w (i - 1))) (rd w i) (ay (rd v (j - 1))) (rd v j)=true)
  rw[<-rO (h:=λi=>sm (v:) λj=>one (ac y (ay (rd w (i - 1))) (rd w i) (ay (rd v (j - 1))) (rd v j)=true)) (n:=(w:)) (λi=>aJ λj _=>by rw[Nz,e_])]
  refine aJ λi _=>aJ λj _=>?_
  rw[iU hw.ne,iU hw.ne,aF (hy.lt _ (hw.rd _)),show -1 - ((i:Int) - 1)= -(i:Int) by lia,show -1 - (i:Int)= -(i:Int) - 1 by lia]
  obtain ⟨a1,a2,a3⟩:=EM hy hw (-(i:Int))
  obtain ⟨b1,b2,b3⟩:=EM hy hv j
  rw[Bp hy a2 a1 b1 b2 (Ne.symm a3) b3,LR, <-Bp hy a1 a2 b1 b2 a3 b3]
 rw[ea,Qes,Qes]
 congr 1
 exact Int.add_comm _ _
theorem lX{w:c7}(σ:Nat->Nat)(h:w≠[])(k:Int):rd (w.map σ) k=σ (rd w k):=by
 have hl:=Qab.mpr h
 walk_at"F"
 walk_at"E"
 have hi:(k%((w:):Int)).toNat<(w:):=by lia
 unfold rd
 rw[Wh,Qao,Qao,Qar,OD hi]
 rfl
structure Ah(y z:c7)(σ:Nat->Nat)(neg:Bool):Prop where
 yd:Yd y
 zd:Yd z
 inz:∀a∈y,σ a∈z
 inj:∀a∈y,∀b∈y,σ a=σ b->a=b
 Im:∀a∈y,σ (ay a)=ay (σ a)
 gr:∀a∈y,∀b∈y,∀c∈y,a≠b->a≠c->b≠c->gr z (σ a) (σ b) (σ c)=(neg ^^ gr y a b c)
section
variable{y z w v:c7}{σ:Nat->Nat}{neg:Bool}
theorem Ah.sw(T:Ah y z σ neg)(h:SW y w):SW z (w.map σ):=⟨λq=>h.ne (List.map_eq_nil_iff.mp q),λc hc=>by
 obtain ⟨a,ha,rfl⟩:=Qay.mp hc
 exact T.inz a (h.bO a ha),λk=>by
 rw[lX σ h.ne,lX σ h.ne, <-T.Im _ (h.rd _)]
 exact λq=>h.red k (T.inj _ (h.rd _) _ (T.yd.cl _ (h.rd _)) q)⟩
theorem Ah.bg(T:Ah y z σ neg)(hf:g_ y f)(hg:g_ y g)(Pb:g_ z λk=>σ (f k))(KJ:g_ z λk=>σ (g k)):gT z (λk=>σ (f k)) (λk=>σ (g k))↔gT y f g:=by
 have ne:∀k,f k≠g k->σ (f k)≠σ (g k):=λk h q=>h (T.inj _ (hf.bO k) _ (hg.bO k) q)
 have run:∀{a b},Run (λk=>σ (f k)) (λk=>σ (g k)) a b↔Run f g a b:=λ{a b}=>⟨λr=>⟨λk h1 h2=>T.inj _ (hf.bO k) _ (hg.bO k) (r.oe k h1 h2),λq=>r.hi (by show σ _=σ _;rw[q]),λq=>r.lo (by show σ _=σ _;rw[q])⟩,λr=>⟨λk h1 h2=>by show σ _=σ _;rw[r.oe k h1 h2],ne _ r.hi,ne _ r.lo⟩⟩
 have key:∀a,Run f g a 0->gJ z (λk=>σ (f k)) (λk=>σ (g k)) a=(neg ^^ gJ y f g a)/\gS z (λk=>σ (f k)) (λk=>σ (g k)) 0=(neg ^^ gS y f g 0):=λa r=>by
  have h0:=r.zero
  have ha:=r.oe a () ()
  have r1:=hf.red (a+1)
  have r2:=hg.red (a+1)
  rw[show (a:Int)+1 - 1=a by lia]at r1 r2
  have lo:f (-1)≠g (-1):=r.lo
  have r3:=hf.red 0
  have r4:=hg.red 0
  rw[Int.zero_sub]at r3 r4
  constructor
  ·rw[xi (by show σ _=σ _;rw[ha]),xi ha]
   show My.gr z (ay (σ (f a))) _ _=_
   rw[<-T.Im _ (hf.bO a)]
   exact T.gr _ (T.yd.cl _ (hf.bO a)) _ (hf.bO _) _ (hg.bO _) (Ne.symm r1) (by rw[ha];exact Ne.symm r2) r.hi
  ·rw[xh T.zd Pb KJ (by show σ _=σ _;rw[h0]) (ne _ lo),xh T.yd hf hg h0 lo]
   show (!My.gr z (ay (σ (f (-1)))) (ay (σ (g (-1)))) (σ (f 0)))=_
   rw[<-T.Im _ (hf.bO _), <-T.Im _ (hg.bO _),T.gr _ (T.yd.cl _ (hf.bO _)) _ (T.yd.cl _ (hg.bO _)) _ (hf.bO 0) (λq=>lo (dk (T.yd.lt _ (hf.bO _)) (T.yd.lt _ (hg.bO _)) q)) (Ne.symm r3) (by rw[h0];exact Ne.symm r4)]
   cases neg<;>cases My.gr y (ay (f (-1))) (ay (g (-1))) (f 0)<;>rfl
 constructor
 ·rintro ⟨a,r,x⟩
  have r':=run.mp r
  obtain ⟨k1,k2⟩:=key a r'
  rw[k1,k2]at x
  exact ⟨a,r',λq=>x (by rw[q])⟩
 ·rintro ⟨a,r,x⟩
  obtain ⟨k1,k2⟩:=key a r
  refine ⟨a,run.mpr r,?_⟩
  rw[k1,k2]
  exact λq=>x (by cases neg<;>cases h1:gJ y f g a<;>cases h2:gS y f g 0<;>simp[h1,h2]at q ⊢)
theorem Ah.ac(T:Ah y z σ neg){a b p q:Nat}(ha:a∈y)(hb:b∈y)(hp:p∈y)(hq:q∈y)(ab:a≠b):ac z (σ a) (σ b) (σ p) (σ q)=ac y a b p q:=by
 have e:∀{a b},a∈y->b∈y->(σ a=σ b↔a=b):=λ{a b} ha hb=>⟨T.inj a ha b hb,λq=>by rw[q]⟩
 unfold My.ac
 have e4:(σ p=σ a\/σ p=σ b\/σ q=σ a\/σ q=σ b)↔(p=a\/p=b\/q=a\/q=b):=by rw[e hp ha,e hp hb,e hq ha,e hq hb]
 by_cases c:p=a\/p=b\/q=a\/q=b
 ·rw[if_pos c,if_pos (e4.mpr c)]
 ·rw[if_neg c,if_neg λz=>c (e4.mp z)]
  have n1:a≠p:=λq=>c (.inl q.symm)
  have n2:p≠b:=λq=>c (.inr (.inl q))
  have n3:a≠q:=λq=>c (.inr (.inr (.inl q.symm)))
  have n4:q≠b:=λq=>c (.inr (.inr (.inr q)))
  rw[T.gr a ha p hp b hb n1 ab n2,T.gr a ha q hq b hb n3 ab n4]
  cases neg<;>cases My.gr y a p b<;>cases My.gr y a q b<;>rfl
theorem Ah.same(T:Ah y z σ neg)(hw:SW y w)(hv:SW y v):SS z (w.map σ) (v.map σ)=SS y w v:=by
 have RW:=T.sw hw
 have Wf:=T.sw hv
 have cm:∀{u:c7} (hu:SW y u) (k:Int),ay (rd (u.map σ) k)=σ (ay (rd u k)):=λ{u} hu k=>by rw[lX σ hu.ne,T.Im _ (hu.rd k)]
 have es:∀{u:c7} (hu:SW y u) (i:Int),sq (u.map σ) i=λk=>σ (sq u i k):=λ{u} hu i=>by
  funext k
  unfold sq
  exact lX σ hu.ne _
 have eb:∀{u:c7} (hu:SW y u) (i:Int),bq (u.map σ) i=λk=>σ (bq u i k):=λ{u} hu i=>by
  funext k
  unfold bq
  exact cm hu _
 unfold SS
 rw[Wh,Wh]
 refine bu λi j _ _=>?_
 have b1:=T.bg (aX hw i) (aX hv j) (by rw[<-es hw];exact aX RW i) (by rw[<-es hv];exact aX Wf j)
 have b2:=T.bg (aX hw i) (fh T.yd hv j) (by rw[<-es hw];exact aX RW i) (by rw[<-eb hv];exact fh T.zd Wf j)
 obtain ⟨a1,a2,a3⟩:=EM T.yd hw i
 obtain ⟨c1,c2,c3⟩:=EM T.yd hv j
 unfold bs
 rw[cm hw,cm hv,lX σ hw.ne,lX σ hv.ne,T.ac a1 a2 c1 c2 a3,es hw,es hv,eb hv,br b1,br b2]
end
theorem EN{w:c7}{t:Nat}(hw:w≠[])(hv:v≠[])(h:bN w s)(g:bN v t)(e:∀d:Int,bS w w d 0↔bS v v d 0):s=t:=by
 obtain ⟨p1,a⟩:=gn hw h
 obtain ⟨p2,b⟩:=gn hv g
 have key:∀d:Nat,d%s=0↔d%t=0:=λd=>by
  have k:=e d
  rw[a,b,Qe0]at k
  have c1:((d%s:Nat):Int)=(d:Int)%(s:Int):=rfl
  have c2:((d%t:Nat):Int)=(d:Int)%(t:Int):=rfl
  rw[<-c1, <-c2]at k
  exact ⟨λq=>Qge (k.mp (by rw[q];rfl)),λq=>Qge (k.mpr (by rw[q];rfl))⟩
 exact Qdf (Qgc p2 (Qef ((key t).mpr (Nat.mod_self t)))) (Qgc p1 (Qef ((key s).mp (Nat.mod_self s))))
theorem iw(w:c7)(d:Int):bS w w d 0↔ ∀k,rd w (d+k)=rd w k:=by
 unfold bS sq
 exact ⟨λh k=>by have:=h k;rwa [Qd8]at this,λh k=>by rw[Qd8];exact h k⟩
theorem LS{w:c7}(hw:w≠[])(hn:n<=(w:))(d:Int):bS (bR w n) (bR w n) d 0↔bS w w d 0:=by
 rw[iw,iw]
 have r:∀i,rd (bR w n) i=rd w (i+n):=xc hw hn
 constructor
 ·intro h k
  have:=h (k - n)
  rw[r,r,show d+(k - (n:Int))+n=d+k by lia,show k - (n:Int)+n=k by lia]at this
  exact this
 ·intro h k
  rw[r,r,show d+k+(n:Int)=d+(k+n) by lia]
  exact h _
variable{σ:Nat->Nat}{neg:Bool}
theorem LU{z w:c7}(T:Ah y z σ neg)(hw:SW y w)(d:Int):bS (w.map σ) (w.map σ) d 0↔bS w w d 0:=by
 rw[iw,iw]
 simp only[lX σ hw.ne]
 exact ⟨λh k=>T.inj _ (hw.rd _) _ (hw.rd _) (h k),λh k=>by rw[h k]⟩
theorem LV{w:c7}(hy:Yd y)(hw:SW y w)(d:Int):bS (bC w) (bC w) d 0↔bS w w d 0:=by
 rw[iw,iw]
 simp only[iU hw.ne]
 constructor
 ·intro h k
  have:=h (-1 - d - k)
  rw[show -1 - (d+(-1 - d - k))=k by lia,show -1 - (-1 - d - k)=d+k by lia]at this
  exact (dk (hy.lt _ (hw.rd _)) (hy.lt _ (hw.rd _)) this).symm
 ·intro h k
  have:=h (-1 - (d+k))
  rw[<-this,show d+(-1 - (d+k))= -1 - k by lia]
variable{z:Nat}
theorem Qb{a b:c7}{y:Nat}(hn:(a++b).Nodup)(hx:x∈a++b)(hy:y∈a++b)(hz:z∈a++b)(xy:x≠y)(xz:x≠z)(yz:y≠z):gr (b++a) x y z=gr (a++b) x y z:=by
 have pm:∀{e:Nat},e∈a++b->e∈b++a:=λ{e} he=>Qby.mem_iff.mp he
 rw[fH hn hx hy hz xy xz yz,fH (Qby.nodup_iff.mp hn) (pm hx) (pm hy) (pm hz) xy xz yz]
 refine decide_eq_decide.mpr ?_
 rw[xg hn hx,xg hn hy,xg hn hz]
 have ix:=Qak hx
 have iy:=Qak hy
 have iz:=Qak hz
 rw[T6]at ix iy iz
 unfold kJ
 split<;>split<;>split<;>omega
noncomputable def fU(y:c7):c7:=(y.filter aC).mergeSort λa b=>decide (a<=b)
theorem kM(y:c7):(fU y).Perm (y.filter aC):=List.mergeSort_perm _ _
theorem zy(y:c7):(fU y).Pairwise (· <= ·):=
 (List.pairwise_mergeSort (le:=λa b=>decide (a<=b)) (λa b c h1 h2=>decide_eq_true (Qa7 (of_decide_eq_true h1) (of_decide_eq_true h2))) (λa b=>by
  rcases Nat.le_total a b with z | z
  ·rw[decide_eq_true z];rfl
  ·rw[decide_eq_true z,Bool.or_true]) (y.filter aC)).imp λz=>of_decide_eq_true z
theorem C5(h:l.Perm (y.filter aC))(p:l.Pairwise (· <= ·)):l=fU y:=EF (h.trans (kM y).symm) p (zy y)
theorem Io(h:Yd y)(he:e∈y):PyProof.Rows.lo1 e∈fU y:=by
 refine (kM y).mem_iff.mpr (Qbq.mpr ?_)
 rcases h.lt e he with z | z
 ·rw[(bp e z).2.1];exact ⟨he,(bp e z).1⟩
 ·rw[(bY e z).2.1];exact ⟨h.cl e he,(bp _ (bY e z).2.2.2).1⟩
theorem jR(h:Yd y):2*(fU y:)=(y:):=by rw[(kM y).length_eq];exact Hx h
structure Pr where
 t:Addr
 c:Nat
 i:Nat
noncomputable def vE(ps:List Pr):List V:=ps.map λp=>V.ref p.t
theorem xx(ps:List Pr):(vE ps:)=(ps:):=by unfold vE;rw[Wh]
theorem Ip(a:List Pr)(p:Pr):vE a++[V.ref p.t]=vE (a++[p]):=by unfold vE;rw[Qaq];rfl
theorem LW(a:List Pr):(vE a).reverse=vE a.reverse:=by unfold vE;rw[Qd7]
theorem Iq{ps:List Pr}{x:V}(h:(vE ps)[i]? =some x):∃p,ps[i]? =some p/\x=V.ref p.t:=by
 unfold vE at h
 rw[Qar]at h
 cases e:ps[i]? with
 | none=>rw[e]at h;cases h
 | some p=>rw[e]at h;cases h;exact ⟨p,rfl,rfl⟩
structure pQ(H:Hp)(p:Pr):Prop where
 tp:H p.t=some (.tup [.int p.c,.int p.i])
 cz:p.c<1000
 iz:p.i<1000
theorem pQ.same{p:Pr}(h:pQ H p)(s:az H H'):pQ H' p:=⟨s _ _ h.tp,h.cz,h.iz⟩
structure Od where
 o:Addr
 ps:List Pr
structure EO(H:Hp)(o:Od):Prop where
 tp:H o.o=some (.tup (vE o.ps))
 pr:∀p∈o.ps,pQ H p
 fw:(o.ps:)<=100
theorem EO.same{o:Od}(h:EO H o)(s:az H H'):EO H' o:=⟨s _ _ h.tp,λp hp=>(h.pr p hp).same s,h.fw⟩
noncomputable def LX(os:List Od):List V:=os.map λo=>V.ref o.o
theorem Ir(a:List Od)(p:Od):LX a++[V.ref p.o]=LX (a++[p]):=by unfold LX;rw[Qaq];rfl
variable{os:List Od}
theorem Qc{o:Od}(h:os[i]? =some o):(LX os)[i]? =some (V.ref o.o):=by unfold LX;rw[Qar,h];rfl
structure Br(H:Hp)(dr:Addr)(ws:List c7)(os:List Od):Prop where
 ex:∃wt ot,H dr=some (.tup [.ref wt,.ref ot])/\H wt=some (.tup (dD ws))/\H ot=some (.tup (LX os))
 od:∀o∈os,EO H o
theorem Br.same{dr:Addr}(h:Br H dr ws os)(s:az H H'):Br H' dr ws os:=by
 obtain ⟨⟨wt,ot,h1,h2,h3⟩,g⟩:=h
 exact ⟨⟨wt,ot,s _ _ h1,s _ _ h2,s _ _ h3⟩,λo ho=>(g o ho).same s⟩
noncomputable def Bs(y:c7)(os:List Od)(e:Nat):List Pr:=((os[(fU y).idxOf (PyProof.Rows.lo1 e)]?).map Od.ps).getD []
noncomputable def qm(y:c7)(os:List Od)(e:Nat):List Pr:=if isUp e=true then (Bs y os e).reverse else Bs y os e
theorem jS(h:Yd y)(he:e∈y)(ho:2*(os:)=(y:)):∃o∈os,os[(fU y).idxOf (PyProof.Rows.lo1 e)]? =some o/\Bs y os e=o.ps:=by
 have hi:=Qak (Io h he)
 have hl:=jR h
 have K1:(fU y).idxOf (PyProof.Rows.lo1 e)<(os:):=by lia
 exact ⟨os[(fU y).idxOf (PyProof.Rows.lo1 e)],Qb3 K1,OD K1,by unfold Bs;rw[OD K1];rfl⟩
structure Pt where
 t:Addr
 c:Nat
 i:Nat
 e:Nat
noncomputable def J9(ps:List Pt):List V:=ps.map λp=>V.ref p.t
theorem C6(ps:List Pt):(J9 ps:)=(ps:):=by unfold J9;rw[Wh]
theorem Iu(a:List Pt)(p:Pt):J9 a++[V.ref p.t]=J9 (a++[p]):=by unfold J9;rw[Qaq];rfl
noncomputable def Pt.is(p:Pt):Nat×Nat×Nat:=(p.c,p.i,p.e)
structure ud(H:Hp)(p:Pt):Prop where
 tp:H p.t=some (.tup [.int p.c,.int p.i,.str (S [p.e])])
 cz:p.c<1000
 iz:p.i<1000
 ez:p.e<128
theorem ud.same{p:Pt}(h:ud H p)(s:az H H'):ud H' p:=⟨s _ _ h.tp,h.cz,h.iz,h.ez⟩
theorem ud.upd{p:Pt}{q:Addr}(h:ud H p)(n:p.t≠q):ud (L2.upd H q o) p:=⟨by rw[au n];exact h.tp,h.cz,h.iz,h.ez⟩
noncomputable def fN(y:c7)(os:List Od)(e:Nat):List (Nat×Nat×Nat):=(qm y os e).map λp=>(p.c,p.i,e)
noncomputable def ml(y:c7)(os:List Od):List (Nat×Nat×Nat):=y.flatMap (fN y os)
noncomputable def Pr.pair(p:Pr):Nat×Nat:=(p.c,p.i)
noncomputable def Bt(band l:Nat):Bool:=decide (l=band)||decide (l=ay band)
noncomputable def ja(band c:Nat)(w:c7)(n:Nat):List (Nat×Nat):=((List.range n).filter λi=>Bt band (w.getD i 0)).map λi=>(c,i)
noncomputable def dc(band:Nat)(ws:List c7)(n:Nat):List (Nat×Nat):=(List.range n).flatMap λc=>ja band c (ws|||c) ((ws|||c):)
theorem Bu{band l:Nat}{w:c7}(h:w[i]? =some l):ja band c w (i+1)=ja band c w i++if Bt band l=true then [(c,i)] else []:=by
 have e:w.getD i 0=l:=by rw[Qao,h];rfl
 unfold ja
 rw[Qco,Qcc,Qaq]
 congr 1
 by_cases z:Bt band l=true
 ·rw[if_pos z,Qbx (by rw[e];exact z)];rfl
 ·rw[if_neg z,Qbj (by rw[e];exact z)];rfl
theorem zA{band:Nat}{w:c7}(h:ws[i]? =some w):dc band ws (i+1)=dc band ws i++ja band i w (w:):=by
 have e:(ws|||i)=w:=by rw[Qao,h];rfl
 unfold dc
 rw[Qco,Qcd]
 congr 1
 rw[Qbw,Qgv,Qa4,e]
structure Vn(y:c7)(ws:List c7):Prop where
 tH:(ws:)<=4
 all:∀w∈ws,(∀c∈w,c∈y)/\(w:)<=12
def rP(y:c7)(ws:List c7)(os:List Od):Prop:=(os:)=(fU y:)/\∀(j:Nat) (o:Od) (b:Nat),os[j]? =some o->(fU y)[j]? =some b->(o.ps.map Pr.pair).Perm (dc b ws (ws:))
inductive jb(p_:c8)(vs:List V)(H:Hp)(Q:VK)(dA:XK):Prop
 | mk (y:c7) (dr:Addr) (ws:List c7) (os:List Od) (e:Nat) (_:vs=[.str (S y),.ref dr,.str (S [e])]) (_:Yd y) (_:(y:)<=8) (_:e∈y) (_:2*(os:)=(y:)) (_:Br H dr ws os) (_:∀(q:Addr) (H':Hp),H q=none->H' q=some (.lst (vE (qm y os e)))->az H H'->Q (.ref q) H'):jb p_ vs H Q dA
def lD(p_:c8):Sp:=jb p_
theorem rQ(h:lD K vs H Q E):(vs:)=3:=by obtain ⟨c,_,_,_,_,rfl,_⟩:=h;rfl
inductive o7(p_:c8)(vs:List V)(H:Hp)(Q:VK)(dA:XK):Prop
 | mk (y:c7) (dr:Addr) (ws:List c7) (os:List Od) (_:vs=[.str (S y),.ref dr]) (_:Yd y) (_:(y:)<=8) (_:2*(os:)=(y:)) (_:Br H dr ws os) (_:∀(q:Addr) (ps:List Pt) (H':Hp),H q=none->H' q=some (.lst (J9 ps))->(∀p∈ps,ud H' p/\p.t≠q)->ps.map Pt.is=ml y os->(ps:)<=800->az H H'->Q (.ref q) H'):o7 p_ vs H Q dA
def vF(p_:c8):Sp:=o7 p_
theorem Bv(h:vF K vs H Q E):(vs:)=2:=by obtain ⟨c,_,_,_,rfl,_⟩:=h;rfl
theorem LY{p:Pr}(h:Yd y)(he:e∈y)(ho:2*(os:)=(y:))(hp:p∈qm y os e):∃o∈os,p∈o.ps:=by
 obtain ⟨o,h1,h2,h3⟩:=jS h he ho
 refine ⟨o,h1,?_⟩
 unfold qm at hp
 rw[h3]at hp
 split at hp
 ·exact Qcf.mp hp
 ·exact hp
theorem LZ(h:Yd y)(he:e∈y)(ho:2*(os:)=(y:))(hd:∀o∈os,EO H o):(qm y os e:)<=100:=by
 obtain ⟨o,h1,h2,h3⟩:=jS h he ho
 have:=(hd o h1).fw
 unfold qm
 rw[h3]
 split
 ·rw[Qa0];exact this
 ·exact this
theorem pQ.ts{p:Pr}(h:pQ H p)(s:fL H H'):pQ H' p:=⟨s _ _ h.tp,h.cz,h.iz⟩
theorem Iv{band l:Nat}(hb:band∈aR)(hl:Lt l):decide (PyProof.Rows.lo1 l=band)=Bt band l:=by
 unfold Bt
 rcases hl with h | h
 ·have e:=(bp l h).2.1
  have n:l≠ay band:=λz=>vx _ (bp band hb).2.2 (z▸h)
  rw[e,decide_eq_false n,Bool.or_false]
 ·have e:=(bY l h).2.1
  have n:l≠band:=λz=>vx l h (z▸hb)
  rw[e,decide_eq_false n,Qgg]
  refine decide_eq_decide.mpr ⟨λz=>by rw[<-z,aF (.inr h)],λz=>by rw[z,aF (.inl hb)]⟩
theorem gix{α:Type}{l:List α}(h:l.Nodup)(hi:i<(l:))(hj:j<(l:))(e:l[i]=l[j]):i=j:=by
 have hp:=Qcs.mp h
 rcases Nat.lt_trichotomy i j with z | z | z
 ·exact absurd e (hp i j hi hj z)
 ·exact z
 ·exact absurd e.symm (hp j i hj hi z)
theorem vG{l:List (Nat×Nat×Nat)}(h:l.Nodup){p:Nat×Nat×Nat}(e:l[n]? =some p):l.idxOf p=n:=by
 obtain ⟨hn,e2⟩:=OC.mp e
 have hm:p∈l:=Qas e
 have hi:=Qak hm
 exact gix h hi hn ((Qcx hi).trans e2.symm)
theorem rR{α:Type}{f:Nat->List α}(g:α->Nat):∀{l:c7},l.Nodup->(∀e∈l,(f e).Nodup)->(∀e∈l,∀p∈f e,g p=e)->(l.flatMap f).Nodup
 | [],_,_,_=>Qds
 | a::l,hn,h1,h2=>by
  obtain ⟨n1,n2⟩:=Qb5.mp hn
  rw[Qbw,Qcn]
  refine ⟨h1 a Qac,rR g n2 (λe he=>h1 e (Qae _ he)) (λe he=>h2 e (Qae _ he)),λx hx y hy z=>?_⟩
  subst z
  obtain ⟨e,he,hxe⟩:=Qbp.mp hy
  have g1:=h2 a Qac x hx
  have g2:=h2 e (Qae _ he) x hxe
  exact n1 (by rw[<-g1,g2];exact he)
theorem Iw(band c:Nat)(w:c7)(n:Nat):(ja band c w n).Nodup:=by
 unfold ja
 show (List.map _ _).Pairwise (· ≠ ·)
 rw[Qb8]
 exact (List.nodup_range.filter _).imp λ{i j} h z=>h (by cases z;rfl)
theorem vH(band:Nat)(ws:List c7)(n:Nat):(dc band ws n).Nodup:=
 rR Prod.fst List.nodup_range (λc _=>Iw _ _ _ _) λc _ p hp=>by
  unfold ja at hp
  obtain ⟨i,_,rfl⟩:=Qay.mp hp
  rfl
theorem Bw{band:Nat}(hc:c<n)(hi:i<((ws|||c):))(hb:Bt band ((ws|||c).getD i 0)=true):(c,i)∈dc band ws n:=
 Qbp.mpr ⟨c,Qbr.mpr hc,Qay.mpr ⟨i,Qbq.mpr ⟨Qbr.mpr hi,hb⟩,rfl⟩⟩
theorem rP.at(h:Yd y)(ho:rP y ws os)(he:e∈y):(((qm y os e).map Pr.pair)).Perm (dc (PyProof.Rows.lo1 e) ws (ws:)):=by
 have hl:=jR h
 have K5:=ho.1
 obtain ⟨o,o1,o2,o3⟩:=jS (os:=os) h he ()
 have hm:=Io h he
 have hb:(fU y)[(fU y).idxOf (PyProof.Rows.lo1 e)]? =some (PyProof.Rows.lo1 e):=by
  have hi:=Qak hm
  rw[OD hi,Qcx hi]
 have p:=ho.2 _ o _ o2 hb
 unfold qm
 rw[o3]
 split
 ·rw[Qd7]
  exact (Qfc _).trans p
 ·exact p
theorem Iy(h:Yd y)(ho:rP y ws os):(ml y os).Nodup:=by
 refine rR (λp=>p.2.2) h.nd (λe he=>?_) λe _ p hp=>?_
 ·have hn:=(ho.at h he).nodup_iff.mpr (vH _ _ _)
  have e1:fN y os e=((qm y os e).map Pr.pair).map λx=>(x.1,x.2,e):=by unfold fN;rw[Qbh];rfl
  rw[e1]
  show (List.map _ _).Pairwise (· ≠ ·)
  rw[Qb8]
  exact hn.imp λ{a b} g z=>g (by cases a;cases b;cases z;rfl)
 ·unfold fN at hp
  obtain ⟨x,_,rfl⟩:=Qay.mp hp
  rfl
theorem Iz{l:Nat}{w:c7}(h:Yd y)(ho:rP y ws os)(hw:ws[c]? =some w)(hl:w[i]? =some l)(YL:l∈y)(he:e=l\/e=ay l):(c,i,e)∈ml y os:=by
 have cU:=h.lt l YL
 have Qd:e∈y:=by rcases he with rfl | rfl;exact YL;exact h.cl l YL
 have e1:PyProof.Rows.lo1 e=PyProof.Rows.lo1 l:=by
  rcases he with rfl | rfl
  ·rfl
  ·rcases cU with g | g
   ·rw[(bY _ (bp l g).2.2).2.1,(bp l g).2.1,aF (.inl g)]
   ·rw[(bp _ (bY l g).2.2.2).2.1,(bY l g).2.1]
 have hb:PyProof.Rows.lo1 l∈aR:=by
  rcases cU with g | g
  ·rw[(bp l g).2.1];exact g
  ·rw[(bY l g).2.1];exact (bY l g).2.2.2
 have hon:Bt (PyProof.Rows.lo1 l) l=true:=by rw[<-Iv hb cU];exact decide_eq_true rfl
 have d1:(ws|||c)=w:=by rw[Qao,hw];rfl
 have d2:w.getD i 0=l:=by rw[Qao,hl];rfl
 have hm:(c,i)∈(qm y os e).map Pr.pair:=by
  rw[(ho.at h Qd).mem_iff,e1]
  exact Bw (OC.mp hw).1 (by rw[d1];exact (OC.mp hl).1) (by rw[d1,d2];exact hon)
 obtain ⟨p,hp,ep⟩:=Qay.mp hm
 refine Qbp.mpr ⟨e,Qd,Qay.mpr ⟨p,hp,?_⟩⟩
 have e2:p.c=c:=congrArg Prod.fst ep
 have e3:p.i=i:=congrArg Prod.snd ep
 rw[e2,e3]
noncomputable def xA(p:Nat×Nat×Nat):List Key:=[Sum.inl (p.1:Int),Sum.inl (p.2.1:Int),Sum.inr (S [p.2.2])]
theorem IA{p q:Nat×Nat×Nat}(h:xA p=xA q):p=q:=by
 unfold xA at h
 injection h with h1 h2
 injection h2 with h2 h3
 injection h3 with h3 _
 have a1:(p.1:Int)=q.1:=Sum.inl.inj h1
 have a2:(p.2.1:Int)=q.2.1:=Sum.inl.inj h2
 have a3:[p.2.2]=[q.2.2]:=by
  have:=Sum.inr.inj h3
  rw[<-cg [p.2.2],this,cg]
 have a4:p.2.2=q.2.2:=by simpa using a3
 exact Prod.ext () (Prod.ext () a4)
def Nums(ps:List (Nat×Nat×Nat))(aI:List (List Key×V))(n:Nat):Prop:=∀p∈ps.take n,dF aI (xA p)=some (.int (ps.idxOf p:Nat))
variable{ps:List (Nat×Nat×Nat)}
theorem Nums.put{aI:List (List Key×V)}{p:Nat×Nat×Nat}(h:Nums ps aI n)(hn:ps.Nodup)(e:ps[n]? =some p):Nums ps (putK aI (xA p) (.int (n:Nat))) (n+1):=λr hr=>by
 rw[GH]
 by_cases z:r=p
 ·rw[if_pos (by rw[z]),z,vG hn e]
 ·rw[if_neg λg=>z (IA g)]
  rw[<-take_snoc e]at hr
  exact h r ((Qap.mp hr).resolve_right λg=>z (Wi.mp g))
noncomputable def Ai(n i:Nat):Nat:=if i=0 then n - 1 else i - 1
theorem Bx(h:i<n):Ai n i<n:=by unfold Ai;split<;>lia
theorem C7(h:i<n):((i:Int) - 1)%(n:Int)=((Ai n i:Nat):Int):=by
 unfold Ai
 split
 ·rename_i z
  subst z
  have:((0:Nat):Int) - 1+(n:Int)=((n - 1:Nat):Int):=by lia
  rw[<-Qdc,this]
  exact Qbg () ()
 ·have:(i:Int) - 1=((i - 1:Nat):Int):=by lia
  rw[this]
  exact Qbg () ()
noncomputable abbrev C4:=Nat×Nat×Nat×Nat
noncomputable def lE(ps:List (Nat×Nat×Nat))(c:Nat)(w:c7)(i:Nat):C4:=(c,i,ps.idxOf (c,Ai (w:) i,ay (w.getD (Ai (w:) i) 0)),ps.idxOf (c,i,w.getD i 0))
noncomputable def oq(ps:List (Nat×Nat×Nat))(c:Nat)(w:c7)(n:Nat):List C4:=(List.range n).map (lE ps c w)
noncomputable def gL(ps:List (Nat×Nat×Nat))(ws:List c7)(n:Nat):List C4:=(List.range n).flatMap λc=>oq ps c (ws|||c) ((ws|||c):)
theorem zB(ps:List (Nat×Nat×Nat))(c:Nat)(w:c7)(n:Nat):oq ps c w (n+1)=oq ps c w n++[lE ps c w n]:=by unfold oq;rw[Qco,Qaq];rfl
theorem xB{w:c7}(h:ws[i]? =some w):gL ps ws (i+1)=gL ps ws i++oq ps i w (w:):=by
 have e:(ws|||i)=w:=by rw[Qao,h];rfl
 unfold gL
 rw[Qco,Qcd]
 congr 1
 rw[Qbw,Qgv,Qa4,e]
structure Q4 where
 t:Addr
 v:C4
noncomputable def ER(qs:List Q4):List V:=qs.map λq=>V.ref q.t
theorem C8(qs:List Q4):(ER qs:)=(qs:):=by unfold ER;rw[Wh]
theorem IC(a:List Q4)(q:Q4):ER a++[V.ref q.t]=ER (a++[q]):=by unfold ER;rw[Qaq];rfl
theorem Qe{qs:List Q4}{x:V}(h:(ER qs)[i]? =some x):∃q,qs[i]? =some q/\x=V.ref q.t:=by
 unfold ER at h
 rw[Qar]at h
 cases e:qs[i]? with
 | none=>rw[e]at h;cases h
 | some p=>rw[e]at h;cases h;exact ⟨p,rfl,rfl⟩
def ue(H:Hp)(q:Q4):Prop:=H q.t=some (.tup [.int q.v.1,.int q.v.2.1,.int q.v.2.2.1,.int q.v.2.2.2])
theorem ue.ts{q:Q4}(h:ue H q)(s:fL H H'):ue H' q:=s _ _ h
noncomputable def vI(y:c7)(ws:List c7)(os:List Od):List C4:=gL (ml y os) ws (ws:)
theorem Vo{p:Pt}{ps:List Pt}(h:ps.map Pt.is=ml y os)(hi:ps[i]? =some p):(ml y os)[i]? =some p.is:=by rw[<-h,Qar,hi];rfl
inductive gp(p_:c8)(vs:List V)(H:Hp)(Q:VK)(dA:XK):Prop
 | mk (w:c7) (c i:Nat) (_:vs=[.str (S w),.int c,.int i]) (_:(∀l∈w,l<128)) (_:i<(w:)) (_:(w:)<=1000) (_:∀(t t1 t2:Addr) (H':Hp),H' t=some (.tup [.ref t1,.ref t2])->H' t1=some (.tup ((xA (c,Ai (w:) i,ay (w.getD (Ai (w:) i) 0))).map kV))->H' t2=some (.tup ((xA (c,i,w.getD i 0)).map kV))->az H H'->Q (.ref t) H'):gp p_ vs H Q dA
def iA(p_:c8):Sp:=gp p_
theorem mZ(h:iA K vs H Q E):(vs:)=3:=by obtain ⟨c,_,_,rfl,_⟩:=h;rfl
inductive m6(p_:c8)(vs:List V)(H:Hp)(Q:VK)(dA:XK):Prop
 | mk (y:c7) (dr:Addr) (ws:List c7) (os:List Od) (_:vs=[.str (S y),.ref dr]) (_:Yd y) (_:(y:)<=8) (_:Vn y ws) (_:rP y ws os) (_:Br H dr ws os) (_:∀(q:Addr) (qs:List Q4) (H':Hp),H q=none->H' q=some (.lst (ER qs))->(∀x∈qs,ue H' x)->qs.map Q4.v=vI y ws os->az H H'->Q (.ref q) H'):m6 p_ vs H Q dA
def rS(p_:c8):Sp:=m6 p_
theorem zC(h:rS K vs H Q E):(vs:)=2:=by obtain ⟨c,_,_,_,rfl,_⟩:=h;rfl
theorem L1{p:Pr}(he:y[i]? =some e)(hp:(qm y os e)[m]? =some p):(ml y os)[((y.take i).flatMap (fN y os):)+m]? =some (p.c,p.i,e):=by
 obtain ⟨hi,e1⟩:=OC.mp he
 have hy:y=y.take i++e::y.drop (i+1):=by
  rw[<-e1, <-Qbz hi,Qag]
 have h1:ml y os=(y.take i).flatMap (fN y os)++(fN y os e++(y.drop (i+1)).flatMap (fN y os)):=by
  unfold ml
  conv=>lhs;arg 2;rw[hy]
  rw[Qcd,Qbw]
 have h2:(fN y os e)[m]? =some (p.c,p.i,e):=by unfold fN;rw[Qar,hp];rfl
 rw[h1,Qaw (Nat.le_add_right _ _),Qbo,Qbc (OC.mp h2).1]
 exact h2
structure Bz(y:c7)(ws:List c7)(L:Nat->Bool)(r:Nat->Nat)(M:Nat)(os:List Od):Prop where
 ok:rP y ws os
 asc:∀o∈os,(o.ps.map Pr.pair).Pairwise λs t=>bT (eJ y ws L r M s.1 s.2) (eJ y ws L r M t.1 t.2)=true
theorem BA:∀c∈aR++lU,PyProof.Rows.lo1 (ay c)=PyProof.Rows.lo1 c/\isUp c=!aC c:=⋯
theorem ES{α:Type}(F:Nat->List α){k k':Nat}(he:y[k]? =some e)(h:k<k'):((y.take k).flatMap F:)+(F e:)<=((y.take k').flatMap F:):=by
 have e1:(y.take k').take (k+1)=y.take (k+1):=by rw[List.take_take,Qbs ()]
 have e2:y.take k'=y.take (k+1)++(y.take k').drop (k+1):=by rw[<-e1,Qag]
 rw[e2,Qcd,T6, <-take_snoc he,Qcd,T6]
 simp
theorem ow(hy:Yd y)(ho:rP y ws os)(hs:∀c,c<(ws:)->∀k:Int,rd (ws|||c) k∈y)(hc:c<(ws:))(hi:i<((ws|||c):))(he:e=rd (ws|||c) i\/e=ay (rd (ws|||c) i)):
  e∈y/\∃(m:Nat) (p:Pr),(qm y os e)[m]? =some p/\p.pair=(c,i)/\(ml y os).idxOf (c,i,e)=((y.take (y.idxOf e)).flatMap (fN y os):)+m:=by
 have hw:=hs c hc
 have ey:e∈y:=he.elim (λz=>z▸hw _) λz=>z▸hy.cl _ (hw _)
 have x_:=Iz hy ho (c:=c) (i:=i) (l:=rd (ws|||c) i) (e:=e) (w:=(ws|||c)) (by rw[Qao,OD hc];rfl) (n5 hi) (hw _) he
 unfold ml at x_
 obtain ⟨e',Fx,hp⟩:=Qbp.mp x_
 unfold fN at hp
 obtain ⟨p,J_,wL⟩:=Qay.mp hp
 obtain ⟨q1,q23⟩:=Prod.mk.inj wL
 obtain ⟨q2,q3⟩:=Prod.mk.inj q23
 clear q23
 subst q3
 obtain ⟨m,hm,em⟩:=Qdq J_
 have Nb:(qm y os e')[m]? =some p:=by rw[OD hm,em]
 refine ⟨ey,m,p,Nb,by unfold Pr.pair;rw[q1,q2],?_⟩
 have hk:y[y.idxOf e']? =some e':=by rw[OD (Qak ey),Qcx]
 have:=L1 (os:=os) hk Nb
 rw[q1,q2]at this
 exact vG (Iy hy ho) this
theorem ID(y:c7)(os:List Od)(e:Nat):(fN y os e:)=(qm y os e:):=by unfold fN;rw[Wh]
variable{L:Nat->Bool}
theorem IE{l:List Pr}(h:(l.map Pr.pair).Pairwise λs t=>bT (eJ y ws L r M s.1 s.2) (eJ y ws L r M t.1 t.2)=true){p q:Pr}(hp:l[m]? =some p)(hq:l[n]? =some q)(ep:p.pair=(c,i))(eq:q.pair=(d,j))(eG:(c,i)≠(d,j)):
  m≠n/\decide (m<n)=bT (eJ y ws L r M c i) (eJ y ws L r M d j):=by
 have WC:m≠n:=λz=>eG (by rw[z,hq]at hp;rw[<-ep, <-eq,Qal hp])
 obtain ⟨hm,em⟩:=OC.mp hp
 obtain ⟨hn,en⟩:=OC.mp hq
 refine ⟨WC,?_⟩
 have key:=Qcs.mp h
 by_cases z:m<n
 ·have:=key m n (by rw[Wh];exact hm) (by rw[Wh];exact hn) z
  rw[Qfj,Qfj,em,en,ep,eq]at this
  rw[decide_eq_true z]
  exact this.symm
 ·have:=key n m (by rw[Wh];exact hn) (by rw[Wh];exact hm) ()
  rw[Qfj,Qfj,em,en,ep,eq]at this
  rw[decide_eq_false z]
  exact (oa this).1.symm
theorem C9{α:Type}{l:List α}{p:α}(h:l.reverse[m]? =some p):m<(l:)/\l[(l:) - 1 - m]? =some p:=by
 obtain ⟨hm,_⟩:=OC.mp h
 rw[Qa0]at hm
 rw[Qd1 hm]at h
 exact ⟨hm,h⟩
theorem Qf(hy:Yd y)(hs:∀c,c<(ws:)->∀k:Int,rd (ws|||c) k∈y)(ho:rP y ws os)(c i d j e e':Nat)(hc:c<(ws:))(hd:d<(ws:))(hi:i<((ws|||c):))(hj:j<((ws|||d):))(he:e=rd (ws|||c) i\/e=ay (rd (ws|||c) i))(Fx:e'=rd (ws|||d) j\/e'=ay (rd (ws|||d) j))(cU:y.idxOf e<y.idxOf e'):(ml y os).idxOf (c,i,e)<(ml y os).idxOf (d,j,e'):=by
 obtain ⟨ey,m,p,hm,_,e1⟩:=ow hy ho hs hc hi he
 obtain ⟨ey',m',p',Nb,_,e2⟩:=ow hy ho hs hd hj Fx
 rw[e1,e2]
 have hk:y[y.idxOf e]? =some e:=by rw[OD (Qak ey),Qcx]
 have:=ES (fN y os) hk cU
 rw[ID]at this
 have A0:=(OC.mp hm).1
 lia
theorem pos_at(hy:Yd y)(hs:∀c,c<(ws:)->∀k:Int,rd (ws|||c) k∈y)(ho:rP y ws os)(hc:c<(ws:))(hd:d<(ws:))(hi:i<((ws|||c):))(hj:j<((ws|||d):))(hx:aC x=true)(OH:rd (ws|||c) i=x\/rd (ws|||c) i=ay x)(YM:rd (ws|||d) j=x\/rd (ws|||d) j=ay x):
  ∃o∈os,∃(m n m' n' A B:Nat) (p q p' q':Pr),o.ps[m]? =some p/\o.ps[n]? =some q/\o.ps[(o.ps:) - 1 - m']? =some p'/\o.ps[(o.ps:) - 1 - n']? =some q'/\m'<(o.ps:)/\n'<(o.ps:)/\p.pair=(c,i)/\q.pair=(d,j)/\p'.pair=(c,i)/\q'.pair=(d,j)/\
   (ml y os).idxOf (c,i,x)=A+m/\(ml y os).idxOf (d,j,x)=A+n/\(ml y os).idxOf (c,i,ay x)=B+m'/\(ml y os).idxOf (d,j,ay x)=B+n':=by
 have ol:2*(os:)=(y:):=by rw[ho.1];exact jR hy
 have lc:Lt (rd (ws|||c) i):=hy.lt _ (hs c hc _)
 have ld:Lt (rd (ws|||d) j):=hy.lt _ (hs d hd _)
 have vi:(x=rd (ws|||c) i\/x=ay (rd (ws|||c) i))/\(ay x=rd (ws|||c) i\/ay x=ay (rd (ws|||c) i))/\Lt x:=by
  rcases OH with z | z
  ·exact ⟨.inl z.symm,.inr (by rw[z]),z▸lc⟩
  ·have hx0:x<128/\x∈aR:=by
    have h9:97<=x/\x<=122:=by unfold aC at hx;simpa using hx
    refine ⟨(),?_⟩
    have:∀k,k<26->k+97∈aR:=by decide
    have h8:=this (x - 97) ()
    rwa [show x - 97+97=x by lia]at h8
   have lx:Lt x:= .inl hx0.2
   exact ⟨.inr (by rw[z,aF lx]),.inl z.symm,lx⟩
 have lx:=vi.2.2
 have vj:(x=rd (ws|||d) j\/x=ay (rd (ws|||d) j))/\(ay x=rd (ws|||d) j\/ay x=ay (rd (ws|||d) j)):=by
  rcases YM with z | z
  ·exact ⟨.inl z.symm,.inr (by rw[z])⟩
  ·exact ⟨.inr (by rw[z,aF lx]),.inl z.symm⟩
 obtain ⟨xy,m,p,hm,ep,e1⟩:=ow hy ho hs hc hi vi.1
 obtain ⟨_,n,q,hn,eq,e2⟩:=ow hy ho hs hd hj vj.1
 obtain ⟨_,m',p',Nb,N5,AN⟩:=ow hy ho hs hc hi vi.2.1
 obtain ⟨_,n',q',Wa,YN,L3⟩:=ow hy ho hs hd hj vj.2
 obtain ⟨o,WD,_,eo⟩:=jS hy xy ol
 have up0:isUp x=false:=by rw[(BA x lx.mem).2,hx];rfl
 have up1:isUp (ay x)=true:=by rw[(BA _ lx.ay.mem).2,fS x lx.mem,hx];rfl
 have s0:qm y os x=o.ps:=by unfold qm;rw[up0,if_neg ∅,eo]
 have s1:qm y os (ay x)=o.ps.reverse:=by
  unfold qm
  rw[up1,if_pos rfl]
  have:Bs y os (ay x)=Bs y os x:=by unfold Bs;rw[(BA x lx.mem).1]
  rw[this,eo]
 rw[s0]at hm hn
 rw[s1]at Nb Wa
 obtain ⟨b1,A0⟩:=C9 Nb
 obtain ⟨b2,we⟩:=C9 Wa
 exact ⟨o,WD,m,n,m',n',_,_,p,q,p',q',hm,hn,A0,we,b1,b2,ep,eq,N5,YN,e1,e2,AN,L3⟩
theorem lies_of(hy:Yd y)(hs:∀c,c<(ws:)->SW y (ws|||c))(h:Bz y ws L r M os):Lies y ws L r M λc i e=>(ml y os).idxOf (c,i,e):=by
 refine ⟨Qf hy (λc hc=>(hs c hc).rd) h.ok,λc i d j x hc hd hi hj eG hx OH YM=>?_⟩
 obtain ⟨o,WD,m,n,m',n',A,B,p,q,p',q',hm,hn,A0,we,b1,b2,ep,eq,N5,YN,e1,e2,AN,L3⟩:=pos_at hy (λc hc=>(hs c hc).rd) h.ok hc hd hi hj hx OH YM
 have k1:=IE (h.asc o WD) hm hn ep eq eG
 have k2:=IE (h.asc o WD) A0 we N5 YN eG
 rw[e1,e2,AN,L3]
 refine ⟨(),(),?_,?_⟩
 ·rw[<-k1.2];exact decide_eq_decide.mpr ()
 ·rw[<-k2.2];exact decide_eq_decide.mpr ()
noncomputable def qp(st:Nat->Nat)(T R:c7):c7:=T.filter λx=>R.any λe=>decide (st e=x)
noncomputable def ET(st:Nat->Nat)(T R:c7)(p:Nat):Nat:=if st p=p then 0 else (((qp st T (p::R)).filter λx=>decide (st p<x)):)
noncomputable def Ka(st:Nat->Nat):c7->c7->Nat
 | _,[]=>0
 | T,p::R=>ET st T R p+Ka st (T++[p]) R
structure IF(ch:List (Nat×Nat))(st:Nat->Nat)(P:c7):Prop where
 lt:∀x∈ch,x.1<x.2
 nd:(ch.flatMap λx=>[x.1,x.2]).Nodup
 pm:P.Perm (ch.flatMap λx=>[x.1,x.2])
 up:P.Pairwise (· < ·)
 st:∀x∈ch,st x.1=x.1/\st x.2=x.1
section
variable{ch:List (Nat×Nat)}{st:Nat->Nat}{P:c7}
theorem IF.pt(h:IF ch st P)(hp:p∈P):∃x∈ch,p=x.1\/p=x.2:=by
 obtain ⟨x,hx,e⟩:=Qbp.mp (h.pm.mem_iff.mp hp)
 exact ⟨x,hx,by simpa using e⟩
theorem IF.in1(h:IF ch st P){x:Nat×Nat}(hx:x∈ch):x.1∈P/\x.2∈P:=⟨h.pm.mem_iff.mpr (Qbp.mpr ⟨x,hx,by simp⟩),h.pm.mem_iff.mpr (Qbp.mpr ⟨x,hx,by simp⟩)⟩
theorem zD:∀{ch:List (Nat×Nat)},(ch.flatMap λx=>[x.1,x.2]).Nodup->∀x∈ch,∀z∈ch,(x.1=z.1\/x.2=z.2\/x.1=z.2)->x=z
 | [],_,x,hx,_,_,_=>absurd hx Qaj
 | a::r,nd,x,hx,z,hz,e=>by
  rw[Qbw,Qcn]at nd
  obtain ⟨n1,n2,n3⟩:=nd
  have inr:∀z∈r,z.1∈r.flatMap (λx=>[x.1,x.2])/\z.2∈r.flatMap (λx=>[x.1,x.2]):=λz hz=>⟨Qbp.mpr ⟨z,hz,by simp⟩,Qbp.mpr ⟨z,hz,by simp⟩⟩
  have a12:a.1≠a.2:=by
   rw[Qb5]at n1
   simpa using n1.1
  rcases Qaf.mp hx with rfl | DM<;>rcases Qaf.mp hz with rfl | K4
  ·rfl
  ·exfalso
   rcases e with e | e | e
   ·exact n3 x.1 (by simp) z.1 (inr z K4).1 e
   ·exact n3 x.2 (by simp) z.2 (inr z K4).2 e
   ·exact n3 x.1 (by simp) z.2 (inr z K4).2 e
  ·exfalso
   rcases e with e | e | e
   ·exact n3 z.1 (by simp) x.1 (inr x DM).1 e.symm
   ·exact n3 z.2 (by simp) x.2 (inr x DM).2 e.symm
   ·exact n3 z.2 (by simp) x.1 (inr x DM).1 e.symm
  ·exact zD n2 x DM z K4 e
theorem IG(h:IF ch st P){T R:c7}(e:P=T++p::R)(hs:st p=p):qp st (T++[p]) R=qp st T (p::R)++[p]:=by
 obtain ⟨x,hx,hp⟩:=h.pt (p:=p) (by rw[e];simp)
 have Qg:p=x.1:=hp.elim id λz=>by rw[z,(h.st x hx).2]at hs;rw[z, <-hs]
 have up:=h.up
 rw[e,Qa9,Qdb]at up
 obtain ⟨u1,⟨u2,u3⟩,u4⟩:=up
 have hR:x.2∈R:=by
  have:=(h.in1 hx).2
  rw[e]at this
  rcases Qap.mp this with q | q
  ·have:=u4 _ q p Qac
   have:=h.lt x hx
   lia
  ·rcases Qaf.mp q with q | q
   ·have:=h.lt x hx
    lia
   ·exact q
 unfold qp
 rw[Qcc]
 congr 1
 ·refine Qgm λz hz=>?_
  rw[Qer,decide_eq_false (λq=>by have:=u4 z hz p Qac;lia),Qgg]
 ·have:(R.any λe=>decide (st e=p))=true:=Qc4.mpr ⟨x.2,hR,decide_eq_true (by rw[(h.st x hx).2,Qg])⟩
  rw[Qbx (p:=λx=>R.any λe=>decide (st e=x)) this]
  rfl
theorem erase_filter{s:Nat}{p q:Nat->Bool}:∀{T:c7},T.Nodup->q s=true->p s=false->(∀x,x≠s->q x=p x)->(T.filter q).erase s=T.filter p
 | [],_,_,_,_=>rfl
 | a::T,nd,hq,hp,h=>by
  rw[Qb5]at nd
  by_cases z:a=s
  ·subst z
   rw[Qbx hq,List.erase_cons_head,Qbj (by rw[hp];decide)]
   exact Qgm λx hx=>h x λq=>nd.1 (q▸hx)
  ·have ih:=erase_filter nd.2 hq hp h
   cases e:p a
   ·rw[Qbj (by rw[h a z,e];decide),Qbj (by rw[e];decide)]
    exact ih
   ·rw[Qbx (by rw[h a z,e]),Qbx e,List.erase_cons_tail (by simpa using z),ih]
theorem Qh(h:IF ch st P){T R:c7}(e:P=T++p::R)(hs:st p≠p):qp st (T++[p]) R=(qp st T (p::R)).erase (st p)/\st p∈qp st T (p::R):=by
 obtain ⟨x,hx,hp⟩:=h.pt (p:=p) (by rw[e];simp)
 have Qg:p=x.2:=hp.elim (λz=>absurd (by rw[z,(h.st x hx).1]) hs) id
 have oS:st p=x.1:=by rw[Qg,(h.st x hx).2]
 have up:=h.up
 rw[e,Qa9,Qdb]at up
 obtain ⟨u1,⟨u2,u3⟩,u4⟩:=up
 have only:∀z∈R,st z≠x.1:=λz hz q=>by
  obtain ⟨v,hv,OR⟩:=h.pt (p:=z) (by rw[e];simp[hz])
  have hzp:=u2 z hz
  rcases OR with r | r
  ·rw[r,(h.st v hv).1]at q
   have:=zD h.nd v hv x hx (.inl q)
   subst this
   have:=h.lt v hv
   lia
  ·rw[r,(h.st v hv).2]at q
   have:=zD h.nd v hv x hx (.inl q)
   subst this
   lia
 have none:∀z∈R,st z≠p:=λz hz q=>by
  obtain ⟨v,hv,OR⟩:=h.pt (p:=z) (by rw[e];simp[hz])
  have:st z=v.1:=OR.elim (λr=>by rw[r,(h.st v hv).1]) λr=>by rw[r,(h.st v hv).2]
  rw[this,Qg]at q
  have:=zD h.nd v hv x hx (.inr (.inr q))
  subst this
  have:=h.lt v hv
  lia
 have hT:x.1∈T:=by
  have:=(h.in1 hx).1
  rw[e]at this
  have l:=h.lt x hx
  rcases Qap.mp this with q | q
  ·exact q
  ·rcases Qaf.mp q with q | q
   ·lia
   ·have:=u2 _ q
    lia
 have nd:T.Nodup:=Qgo (λh=>Qa1 h) u1
 have hq:((p::R).any λe=>decide (st e=x.1))=true:=by rw[Qer,decide_eq_true oS];rfl
 refine ⟨?_,?_⟩
 ·rw[oS]
  unfold qp
  rw[Qcc,Qbj (by
   rw[Bool.not_eq_true,Qgn]
   exact λz hz=>by simpa using none z hz),List.filter_nil,Qa4]
  refine (erase_filter nd hq ?_ λz hz=>?_).symm
  ·rw[Qgn]
   exact λz hz=>by simpa using only z hz
  ·rw[Qer,decide_eq_false (by rw[oS];exact Ne.symm hz),Qgg]
 ·rw[oS]
  exact Qbq.mpr ⟨hT,hq⟩
noncomputable def nC(x z:Nat×Nat):Bool:=decide (x.1<z.1)&&(decide (z.1<x.2)&&decide (x.2<z.2))
theorem IH(h:IF ch st P){T R:c7}{x:Nat×Nat}(hx:x∈ch)(e:P=T++x.2::R):ET st T R x.2=(ch.filter (nC x):):=by
 have l:=h.lt x hx
 have oS:=(h.st x hx).2
 have up:=h.up
 rw[e,Qa9,Qdb]at up
 obtain ⟨u1,⟨u2,u3⟩,u4⟩:=up
 unfold ET
 rw[if_neg (),oS, <-Wh (as:=ch.filter (nC x)) (f:=Prod.fst)]
 refine List.Perm.length_eq ((List.perm_ext_iff_of_nodup ?_ ?_).mpr λa=>?_)
 ·exact (Qgo (λh=>Qa1 h) ((u1.filter _).filter _))
 ·have nd:(ch.map Prod.fst).Nodup:=by
   have:∀{ch:List (Nat×Nat)},(ch.flatMap λx=>[x.1,x.2]).Nodup->(ch.map Prod.fst).Nodup:=λ{ch}=>by
    induction ch with
    | nil=>exact λ_=>List.Pairwise.nil
    | cons a r ih=>
     intro nd
     rw[Qbw,Qcn]at nd
     rw[Qa3,Qb5]
     refine ⟨λq=>?_,ih nd.2.1⟩
     obtain ⟨z,hz,ez⟩:=Qay.mp q
     exact nd.2.2 a.1 (by simp) z.1 (Qbp.mpr ⟨z,hz,by simp⟩) ez.symm
   exact this h.nd
  exact List.Nodup.sublist (List.Sublist.map _ List.filter_sublist) nd
 ·rw[Qbq,Qay]
  unfold qp
  rw[Qbq,decide_eq_true_iff,Qc4]
  constructor
  ·rintro ⟨⟨a1,p,hp,ep⟩,a2⟩
   have ep:=of_decide_eq_true ep
   obtain ⟨z,hz,YO⟩:=h.pt (p:=p) (by rw[e];exact Qam _ hp)
   have:st p=z.1:=YO.elim (λr=>by rw[r,(h.st z hz).1]) λr=>by rw[r,(h.st z hz).2]
   rw[this]at ep
   have ax:=u4 a a1 x.2 Qac
   have pz:p=z.2:=YO.elim (λr=>by
    have:=u4 a a1 p hp
    lia) id
   have px:x.2<p:=by
    rcases Qaf.mp hp with q | q
    ·rw[q]at pz
     have:=zD h.nd x hx z hz (.inr (.inl pz))
     subst this
     lia
    ·exact u2 p q
   refine ⟨z,Qbq.mpr ⟨hz,?_⟩,ep⟩
   unfold nC
   rw[Qb4,Qb4,decide_eq_true_iff,decide_eq_true_iff,decide_eq_true_iff]
   lia
  ·rintro ⟨z,hz,rfl⟩
   obtain ⟨hz,q⟩:=Qbq.mp hz
   unfold nC at q
   rw[Qb4,Qb4,decide_eq_true_iff,decide_eq_true_iff,decide_eq_true_iff]at q
   have i1:=(h.in1 hz).1
   have i2:=(h.in1 hz).2
   rw[e]at i1 i2
   refine ⟨⟨?_,z.2,?_,decide_eq_true (h.st z hz).2⟩,q.1⟩
   ·rcases Qap.mp i1 with r | r
    ·exact r
    ·rcases Qaf.mp r with r | r
     ·lia
     ·have:=u2 _ r;lia
   ·rcases Qap.mp i2 with r | r
    ·have:=u4 _ r x.2 Qac;lia
    ·exact r
theorem II(h:IF ch st P):∀(R T:c7),P=T++R->Ka st T R=(R.map λp=>if st p=p then 0 else (ch.filter (nC (st p,p)):)).sum
 | [],_,_=>rfl
 | p::R,T,e=>by
  rw[Qa3,Qdo, <-II h R (T++[p]) (by rw[e];simp)]
  show ET st T R p+_=_
  congr 1
  by_cases z:st p=p
  ·rw[if_pos z];unfold ET;rw[if_pos z]
  ·rw[if_neg z]
   obtain ⟨x,hx,hp⟩:=h.pt (p:=p) (by rw[e];simp)
   have Qg:p=x.2:=hp.elim (λq=>absurd (by rw[q,(h.st x hx).1]) z) id
   have oS:st p=x.1:=by rw[Qg,(h.st x hx).2]
   rw[oS]
   subst Qg
   exact IH h hx e
theorem Qi(h:IF ch st P):Ka st [] P=(ch.map λx=>(ch.filter (nC x):)).sum:=by
 rw[II h P [] rfl,(h.pm.map _).sum_nat]
 have:∀l:List (Nat×Nat),(∀x∈l,x∈ch)->(((l.flatMap λx=>[x.1,x.2]).map λp=>if st p=p then 0 else (ch.filter (nC (st p,p)):)).sum)=(l.map λx=>(ch.filter (nC x):)).sum:=λl hl=>by
  induction l with
  | nil=>rfl
  | cons a r ih=>
   have ha:=h.st a (hl a Qac)
   have la:=h.lt a (hl a Qac)
   rw[Qbw,Qaq,List.sum_append_nat,ih λx hx=>hl x (Qae _ hx),Qa3,Qdo]
   congr 1
   show (if st a.1=a.1 then 0 else _)+((if st a.2=a.2 then 0 else (ch.filter (nC (st a.2,a.2)):))+0)=_
   rw[if_pos ha.1,if_neg (),ha.2,Qcq,Qdl]
 exact this ch λx hx=>hx
theorem EU{α:Type}(X:α->α->Bool)(hd:∀x,X x x=false)(ha:∀x z,X x z=true->X z x=false):∀l:List α,(l.map λx=>(l.filter (X x):)).sum=cl (λx z=>X x z||X z x) l:=λl=>by
 have key:∀(a:α) (l:List α),((l.filter λz=>X a z||X z a):)=(l.filter (X a):)+(l.map λz=>if X z a=true then 1 else 0).sum:=λa l=>by
  induction l with
  | nil=>rfl
  | cons b r ih=>
   have:=ha a b
   simp only[Qgw,Qa3,Qdo]
   cases e1:X a b<;>cases e2:X b a
   ·simp[ih]
   ·simp[ih];lia
   ·simp[ih];lia
   ·rw[this e1]at e2;cases e2
 induction l with
 | nil=>rfl
 | cons a r ih=>
  show (((a::r).map λx=>((a::r).filter (X x):)).sum)=((r.filter λz=>X a z||X z a):)+cl _ r
  rw[Qa3,Qdo,Qbj (by rw[hd a];decide),key a r, <-ih]
  have e:∀l:List α,(l.map λx=>((a::r).filter (X x):)).sum=(l.map λz=>if X z a=true then 1 else 0).sum+(l.map λx=>(r.filter (X x):)).sum:=λl=>by
   induction l with
   | nil=>rfl
   | cons b l ih2=>
    rw[Qa3,Qdo,ih2,Qa3,Qdo,Qa3,Qdo]
    cases e1:X b a
    ·rw[Qbj (by rw[e1];decide)]
     simp;lia
    ·rw[Qbx e1]
     simp;lia
  rw[e r]
  lia
theorem Vp(h:IF ch st P):Ka st [] P=cl (λx z=>nC x z||nC z x) ch:=by
 rw[Qi h,EU]
 ·intro x;unfold nC;rw[decide_eq_false (Qb1 _)];rfl
 ·intro x z q
  unfold nC at q ⊢
  rw[Qb4,Qb4,decide_eq_true_iff,decide_eq_true_iff,decide_eq_true_iff]at q
  rw[decide_eq_false ()]
  rfl
end
noncomputable def NC(p q:Nat):Int:=if (q:Int)<p then q else p
noncomputable def eM(cs:List C4):c7:=cs.flatMap λx=>[x.2.2.1,x.2.2.2]
noncomputable def gC(cs:List C4):List (Key×V):=cs.flatMap λx=>[(Sum.inl (x.2.2.1:Int),V.int (NC x.2.2.1 x.2.2.2)),(Sum.inl (x.2.2.2:Int),V.int (NC x.2.2.1 x.2.2.2))]
noncomputable def rT(cs:List C4):List (Nat×Nat):=cs.map λx=>(min x.2.2.1 x.2.2.2,max x.2.2.1 x.2.2.2)
theorem iB:∀cs:List C4,(gC cs).map (·.1)=(eM cs).map λn:Nat=>(Sum.inl (n:Int):Key)
 | []=>rfl
 | x::r=>by
  unfold gC eM
  rw[Qbw,Qbw,Qaq,Qaq]
  exact congrArg _ (iB r)
variable{aI:List (Key×V)}
theorem zE{k:Key}(h:k∉aI.map (·.1)):dF aI k=none:=by
 induction aI with
 | nil=>rfl
 | cons a r ih=>
  rw[Qa3,Qaf,not_or]at h
  rw[cK (λe=>h.1 e.symm),ih h.2]
theorem IJ(nd:(aI.map (·.1)).Nodup){k:Key}{v:V}(h:(k,v)∈aI):dF aI k=some v:=by
 induction aI with
 | nil=>exact absurd h Qaj
 | cons a r ih=>
  rw[Qa3,Qb5]at nd
  rcases Qaf.mp h with e | e
  ·subst e;exact cV rfl
  ·rw[cK (λz=>nd.1 (Qay.mpr ⟨_,e,z.symm⟩))]
   exact ih nd.2 e
theorem Qj:∀{l:c7},l.Nodup->(l.map λn:Nat=>(Sum.inl (n:Int):Key)).Nodup:=λ{l} h=>Qb8.mpr (h.imp λAg z=>Ag (by have:=Sum.inl.inj z;lia))
noncomputable def ins(l:c7):List V:=l.map λn=>V.int (n:Nat)
theorem m7(l:c7):(ins l:)=(l:):=by unfold ins;rw[Wh]
theorem IK(l:c7)(n:Nat):ins l++[V.int (n:Nat)]=ins (l++[n]):=by unfold ins;rw[Qaq];rfl
theorem IL(h:l[i]? =some n):(ins l)[i]? =some (V.int (n:Nat)):=by unfold ins;rw[Qar,h];rfl
inductive gM(p_:c8)(vs:List V)(H:Hp)(Q:VK)(dA:XK):Prop
 | mk (a:Addr) (qs:List Q4) (_:vs=[.ref a]) (_:H a=some (.lst (ER qs))) (_:(∀x∈qs,ue H x)) (_:(qs:)<=1000) (_:(eM (qs.map Q4.v)).Nodup) (_:∀d H',H d=none->H' d=some (.dK (gC (qs.map Q4.v)))->az H H'->Q (.ref d) H'):gM p_ vs H Q dA
def jc(p_:c8):Sp:=gM p_
theorem oz(h:jc K vs H Q E):(vs:)=1:=by obtain ⟨_,_,rfl,_⟩:=h;rfl
inductive jT(p_:c8)(vs:List V)(H:Hp)(Q:VK)(dA:XK):Prop
 | mk (a:Addr) (l:c7) (p:Nat) (_:vs=[.ref a,.int p]) (_:H a=some (.lst (ins l))) (_:l.Pairwise (· < ·)) (_:p∈l) (_:(l:)<=100000) (_:Q (.int (l.idxOf p:Nat)) H):jT p_ vs H Q dA
def m8(p_:c8):Sp:=jT p_
theorem uf(h:m8 K vs H Q E):(vs:)=2:=by obtain ⟨_,_,_,rfl,_⟩:=h;rfl
inductive fO(p_:c8)(vs:List V)(H:Hp)(Q:VK)(dA:XK):Prop
 | mk (a:Addr) (qs:List Q4) (_:vs=[.ref a]) (_:H a=some (.lst (ER qs))) (_:(∀x∈qs,ue H x)) (_:(qs:)<=24) (_:(eM (qs.map Q4.v)).Nodup) (_:∀H',az H H'->Q (.int (cl (λx z=>nC x z||nC z x) (rT (qs.map Q4.v)):Nat)) H'):fO p_ vs H Q dA
def gN(p_:c8):Sp:=fO p_
theorem lY(h:gN K vs H Q E):(vs:)=1:=by obtain ⟨_,_,rfl,_⟩:=h;rfl
theorem EV(cs:List C4)(x:C4):eM (cs++[x])=eM cs++[x.2.2.1,x.2.2.2]:=by unfold eM;rw[Qcd,Qeh]
theorem EW(cs:List C4)(x:C4):gC (cs++[x])=gC cs++[(Sum.inl (x.2.2.1:Int),V.int (NC x.2.2.1 x.2.2.2)),(Sum.inl (x.2.2.2:Int),V.int (NC x.2.2.1 x.2.2.2))]:=by unfold gC;rw[Qcd,Qeh]
theorem zF(cs:List C4):(gC cs:)=2*(cs:):=by
 induction cs with
 | nil=>rfl
 | cons x r ih=>
  unfold gC at ih ⊢
  rw[Qbw,T6,ih,Qba]
  show 2+2*(r:)=2*((r:)+1)
  lia
variable{cs:List C4}
theorem L4{x:C4}(nd:(eM (cs++[x])).Nodup):putK (putK (gC cs) (Sum.inl (x.2.2.1:Int)) (V.int (NC x.2.2.1 x.2.2.2))) (Sum.inl (x.2.2.2:Int)) (V.int (NC x.2.2.1 x.2.2.2))=gC (cs++[x]):=by
 rw[EV,Qcn]at nd
 obtain ⟨n1,n2,n3⟩:=nd
 have k:∀n:Nat,n∉eM cs->(Sum.inl (n:Int):Key)∉(gC cs).map (·.1):=λn hn z=>by
  rw[iB]at z
  obtain ⟨m,hm,e⟩:=Qay.mp z
  have:m=n:=by have:=Sum.inl.inj e;lia
  exact hn (this▸hm)
 have h1:x.2.2.1∉eM cs:=λz=>n3 _ z _ (by simp) rfl
 have h2:x.2.2.2∉eM cs:=λz=>n3 _ z _ (by simp) rfl
 have h3:x.2.2.1≠x.2.2.2:=by
  rw[Qb5]at n2
  simpa using n2.1
 rw[yO _ (zE (k _ h1)),yO,EW,RI]
 ·rfl
 ·refine zE λz=>?_
  rw[Qaq,Qap]at z
  rcases z with z | z
  ·exact k _ h2 z
  ·have:=Sum.inl.inj (Wi.mp z)
   lia
noncomputable def cQ(cs:List C4)(p:Nat):Nat:=(((dF (gC cs) (Sum.inl (p:Int))).map λv=>match v with | .int i=>i.toNat | _=>0).getD 0)
theorem IM(p q:Nat):NC p q=(min p q:Nat):=by unfold NC;split<;>lia
theorem ND(nd:(eM cs).Nodup){x:C4}(hx:x∈cs):(dF (gC cs) (Sum.inl (x.2.2.1:Int))=some (.int (min x.2.2.1 x.2.2.2:Nat))/\dF (gC cs) (Sum.inl (x.2.2.2:Int))=some (.int (min x.2.2.1 x.2.2.2:Nat)))/\cQ cs x.2.2.1=min x.2.2.1 x.2.2.2/\cQ cs x.2.2.2=min x.2.2.1 x.2.2.2:=by
 have kn:((gC cs).map (·.1)).Nodup:=by rw[iB];exact Qj nd
 have e1:dF (gC cs) (Sum.inl (x.2.2.1:Int))=some (.int (min x.2.2.1 x.2.2.2:Nat)):=by
  rw[<-IM]
  exact IJ kn (Qbp.mpr ⟨x,hx,by simp⟩)
 have e2:dF (gC cs) (Sum.inl (x.2.2.2:Int))=some (.int (min x.2.2.1 x.2.2.2:Nat)):=by
  rw[<-IM]
  exact IJ kn (Qbp.mpr ⟨x,hx,by simp⟩)
 refine ⟨⟨e1,e2⟩,?_,?_⟩
 ·unfold cQ;rw[e1];exact Qan _
 ·unfold cQ;rw[e2];exact Qan _
theorem C_(cs:List C4):((rT cs).flatMap λx=>[x.1,x.2]).Perm (eM cs):=by
 induction cs with
 | nil=>exact .nil
 | cons x r ih=>
  unfold rT eM at ih ⊢
  rw[Qa3,Qbw,Qbw]
  refine List.Perm.append ?_ ih
  show [min x.2.2.1 x.2.2.2,max x.2.2.1 x.2.2.2].Perm [x.2.2.1,x.2.2.2]
  by_cases z:x.2.2.1<=x.2.2.2
  ·rw[Qbs z,Qd5 z]
  ·rw[Qcr (),Qdy ()]
   exact List.Perm.swap _ _ _
theorem Qk{P:c7}(nd:(eM cs).Nodup)(hp:P.Perm (eM cs))(up:P.Pairwise (· < ·)):IF (rT cs) (cQ cs) P:=by
 refine ⟨λx hx=>?_,((C_ cs).nodup_iff).mpr nd,hp.trans (C_ cs).symm,up,λx hx=>?_⟩
 ·obtain ⟨c,hc,rfl⟩:=Qay.mp hx
  have eG:c.2.2.1≠c.2.2.2:=λz=>by
   have:∀{cs:List C4},(eM cs).Nodup->∀c∈cs,c.2.2.1≠c.2.2.2:=λ{cs}=>by
    induction cs with
    | nil=>exact λ_ _ h=>absurd h Qaj
    | cons a r ih=>
     intro nd c hc
     unfold eM at nd
     rw[Qbw,Qcn]at nd
     rcases Qaf.mp hc with e | e
     ·subst e
      have:=nd.1
      rw[Qb5]at this
      simpa using this.1
     ·exact ih nd.2.1 c e
   exact this nd c hc z
  show min c.2.2.1 c.2.2.2<max c.2.2.1 c.2.2.2
  lia
 ·obtain ⟨c,hc,rfl⟩:=Qay.mp hx
  obtain ⟨_,e1,e2⟩:=ND nd hc
  show cQ cs (min c.2.2.1 c.2.2.2)=min c.2.2.1 c.2.2.2/\cQ cs (max c.2.2.1 c.2.2.2)=min c.2.2.1 c.2.2.2
  by_cases z:c.2.2.1<=c.2.2.2
  ·rw[Qbs z,Qd5 z]at*
   exact ⟨e1,e2⟩
  ·rw[Qcr (),Qdy ()]at*
   exact ⟨e2,e1⟩
theorem IQ(h:p∈l):l.eraseIdx (l.idxOf p)=l.erase p:=(List.erase_eq_eraseIdx_of_idxOf rfl).symm
theorem behind(up:l.Pairwise (· < ·))(h:p∈l):(l.erase p:) - l.idxOf p=((l.filter λx=>decide (p<x)):):=by
 induction l with
 | nil=>exact absurd h Qaj
 | cons a r ih=>
  rw[Qdb]at up
  by_cases z:a=p
  ·subst z
   rw[List.erase_cons_head,List.idxOf_cons_self,Qbj (by simp),List.filter_eq_self.mpr (λx hx=>decide_eq_true (up.1 x hx))]
   rfl
  ·have hr:=(Qaf.mp h).resolve_left (Ne.symm z)
   rw[List.erase_cons_tail (by simpa using z),PV,if_neg z,Qbj (by
    have:=up.1 p hr
    simp;lia), <-ih up.2 hr,Qba]
   lia
variable{st:Nat->Nat}
theorem Ql{P T R:c7}(h:P.Pairwise (· < ·))(e:P=T++R)(R':c7):(qp st T R').Pairwise (· < ·):=by
 rw[e,Qa9]at h
 exact h.1.filter _
theorem L5{T R:c7}:(qp st T R:)<=T.length:=Qdd _ _
theorem Qm(nd:(eM cs).Nodup)(hp:p∈eM cs):dF (gC cs) (Sum.inl (p:Int))=some (.int (cQ cs p:Nat)):=by
 unfold eM at hp
 obtain ⟨x,hx,e⟩:=Qbp.mp hp
 obtain ⟨⟨e1,e2⟩,e3,e4⟩:=ND nd hx
 have e':p=x.2.2.1\/p=x.2.2.2:=by simpa using e
 rcases e' with rfl | rfl
 ·rw[e1,e3]
 ·rw[e2,e4]
theorem BB{ms:List Int}(nd:l.Nodup)(hp:ms.Perm (l.map λn:Nat=>(n:Int)))(hw:ms.Pairwise λa b=> ¬b<a):∃P:c7,ms.map V.int=ins P/\P.Perm l/\P.Pairwise (· < ·):=by
 have x_:∀m∈ms,∃n:Nat,m=n:=λm hm=>by
  obtain ⟨n,_,rfl⟩:=Qay.mp (hp.mem_iff.mp hm)
  exact ⟨n,rfl⟩
 have e1:ms=(ms.map Int.toNat).map λn:Nat=>(n:Int):=by
  rw[Qbh]
  refine (Qec ms).symm.trans (Qb0 λm hm=>?_)
  obtain ⟨n,rfl⟩:=x_ m hm
  exact (congrArg _ (Qan n)).symm
 have p1:(ms.map Int.toNat).Perm l:=by
  have:=hp.map Int.toNat
  rw[Qbh]at this
  have e2:l.map (Int.toNat ∘ λn:Nat=>(n:Int))=l:=(Qb0 λn _=>Qan n).trans (Qec l)
  rwa [e2]at this
 refine ⟨ms.map Int.toNat,?_,p1,?_⟩
 ·unfold ins
  conv=>lhs;rw[e1]
  rw[Qbh]
  rfl
 ·have nd2:(ms.map Int.toNat).Nodup:=p1.nodup_iff.mpr nd
  have hw2:(ms.map Int.toNat).Pairwise λa b=> ¬b<a:=by
   rw[e1,Qb8]at hw
   exact hw.imp λh z=>h ()
  refine Qgo (λ{a b} h=>?_) (List.Pairwise.and hw2 nd2)
  have:=h.1
  have:=h.2
  lia
theorem IS{P:c7}{k:Nat}(h:P[k]? =some p):Ka st (P.take k) (P.drop k)=ET st (P.take k) (P.drop (k+1)) p+Ka st (P.take (k+1)) (P.drop (k+1)):=by
 obtain ⟨hk,e⟩:=OC.mp h
 rw[Qbz hk,e]
 show ET st _ _ p+Ka st (P.take k++[p]) _=_
 rw[take_snoc h]
theorem IT{k:Nat}(h:k<n):seqIndex? (k:Int) n=some k:=by
 unfold seqIndex?
 simp
 lia
theorem vJ:∀(l:c7) (k:Nat),(ins l).eraseIdx k=ins (l.eraseIdx k)
 | [],_=>rfl
 | _::_,0=>rfl
 | a::l,k+1=>congrArg (V.int (a:Nat):: ·) (vJ l k)
noncomputable def cst(y w:c7)(i:Int):Int:=zq y (ay (rd w (i - 1))) (rd w i)
theorem IU(y w:c7)(p k:Int):ff y (sq w p) k=cst y w (p+k):=by
 unfold ff cst sq
 rw[show p+(k - 1)=p+k - 1 by lia]
noncomputable def Aj(n:Int):Nat:=(48+n).toNat
noncomputable def stx(y w:c7):c7:=(List.range (w:)).map λi:Nat=>Aj (cst y w i)
theorem dq(y w:c7):(stx y w:)=(w:):=by unfold stx;rw[Wh,Qd2]
theorem Qn:∀n:Nat,n<10->dg n=[48+n]:=⋯
noncomputable def jU(lg n:Nat):Nat:=3+lg / max n 1
noncomputable def oA(y u:c7)(lg r:Nat):List (Str×V):=eB "backward" (.str (S (dZ (jU lg (u:)) (stx y u).reverse))) (eB "onward" (.str (S (dZ (jU lg (u:)) (stx y u)))) (eB "leads" (.bl (leads u)) (eB "root_size" (.int r) (eB "size" (.int (u:)) []))))
noncomputable def NF(t w:Addr)(p:Nat):List (Str×V):=eB "place" (.int p) (eB "way" (.ref w) (eB "strand" (.ref t) []))
section
variable{y u:c7}{lg r:Nat}{t w:Addr}{p:Nat}
theorem Dc:(oA y u lg r).lookup ("size":Str)=some (.int (u:)):=by
 unfold oA
 rw[aL,if_neg ⋯,aL,if_neg ⋯,aL,if_neg ⋯,aL,if_neg ⋯,aL,if_pos rfl]
theorem qq:(oA y u lg r).lookup ("root_size":Str)=some (.int r):=by
 unfold oA
 rw[aL,if_neg ⋯,aL,if_neg ⋯,aL,if_neg ⋯,aL,if_pos rfl]
theorem IV:(oA y u lg r).lookup ("leads":Str)=some (.bl (leads u)):=by
 unfold oA
 rw[aL,if_neg ⋯,aL,if_neg ⋯,aL,if_pos rfl]
theorem Vq:(oA y u lg r).lookup ("onward":Str)=some (.str (S (dZ (jU lg (u:)) (stx y u)))):=by
 unfold oA
 rw[aL,if_neg ⋯,aL,if_pos rfl]
theorem L6:(oA y u lg r).lookup ("backward":Str)=some (.str (S (dZ (jU lg (u:)) (stx y u).reverse))):=by
 unfold oA
 rw[aL,if_pos rfl]
theorem m9:(NF t w p).lookup ("place":Str)=some (.int p):=by unfold NF;rw[aL,if_pos rfl]
theorem oB:(NF t w p).lookup ("way":Str)=some (.ref w):=by unfold NF;rw[aL,if_neg ⋯,aL,if_pos rfl]
theorem vK:(NF t w p).lookup ("strand":Str)=some (.ref t):=by unfold NF;rw[aL,if_neg ⋯,aL,if_neg ⋯,aL,if_pos rfl]
end
theorem de(f:Str)(v:V):∀fs:List (Str×V),(eB f v fs:)<=(fs:)+1
 | []=>Qaa _
 |(g,x)::r=>by
  unfold eB
  split
  ·exact Qdk _
  ·exact Qc9 (de f v r)
structure Sn where
 a:Addr
 t:Addr
 wy:Addr
 c:Nat
 i:Nat
 u:c7
 p:Nat
 r:Nat
structure EX(H:Hp)(C a:Addr)(y u:c7)(lg r:Nat):Prop where
 ob:∃dx,H a=some (.ins C dx (oA y u lg r))
 sw:SW y u
 uz:(u:)<=lg
 lz:lg<=1000
 rt:bN u r
variable{C:Addr}{lg:Nat}
theorem EX.same{a:Addr}{r:Nat}(h:EX H C a y u lg r)(s:az H H'):EX H' C a y u lg r:=by
 obtain ⟨dx,e⟩:=h.ob
 exact ⟨⟨dx,s _ _ e⟩,h.sw,h.uz,h.lz,h.rt⟩
structure jV(H:Hp)(CW CS:Addr)(y:c7)(lg:Nat)(s:Sn):Prop where
 ob:∃dx,H s.a=some (.ins CS dx (NF s.t s.wy s.p))
 st:H s.t=some (.tup [.int s.c,.int s.i])
 wy:EX H CW s.wy y s.u lg s.r
 pz:s.p<(s.u:)
variable{CW CS:Addr}
theorem jV.same{s:Sn}(h:jV H CW CS y lg s)(sm:az H H'):jV H' CW CS y lg s:=by
 obtain ⟨dx,e⟩:=h.ob
 exact ⟨⟨dx,sm _ _ e⟩,sm _ _ h.st,h.wy.same sm,h.pz⟩
noncomputable def Fy(y:c7)(lg:Nat)(s:Sn):c7:=(dZ (jU lg (s.u:)) (stx y s.u)).drop (s.p+1)
noncomputable def Fz(y:c7)(lg:Nat)(s:Sn):c7:=(dZ (jU lg (s.u:)) (stx y s.u).reverse).drop ((s.u:) - 1 - s.p)
noncomputable def seg(l:c7)(x z:Nat):c7:=(l.drop x).take (z - x)
inductive gO(p_:c8)(vs:List V)(H:Hp)(Q:VK)(dA:XK):Prop
 | mk (y w:c7) (i:Nat) (_:vs=[.str (S y),.str (S w),.int i]) (_:Yd y) (_:(y:)<=8) (_:SW y w) (_:(w:)<=1000) (_:i<(w:)) (_:∀(n:Nat) H',cst y w i=n->n<8->az H H'->Q (.int n) H'):gO p_ vs H Q dA
def jd(p_:c8):Sp:=gO p_
theorem oE(h:jd K vs H Q E):(vs:)=3:=by obtain ⟨_,_,_,rfl,_⟩:=h;rfl
inductive rV(p_:c8)(C:Addr)(vs:List V)(H:Hp)(Q:VK)(dA:XK):Prop
 | mk (x dx:Addr) (y w:c7) (lg:Nat) (_:vs=[.ref x,.str (S y),.str (S w),.int lg]) (_:H x=some (.ins C dx [])) (_:Yd y) (_:(y:)<=8) (_:SW y w) (_:(w:)<=lg) (_:lg<=1000) (_:∀(r:Nat) H',bN w r->H' x=some (.ins C dx (oA y w lg r))->bE x H H'->Q .gz H'):rV p_ C vs H Q dA
def zG(p_:c8)(C:Addr):Sp:=rV p_ C
theorem EY(h:zG K C vs H Q E):(vs:)=4:=by obtain ⟨_,_,_,_,_,rfl,_⟩:=h;rfl
inductive o8(p_:c8)(C:Addr)(vs:List V)(H:Hp)(Q:VK)(dA:XK):Prop
 | mk (x dx t w:Addr) (p:Nat) (_:vs=[.ref x,.ref t,.ref w,.int p]) (_:H x=some (.ins C dx [])) (_:∀H',H' x=some (.ins C dx (NF t w p))->bE x H H'->Q .gz H'):o8 p_ C vs H Q dA
def vL(p_:c8)(C:Addr):Sp:=o8 p_ C
theorem BC(h:vL K C vs H Q E):(vs:)=4:=by obtain ⟨_,_,_,_,_,rfl,_⟩:=h;rfl
inductive iC(p_:c8)(CW CS:Addr)(vs:List V)(H:Hp)(Q:VK)(dA:XK):Prop
 | mk (y:c7) (lg:Nat) (s:Sn) (x z:Nat) (_:vs=[.ref s.a,.int x,.int z]) (_:(y:)<=8) (_:jV H CW CS y lg s) (_:x<=z) (_:Q (.str (S (seg (Fy y lg s) x z))) H):iC p_ CW CS vs H Q dA
def gq(p_:c8)(CW CS:Addr):Sp:=iC p_ CW CS
theorem pR(h:gq K CW CS vs H Q E):(vs:)=3:=by obtain ⟨_,_,_,_,_,rfl,_⟩:=h;rfl
inductive je(p_:c8)(CW CS:Addr)(vs:List V)(H:Hp)(Q:VK)(dA:XK):Prop
 | mk (y:c7) (lg:Nat) (s:Sn) (x z:Nat) (_:vs=[.ref s.a,.int x,.int z]) (_:(y:)<=8) (_:jV H CW CS y lg s) (_:x<=z) (_:Q (.str (S (seg (Fz y lg s) x z))) H):je p_ CW CS vs H Q dA
def gU(p_:c8)(CW CS:Addr):Sp:=je p_ CW CS
theorem rW(h:gU K CW CS vs H Q E):(vs:)=3:=by obtain ⟨_,_,_,_,_,rfl,_⟩:=h;rfl
theorem L7(h:a<=b):cut l (some (a:Int)) (some (b:Int))=(l.drop a).take (b - a):=by
 unfold cut
 rw[HT.gE,HT.gE]
 by_cases z:a<=(l:)
 ·rw[Qbs z]
  by_cases z2:b<=(l:)
  ·rw[Qbs z2]
  ·rw[Qcr (),Qai (by rw[Qat];lia),Qai (by rw[Qat];lia)]
 ·rw[Qcr (),Qcr (),Qbi (Qaa _),Qbi ()]
  simp
theorem Dd{f:Nat}(h:x<=z):cut l (some ((f:Int)+x)) (some ((f:Int)+z))=seg (l.drop f) x z:=by
 rw[show (f:Int)+x=((f+x:Nat):Int) by lia,show (f:Int)+z=((f+z:Nat):Int) by lia,L7 ()]
 unfold seg
 rw[Qe6,show f+z - (f+x)=z - x by lia]
theorem m_(h:1<=n):n*jU lg n<=3*n+lg/\2*n+lg<n*jU lg n:=by
 unfold jU
 rw[Qdy h,Qgy]
 have h1:=Qeu lg n
 have h2:=Qd4 lg (show 0<n by lia)
 lia
theorem vM(m:Nat)(l:c7):(dZ m l:)=(l:)*m:=by
 unfold dZ
 rw[List.length_flatten,List.map_replicate,List.sum_replicate_nat,Qc8]
theorem SW.aP{w:c7}(hy:Yd y)(h:SW y w):My.aP w=bV w:=by unfold My.aP;rw[h.core hy]
theorem xC(l:c7)(x z j:Nat):(seg l x z)[j]? =if j<z - x then l[x+j]? else none:=by
 unfold seg
 rw[Qe4]
 split
 ·rw[Qbk]
 ·rfl
theorem BD{m:c7}:seg l x (x+z)=seg m x (x+z)↔ ∀k,x<=k->k<x+z->l[k]? =m[k]?:= by
 constructor
 ·intro h k h1 h2
  have:=congrArg (·[k - x]?) h
  simp only[xC]at this
  rwa [if_pos (),if_pos (),show x+(k - x)=k by lia]at this
 ·intro h
  refine Qd3 λj=>?_
  rw[xC,xC]
  by_cases z':j<x+z - x
  ·rw[if_pos z',if_pos z',h (x+j) () ()]
  ·rw[if_neg z',if_neg z']
noncomputable def Qo(b:Bool)(y:c7)(lg:Nat)(s:Sn):c7:=if b=true then Fy y lg s else Fz y lg s
def jW(l m:c7)(n:Nat):Prop:=∀k,k<n->l[k]? =m[k]?
inductive nc(p_:c8)(CW CS fa fb:Addr)(vs:List V)(H:Hp)(Q:VK)(dA:XK):Prop
 | mk (y:c7) (lg:Nat) (s t:Sn) (b:Bool) (en:Nat) (_:vs=[.ref (if b=true then fa else fb),.ref s.a,.ref t.a,.int en]) (_:(y:)<=8) (_:jV H CW CS y lg s) (_:jV H CW CS y lg t) (_:en<=100000) (_:∀m:Nat,jW (Qo b y lg s) (Qo b y lg t) m->(en<=m\/(Qo b y lg s)[m]?≠ (Qo b y lg t)[m]?)->Q (.int m) H):nc p_ CW CS fa fb vs H Q dA
def rX(p_:c8)(CW CS fa fb:Addr):Sp:=nc p_ CW CS fa fb
variable{fa:Addr}
theorem zH{fb:Addr}(h:rX K CW CS fa fb vs H Q E):(vs:)=4:=by obtain ⟨_,_,_,_,_,_,rfl,_⟩:=h;rfl
theorem jW.more{m:c7}(h:jW l m x)(e:seg l x (x+z)=seg m x (x+z)):jW l m (x+z):=λk hk=>by
 by_cases q:k<x
 ·exact h k q
 ·exact BD.mp e k () hk
theorem IW{m:c7}(h:seg l x (x+z)≠seg m x (x+z)):∃k,x<=k/\k<x+z/\l[k]?≠ m[k]?:= Classical.byContradiction λq=>h (BD.mpr λk h1 h2=>Classical.byContradiction λr=>q ⟨k,h1,h2,r⟩)
noncomputable def BE(s:Sn):Int×Int:=if leads s.u=true then ((s.c:Int),((s.p / s.r:Nat):Int)) else (-(s.c:Int), -((((s.u:) - 1 - s.p) / s.r:Nat):Int))
inductive ng(p_:c8)(CW CS:Addr)(vs:List V)(H:Hp)(Q:VK)(dA:XK):Prop
 | mk (y:c7) (lg:Nat) (s:Sn) (_:vs=[.ref s.a]) (_:jV H CW CS y lg s) (_:∀p H',H p=none->H' p=some (.tup [.int (BE s).1,.int (BE s).2])->az H H'->Q (.ref p) H'):ng p_ CW CS vs H Q dA
def rY(p_:c8)(CW CS:Addr):Sp:=ng p_ CW CS
theorem zI(h:rY K CW CS vs H Q E):(vs:)=1:=by obtain ⟨_,_,_,rfl,_⟩:=h;rfl
noncomputable def k_(y:c7)(M:Nat)(s:Sn):List Int:=kk y (sq s.u s.p) 0 M++[(BE s).1,(BE s).2]
inductive iD(p_:c8)(CW CS:Addr)(vs:List V)(H:Hp)(Q:VK)(dA:XK):Prop
 | mk (y:c7) (lg:Nat) (s t:Sn) (_:vs=[.ref s.a,.ref t.a]) (_:Yd y) (_:(y:)<=8) (_:jV H CW CS y lg s) (_:jV H CW CS y lg t) (_:rd s.u s.p=rd t.u t.p) (_:∀H',az H H'->Q (.bl (bT (k_ y (2*lg) s) (k_ y (2*lg) t))) H'):iD p_ CW CS vs H Q dA
def jX(p_:c8)(CW CS:Addr):Sp:=iD p_ CW CS
theorem pT(h:jX K CW CS vs H Q E):(vs:)=2:=by obtain ⟨_,_,_,_,rfl,_⟩:=h;rfl
theorem jY{r:Nat}(hn:u≠[])(h:bN u r):1<=r/\r<=(u:):=by
 rcases h with ⟨z,_⟩ | ⟨h1,h2,_⟩
 ·exact absurd z hn
 ·exact ⟨h1,h2⟩
theorem De(h:i<(u:)):(stx y u)[i]? =some (Aj (cst y u i)):=by
 unfold stx
 rw[Qar,List.getElem?_range h]
 rfl
theorem xD(y u:c7)(i:Int):cst y u (i%(u:))=cst y u i:=by
 unfold cst
 rw[fJ, <-fJ u (i%(u:) - 1),Qgp,Qf8 _ (Int.dvd_refl _), <-Qgp,fJ]
theorem IX{s:Sn}(hn:s.u≠[]){k:Nat}(h:s.p+1+k<(s.u:)*jU lg (s.u:)):(Fy y lg s)[k]? =some (Aj (ff y (sq s.u s.p) (k+1))):=by
 have hp:=Qab.mpr hn
 unfold Fy
 rw[Qbk,mT _ _ _ (by rw[dq,Qc8];exact h),dq,De (Qd4 _ hp),IU,Qdt,xD]
 congr 3
 lia
theorem IZ{s:Sn}(hn:s.u≠[])(hp:s.p<(s.u:)){k:Nat}(h:(s.u:) - 1 - s.p+k<(s.u:)*jU lg (s.u:)):(Fz y lg s)[k]? =some (Aj (ff y (sq s.u s.p) (-(k:Int)))):=by
 have hl:=Qab.mpr hn
 unfold Fz
 rw[Qbk,mT _ _ _ (by rw[Qa0,dq,Qc8];exact h),Qa0,dq]
 have hm:=Qd4 ((s.u:) - 1 - s.p+k) hl
 rw[Qd1 (by rw[dq];exact hm),dq,De (),IU]
 congr 2
 rw[<-xD y s.u (s.p+ -(k:Int)), <-xD y s.u (((s.u:) - 1 - ((s.u:) - 1 - s.p+k)%(s.u:):Nat):Int)]
 congr 1
 have e:(((s.u:) - 1 - ((s.u:) - 1 - s.p+k)%(s.u:):Nat):Int)=((s.u:):Int) - 1 - (((s.u:):Int) - 1 - s.p+k)%(s.u:):=by
  have:((((s.u:) - 1 - s.p+k)%(s.u:):Nat):Int)=(((s.u:):Int) - 1 - s.p+k)%(s.u:):=by
   rw[Qdt];congr 1;lia
  lia
 rw[e,Qgp,Qf8 _ (Int.dvd_refl _), <-Qgp]
 congr 1
 lia
variable{en:Nat}
theorem vN{s:Sn}(hp:s.p<(s.u:))(he:en<=(s.u:)+lg):s.p+1+en<(s.u:)*jU lg (s.u:)+1/\(s.u:) - 1 - s.p+en<(s.u:)*jU lg (s.u:):=by
 have:=(m_ (lg:=lg) (n:=(s.u:)) ()).2
 lia
theorem Df{r:Nat}(hn:u≠[])(h:bN u r)(p k:Int):sq u p (k+r)=sq u p k:=by
 have:=((gn hn h).2 (p+r) p).mpr (by rw[show p+(r:Int) - p=r by lia,Int.emod_self])
 have e:=this k
 unfold sq at e ⊢
 rw[show p+(k+r)=p+r+k by lia]
 exact e
theorem Dg{a b:Int}(ha:0<=a)(hb:0<=b)(h:Aj a=Aj b):a=b:=by unfold Aj at h;lia
theorem I0{a b:Int}(ha:0<=a)(hb:0<=b):Aj a<Aj b↔a<b:=by unfold Aj;lia
theorem Dh(hy:Yd y)(h:g_ y f)(k:Int):0<=ff y f k:=by
 have:=(fg (hy.cl _ (h.bO (k - 1))) (h.bO k) (Ne.symm (h.red k))).1
 unfold ff
 lia
theorem Di{m:c7}(ha:a<en)(h1:∀k,k<a->l[k]? =m[k]?)(h2:l[a]?≠ m[a]?)(g1:jW l m n)(g2:en<=n\/l[n]?≠ m[n]?):n=a:=by
 by_cases z:a<n
 ·exact absurd (g1 a z) h2
 ·by_cases z2:n<a
  ·rcases g2 with g2 | g2
   ·lia
   ·exact absurd (h1 n z2) g2
  ·lia
theorem Dj{m:c7}(h1:∀k,k<en->l[k]? =m[k]?)(g2:en<=n\/l[n]?≠ m[n]?):en<=n:=by
 rcases g2 with g2 | g2
 ·exact g2
 ·exact Classical.byContradiction λz=>g2 (h1 n ())
theorem qr(h:l[a]? =some x):seg l a (a+1)=[x]:=by
 obtain ⟨ha,e⟩:=OC.mp h
 unfold seg
 rw[Qbz ha,e,show a+1 - a=1 by lia]
 rfl
theorem I_(x z:Nat):decide ([x]<[z])=decide (x<z):=decide_eq_decide.mpr ⟨λh=>(Qf4.mp h).elim id λq=>absurd q.2 (Qcu _),λh=>Qf4.mpr (.inl h)⟩
theorem L8(a b c d:Int):JY a b c d=bT [a,b] [c,d]:=by
 unfold JY
 show _=if a=c then (if b=d then bT [] [] else decide (b<d)) else decide (a<c)
 by_cases z:a=c
 ·rw[if_pos z,if_pos z]
  by_cases q:b=d
  ·rw[if_pos q,q];simp[bT]
  ·rw[if_neg q]
 ·rw[if_neg z,if_neg z]
noncomputable def Dk(ss:List Sn):List V:=ss.map λs=>V.ref s.a
theorem nh(ss:List Sn):(Dk ss:)=(ss:):=by unfold Dk;rw[Wh]
variable{ss:List Sn}
theorem Qp{s:Sn}(h:ss[i]? =some s):(Dk ss)[i]? =some (V.ref s.a):=by unfold Dk;rw[Qar,h];rfl
theorem L9{x:V}(h:(Dk ss)[i]? =some x):∃s,ss[i]? =some s/\x=V.ref s.a:=by
 unfold Dk at h
 rw[Qar]at h
 cases e:ss[i]? with
 | none=>rw[e]at h;cases h
 | some p=>rw[e]at h;cases h;exact ⟨p,rfl,rfl⟩
def EZ(y:c7)(M:Nat)(ss:List Sn):Prop:=ss.Pairwise λs t=>bT (k_ y M t) (k_ y M s)=false
inductive gP(p_:c8)(CW CS:Addr)(vs:List V)(H:Hp)(Q:VK)(dA:XK):Prop
 | mk (y:c7) (lg:Nat) (a:Addr) (ss:List Sn) (t:Sn) (_:vs=[.ref a,.ref t.a]) (_:Yd y) (_:(y:)<=8) (_:H a=some (.lst (Dk ss))) (_:(∀s∈ss,jV H CW CS y lg s/\rd s.u s.p=rd t.u t.p)) (_:jV H CW CS y lg t) (_:EZ y (2*lg) ss) (_:(ss:)<=100000) (_:∀(n:Nat) H',n<=(ss:)->(∀k s,ss[k]? =some s->k<n->bT (k_ y (2*lg) s) (k_ y (2*lg) t)=true)->(∀k s,ss[k]? =some s->n<=k->bT (k_ y (2*lg) s) (k_ y (2*lg) t)=false)->az H H'->Q (.int n) H'):gP p_ CW CS vs H Q dA
def jf(p_:c8)(CW CS:Addr):Sp:=gP p_ CW CS
theorem oF(h:jf K CW CS vs H Q E):(vs:)=2:=by obtain ⟨_,_,_,_,_,rfl,_⟩:=h;rfl
structure Wp where
 t:Addr
 a:Addr
 b:Addr
 r:Nat
 q:Nat
noncomputable def Kb(l:List Wp):List V:=l.map λp=>V.ref p.t
theorem Ja{l:List Wp}{p:Wp}(h:l[i]? =some p):(Kb l)[i]? =some (V.ref p.t):=by unfold Kb;rw[Qar,h];rfl
theorem Jb(l:List Wp)(p:Wp):Kb l++[V.ref p.t]=Kb (l++[p]):=by unfold Kb;rw[Qaq];rfl
structure xE(H:Hp)(C:Addr)(y:c7)(lg:Nat)(w:c7)(p:Wp):Prop where
 tp:H p.t=some (.tup [.ref p.a,.ref p.b])
 on:EX H C p.a y w lg p.r
 bk:EX H C p.b y (bC w) lg p.q
theorem xE.same{w:c7}{p:Wp}(h:xE H C y lg w p)(s:az H H'):xE H' C y lg w p:=⟨s _ _ h.tp,h.on.same s,h.bk.same s⟩
structure BF(w:c7)(c i:Nat)(s:Sn):Prop where
 ec:s.c=c
 ei:s.i=i
 eu:s.u=if aC (rd w i)=true then w else bC w
 ep:s.p=if aC (rd w i)=true then i else (w:) - 1 - i
inductive iE(p_:c8)(CW CS:Addr)(vs:List V)(H:Hp)(Q:VK)(dA:XK):Prop
 | mk (y:c7) (lg:Nat) (wt vt st:Addr) (w:c7) (ws:List c7) (nE:List Wp) (p:Wp) (c i:Nat) (_:vs=[.ref wt,.ref vt,.ref st]) (_:Yd y) (_:H wt=some (.tup (dD ws))) (_:H vt=some (.lst (Kb nE))) (_:H st=some (.tup [.int c,.int i])) (_:ws[c]? =some w) (_:nE[c]? =some p) (_:xE H CW y lg w p) (_:i<(w:)) (_:∀(s:Sn) H',BF w c i s->s.t=st->jV H' CW CS y lg s->H s.a=none->az H H'->Q (.ref s.a) H'):iE p_ CW CS vs H Q dA
def jZ(p_:c8)(CW CS:Addr):Sp:=iE p_ CW CS
theorem pU(h:jZ K CW CS vs H Q E):(vs:)=3:=by obtain ⟨_,_,_,_,_,_,_,_,_,_,_,rfl,_⟩:=h;rfl
inductive jg(p_:c8)(vs:List V)(H:Hp)(Q:VK)(dA:XK):Prop
 | mk (wt:Addr) (ws:List c7) (band:Nat) (_:vs=[.ref wt,.str (S [band])]) (_:H wt=some (.tup (dD ws))) (_:(ws:)<=4) (_:(∀w∈ws,(∀c∈w,Lt c)/\(w:)<=12)) (_:band∈aR) (_:∀(q:Addr) (ps:List Pr) (H':Hp),H q=none->H' q=some (.lst (vE ps))->(∀p∈ps,pQ H' p)->ps.map Pr.pair=dc band ws (ws:)->az H H'->Q (.ref q) H'):jg p_ vs H Q dA
def lF(p_:c8):Sp:=jg p_
theorem rZ(h:lF K vs H Q E):(vs:)=2:=by obtain ⟨c,_,_,rfl,_⟩:=h;rfl
open Classical in
noncomputable def NG(w:c7):Nat:=if h:∃s,bN w s then choose h else 0
theorem j4{w:c7}(hn:w≠[]):bN w (NG w):=by
 have h:=CO hn
 unfold NG
 rw[dif_pos h]
 exact Classical.choose_spec h
theorem Jc{w:c7}{r:Nat}(hy:Yd y)(hw:SW y w)(h:bN w r)(g:bN (bC w) q):q=r:=by
 have hn:=hw.ne
 have ht:=om hn
 have p1:=jY hn h
 have p2:=jY ht g
 have key:∀d:Nat,(d:Int)%(r:Int)=0↔(d:Int)%(q:Int)=0:=λd=>by
  have a:=(gn hn h).2 d 0
  have b:=(gn ht g).2 d 0
  rw[Qe0]at a b
  rw[<-a, <-b]
  constructor
  ·intro p k
   rw[gK hn,gK hn]
   unfold bq
   have:=p (-1 - (d:Int) - k)
   unfold sq at this
   have e1:rd w (-1 - (0:Int) - k)=rd w ((d:Int)+(-1 - (d:Int) - k)):=by congr 1;lia
   have e2:rd w (-1 - (d:Int) - k)=rd w (0+(-1 - (d:Int) - k)):=by congr 1;lia
   rw[e1,e2,this]
  ·intro p k
   have e:∀x:Int,rd w x=ay (rd (bC w) (-1 - x)):=λx=>by
    rw[iU hn,show -1 - (-1 - x)=x by lia,aF (hy.lt _ (hw.rd _))]
   unfold sq
   rw[e,e]
   have:=p (-1 - (d:Int) - k)
   unfold sq at this
   rw[show -1 - ((d:Int)+k)=0+(-1 - (d:Int) - k) by lia, <-this]
   congr 2
   lia
 have a:=(key r).mp (Int.emod_self)
 have b:=(key q).mpr (Int.emod_self)
 have a':r%q=0:=by
  have:((r%q:Nat):Int)=0:=by rw[<-a];rfl
  lia
 have b':q%r=0:=by
  have:((q%r:Nat):Int)=0:=by rw[<-b];rfl
  lia
 exact Qdf (Qgc () (Qef a')) (Qgc () (Qef b'))
noncomputable def FA(ws:List c7)(c:Nat):Bool:=leads (ws|||c)
noncomputable def FC(ws:List c7)(c:Nat):Nat:=NG (ws|||c)
noncomputable def WE(y:c7)(ws:List c7)(M:Nat)(x:Nat×Nat):List Int:=eJ y ws (FA ws) (FC ws) M x.1 x.2
theorem BF.line{w:c7}{s:Sn}(hy:Yd y)(hw:SW y w)(hi:i<(w:))(h:BF w c i s):sq s.u s.p=nB w i:=by
 rw[h.eu,h.ep]
 unfold nB
 by_cases z:aC (rd w i)=true
 ·rw[if_pos z,if_pos z,if_pos z]
 ·rw[if_neg z,if_neg z,if_neg z, <-PY hw.ne,show (((w:) - 1 - i:Nat):Int)=((w:):Int) - 1 - i by lia]
theorem Dm{w:c7}{s:Sn}(hy:Yd y)(hw:SW y w)(hi:i<(w:))(e:(ws|||c)=w)(h:BF w c i s)(rt:bN s.u s.r):k_ y M s=WE y ws M (c,i):=by
 unfold k_ WE eJ
 rw[h.line hy hw hi]
 simp only[e]
 congr 1
 unfold BE J6 FA FC
 rw[e,h.ec]
 have wb:=j4 hw.ne
 by_cases z:aC (rd w i)=true
 ·have eu:s.u=w:=by rw[h.eu,if_pos z]
  have ep:s.p=i:=by rw[h.ep,if_pos z]
  rw[eu]at rt ⊢
  have er:=HN hw.ne rt wb
  rw[er,ep,z]
  by_cases l:leads w=true
  ·rw[if_pos l,l];rfl
  ·rw[if_neg l,if_neg (λq=>l q.symm)];rfl
 ·have eu:s.u=bC w:=by rw[h.eu,if_neg z]
  have ep:s.p=(w:) - 1 - i:=by rw[h.ep,if_neg z]
  rw[eu]at rt ⊢
  have er:=Jc hy hw wb rt
  have z':aC (rd w i)=false:=by simpa using z
  rw[er,ep,z',vD hy hw,bA]
  have ei:(w:) - 1 - ((w:) - 1 - i)=i:=by lia
  rw[ei]
  cases leads w<;>rfl
theorem BF.band{y w:c7}{c i band:Nat}{s:Sn}(hy:Yd y)(hw:SW y w)(hi:i<(w:))(hb:band∈aR)(ho:Bt band (rd w i)=true)(h:BF w c i s):rd s.u s.p=band:=by
 have lb:Lt band:= .inl hb
 have lo:aC band=true:=by rw[kI lb];exact decide_eq_true hb
 have B6:rd w i=band\/rd w i=ay band:=by
  unfold Bt at ho
  simpa using ho
 rw[h.eu,h.ep]
 rcases B6 with e | e
 ·rw[if_pos (by rw[e];exact lo),if_pos (by rw[e];exact lo)]
  exact e
 ·have z: ¬aC (rd w i)=true:=by rw[e,fS _ lb.mem,lo];decide
  rw[if_neg z,if_neg z,iU hw.ne,show -1 - (((w:) - 1 - i:Nat):Int)=i - (w:) by lia,Bf,e,aF lb]
def E1(y:c7)(ws:List c7)(M:Nat)(l:List (Nat×Nat)):Prop:=l.Pairwise λs t=>bT (WE y ws M t) (WE y ws M s)=false
inductive jh(p_:c8)(CW CS:Addr)(vs:List V)(H:Hp)(Q:VK)(dA:XK):Prop
 | mk (y:c7) (lg:Nat) (wt vt:Addr) (ws:List c7) (nE:List Wp) (band:Nat) (_:vs=[.ref wt,.ref vt,.str (S [band])]) (_:Yd y) (_:(y:)<=8) (_:H wt=some (.tup (dD ws))) (_:(ws:)<=4) (_:(∀w∈ws,SW y w/\(w:)<=12)) (_:band∈aR) (_:H vt=some (.lst (Kb nE))) (_:(nE:)=(ws:)) (_:(∀(c:Nat) (w:c7) (p:Wp),ws[c]? =some w->nE[c]? =some p->xE H CW y lg w p)) (_:∀(q:Addr) (ps:List Pr) (H':Hp),H q=none->H' q=some (.tup (vE ps))->(∀p∈ps,pQ H' p)->(ps.map Pr.pair).Perm (dc band ws (ws:))->E1 y ws (2*lg) (ps.map Pr.pair)->az H H'->Q (.ref q) H'):jh p_ CW CS vs H Q dA
def lG(p_:c8)(CW CS:Addr):Sp:=jh p_ CW CS
theorem r6(h:lG K CW CS vs H Q E):(vs:)=3:=by obtain ⟨_,_,_,_,_,_,_,rfl,_⟩:=h;rfl
theorem Qq{t:Sn}(up:EZ y M ss)(h1:∀k s,ss[k]? =some s->k<n->bT (k_ y M s) (k_ y M t)=true)(h2:∀k s,ss[k]? =some s->n<=k->bT (k_ y M s) (k_ y M t)=false):EZ y M (ss.take n++t::ss.drop n):=by
 have tk:∀s∈ss.take n,bT (k_ y M s) (k_ y M t)=true:=λs hs=>by
  obtain ⟨k,hk,e⟩:=Qdq hs
  rw[Qad]at hk
  rw[List.getElem_take]at e
  exact h1 k s (by rw[<-e];exact OD ()) ()
 have dr:∀s∈ss.drop n,bT (k_ y M s) (k_ y M t)=false:=λs hs=>by
  obtain ⟨k,hk,e⟩:=Qdq hs
  rw[Qat]at hk
  rw[List.getElem_drop]at e
  exact h2 (n+k) s (by rw[<-e];exact OD ()) ()
 have YQ:EZ y M (ss.take n++ss.drop n):=by rw[Qag];exact up
 unfold EZ at YQ ⊢
 rw[Qa9]at YQ ⊢
 rw[Qdb]
 obtain ⟨u1,u2,u3⟩:=YQ
 refine ⟨u1,⟨λs hs=>dr s hs,u2⟩,λa ha b hb=>?_⟩
 rcases Qaf.mp hb with e | e
 ·rw[e];exact (oa (tk a ha)).1
 ·exact u3 a ha b e
theorem j5(band:Nat){ws:List c7}(hw:∀w∈ws,(w:)<=12):∀n,n<=(ws:)->(dc band ws n:)<=12*n
 | 0,_=>Qau _
 | n+1,h=>by
  have ih:=j5 band hw n ()
  unfold dc at ih ⊢
  rw[Qco,Qcd,T6,Qeh]
  have h1:(ja band n (ws|||n) ((ws|||n):):)<=12:=by
   unfold ja
   rw[Wh]
   refine Qa7 (Qdd _ _) ?_
   rw[Qd2]
   exact hw _ (getD_in ())
  lia
theorem BG{band:Nat}{x:Nat×Nat}(h:x∈dc band ws (ws:)):∃w,ws[x.1]? =some w/\x.2<(w:)/\Bt band (rd w x.2)=true:=by
 unfold dc at h
 obtain ⟨c,hc,h⟩:=Qbp.mp h
 have tL:=Qbr.mp hc
 unfold ja at h
 obtain ⟨i,hi,e⟩:=Qay.mp h
 obtain ⟨i1,i2⟩:=Qbq.mp hi
 have i1':=Qbr.mp i1
 subst e
 refine ⟨(ws|||c),by rw[Qao,OD tL];rfl,i1',?_⟩
 have:(ws|||c).getD i 0=rd (ws|||c) i:=by
  have:=n5 i1'
  rw[Qao,this];rfl
 show Bt band (rd (ws|||c) i)=true
 rw[<-this]
 exact i2
theorem vO{x dx:Addr}(nx:H x=none)(Qr:H dx=none)(sm:bE x (L2.upd (L2.upd H dx (.own x)) x (.ins C dx [])) H'):az H H':=λa o e=>by
 refine sm a o ?_ (ao e nx)
 rw[au (ao e nx),au (ao e Qr)]
 exact e
noncomputable def L_(ws:List c7):List Int:=ws.map λw=>((w:):Int)
theorem Ma(l:List Int):∀a:Int,a<=l.foldl (λx y=>if y>x then y else x) a/\(∀x∈l,x<=l.foldl (λx y=>if y>x then y else x) a)/\(l.foldl (λx y=>if y>x then y else x) a=a\/l.foldl (λx y=>if y>x then y else x) a∈l):=by
 induction l with
 | nil=>exact λa=>⟨Int.le_refl _,λ_ h=>absurd h Qaj,.inl rfl⟩
 | cons b r ih=>
  intro a
  rw[Qcw]
  obtain ⟨h1,h2,h3⟩:=ih (if b>a then b else a)
  have h4:a<=(if b>a then b else a)/\b<=(if b>a then b else a):=by split<;>lia
  refine ⟨(),λx hx=>?_,?_⟩
  ·rcases Qaf.mp hx with e | e
   ·rw[e];lia
   ·exact h2 x e
  ·rcases h3 with e | e
   ·rw[e]
    split
    ·exact .inr Qac
    ·exact .inl rfl
   ·exact .inr (Qae _ e)
theorem BH(h:∀w∈ws,(w:)<=12):∃lg:Nat,Pl 0 (L_ ws)=lg/\lg<=12/\∀w∈ws,(w:)<=lg:=by
 cases ws with
 | nil=>exact ⟨0,rfl,∅,λ_ h=>absurd h Qaj⟩
 | cons v r=>
  obtain ⟨h1,h2,h3⟩:=Ma (L_ r) ((v:):Int)
  have e:Pl 0 (L_ (v::r))=(L_ r).foldl (λx y=>if y>x then y else x) ((v:):Int):=rfl
  rw[e]
  generalize (L_ r).foldl (λx y=>if y>x then y else x) ((v:):Int)=m at*
  have hm:∃w∈v::r,m=((w:):Int):=by
   rcases h3 with q | q
   ·exact ⟨v,Qac,q⟩
   ·obtain ⟨w,hw,e'⟩:=Qay.mp q
    exact ⟨w,Qae _ hw,e'.symm⟩
  obtain ⟨w,hw,rfl⟩:=hm
  refine ⟨(w:),rfl,h w hw,λu hu=>?_⟩
  rcases Qaf.mp hu with q | q
  ·rw[q];lia
  ·have:=h2 _ (Qay.mpr ⟨u,q,rfl⟩)
   lia
def xF(y:c7)(ws:List c7)(os:List Od):Prop:=∃M,(∀w∈ws,∀v∈ws,(w:)+(v:)<=M)/\rP y ws os/\∀o∈os,E1 y ws M (o.ps.map Pr.pair)
inductive vP(p_:c8)(vs:List V)(H:Hp)(Q:VK)(dA:XK):Prop
 | mk (y:c7) (wt:Addr) (ws:List c7) (_:vs=[.str (S y),.ref wt]) (_:Yd y) (_:(y:)<=8) (_:H wt=some (.tup (dD ws))) (_:(ws:)<=4) (_:(∀w∈ws,SW y w/\(w:)<=12)) (_:∀(dr:Addr) (os:List Od) (H':Hp),Br H' dr ws os->xF y ws os->az H H'->Q (.ref dr) H'):vP p_ vs H Q dA
def Dp(p_:c8):Sp:=vP p_
theorem Jd(h:Dp K vs H Q E):(vs:)=2:=by obtain ⟨_,_,_,rfl,_⟩:=h;rfl
theorem Mb{nE:List Wp}{w:c7}{p:Wp}(hl:(nE:)=i)(h:∀(c:Nat) (w:c7) (p:Wp),ws[c]? =some w->nE[c]? =some p->xE H C y lg w p)(hw:ws[i]? =some w)(hp:xE H C y lg w p):∀(c:Nat) (w:c7) (q:Wp),ws[c]? =some w->(nE++[p])[c]? =some q->xE H C y lg w q:=λc v q hv hq=>by
 by_cases z:c<(nE:)
 ·rw[Qbc z]at hq
  exact h c v q hv hq
 ·rw[Qaw ()]at hq
  have:c=i:=by
   have:=(OC.mp hq).1
   simp at this
   lia
  subst this
  rw[hl,Qdj]at hq
  rw[hw]at hv
  cases hv
  cases hq
  exact hp
theorem zJ(h:Yd y)(hb:b∈fU y):b∈aR:=by
 obtain ⟨h1,h2⟩:=Qbq.mp ((kM y).mem_iff.mp hb)
 rw[kI (h.lt b h1)]at h2
 exact of_decide_eq_true h2
theorem Je(h:dH y ws L r M)(hc:c<(ws:))(hd:d<(ws:))(hi:i<((ws|||c):))(hj:j<((ws|||d):))(eG:(c,i)≠(d,j))(hx:aC x=true)(e1:rd (ws|||c) i=x\/rd (ws|||c) i=ay x)(e2:rd (ws|||d) j=x\/rd (ws|||d) j=ay x):
  bT (eJ y ws L r M c i) (eJ y ws L r M d j)=true\/bT (eJ y ws L r M d j) (eJ y ws L r M c i)=true:=by
 have hw:=h.sw c hc
 have hv:=h.sw d hd
 have hy:=h.yd
 have lw:=Qab.mpr hw.ne
 have lv:=Qab.mpr hv.ne
 have xs:∀{w:c7} {k:Nat},SW y w->(rd w k=x\/rd w k=ay x)->Lt x:=λ{w k} hw e=>by
  have h9:97<=x/\x<=122:=by unfold aC at hx;simpa using hx
  refine .inl ?_
  have:∀k,k<26->k+97∈aR:=by decide
  have h8:=this (x - 97) ()
  rwa [show x - 97+97=x by lia]at h8
 have lx:=xs hw e1
 have Bi:∀{w:c7} {k:Nat},SW y w->Dl w k (nB w k)/\((rd w k=x\/rd w k=ay x)->nB w k 0=x)/\(nB w k=if aC (rd w k)=true then sq w k else bq w k):=λ{w k} hw=>by
  refine ⟨?_,λe=>?_,rfl⟩
  ·unfold nB
   by_cases z:aC (rd w k)=true
   ·rw[if_pos z];exact .inl rfl
   ·rw[if_neg z];exact .inr rfl
  ·unfold nB
   rcases e with e | e
   ·rw[if_pos (by rw[e];exact hx)]
    unfold sq
    rw[Qek];exact e
   ·have z: ¬aC (rd w k)=true:=by rw[e,fS _ lx.mem,hx];decide
    rw[if_neg z]
    unfold bq
    rw[Qe0,e,aF lx]
 obtain ⟨df,f0,fe⟩:=Bi (k:=i) hw
 obtain ⟨dg',g0,ge⟩:=Bi (k:=j) hv
 have lf:=df.Bi hy hw
 have lg:=dg'.Bi hy hv
 by_cases par:∀k,nB (ws|||c) i k=nB (ws|||d) j k
 ·unfold eJ
  rw[show nB (ws|||c) i=nB (ws|||d) j from funext par,fE,fE]
  by_cases cd:c=d
  ·subst cd
   have ij:i≠j:=λz=>eG (by rw[z])
   obtain ⟨h1,h2⟩:=h.root hc
   have hr:=h.rp c hc
   -- one and Oc same way
   have low:aC (rd (ws|||c) i)=aC (rd (ws|||c) j):=by
    by_cases z1:aC (rd (ws|||c) i)=true<;>by_cases z2:aC (rd (ws|||c) j)=true
    ·rw[z1,z2]
    ·exfalso
     rw[fe,ge,if_pos z1,if_neg z2]at par
     exact xk hy hw _ _ par
    ·exfalso
     rw[fe,ge,if_neg z1,if_pos z2]at par
     exact xk hy hw _ _ λk=>(par k).symm
    ·rw[show aC (rd (ws|||c) i)=false by simpa using z1,show aC (rd (ws|||c) j)=false by simpa using z2]
   have ps:bS (ws|||c) (ws|||c) i j:=by
    by_cases z1:aC (rd (ws|||c) i)=true
    ·have z2:aC (rd (ws|||c) j)=true:=by rw[<-low];exact z1
     rw[fe,ge,if_pos z1,if_pos z2]at par
     exact par
    ·have z2: ¬aC (rd (ws|||c) j)=true:=by rw[<-low];exact z1
     rw[fe,ge,if_neg z1,if_neg z2]at par
     have e:=congrArg kZ (funext par)
     rw[<-eI, <-eI,o5 hy (aX hw _),o5 hy (aX hw _)]at e
     exact λk=>congrFun e k
   have q:=(h.rr c hc _ _).mp ps
   have LN:i%r c=j%r c:=by
    have q2:=Int.emod_eq_emod_iff_emod_sub_eq_zero.mpr q
    have q3:((i%r c:Nat):Int)=((j%r c:Nat):Int):=q2
    lia
   have k1:= @Bm ((ws|||c):) _ (r c) c i j (L c) (aC (rd (ws|||c) j)) hr h1 hi hj LN ij
   have k2:= @Bm ((ws|||c):) _ (r c) c j i (L c) (aC (rd (ws|||c) j)) hr h1 hj hi LN.symm (Ne.symm ij)
   rw[low]
   by_cases z:aC (rd (ws|||c) j)=true
   ·rw[if_pos z]at k1 k2
    rw[k1,k2,decide_eq_true_iff,decide_eq_true_iff]
    lia
   ·rw[if_neg z]at k1 k2
    rw[k1,k2,decide_eq_true_iff,decide_eq_true_iff]
    lia
  ·have hl:L d=if aC (rd (ws|||d) j)=aC (rd (ws|||c) i) then L c else !L c:=by
    by_cases z1:aC (rd (ws|||c) i)=true<;>by_cases z2:aC (rd (ws|||d) j)=true
    ·rw[z1,z2,if_pos rfl]
     rw[fe,ge,if_pos z1,if_pos z2]at par
     exact (h.l1 c d i j hc hd par).symm
    ·rw[if_neg (λq=>z2 (q.trans z1))]
     rw[fe,ge,if_pos z1,if_neg z2]at par
     exact h.l2 c d i j hc hd par
    ·rw[if_neg (λq=>z1 (q.symm.trans z2))]
     rw[fe,ge,if_neg z1,if_pos z2]at par
     have:=h.l2 d c j i hd hc λk=>(par k).symm
     rw[this,Bool.not_not]
    ·rw[show aC (rd (ws|||c) i)=false by simpa using z1,show aC (rd (ws|||d) j)=false by simpa using z2,if_pos rfl]
     rw[fe,ge,if_neg z1,if_neg z2]at par
     have e:=congrArg kZ (funext par)
     rw[<-eI, <-eI,o5 hy (aX hw _),o5 hy (aX hv _)]at e
     exact (h.l1 c d i j hc hd λk=>congrFun e k).symm
   have AN:= @xo ((ws|||c):) ((ws|||d):) (r c) (r d) c d i j (L c) (aC (rd (ws|||c) i)) (aC (rd (ws|||d) j)) cd
   have Ac:L c=if aC (rd (ws|||c) i)=aC (rd (ws|||d) j) then L d else !L d:=by
    rw[hl]
    cases aC (rd (ws|||d) j)<;>cases aC (rd (ws|||c) i)<;>cases L c<;>rfl
   have L3:= @xo ((ws|||d):) ((ws|||c):) (r d) (r c) d c j i (L d) (aC (rd (ws|||d) j)) (aC (rd (ws|||c) i)) (Ne.symm cd)
   rw[<-hl]at AN
   rw[<-Ac]at L3
   rw[AN,L3,hl]
   cases aC (rd (ws|||d) j)<;>cases aC (rd (ws|||c) i)<;>cases L c<;>simp<;>lia
 ·have xp:∃k,nB (ws|||c) i k≠nB (ws|||d) j k:=Classical.byContradiction λz=>par λk=>Classical.byContradiction λw=>z ⟨k,w⟩
  have Vk:∀{w:c7} {k:Nat} (z:Int),nB w k (z+(w:))=nB w k z:=λ{w k} z=>by
   unfold nB
   split
   ·exact cL w k z
   ·exact n_ w k z
  obtain ⟨a,b,rn,ha,hb⟩:=dG lw lv Vk Vk ((f0 e1).trans (g0 e2).symm) xp
  have big:=h.big c d hc hd
  unfold eJ
  rw[og hy lf lg rn _ _ M 0 (Qau _) (Qau _) () (),og hy lg lf rn.sy _ _ M 0 (Qau _) (Qau _) () (),HY hy lf lg (rn.oe a () ()) rn.hi,Bo hy lf lg (rn.oe _ () ()) rn.lo]
  by_cases z:a<=b
  ·rw[if_pos z,if_pos z]
   cases gJ y (nB (ws|||c) i) (nB (ws|||d) j) a
   ·exact .inr rfl
   ·exact .inl rfl
  ·rw[if_neg z,if_neg z]
   cases gS y (nB (ws|||c) i) (nB (ws|||d) j) b
   ·exact .inr rfl
   ·exact .inl rfl
theorem Mc(hy:Yd y)(hw:∀w∈ws,SW y w)(hM:∀w∈ws,∀v∈ws,(w:)+(v:)<=M)(ok:rP y ws os)(up:∀o∈os,E1 y ws M (o.ps.map Pr.pair)):dH y ws (FA ws) (FC ws) M/\Bz y ws (FA ws) (FC ws) M os:=by
 have hs:∀c,c<(ws:)->SW y (ws|||c):=λc hc=>hw _ (getD_in hc)
 have hC:dH y ws (FA ws) (FC ws) M:=Ie hy hs (λc hc=>j4 (hs c hc).ne) λc d hc hd=>hM _ (getD_in hc) _ (getD_in hd)
 refine ⟨hC,ok,λo ho=>?_⟩
 obtain ⟨j,hj,ej⟩:=Qdq ho
 have hj':j<(fU y:):=by rw[<-ok.1];exact hj
 have pm:=ok.2 j o (fU y)[j] (by rw[OD hj,ej]) (OD hj')
 have bs:=zJ hy (Qb3 hj')
 have lb:Lt (fU y)[j]:= .inl bs
 have lo:aC (fU y)[j]=true:=by rw[kI lb];exact decide_eq_true bs
 have nd:(o.ps.map Pr.pair).Nodup:=pm.nodup_iff.mpr (vH _ _ _)
 have u:=up o ho
 unfold E1 at u
 refine Qdp (λ{s t} h1 h2 h=>?_) (List.Pairwise.and u nd)
 obtain ⟨w1,e1,i1,o1⟩:=BG (pm.mem_iff.mp h1)
 obtain ⟨w2,e2,i2,o2⟩:=BG (pm.mem_iff.mp h2)
 have c1:=(OC.mp e1).1
 have c2:=(OC.mp e2).1
 have g1:ws.getD s.1 []=w1:=by rw[Qao,e1];rfl
 have g2:ws.getD t.1 []=w2:=by rw[Qao,e2];rfl
 have on:∀{l:Nat},Bt (fU y)[j] l=true->l=(fU y)[j]\/l=ay (fU y)[j]:=λ{l} q=>by unfold Bt at q;simpa using q
 have tr:=Je hC (c:=s.1) (i:=s.2) (d:=t.1) (j:=t.2) c1 c2 (by rw[g1];exact i1) (by rw[g2];exact i2) h.2 lo (by rw[g1];exact on o1) (by rw[g2];exact on o2)
 rcases tr with q | q
 ·exact q
 ·have hf:bT (eJ y ws (FA ws) (FC ws) M t.1 t.2) (eJ y ws (FA ws) (FC ws) M s.1 s.2)=false:=h.1
  rw[hf]at q
  cases q
theorem Qs(hy:Yd y)(hw:∀w∈ws,SW y w)(h:xF y ws os):∃M,dH y ws (FA ws) (FC ws) M/\Bz y ws (FA ws) (FC ws) M os:=by
 obtain ⟨M,hM,ok,up⟩:=h
 exact ⟨M,Mc hy hw hM ok up⟩
theorem Jf{α β:Type}(p:β->β->Bool)(f:α->β):∀l:List α,cl p (l.map f)=cl (λa b=>p (f a) (f b)) l
 | []=>rfl
 | a::l=>by
  show ((l.map f).filter (p (f a)):)+cl p (l.map f)=((l.filter λb=>p (f a) (f b)):)+cl _ l
  rw[Jf p f l,List.filter_map,Wh]
  rfl
theorem zK{α:Type}{p q:α->α->Bool}:∀{l:List α},l.Pairwise (λa b=>p a b=q a b)->cl p l=cl q l
 | [],_=>rfl
 | a::l,h=>by
  rw[Qdb]at h
  show (l.filter (p a):)+cl p l=(l.filter (q a):)+cl q l
  rw[zK h.2,Qgm λb hb=>h.1 b hb]
theorem Jg(h1:a<b)(h2:a'<b')(h4:a<a')(h5:b≠a')(h6:b≠b'):(nC (a,b) (a',b')||nC (a',b') (a,b))=pN a b a' b':=by
 have g4:=Qd6 h4 h2
 rw[HS (Qa1 h1) (Qa1 h4) (Qa1 g4) h5 h6]
 unfold nC
 rw[decide_eq_true h4,decide_eq_true g4,decide_eq_false (Qez h4),kL (Ne.symm h6)]
 have k:decide (b'<b)=true->decide (a'<b)=true:=λq=>decide_eq_true (Qd6 h2 (of_decide_eq_true q))
 revert k
 generalize decide (a'<b)=p
 generalize decide (b'<b)=q
 revert p q
 decide
theorem xG(h1:a<b)(h2:a'<b')(h3:a≠a')(h4:a≠b')(h5:b≠a')(h6:b≠b'):(nC (a,b) (a',b')||nC (a',b') (a,b))=pN a b a' b':=by
 rcases Qdw h3 with q | q
 ·exact Jg h1 h2 q h5 h6
 ·rw[Bool.or_comm,Jg h2 h1 q (Ne.symm h4) (Ne.symm h6),mX (Qa1 h2) (Qa1 h1) (Ne.symm h3) (Ne.symm h5) (Ne.symm h4) (Ne.symm h6)]
theorem Md(h1:a≠b)(h2:a'≠b')(h3:a≠a')(h4:a≠b')(h5:b≠a')(h6:b≠b'):(nC (min a b,max a b) (min a' b',max a' b')||nC (min a' b',max a' b') (min a b,max a b))=pN a b a' b':=by
 rcases Qdw h1 with q | q<;>rcases Qdw h2 with r | r
 ·rw[Qbs (Qbu q),Qd5 (Qbu q),Qbs (Qbu r),Qd5 (Qbu r)]
  exact xG q r h3 h4 h5 h6
 ·rw[Qbs (Qbu q),Qd5 (Qbu q),Qcr (Qbu r),Qdy (Qbu r),jM]
  exact xG q r h4 h3 h6 h5
 ·rw[Qcr (Qbu q),Qdy (Qbu q),Qbs (Qbu r),Qd5 (Qbu r), <-zt h1 h2 h3 h4 h5 h6]
  exact xG q r h5 h6 h3 h4
 ·rw[Qcr (Qbu q),Qdy (Qbu q),Qcr (Qbu r),Qdy (Qbu r), <-zt h1 h2 h3 h4 h5 h6,jM]
  exact xG q r h6 h5 h4 h3
section
variable{y:c7}{ws:List c7}{L:Nat->Bool}{r:Nat->Nat}{M:Nat}
noncomputable def pV(ps:List (Nat×Nat×Nat))(c i e:Nat):Nat:=ps.idxOf (c,i,e)
theorem Me(h:i<n):jQ n ((i:Int) - 1)=Ai n i/\jQ n (i:Int)=i:=by
 have h1:=eK (n:=n) () ((i:Int) - 1)
 have h2:=eK (n:=n) () (i:Int)
 rw[C7 h]at h1
 rw[Qbg () ()]at h2
 lia
theorem ni(hi:i<((ws|||c):)):(lE ps c (ws|||c) i).2.2.1=pI ws (pV ps) c ((i:Int) - 1)/\(lE ps c (ws|||c) i).2.2.2=pO ws (pV ps) c i:=by
 obtain ⟨e1,e2⟩:=Me hi
 have g:∀k,k<((ws|||c):)->(ws|||c).getD k 0=rd (ws|||c) k:=λk hk=>by
  rw[Qao,n5 hk];rfl
 have eG:(ws|||c)≠[]:=λz=>by rw[z]at hi;exact absurd hi (Qdx _)
 unfold lE pI pO pV
 rw[e1,e2,g _ (Bx hi),g _ hi]
 refine ⟨?_,rfl⟩
 have:rd (ws|||c) (Ai ((ws|||c):) i:Nat)=rd (ws|||c) ((i:Int) - 1):=by rw[<-e1,cf eG]
 rw[this]
theorem oG(ps:List (Nat×Nat×Nat))(ws:List c7):∀n,gL ps ws n=(zp ws n).map λx=>lE ps x.1 (ws.getD x.1 []) x.2
 | 0=>rfl
 | n+1=>by
  have ih:=oG ps ws n
  unfold gL at ih ⊢
  unfold zp
  rw[Qco,Qcd,ih,Qaq,Qeh,Qbh]
  rfl
theorem Jh(ws:List c7)(n:Nat):(zp ws n).Nodup:=(CM n).imp λ{a b} h z=>by
 rw[z]at h
 unfold JY at h
 simp at h
theorem Ji(h:dH y ws L r M)(hN:gm y ws R (pV ps))(l:List (Nat×Nat))(hl:l.Nodup)(x_:∀x∈l,x.1<(ws:)/\x.2<(ws.getD x.1 []:)):(eM (l.map λx=>lE ps x.1 (ws.getD x.1 []) x.2)).Nodup:=by
 unfold eM
 induction l with
 | nil=>exact List.Pairwise.nil
 | cons x t ih=>
  rw[Qb5]at hl
  rw[Qa3,Qbw,Qcn]
  obtain ⟨x1,x2⟩:=x_ x Qac
  have ex:=ni (ps:=ps) (ws:=ws) (c:=x.1) x2
  refine ⟨?_,ih hl.2 λz hz=>x_ z (Qae _ hz),λa ha b hb e=>?_⟩
  ·rw[ex.1,ex.2,Qb5]
   exact ⟨by simpa using (eL h hN x1 x1 x2 x2).1,by simp⟩
  ·obtain ⟨c4,YR,G_⟩:=Qbp.mp hb
   obtain ⟨z,hz,rfl⟩:=Qay.mp YR
   obtain ⟨z1,z2⟩:=x_ z (Qae _ hz)
   have ez:=ni (ps:=ps) (ws:=ws) (c:=z.1) z2
   have eG:(x.1,x.2)≠(z.1,z.2):=λq=>hl.1 (by
    have:x=z:=Prod.ext (Prod.mk.inj q).1 (Prod.mk.inj q).2
    rw[this];exact hz)
   have n1:=eL h hN x1 z1 x2 z2
   have n2:=eL h hN z1 x1 z2 x2
   rw[ex.1,ex.2]at ha
   rw[ez.1,ez.2]at G_
   have ha':a=pI ws (pV ps) x.1 ((x.2:Int) - 1)\/a=pO ws (pV ps) x.1 x.2:=by simpa using ha
   have AU:b=pI ws (pV ps) z.1 ((z.2:Int) - 1)\/b=pO ws (pV ps) z.1 z.2:=by simpa using G_
   rw[e]at ha'
   rcases ha' with p | p<;>rcases AU with q | q<;>rw[p]at q
   ·exact (n1.2 eG).1 q
   ·exact n1.1 q
   ·exact n2.1 q.symm
   ·exact (n1.2 eG).2 q
theorem Jj(h:dH y ws L r M)(hN:gm y ws R (pV ps))(l:List (Nat×Nat))(hl:l.Nodup)(x_:∀x∈l,x.1<(ws:)/\x.2<(ws.getD x.1 []:)):cl (λx z=>nC x z||nC z x) (rT (l.map λx=>lE ps x.1 (ws.getD x.1 []) x.2))=cl (RU ws (pV ps)) l:=by
 unfold rT
 rw[Qbh,Jf]
 refine zK (Qdp (λ{a b} ha hb Ag=>?_) hl)
 obtain ⟨a1,a2⟩:=x_ a ha
 obtain ⟨b1,b2⟩:=x_ b hb
 have ea:=ni (ps:=ps) (ws:=ws) (c:=a.1) a2
 have eb:=ni (ps:=ps) (ws:=ws) (c:=b.1) b2
 have eG:(a.1,a.2)≠(b.1,b.2):=Ag
 have n1:=eL h hN a1 b1 a2 b2
 have n2:=eL h hN b1 a1 b2 a2
 have n3:=eL h hN a1 a1 a2 a2
 have n4:=eL h hN b1 b1 b2 b2
 show (nC (min _ _,max _ _) (min _ _,max _ _)||nC (min _ _,max _ _) (min _ _,max _ _))=RU ws (pV ps) a b
 rw[ea.1,ea.2,eb.1,eb.2,Md n3.1 n4.1 (n1.2 eG).1 n1.1 (Ne.symm n2.1) (n1.2 eG).2]
 rfl
end
noncomputable def kr(w:c7):Int:=(((w:) / NG w:Nat):Int)
theorem r9{w:c7}(hw:w≠[])(hv:v≠[])(e:∀d:Int,bS w w d 0↔bS v v d 0):NG w=NG v:=EN hw hv (j4 hw) (j4 hv) e
theorem zL{w:c7}(hn:n<=(w:)):(bR w n:)=(w:):=by
 unfold bR
 rw[T6,Qat,Qad,Qbs hn,Nat.sub_add_cancel hn]
theorem Qt{w:c7}(h:w≠[])(e:(v:)=(w:)):v≠[]:=λz=>h (Qb7.mp (by rw[<-e,z];rfl))
theorem Qu{w:c7}(hw:w≠[])(hn:n<=(w:)):kr (bR w n)=kr w:=by
 unfold kr
 rw[zL hn,r9 (Qt hw (zL hn)) hw (LS hw hn)]
theorem Qv{w:c7}(hy:Yd y)(hw:SW y w):kr (bC w)=kr w:=by
 unfold kr
 rw[bA,r9 (om hw.ne) hw.ne (LV hy hw)]
theorem Qw{z w:c7}(T:Ah y z σ neg)(hw:SW y w):kr (w.map σ)=kr w:=by
 unfold kr
 rw[Wh,r9 (T.sw hw).ne hw.ne (LU T hw)]
noncomputable def eS(y w:c7):Int:=SS y w w+2*(kr w - 1)
noncomputable def Jk(y:c7)(ws:List c7):Int:=sm (ws:) (λc=>eS y (ws.getD c.toNat []))+2*yi (ws:) (λc d=>SS y (ws.getD c.toNat []) (ws.getD d.toNat []))
theorem Qx(h:Int->Int)(n:Nat):2*sm n h=sm n λi=>2*h i:=by
 rw[show (λi=>2*h i)=λi=>h i+h i from funext λi=>Int.two_mul _,rM,Int.two_mul]
theorem Qy{N:Nat->Nat->Nat->Nat}(h:dH y ws (FA ws) (FC ws) M)(hN:Lies y ws (FA ws) (FC ws) M N):2*(cl (RU ws N) (places ws):Int)=Jk y ws:=by
 unfold places Jk
 rw[Ia,Int.mul_add,Qx]
 congr 1
 ·refine aJ λc hc=>?_
  rw[Qan]
  have a:=HX h hN hc
  rw[Ny h.yd (h.sw c hc) (h.sw c hc)]at a
  rw[show yi ((ws|||c):) (λi j=>one (RU ws N (c,i.toNat) (c,j.toNat)=true))=yi ((ws|||c):) (λi j=>one (iJ (pO ws N c) (pI ws N c) (pO ws N c) (pI ws N c) i j=true)) from oh λi j _ _=>by
   unfold RU
   rw[Qan,Qan],a]
  rfl
 ·congr 1
  refine oh λc d kT hd=>?_
  rw[Qan,Qan, <-Ny h.yd (h.sw c (Qd6 kT hd)) (h.sw d hd), <-EK h hN (c:=c) (d:=d) (Qd6 kT hd) hd (Qa1 kT)]
  exact bu λi j _ _=>by
   unfold RU
   rw[Qan,Qan]
theorem E2(hy:Yd y)(hw:∀w∈ws,SW y w)(h:xF y ws os):(eM (vI y ws os)).Nodup/\2*(cl (λx z=>nC x z||nC z x) (rT (vI y ws os)):Int)=Jk y ws:=by
 obtain ⟨M,hC,hT⟩:=Qs hy hw h
 have hN:Lies y ws (FA ws) (FC ws) M (pV (ml y os)):=lies_of hy hC.sw hT
 have x_:∀x∈places ws,x.1<(ws:)/\x.2<(ws.getD x.1 []:):=λx hx=>xb.mp hx
 unfold vI
 rw[oG]
 refine ⟨Ji hC hN _ (Jh ws _) x_,?_⟩
 rw[Jj hC hN _ (Jh ws _) x_]
 exact Qy hC hN
theorem Jl(y w:c7):Jk y [w]=eS y w:=by
 show (0+eS y w)+2*(0+0)=_
 lia
theorem Vh.ok(h:Vh y ws):Vn y ws:=⟨h.tH,λw hw=>⟨(h.sw w hw).1.bO,(h.sw w hw).2⟩⟩
theorem E3(h:Vh y ws):(vI y ws os:)<=24:=by
 unfold vI
 rw[oG,Wh]
 exact h.all
theorem Mf{w:c7}(h:SW y w)(hz:(w:)<=12):Vh y [w]:=⟨λv hv=>by rw[Wi.mp hv];exact ⟨h,hz⟩,by show 1<=4;decide,by
 have:=CP (ws:=[w]) (m:=12) (λv hv=>by rw[Wi.mp hv];exact hz) 1 (Qaa _)
 unfold places
 show (zp [w] 1:)<=24
 lia⟩
inductive r_(p_:c8)(vs:List V)(H:Hp)(Q:VK)(dA:XK):Prop
 | mk (y:c7) (wt:Addr) (ws:List c7) (_:vs=[.str (S y),.ref wt]) (_:Yd y) (_:(y:)<=8) (_:Vh y ws) (_:H wt=some (.tup (dD ws))) (_:∀(n:Nat) H',az H H'->2*(n:Int)=Jk y ws->Q (.int n) H'):r_ p_ vs H Q dA
def zM(p_:c8):Sp:=r_ p_
theorem E4(h:zM K vs H Q E):(vs:)=2:=by obtain ⟨_,_,_,rfl,_⟩:=h;rfl
inductive zN(p_:c8)(vs:List V)(H:Hp)(Q:VK)(dA:XK):Prop
 | mk (y w:c7) (_:vs=[.str (S y),.str (S w)]) (_:Yd y) (_:(y:)<=8) (_:SW y w) (_:(w:)<=12) (_:∀(n:Nat) H',az H H'->2*(n:Int)=eS y w->Q (.int n) H'):zN p_ vs H Q dA
def Jm(p_:c8):Sp:=zN p_
theorem len_own(h:Jm K vs H Q E):(vs:)=2:=by obtain ⟨_,_,rfl,_⟩:=h;rfl
theorem one_le(p:Prop):0<=one p/\one p<=1:=by
 by_cases z:p
 ·rw[eT z];decide
 ·rw[ba z];decide
theorem Jn{h:Int->Int}{b:Nat}(k:∀i:Int,0<=h i/\h i<=b):∀n:Nat,0<=sm n h/\sm n h<=(n*b:Nat)
 | 0=>by rw[Qgi];exact ⟨Int.le_refl _,Int.le_refl _⟩
 | n+1=>by
  have a:=Jn k n
  have c:=k n
  rw[Qey]
  show 0<=sm n h+h n/\sm n h+h n<=_
  lia
theorem NH(y w v:c7):0<=SS y w v/\SS y w v<=((w:)*((v:)*3):Nat):=Jn (λi=>Jn (b:=3) (λj=>by
 unfold bs
 have a:=one_le (ac y (ay (rd w (i - 1))) (rd w i) (ay (rd v (j - 1))) (rd v j)=true)
 have b:=one_le (gT y (sq w i) (sq v j))
 have c:=one_le (gT y (sq w i) (bq v j))
 lia) (v:)) (w:)
noncomputable def zO(y c:c7):Bool:=decide (eS y c=0)
theorem Qz{w:c7}(hw:w≠[]):0<=eS y w/\SS y w w<=eS y w:=by
 have k:1<=kr w:=by
  unfold kr
  have r:=j4 hw
  rcases r with g | ⟨h1,h2,_⟩
  ·exact absurd g.1 hw
  ·have:=Nat.div_pos h2 h1
   omega
 have s:=(NH y w w).1
 unfold eS
 omega
structure Sh0(y w c:c7):Prop where
 lt:∀l∈w,Lt l
 tH:(w:)<=100
 is:core (red w)=c
 sw:c=[]\/SW y c
 len:(c:)<=12
noncomputable def RX(y c:c7):Bool:=!decide (c=[])&&zO y c
inductive nj(p_:c8)(vs:List V)(H:Hp)(Q:VK)(dA:XK):Prop
 | mk (y w c:c7) (_:vs=[.str (S y),.str (S w)]) (_:Yd y) (_:(y:)<=8) (_:Sh0 y w c) (_:∀H',az H H'->(SW y c->∃k:Nat,2*(k:Int)=eS y c)->Q (.bl (RX y c)) H'):nj p_ vs H Q dA
def se(p_:c8):Sp:=nj p_
theorem zP(h:se K vs H Q E):(vs:)=2:=by obtain ⟨_,_,_,rfl,_⟩:=h;rfl
theorem zQ:∀(l st:c7) {x:Nat},x∈l.foldl bP st->x∈st\/x∈l
 | [],_,_,h=> .inl h
 | a::l,st,x,h=>by
  rcases zQ l (bP st a) h with g | g
  ·rcases vh g with g | g
   ·exact .inl g
   ·exact .inr (by rw[g];exact Qac)
  ·exact .inr (Qae _ g)
theorem Mi{w:c7}(h:x∈red w):x∈w:=(zQ w [] h).resolve_left Qaj
theorem Dq:∀{l:c7},iO l->∀k a b,l[k]? =some a->l[k+1]? =some b->a≠ay b
 | [],_,k,a,b,h1,_=>by simp at h1
 | [x],_,k,a,b,_,h2=>by simp at h2
 | x::z::r,h,0,a,b,h1,h2=>by
  cases Qal h1
  cases Qal h2
  exact h.1
 | x::z::r,h,k+1,a,b,h1,h2=>Dq (l:=z::r) h.2 k a b h1 h2
theorem Mj{r:c7}(hy:Yd y)(hr:iO r)(hl:∀c∈r,c∈y):core r=[]\/SW y (core r):=by
 by_cases z:core r=[]
 ·exact .inl z
 refine .inr (SW.of z (λc hc=>hl c (mN hc)) (λk a b h1 h2 e=>?_) λa b h1 h2 e=>?_)
 ·have ia:=hy.lt a (hl a (mN (Qas h1)))
  exact Dq (zg hr) k a b h1 h2 (by rw[e,aF ia])
 ·have cc:=vm r
  have lb:Lt b:=hy.lt b (hl b (mN (List.mem_of_getLast? h2)))
  by_cases q:(core r:)<2
  ·have ha:a=b:=by
    clear cc
    generalize core r=g at h1 h2 q
    rcases g with _ | ⟨x,_ | ⟨x2,t⟩⟩
    ·simp at h1
    ·simp at h1 h2;rw[<-h1, <-h2]
    ·simp at q;omega
   rw[ha]at e
   exact absurd e.symm (iN lb)
  ·obtain ⟨a',m,b',em⟩:=zf (l:=core r) (by omega)
   rw[em]at h1 h2 cc
   have e1:a'=a:=by simpa using h1
   have e2:b'=b:=by
    have:(a'::(m++[b'])).getLast? =some b':=by rw[<-Qda,List.getLast?_append];simp
    rw[this]at h2
    exact Qal h2
   rw[mM (by rw[e1,e2];exact e)]at cc
   have:=mO m
   rw[cc]at this
   simp at this
   omega
theorem QA{w:c7}(hy:Yd y)(h:SW y w)(hz:(w:)<=12):Sh0 y w w:=⟨λl hl=>hy.lt l (h.bO l hl),by omega,h.core hy,.inr h,hz⟩
theorem az.up2{t:Addr}(s:az H H')(n:H t=none):az H (L2.upd H' t o):=λa u e=>by rw[au (ao e n)];exact s a u e
theorem E5(l:c7)(h:(core l:)=(l:)):core l=l:=
 (gj (P:=λl r=>(r:)<=(l:)/\((r:)=(l:)->r=l)) (λ_ _=>⟨Qaa _,λ_=>rfl⟩) (λ_ _ _ _=>⟨Qaa _,λ_=>rfl⟩) (λa m y r _ k=>⟨by have:=k.1;simp;omega,λe=>absurd e (by have:=k.1;simp;omega)⟩) (l:) l (Qaa _)).2 h
theorem vQ:∀(l st:c7),(l.foldl bP st:)=(st:)+(l:)->l.foldl bP st=st++l
 | [],st,_=>by simp
 | c::l,st,h=>by
  have h1:=rB l (bP st c)
  rw[Qcw]at h ⊢
  rw[Qba]at h
  have e:bP st c=st++[c]:=by
   unfold bP at h1 ⊢
   by_cases z:st.getLast? =some (ay c)
   ·rw[if_pos z]at h1
    unfold bP at h
    rw[if_pos z]at h
    rw[Qf7]at h1
    omega
   ·rw[if_neg z]
  rw[e]at h ⊢
  rw[vQ l (st++[c]) (by rw[h,T6];simp;omega),RI]
  rfl
theorem vR{w:c7}(hy:Yd y)(ne:w≠[])(hw:∀c∈w,c∈y)(h:(aP w:)=(w:)):SW y w:=by
 obtain ⟨k,e⟩:=kF (core (red w))
 unfold aP at h
 rw[e,bK]at h
 have h1:=mO (red w)
 have h2:=kE w
 have e1:core (red w)=red w:=E5 _ (by omega)
 have e2:red w=w:=by
  have:=vQ w [] (by show (red w:)=_;simp;omega)
  rw[Qdg]at this
  exact this
 rcases Mj hy (w6 w) (λc hc=>hw c (Mi hc)) with g | g
 ·rw[e1,e2]at g;exact absurd g ne
 ·rw[e1,e2]at g;exact g
theorem si{w:c7}(hy:Yd y)(ne:w≠[])(hw:∀c∈w,c∈y)(h:a_ (aP w) (aP (bC w))=w):SW y w:=by
 have lw:∀c∈w,Lt c:=λc hc=>hy.lt c (hw c hc)
 unfold a_ at h
 split at h
 ·have:=(SW.bC hy (vR hy (w:=bC w) (λz=>ne (Qb7.mp (by rw[<-bA w,z];rfl))) (λc hc=>by
   obtain ⟨d,hd,e⟩:=Qay.mp (Qcf.mp hc)
   rw[<-e];exact hy.cl d (hw d hd)) (by rw[h,bA])))
  rwa [qg lw]at this
 ·exact vR hy ne hw (by rw[h])
theorem xH{x:V}(h:(dD ws)[i]? =some x):∃w,ws[i]? =some w/\x= .str (S w):=by
 unfold dD at h
 rw[Qar]at h
 cases e:ws[i]? with
 | none=>rw[e]at h;cases h
 | some p=>rw[e]at h;cases h;exact ⟨p,rfl,rfl⟩
theorem Dr(a b:List c7):dD a++dD b=dD (a++b):=by unfold dD;rw[Qaq]
noncomputable def xI(w:c7):Bool:=decide (a_ (aP w) (aP (bC w))=w)
structure YS(y:c7)(i:Nat)(ns:List c7):Prop where
 mem:∀w,w∈ns↔(∀c∈w,c∈y)/\(w:)=i/\xI w=true/\zO y w=true
 nd:ns.Nodup
 asc:ns.Pairwise λa b=> ¬b<a
def BI(y:c7):Nat->List c7->Prop
 | 0,ls=>ls=[]
 | n+1,ls=>∃a b,ls=a++b/\BI y n a/\YS y (n+1) b
theorem BI.len:∀{n:Nat} {a:List c7},BI y n a->∀w∈a,(∀c∈w,c∈y)/\(w:)<=n
 | 0,_,h,w,hw=>by rw[show _=_ from h]at hw;exact absurd hw Qaj
 | n+1,_,⟨a,b,e,h1,h2⟩,w,hw=>by
  rw[e]at hw
  rcases Qap.mp hw with g | g
  ·have:=h1.len w g
   exact ⟨this.1,by omega⟩
  ·have:=(h2.mem w).mp g
   exact ⟨this.1,by omega⟩
def BJ(f:c7->Nat->Bool)(w:c7):Prop:=∀k c,w[k]? =some c->f (w.take k) c=true
theorem Ml(f:c7->Nat->Bool):BJ f []:=λk c h=>by simp at h
theorem zR{f:c7->Nat->Bool}:BJ f (l++[c])↔BJ f l/\f l c=true:=by
 constructor
 ·intro h
  refine ⟨λk d hk=>?_,?_⟩
  ·have hl:=(OC.mp hk).1
   have:=h k d (by rw[Qbc hl];exact hk)
   rwa [Qbf (by omega)]at this
  ·have:=h (l:) c (by rw[Qaw (Qaa _),Qdj];rfl)
   rwa [Qbf (Qaa _),Qbv]at this
 ·rintro ⟨h,g⟩ k d hk
  by_cases z:k<(l:)
  ·rw[Qbc z]at hk
   rw[Qbf (by omega)]
   exact h k d hk
  ·have hl:=(OC.mp hk).1
   rw[T6]at hl
   have e:k=(l:):=by simp at hl;omega
   subst e
   rw[Qaw (Qaa _),Qdj]at hk
   rw[Qbf (Qaa _),Qbv, <-Qal hk]
   exact g
structure E6(f:c7->Nat->Bool)(y:c7)(i:Nat)(ws:List c7):Prop where
 mem:∀w,w∈ws↔(∀c∈w,c∈y)/\(w:)=i/\BJ f w
 nd:ws.Nodup
theorem YT(f:c7->Nat->Bool)(y:c7):E6 f y 0 [[]]:=⟨λw=>by
 rw[Wi]
 constructor
 ·rintro rfl;exact ⟨λ_ h=>absurd h Qaj,rfl,Ml f⟩
 ·rintro ⟨_,h,_⟩;exact Qb7.mp h,by simp⟩
structure E7(f:c7->Nat->Bool)(y:c7)(ls ms:List c7):Prop where
 mem:∀m,m∈ms↔ ∃l∈ls,∃c∈y,f l c=true/\m=l++[c]
 nd:ls.Nodup->ms.Nodup
 tH:(ms:)<=(y:)*(ls:)
variable{ms:List c7}
theorem E6.next{f:c7->Nat->Bool}(h:E6 f y i ws)(g:E7 f y ws ms):E6 f y (i+1) ms:=⟨λw=>by
 rw[g.mem]
 constructor
 ·rintro ⟨l,hl,c,hc,e,rfl⟩
  obtain ⟨h1,h2,h3⟩:=(h.mem l).mp hl
  refine ⟨λd hd=>(Qap.mp hd).elim (h1 d) λq=>by rw[Wi.mp q];exact hc,by rw[T6,h2];rfl,zR.mpr ⟨h3,e⟩⟩
 ·rintro ⟨h1,h2,h3⟩
  rcases snoc_cases w with rfl | ⟨l,c,rfl⟩
  ·simp at h2
  ·obtain ⟨h4,h5⟩:=zR.mp h3
   rw[T6]at h2
   exact ⟨l,(h.mem l).mpr ⟨λd hd=>h1 d (Qca _ hd),by simp at h2;omega,h4⟩,c,h1 c (Qam _ Qac),h5,rfl⟩,g.nd h.nd⟩
theorem Jo(f:c7->Nat->Bool)(y:c7):E7 f y [] []:=⟨λm=>by simp,λ_=>Qds,by simp⟩
variable{ls ns:List c7}
theorem E8{f:c7->Nat->Bool}(h:E7 f y ls ms)(hn:∀m,m∈ns↔ ∃c∈y,f l c=true/\m=l++[c])(nd:ns.Nodup)(tH:(ns:)<=(y:)):E7 f y (ls++[l]) (ms++ns):=⟨λm=>by
 rw[Qap,h.mem,hn]
 constructor
 ·rintro (⟨l',hl,q⟩ | q)
  ·exact ⟨l',Qca _ hl,q⟩
  ·exact ⟨l,Qam _ Qac,q⟩
 ·rintro ⟨l',hl,q⟩
  rcases Qap.mp hl with g | g
  ·exact .inl ⟨l',g,q⟩
  ·rw[Wi.mp g]at q;exact .inr q,λhd=>by
 rw[Qcn]at hd ⊢
 refine ⟨h.nd hd.1,nd,λa ha b hb e=>?_⟩
 subst e
 obtain ⟨l',hl,c,_,_,e1⟩:=(h.mem a).mp ha
 obtain ⟨d,_,_,e2⟩:=(hn a).mp hb
 have:=List.append_inj_left' (e1.symm.trans e2) rfl
 exact hd.2.2 l' hl l Qac this,by
 rw[T6,T6,Qgy]
 have:=h.tH
 simp
 omega⟩
noncomputable def fB(w:c7)(c:Nat):Bool:=decide (w=[])||(decide (c≠ay (w.getLastD 0))&&!decide (a_ [c] [ay c]<[w.headD 0]))
noncomputable def gB(w:c7)(c:Nat):Bool:=decide (w=[])||decide (c≠ay (w.getLastD 0))
theorem NI{w:c7}(hy:Yd y)(ne:w≠[])(hw:∀c∈w,c∈y)(h:xI w=true):SW y w:=si hy ne hw (of_decide_eq_true h)
theorem QB{w:c7}(hy:Yd y)(h:SW y w):BJ gB w:=λk c hk=>by
 unfold gB
 by_cases z:w.take k=[]
 ·rw[decide_eq_true z];rfl
 ·rw[decide_eq_false z]
  have hl:=(OC.mp hk).1
  have K2:0<k:=by
   rcases k with _ | k
   ·simp at z
   ·omega
  refine decide_eq_true λe=>?_
  have e1:w[k - 1]? =some ((w.take k).getLastD 0):=by
   rw[List.getLastD_eq_getLast?, Qfa, Qad,Qbs (by omega),Qa5 (by omega),OD (by omega)]
   rfl
  exact h.Wz (k - 1) _ c e1 (by rw[show k - 1+1=k by omega];exact hk) e
theorem le_head{r t:c7}(h: ¬(a::r)<b::t):b<=a:=by
 rcases Nat.lt_or_ge a b with z | z
 ·exact absurd (List.Lex.rel z) h
 ·exact z
theorem zS{w:c7}{k:Nat}(h:w[k]? =some c):∃r,bR w k=c::r:=by
 have hl:=(OC.mp h).1
 refine ⟨w.drop (k+1)++w.take k,?_⟩
 unfold bR
 rw[Qbz hl,(OC.mp h).2]
 rfl
theorem Jp{w:c7}(hy:Yd y)(h:SW y w)(hl:xI w=true):∀c∈w,w.headD 0<=c/\w.headD 0<=ay c:=λc hc=>by
 have e:=of_decide_eq_true hl
 obtain ⟨a,r,ew⟩:=List.exists_cons_of_ne_nil h.ne
 have hh:w.headD 0=a:=by rw[ew];rfl
 rw[hh]
 obtain ⟨k,hk,ek⟩:=Qdq hc
 have tG:w[k]? =some c:=by rw[OD hk,ek]
 have ht:=h.bC hy
 have hct:ay c∈bC w:=Ln hc
 obtain ⟨j,hj,ej⟩:=Qdq hct
 have O6:(bC w)[j]? =some (ay c):=by rw[OD hj,ej]
 have l1: ¬bR w k<bV w:=mR w k (by omega)
 have l2: ¬bR (bC w) j<bV (bC w):=mR (bC w) j (by omega)
 rw[h.aP hy,ht.aP hy]at e
 have m1: ¬bV w<w:=by
  have e':=e
  unfold a_ at e'
  split at e'
  ·rename_i q
   rw[e']at q
   exact List.lt_asymm q
  ·rw[e'];exact Qcu _
 have m2: ¬bV (bC w)<w:=by
  have e':=e
  unfold a_ at e'
  split at e'
  ·rw[e'];exact Qcu _
  ·rename_i q;rw[e']at q;exact q
 obtain ⟨r1,f1⟩:=zS tG
 obtain ⟨r2,f2⟩:=zS O6
 have t1: ¬bR w k<w:=λz=>by
  have a1:w<=bV w:=m1
  have a2:bV w<=bR w k:=l1
  exact Qeq a1 a2 z
 have t2: ¬bR (bC w) j<w:=λz=>by
  have a1:w<=bV (bC w):=m2
  have a2:bV (bC w)<=bR (bC w) j:=l2
  exact Qeq a1 a2 z
 rw[f1,ew]at t1
 rw[f2,ew]at t2
 exact ⟨le_head t1,le_head t2⟩
theorem vS(h:[a]<[b]):a<b:=by
 cases h with
 | rel h=>exact h
 | cons h=>cases h
theorem QC{w:c7}(hy:Yd y)(h:SW y w)(hl:xI w=true):BJ fB w:=λk c hk=>by
 have g:=QB hy h k c hk
 unfold gB at g
 unfold fB
 by_cases z:w.take k=[]
 ·rw[decide_eq_true z];rfl
 ·rw[decide_eq_false z]at g ⊢
  have g':decide (c≠ay ((w.take k).getLastD 0))=true:=g
  rw[g']
  have hd:(w.take k).headD 0=w.headD 0:=by
   obtain ⟨a,r,ew⟩:=List.exists_cons_of_ne_nil h.ne
   rcases k with _ | k
   ·simp at z
   ·rw[ew];rfl
  have:=Jp hy h hl c (Qas hk)
  rw[hd]
  have no: ¬a_ [c] [ay c]<[w.headD 0]:=λq=>by
   unfold a_ at q
   split at q
   ·have:=vS q;omega
   ·have:=vS q;omega
  rw[decide_eq_false no]
  rfl
theorem QD{f:c7->Nat->Bool}{p:c7->Bool}(hy:Yd y)(h:E6 f y (i+1) ms)(hf:∀w,SW y w->xI w=true->BJ f w)(hp:∀w∈ms,p w=true↔xI w=true/\zO y w=true)(pr:ns.Perm (ms.filter p))(asc:ns.Pairwise λa b=> ¬b<a):YS y (i+1) ns:=⟨λw=>by
 rw[pr.mem_iff,Qbq]
 constructor
 ·rintro ⟨h1,h2⟩
  obtain ⟨g1,g2,_⟩:=(h.mem w).mp h1
  obtain ⟨g3,g4⟩:=(hp w h1).mp h2
  exact ⟨g1,g2,g3,g4⟩
 ·rintro ⟨g1,g2,g3,g4⟩
  have ne:w≠[]:=λz=>by rw[z]at g2;simp at g2
  have hm:=(h.mem w).mpr ⟨g1,g2,hf w (NI hy ne g1 g3) g3⟩
  exact ⟨hm,(hp w hm).mpr ⟨g3,g4⟩⟩,pr.nodup_iff.mpr (h.nd.filter _),asc⟩
theorem Jq{w:c7}(h:w≠[]):RX y w=zO y w:=by
 unfold RX
 rw[decide_eq_false h]
 rfl
theorem Vr{w:c7}(h:w≠[])(c:Nat):fB w c=(decide (c≠ay (w.getLast h))&&!decide (a_ [c] [ay c]<[w.head h])):=by
 unfold fB
 rw[decide_eq_false h,List.getLastD_eq_getLast?, List.getLast?_eq_some_getLast h,List.headD_eq_head?_getD,List.head?_eq_some_head h]
 rfl
theorem Mm(hn:u≠[]):tF u 0=some (u.head hn)/\tF u (-1)=some (u.getLast hn):=by
 refine ⟨dj (j:=0) (by rw[<-Qfv, List.head?_eq_some_head hn]),?_⟩
 have:=yv u.dropLast (u.getLast hn)
 rwa [List.dropLast_concat_getLast]at this
theorem Ds(ha:1<=a)(hi:i<=n)(h:a ^ n<=4096):a ^ i<=4096:=Qa7 (Qet ha hi) h
theorem NJ{α:Type}(p:α->Bool)(u:α)(h:p u=true):[u].filter p=[u]:=by rw[Qgw,if_pos h];rfl
theorem NK{α:Type}(p:α->Bool)(u:α)(h: ¬p u=true):[u].filter p=[]:=by rw[Qgw,if_neg h];rfl
theorem oH(hy:Yd y)(h:BI y n ls):PyData.canLayAll0 (CA ls)=true:=CB λl hl=>za λc hc=>hy.lt c ((h.len l hl).1 c hc)
theorem BK(ls:List c7):(PyData.list (CA ls)).depth<=60:=by show PyData.depthAll (CA ls)+1<=60;rw[vn];decide
theorem BL(ls:List c7):PyData.eqv (.list (CA ls)) (.list (CA ls))=true:=eqv_refl (.list (CA ls)) (by show PyData.hasDictAll (CA ls)=false;exact zo _)
inductive ji(p_:c8)(vs:List V)(H:Hp)(Q:VK)(dA:XK):Prop
 | mk (w:c7) (c:Nat) (_:vs=[.str (S w),.str (S [c])]) (_:(∀a∈w,a<128)) (_:(w:)<=sizeLine) (_:c<128) (_:Q (.bl (fB w c)) H):ji p_ vs H Q dA
def lH(p_:c8):Sp:=ji p_
theorem sj(h:lH K vs H Q E):(vs:)=2:=by obtain ⟨_,_,rfl,_⟩:=h;rfl
inductive jj(p_:c8)(vs:List V)(H:Hp)(Q:VK)(dA:XK):Prop
 | mk (y:c7) (wt:Addr) (ls:List c7) (_:vs=[.str (S y),.ref wt]) (_:(∀c∈y,c<128)) (_:y.Nodup) (_:(y:)<=8) (_:H wt=some (.lst (dD ls))) (_:(∀l∈ls,(∀c∈l,c∈y)/\(l:)<=100)) (_:(ls:)<=5000) (_:∀(t:Addr) (ms:List c7) H',H t=none->H' t=some (.lst (dD ms))->E7 fB y ls ms->az H H'->Q (.ref t) H'):jj p_ vs H Q dA
def lI(p_:c8):Sp:=jj p_
theorem so(h:lI K vs H Q E):(vs:)=2:=by obtain ⟨_,_,_,rfl,_⟩:=h;rfl
inductive jk(p_:c8)(vs:List V)(H:Hp)(Q:VK)(dA:XK):Prop
 | mk (y:c7) (n:Nat) (_:vs=[.str (S y),.int n]) (_:Yd y) (_:y≠[]) (_:(y:)<=8) (_:n<=6) (_:(y:) ^ n<=4096) (_:∀(t:Addr) (ls:List c7) H',H t=none->H' t=some (.lst (dD ls))->BI y n ls->(ls:)<=4096*n->az H H'->Q (.ref t) H'):jk p_ vs H Q dA
def lJ(p_:c8):Sp:=jk p_
theorem sr(h:lJ K vs H Q E):(vs:)=2:=by obtain ⟨_,_,rfl,_⟩:=h;rfl
theorem Ah.own{z w:c7}(T:Ah y z σ neg)(hw:SW y w):eS z (w.map σ)=eS y w:=by
 unfold eS
 rw[T.same hw hw,Qw T hw]
theorem Dt(hy:Yd y)(k:Nat):Ah y (y.drop k++y.take k) id false:=by
 have e:y.take k++y.drop k=y:=Qag k y
 have hz:Yd (y.drop k++y.take k):=hy.perm ((Qgz e.symm).trans Qby)
 refine ⟨hy,hz,λa ha=>?_,λa _ b _ q=>q,λa _=>rfl,λa ha b hb c hc ab ac bc=>?_⟩
 ·rw[<-e]at ha
  exact (Qap.mp ha).elim (λg=>Qam _ g) λg=>Qca _ g
 ·have g:=Qb (a:=y.take k) (b:=y.drop k) (x:=a) (y:=b) (z:=c) (by rw[e];exact hy.nd) (by rw[e];exact ha) (by rw[e];exact hb) (by rw[e];exact hc) ab ac bc
  rw[e]at g
  show My.gr _ a b c=_
  rw[g]
  cases My.gr y a b c<;>rfl
theorem idx_map{f:Nat->Nat}:∀{y:c7} {a:Nat},(∀b∈y,f b=f a->b=a)->a∈y->(y.map f).idxOf (f a)=y.idxOf a
 | [],a,_,h=>absurd h Qaj
 | b::y,a,h,ha=>by
  rw[Qa3,Qf1,Qf1]
  by_cases z:b=a
  ·rw[z,beq_self_eq_true,beq_self_eq_true]
   rfl
  ·have z2:f b≠f a:=λq=>z (h b Qac q)
   rw[beq_eq_false_iff_ne.mpr z,beq_eq_false_iff_ne.mpr z2]
   show _+1=_+1
   rw[idx_map (λc hc=>h c (Qae _ hc)) ((Qaf.mp ha).elim (λq=>absurd q.symm z) id)]
theorem zT{f:Nat->Nat}(hy:Yd y)(inj:∀a∈y,∀b∈y,f a=f b->a=b)(Im:∀a∈y,f (ay a)=ay (f a))(lt:∀a∈y,Lt (f a)):Ah y (y.map f) f false:=by
 have ix:∀a∈y,(y.map f).idxOf (f a)=y.idxOf a:=λa ha=>idx_map (λb hb q=>inj b hb a ha q) ha
 refine ⟨hy,⟨?_,λc hc=>?_,λc hc=>?_⟩,λa ha=>Qay.mpr ⟨a,ha,rfl⟩,inj,Im,λa ha b hb c hc _ _ _=>?_⟩
 ·exact Qb8.mpr (Qdp (λ{a b} ha hb q z=>q (inj a ha b hb z)) hy.nd)
 ·obtain ⟨a,ha,rfl⟩:=Qay.mp hc
  exact lt a ha
 ·obtain ⟨a,ha,rfl⟩:=Qay.mp hc
  exact Qay.mpr ⟨_,hy.cl a ha,Im a ha⟩
 ·unfold My.gr
  rw[ix a ha,ix b hb,ix c hc,Wh]
  simp
noncomputable def RY(y:c7)(g0:Bool):Nat->c7->c7->Bool
 | last,x::l,z::m=>if Nat.beq x z then RY y g0 x l m else g0==gr y x z (ay last)
 | _,_,_=>false
noncomputable def YU(y:c7)(pf pg:Nat):c7->c7->Bool
 | x::l,z::m=>Nat.beq x z&&(!Nat.beq pf pg&&RY y (gr y (ay pf) (ay pg) x) x l m)
 | _,_=>false
noncomputable def bn(b:Bool):Nat:=if b then 1 else 0
noncomputable def YV(y:c7)(a b p q:Nat):Bool:=if Nat.beq p a||(Nat.beq p b||(Nat.beq q a||Nat.beq q b)) then false else gr y a p b != gr y a q b
structure Cn where
 p:Nat
 l:c7
 q:Nat
 m:c7
noncomputable def E9(y:c7)(a b:Cn):Nat:=bn (YV y (ay a.p) (a.l.headD 0) (ay b.p) (b.l.headD 0))+bn (YU y a.p b.p a.l b.l)+bn (YU y a.p b.q a.l b.m)
noncomputable def sC(w:c7)(N i:Nat):Cn:=⟨w.getD ((i+((w:) - 1))%(w:)) 0,(List.range N).map λt=>w.getD ((i+t)%(w:)) 0,ay (w.getD ((i+1)%(w:)) 0),(List.range N).map λt=>ay (w.getD ((i+(w:)*N - t)%(w:)) 0)⟩
noncomputable def Mn(w:c7)(N:Nat):List Cn:=(List.range (w:)).map (sC w N)
noncomputable def E_:c7->Nat
 | []=>0
 | a::l=>a+E_ l
noncomputable def cS(y:c7)(a b:List Cn):Nat:=E_ (a.map λc=>E_ (b.map (E9 y c)))
noncomputable def ev(p q x u:Nat):c7:=(List.range (p+q)).map λk=>if Nat.blt ((k+1)*q%(p+q)) q then u else x
noncomputable def By:c7:=[97,98,65,66]
noncomputable def Lf(f:Int->Nat)(N:Nat):c7:=(List.range N).map λt:Nat=>f t
theorem iV(f:Int->Nat)(N:Nat):Lf f (N+1)=f 0::Lf (λk=>f (k+1)) N:=by
 unfold Lf
 rw[List.range_succ_eq_map,Qa3,Qbh]
 rfl
theorem qt(h:a=b):Nat.beq a b=true:=Nat.beq_eq.mpr h
theorem xJ(h:a≠b):Nat.beq a b=false:=by
 cases e:Nat.beq a b with
 | false=>rfl
 | true=>exact absurd (Qd0 e) h
theorem Jr{y:c7}{g0:Bool}:∀(N:Nat) (f g:Int->Nat) (D:Nat),D<N->(∀j:Nat,j<D->f j=g j)->f D≠g D->RY y g0 (f (-1)) (Lf f N) (Lf g N)=(g0==gr y (f D) (g D) (ay (f ((D:Int) - 1))))
 | 0,f,g,D,h,_,_=>absurd h (Qdx _)
 | N+1,f,g,0,_,_,hn=>by
  rw[iV,iV]
  show (if Nat.beq (f 0) (g 0)=true then _ else _)=_
  rw[xJ (show f 0≠g 0 from hn)]
  rfl
 | N+1,f,g,D+1,h,ha,hn=>by
  rw[iV,iV]
  show (if Nat.beq (f 0) (g 0)=true then RY y g0 (f 0) _ _ else _)=_
  rw[if_pos (qt (show f 0=g 0 from ha 0 (Qgj _)))]
  have:=Jr (y:=y) (g0:=g0) N (λk=>f (k+1)) (λk=>g (k+1)) D (Nat.lt_of_succ_lt_succ h) (λj hj=>ha (j+1) (Qgs hj)) hn
  refine this.trans ?_
  show (g0==gr y (f ((D:Int)+1)) (g ((D:Int)+1)) (ay (f ((D:Int) - 1+1))))=(g0==gr y (f ((D+1:Nat):Int)) (g ((D+1:Nat):Int)) (ay (f (((D+1:Nat):Int) - 1))))
  rw[show ((D+1:Nat):Int)=(D:Int)+1 from rfl,show (D:Int)+1 - 1=(D:Int) - 1+1 by omega]
variable{N:Nat}
theorem Js(hN:0<N)(hd:f (-1)≠g (-1)->kK f g N 0<N/\f (kK f g N 0)≠g (kK f g N 0)):YU y (f (-1)) (g (-1)) (Lf f N) (Lf g N)=decide (0<al y f g N):=by
 obtain ⟨N,rfl⟩:∃M,N=M+1:=⟨N - 1,by omega⟩
 rw[iV,iV]
 show (Nat.beq (f 0) (g 0)&&(!Nat.beq (f (-1)) (g (-1))&&RY y (gr y (ay (f (-1))) (ay (g (-1))) (f 0)) (f 0) _ _))=_
 unfold al
 by_cases z:f 0≠g 0\/f (-1)=g (-1)
 ·rw[if_pos z]
  rcases z with z | z
  ·rw[xJ z];rfl
  ·rw[qt z]
   cases Nat.beq (f 0) (g 0)<;>rfl
 ·have z0:f 0=g 0:=Classical.byContradiction λq=>z (.inl q)
  have z1:f (-1)≠g (-1):=λq=>z (.inr q)
  rw[if_neg z,qt z0,xJ z1]
  obtain ⟨d1,d2⟩:=hd z1
  have d3:=(fD f g (N+1) 0).2.2.1
  generalize kK f g (N+1) 0=D at d1 d2 d3 ⊢
  cases D with
  | zero=>exact absurd z0 d2
  | succ D=>
   have k:=Jr (y:=y) (g0:=gr y (ay (f (-1))) (ay (g (-1))) (f 0)) N (λk=>f (k+1)) (λk=>g (k+1)) D (Nat.lt_of_succ_lt_succ d1) (λj hj=>d3 (j+1) (Qau _) (Qgs hj)) d2
   have e:((D:Int) - 1+1)=((D+1:Nat):Int) - 1:=by omega
   have k':RY y (gr y (ay (f (-1))) (ay (g (-1))) (f 0)) (f 0) (Lf (λk=>f (k+1)) N) (Lf (λk=>g (k+1)) N)=(gr y (ay (f (-1))) (ay (g (-1))) (f 0)==gr y (f ((D+1:Nat):Int)) (g ((D+1:Nat):Int)) (ay (f (((D+1:Nat):Int) - 1)))):=by
    rw[<-e]
    exact k
   rw[k']
   by_cases c:gr y (ay (f (-1))) (ay (g (-1))) (f 0)=gr y (f ((D+1:Nat):Int)) (g ((D+1:Nat):Int)) (ay (f (((D+1:Nat):Int) - 1)))
   ·rw[if_pos c,beq_iff_eq.mpr c,decide_eq_true (Qgj D)]
    rfl
   ·rw[if_neg c,beq_eq_false_iff_ne.mpr c]
    rfl
theorem qu(w:c7)(k:Nat):rd w (k:Int)=w.getD (k%(w:)) 0:=by
 unfold rd
 rw[<-Qdt,Qan]
theorem Vs{w:c7}(hw:w≠[])(N i:Nat):(sC w N i).p=sq w i (-1):=by
 have hl:=Qab.mpr hw
 show w.getD _ 0=rd w ((i:Int)+ -1)
 rw[<-qu,show ((i+((w:) - 1):Nat):Int)=(i:Int)+ -1+(w:) by omega,e_]
theorem Vt(w:c7)(N i:Nat):(sC w N i).l=Lf (sq w i) N:=by
 show (List.range N).map _=(List.range N).map _
 exact Qb0 λt _=>by
  rw[<-qu]
  rfl
theorem YW(w:c7)(N i:Nat):(sC w N i).q=bq w i (-1):=by
 show ay (w.getD _ 0)=ay (rd w ((i:Int) - -1))
 rw[<-qu]
 rfl
theorem Jt(w:c7)(k:Int):∀N:Nat,rd w (k+((w:)*N:Nat))=rd w k
 | 0=>by rw[Nat.mul_zero,Int.natCast_zero,Qek]
 | N+1=>by rw[Nat.mul_succ,Qbl, <-Qes,e_,Jt w k N]
theorem YX{w:c7}(hw:w≠[])(N i:Nat):(sC w N i).m=Lf (bq w i) N:=by
 have hl:=Qab.mpr hw
 show (List.range N).map _=(List.range N).map _
 refine Qb0 λt ht=>?_
 have YY:=Qbr.mp ht
 have hm:N<=(w:)*N:=Nat.le_mul_of_pos_left _ hl
 show ay (w.getD _ 0)=ay (rd w ((i:Int) - t))
 rw[<-qu, <-Jt w ((i:Int) - t) N]
 congr 2
 omega
theorem RQ{w:c7}(hw:w≠[])(hv:v≠[])(pf:∀k,f (k+(w:))=f k)(pg:∀k,g (k+(v:))=g k)(hN:(w:)+(v:)<=N)(h:f (-1)≠g (-1)):kK f g N 0<N/\f (kK f g N 0)≠g (kK f g N 0):=by
 obtain ⟨d1,d2⟩:=ir hw hv pf pg h
 have e:kK f g N 0=kK f g ((w:)+(v:)) 0:=PX (λj hj=>(fD f g ((w:)+(v:)) 0).2.2.1 j (Qau _) hj) d2 (by omega)
 rw[e]
 exact ⟨by omega,d2⟩
theorem BM{p:Prop}{b:Bool}(h:p↔b=true):one p=(bn b:Nat):=by
 cases b with
 | true=>exact eT (h.mpr rfl)
 | false=>exact ba λq=>absurd (h.mp q) ∅
theorem QE(y:c7)(a b p q:Nat):YV y a b p q=ac y a b p q:=by
 unfold YV ac
 have k:∀a b:Nat,Nat.beq a b=decide (a=b):=λa b=>by
  by_cases z:a=b
  ·rw[qt z,decide_eq_true z]
  ·rw[xJ z,decide_eq_false z]
 rw[k,k,k,k, <-Qe8, <-Qe8, <-Qe8]
 by_cases z:p=a\/p=b\/q=a\/q=b
 ·rw[if_pos z,decide_eq_true z,if_pos rfl]
 ·rw[if_neg z,decide_eq_false z,if_neg ∅]
theorem Mo{w:c7}(hy:Yd y)(hw:SW y w)(hv:SW y v)(hN:(w:)+(v:)<=N)(i j:Nat):bs y w v i j=(E9 y (sC w N i) (sC v N j):Nat):=by
 have h0:0<N:=Qa2 (Nat.add_pos_left (Qab.mpr hw.ne) _) hN
 have Vu:=RQ (f:=sq w i) (g:=sq v j) hw.ne hv.ne (λk=>cL w i k) (λk=>cL v j k) hN
 have hd2:=RQ (f:=sq w i) (g:=bq v j) hw.ne hv.ne (λk=>cL w i k) (λk=>n_ v j k) hN
 unfold bs E9
 rw[Vs hw.ne,Vs hv.ne,Vt,Vt,YW,YX hv.ne,Js h0 Vu,Js h0 hd2,QE]
 have hh:∀f:Int->Nat,(Lf f N).headD 0=f 0:=λf=>by
  obtain ⟨M,rfl⟩:∃M,N=M+1:=⟨N - 1,by omega⟩
  rw[iV]
  rfl
 rw[hh,hh,Qbl,Qbl]
 congr 1
 ·congr 1
  ·refine BM ?_
   have e:∀(u:c7) (k:Nat),sq u k 0=rd u k:=λu k=>by unfold sq;rw[Qek]
   rw[e,e]
   exact Iff.rfl
  ·exact BM ((vz hy (aX hw i) (aX hv j) Vu).trans decide_eq_true_iff.symm)
 ·exact BM ((vz hy (aX hw i) (fh hy hv j) hd2).trans decide_eq_true_iff.symm)
theorem Mp(l m:c7):E_ (l++m)=E_ l+E_ m:=by
 induction l with
 | nil=>exact (Qcq _).symm
 | cons a l ih=>show a+E_ (l++m)=a+E_ l+E_ m;rw[ih,Qeb]
theorem BN(F:Nat->Nat):∀n:Nat,((E_ ((List.range n).map F):Nat):Int)=sm n λi=>(F i.toNat:Nat)
 | 0=>rfl
 | n+1=>by
  rw[Qco,Qaq,Mp,Qbl,BN F n]
  show _+((F n+0:Nat):Int)=_+((F ((n:Nat):Int).toNat:Nat):Int)
  rw[Qan,Qdl]
theorem NL{w:c7}(hy:Yd y)(hw:SW y w)(hv:SW y v)(hN:(w:)+(v:)<=N):SS y w v=(cS y (Mn w N) (Mn v N):Nat):=by
 unfold cS Mn
 rw[Qbh,BN]
 refine aJ λi _=>?_
 show sm _ _=((E_ (((List.range (v:)).map (sC v N)).map (E9 y (sC w N ((i:Nat):Int).toNat))):Nat):Int)
 rw[Qbh,BN,Qan]
 refine aJ λj _=>?_
 show bs y w v i j=((E9 y (sC w N i) (sC v N ((j:Nat):Int).toNat):Nat):Int)
 rw[Qan]
 exact Mo hy hw hv hN i j
theorem Vv:Yd By:=⟨∅,∅,∅⟩
theorem Vw{u:Nat}(h:c∈ev p q x u):c=x\/c=u:=by
 obtain ⟨k,_,rfl⟩:=Qay.mp h
 by_cases z:Nat.blt ((k+1)*q%(p+q)) q=true
 ·exact .inr (if_pos z)
 ·exact .inl (if_neg z)
theorem xK(p q x u:Nat):(ev p q x u:)=p+q:=by unfold ev;rw[Wh,Qd2]
theorem Ju(f:Nat->Nat)(p q x u:Nat):(ev p q x u).map f=ev p q (f x) (f u):=by
 unfold ev
 rw[Qbh]
 refine Qb0 λk _=>?_
 show f (if _ then u else x)=if _ then f u else f x
 split<;>rfl
theorem QF{w:c7}{u:Nat}(hy:Yd y)(hx:x∈y)(hu:u∈y)(n1:u≠ay x)(n2:x≠ay u)(hw:w≠[])(h:∀c∈w,c=x\/c=u):SW y w:=⟨hw,λc hc=>(h c hc).elim (λg=>by rw[g];exact hx) λg=>by rw[g];exact hu,λk q=>by
 rcases h _ (rL hw k) with a | a<;>rcases h _ (rL hw (k - 1)) with b | b<;>rw[a,b]at q
 ·exact iN (hy.lt x hx) q.symm
 ·exact n2 q
 ·exact n1 q
 ·exact iN (hy.lt u hu) q.symm⟩
theorem Mq{w:c7}(hw:w≠[])(h:∀d,0<d->d<(w:)->bR w d≠w):kr w=1:=by
 have hr:=j4 hw
 unfold kr
 generalize NG w=s at hr ⊢
 rcases hr with g | ⟨h1,h2,h3,_⟩
 ·exact absurd g.1 hw
 ·have e:s=(w:):=Classical.byContradiction λz=>h s h1 (Nat.lt_of_le_of_ne h2 z) (qh h1 h2 h3)
  rw[e,Nat.div_self (by omega)]
  rfl
theorem Du{w:c7}(hy:Yd y)(hw:SW y w){k:Nat}(hk:k<=(w:)):eS y (bR w k)=eS y w:=by
 have hr:SW y (bR w k):=hw.bR hk
 unfold eS
 rw[Ik hw.ne hk,Ij hy hw hr,Ik hw.ne hk,Qu hw.ne hk]
theorem Mr{w:c7}(hy:Yd y)(hw:SW y w):eS y (bC w)=eS y w:=by
 have hr:SW y (bC w):=hw.bC hy
 unfold eS
 rw[Il hy hw hr,Ij hy hw hr,Il hy hw hw,Qv hy hw]
def Fb(x z n:Nat)(w:c7):Prop:=(∃p q,p+q<=n/\Nat.gcd p q=1/\(w=aG (ev p q x z)\/w=aG (ev p q x (ay z))))\/(3<n/\w=aG [x,z,ay x,ay z])
inductive nk(p_:c8)(vs:List V)(H:Hp)(Q:VK)(dA:XK):Prop
 | mk (p q:Nat) (_:vs=[.int p,.int q]) (_:p<=1000) (_:q<=1000) (_:Q (.int (Nat.gcd p q:Nat)) H):nk p_ vs H Q dA
def sF(p_:c8):Sp:=nk p_
theorem zU(h:sF K vs H Q E):(vs:)=2:=by obtain ⟨_,_,rfl,_⟩:=h;rfl
inductive sG(p_:c8)(vs:List V)(H:Hp)(Q:VK)(dA:XK):Prop
 | mk (x z p q:Nat) (_:vs=[.str (S [x]),.str (S [z]),.int p,.int q]) (_:0<p+q) (_:p+q<=100) (_:∀H',az H H'->Q (.str (S (ev p q x z))) H'):sG p_ vs H Q dA
def zV(p_:c8):Sp:=sG p_
theorem Fc(h:zV K vs H Q E):(vs:)=4:=by obtain ⟨_,_,_,_,rfl,_⟩:=h;rfl
inductive vT(K:c8)(vs:List V)(H:Hp)(Q:VK)(dA:XK):Prop
 | mk (x z n:Nat) (_:vs=[.str (S [x]),.str (S [z]),.int n]) (_:Lt x) (_:Lt z) (_:n<=6) (_:qf K H) (_:∀(t:Addr) (ws:List c7) H',cW (TabAt K "_law_due") H H'->qf K H'->H t=none->H' t=some (.lst (dD ws))->(ws:)<=1000->(∀w,w∈ws↔Fb x z n w)->ws.Nodup->(ws.Pairwise λa b=>ku b a=false)->Q (.ref t) H'):vT K vs H Q dA
def Dv(K:c8):Sp:=vT K
theorem Jv(h:Dv K vs H Q E):(vs:)=3:=by obtain ⟨_,_,_,rfl,_⟩:=h;rfl
theorem Jw(h:aI.map (·.1)=ws.map λl=>Sum.inr (S l))(nd:ws.Nodup)(w:c7)(v:V):
  ∃i_:List c7,(putK aI (Sum.inr (S w):Key) v).map (·.1)=i_.map (λl=>Sum.inr (S l))/\i_.Nodup/\(∀u,u∈i_↔u∈ws\/u=w)/\(i_:)<=(ws:)+1:=by
 have inj:∀a b:c7,(Sum.inr (S a):Key)=Sum.inr (S b)->a=b:=λa b e=>by
  have e2:S a=S b:=Sum.inr.inj e
  rw[<-cg a,e2,cg]
 have Vx:(aI.any λkv=>decide (kv.1=(Sum.inr (S w):Key)))=true↔w∈ws:=by
  rw[Qc4]
  constructor
  ·rintro ⟨kv,hk,e⟩
   have e':=of_decide_eq_true e
   have hm:kv.1∈aI.map (·.1):=Qex hk
   rw[h,e']at hm
   obtain ⟨u,hu,eu⟩:=Qay.mp hm
   rw[<-inj u w eu];exact hu
  ·intro hw
   have hm:(Sum.inr (S w):Key)∈aI.map (·.1):=by rw[h];exact Qex (f:=λl=>(Sum.inr (S l):Key)) hw
   obtain ⟨kv,hk,e⟩:=Qay.mp hm
   exact ⟨kv,hk,decide_eq_true e⟩
 unfold putK
 by_cases hw:w∈ws
 ·rw[if_pos (Vx.mpr hw)]
  refine ⟨ws,?_,nd,λu=>⟨.inl,λz=>z.elim id λe=>e▸hw⟩,()⟩
  rw[Qbh, <-h]
  refine Qb0 λkv _=>?_
  show (if kv.1=_ then (kv.1,v) else kv).1=kv.1
  split<;>rfl
 ·rw[if_neg λz=>hw (Vx.mp z)]
  refine ⟨ws++[w],?_,?_,λu=>?_,by rw[T6];exact Qaa _⟩
  ·rw[Qaq,Qaq,h];rfl
  ·refine Qcn.mpr ⟨nd,Qb5.mpr ⟨Qaj,Qds⟩,λa ha b hb e=>hw ?_⟩
   rw[<-Wi.mp hb, <-e];exact ha
  ·rw[Qap,Wi]
structure Kc(x z n i:Nat)(R:c7->Prop)(aI:List (Key×V))(ws:List c7):Prop where
 key:aI.map (·.1)=ws.map λl=>Sum.inr (S l)
 nd:ws.Nodup
 mem:∀w,w∈ws↔(∃p q,p<i/\p+q<=n/\Nat.gcd p q=1/\(w=aG (ev p q x z)\/w=aG (ev p q x (ay z))))\/R w
theorem Kc.put{R:c7->Prop}(h:Kc x z n i R aI ws)(w:c7)(v:V):∃i_,Kc x z n i (λu=>R u\/u=w) (putK aI (Sum.inr (S w):Key) v) i_/\(i_:)<=(ws:)+1:=by
 obtain ⟨i_,h1,h2,h3,h4⟩:=Jw h.key h.nd w v
 exact ⟨i_,⟨h1,h2,λu=>by rw[h3,h.mem,or_assoc]⟩,h4⟩
theorem Kc.congr{R R':c7->Prop}(h:Kc x z n i R aI ws)(e:∀w,R w↔R' w):Kc x z n i R' aI ws:=⟨h.key,h.nd,λw=>by rw[h.mem,e]⟩
theorem Kc.len{R:c7->Prop}(h:Kc x z n i R aI ws):(aI:)=(ws:):=by
 have:=congrArg List.length h.key
 rwa [Wh,Wh]at this
theorem fZ(w:c7):(aG w:)<=(w:):=by
 unfold aG a_
 split
 ·exact Qa7 (nZ _) (Qfu (bA w))
 ·exact nZ _
noncomputable def pW(y:c7):Nat->List c7
 | 0=>[[]]
 | n+1=>(pW y n).flatMap λl=>y.map λc=>c::l
theorem zW{y:c7}:∀{w:c7},(∀c∈w,c∈y)->w∈pW y (w:)
 | [],_=>Wi.mpr rfl
 | c::w,h=>Qbp.mpr ⟨w,zW λd hd=>h d (Qae _ hd),Qay.mpr ⟨c,h c Qac,rfl⟩⟩
noncomputable def WG(w:c7):Bool:=(List.range (w:)).all λk=>!(Nat.beq (w.getD k 0) (ay (w.getD ((k+((w:) - 1))%(w:)) 0)))
theorem Dw{w:c7}{k:Nat}(h:k<(w:)):rd w (k:Int)=w.getD k 0:=by
 unfold rd
 rw[Qbg () (),Qan]
theorem Jx{w:c7}{k:Nat}(h:k<(w:)):rd w ((k:Int) - 1)=w.getD ((k+((w:) - 1))%(w:)) 0:=by
 have e:((k:Int) - 1)%((w:):Int)=(((k+((w:) - 1))%(w:):Nat):Int):=by
  rw[Qdt,Qbl,show (((w:) - 1:Nat):Int)=((w:):Int) - 1 by lia,show (k:Int)+(((w:):Int) - 1)=(k:Int) - 1+(w:) by lia,Qdc]
 unfold rd
 rw[e,Qan]
theorem QG{w:c7}(h:SW y w):WG w=true:=by
 refine Qcg.mpr λk hk=>?_
 have AE:=Qbr.mp hk
 have:=h.red (k:Int)
 rw[Dw AE,Jx AE]at this
 show (!Nat.beq _ _)=true
 cases q:Nat.beq (w.getD k 0) (ay (w.getD ((k+((w:) - 1))%(w:)) 0)) with
 | false=>rfl
 | true=>exact absurd (Qd0 q) this
theorem QH{w:c7}(ne:w≠[])(hi:∀c∈w,c∈y)(h:WG w=true):SW y w:=by
 refine ⟨ne,hi,λk=>?_⟩
 have hl:0<(w:):=Qab.mpr ne
 walk_at"F"
 walk_at"E"
 obtain ⟨m,hm⟩:∃m:Nat,k%((w:):Int)=m:=⟨(k%((w:):Int)).toNat,()⟩
 have QI:m<(w:):=by lia
 have e1:rd w k=rd w (m:Int):=by rw[<-hm,fJ]
 have e2:rd w (k - 1)=rd w ((m:Int) - 1):=by
  rw[<-fJ w (k - 1), <-fJ w ((m:Int) - 1), <-hm]
  congr 1
  rw[Qgq]
 rw[e1,e2,Dw QI,Jx QI]
 have:=Qcg.mp h m (Qbr.mpr QI)
 intro e
 have t:Nat.beq (w.getD m 0) (ay (w.getD ((m+((w:) - 1))%(w:)) 0))=true:=by rw[e];exact Nat.beq_refl _
 have t2:(!Nat.beq (w.getD m 0) (ay (w.getD ((m+((w:) - 1))%(w:)) 0)))=true:=this
 rw[t]at t2
 cases t2
theorem QJ{w:c7}(hw:w≠[])(h:kr w=1):∀j,1<=j->j<(w:)-> ¬fM w j:=λj h1 h2 hp=>by
 have hr:=j4 hw
 unfold kr at h
 generalize NG w=s at h hr
 rcases hr with g | ⟨g1,g2,g3,g4⟩
 ·exact hw g.1
 ·by_cases z:j<s
  ·exact g4 j h1 z hp
  ·have e:(w:) / s=1:=by exact_mod_cast h
   unfold fM at g3
   rw[e]at g3
   have e2:w.take s=w:=by simpa [dZ]using g3
   have:=congrArg List.length e2
   rw[Qad]at this
   lia
noncomputable def QK(w:c7):Bool:=(List.range (w:)).any λj=>Nat.ble 1 j&&decide (fM w j)
noncomputable def amg(ds:List c7)(w:c7):Bool:=ds.any λd=>(List.range ((d:)+1)).any λk=>decide (w=bR d k)||decide (w=bR (bC d) k)
noncomputable def YZ(y:c7)(a b:List Cn):Bool:=a.any λc=>b.any λd=>!(Nat.beq (E9 y c d) 0)
theorem sH:∀{l:c7},E_ l=0->∀x∈l,x=0
 | [],_,x,hx=>absurd hx Qaj
 | a::l,h,x,hx=>by
  have h':a+E_ l=0:=h
  rcases Qaf.mp hx with e | e
  ·rw[e];lia
  ·exact sH (l:=l) () x e
theorem Vy{a b:List Cn}(h:cS y a b=0):YZ y a b=false:=by
 cases q:YZ y a b with
 | false=>rfl
 | true=>
  obtain ⟨c,hc,g⟩:=Qc4.mp q
  obtain ⟨d,hd,g⟩:=Qc4.mp g
  have h1:=sH h _ (Qex hc)
  have h2:=sH h1 _ (Qex hd)
  rw[h2]at g
  cases g
noncomputable def sI(y:c7)(ds:List c7)(w:c7):Bool:=!(WG w)||(YZ y (Mn w 12) (Mn w 12)||(QK w||amg ds w))
noncomputable def BO(y:c7)(n:Nat)(ds:List c7):Bool:=(pW y n).all (sI y ds)
variable{ds:List c7}
theorem vU(h:∀c∈y,((pW y n).all λl=>sI y ds (c::l))=true):BO y (n+1) ds=true:=by
 refine Qcg.mpr λw hw=>?_
 obtain ⟨l,hl,hw⟩:=Qbp.mp hw
 obtain ⟨c,hc,rfl⟩:=Qay.mp hw
 exact Qcg.mp (h c hc) l hl
theorem Ms(hy:Yd y)(hn:n<=6)(h:BO y n ds=true){w:c7}(hw:SW y w)(hl:(w:)=n)(h0:eS y w=0):∃d∈ds,∃k,k<=(d:)/\(w=bR d k\/w=bR (bC d) k):=by
 have s:=Qz (y:=y) hw.ne
 have k1:1<=kr w:=by
  unfold kr
  rcases j4 hw.ne with g | ⟨h1,h2,_⟩
  ·exact absurd g.1 hw.ne
  ·have:=Nat.div_pos h2 h1
   lia
 have o:eS y w=SS y w w+2*(kr w - 1):=rfl
 have p:=(NH y w w).1
 have e1:SS y w w=0:=by lia
 have e2:kr w=1:=by lia
 rw[NL hy hw hw (N:=12) ()]at e1
 have e3:cS y (Mn w 12) (Mn w 12)=0:=by exact_mod_cast e1
 have c:=Qcg.mp h w (by rw[<-hl];exact zW hw.bO)
 unfold sI at c
 rw[QG hw,Vy e3]at c
 have hp:QK w=false:=by
  cases q:QK w with
  | false=>rfl
  | true=>
   obtain ⟨j,hj,g⟩:=Qc4.mp q
   rw[Qb4]at g
   exact absurd (of_decide_eq_true g.2) (QJ hw.ne e2 j (Qf2 g.1) (Qbr.mp hj))
 rw[hp]at c
 have c':amg ds w=true:=by simpa using c
 obtain ⟨d,hd,g⟩:=Qc4.mp c'
 obtain ⟨k,hk,g⟩:=Qc4.mp g
 rw[Qg0]at g
 exact ⟨d,hd,k,by have:=Qbr.mp hk;lia,g.imp (λz=>of_decide_eq_true z) λz=>of_decide_eq_true z⟩
noncomputable def evs(n x z u:Nat):List c7:=(List.range (n+1)).flatMap λp=>if Nat.gcd p (n - p)=1 then [ev p (n - p) x z,ev p (n - p) x u] else []
noncomputable def Jy(n x z X Z:Nat):List c7:=evs n x z Z++if n=4 then [[x,z,X,Z]] else []
theorem Dy:∀n∈[1,2,3,4],BO By n (Jy n 97 98 65 66)=true:=⋯
theorem QL:((pW By 4).all λl=>sI By (Jy 5 97 98 65 66) (97::l))=true:=⋯
theorem QM:((pW By 4).all λl=>sI By (Jy 5 97 98 65 66) (98::l))=true:=⋯
theorem QN:((pW By 4).all λl=>sI By (Jy 5 97 98 65 66) (65::l))=true:=⋯
theorem QO:((pW By 4).all λl=>sI By (Jy 5 97 98 65 66) (66::l))=true:=⋯
theorem QP:((pW By 5).all λl=>sI By (Jy 6 97 98 65 66) (97::l))=true:=⋯
theorem QQ:((pW By 5).all λl=>sI By (Jy 6 97 98 65 66) (98::l))=true:=⋯
theorem QR:((pW By 5).all λl=>sI By (Jy 6 97 98 65 66) (65::l))=true:=⋯
theorem QS:((pW By 5).all λl=>sI By (Jy 6 97 98 65 66) (66::l))=true:=⋯
theorem Dz{P:Nat->Prop}(a:P 97)(b:P 98)(c:P 65)(d:P 66):∀x∈By,P x:=λx hx=>by
 simp only[By,Qaf,Qaj,or_false]at hx
 rcases hx with rfl | rfl | rfl | rfl
 ·exact a
 ·exact b
 ·exact c
 ·exact d
theorem Vz:∀n∈[1,2,3,4,5,6],BO By n (Jy n 97 98 65 66)=true:=λn hn=>by
 simp only[Qaf,Qaj,or_false]at hn
 rcases hn with rfl | rfl | rfl | rfl | rfl | rfl
 ·exact Dy 1 ∅
 ·exact Dy 2 ∅
 ·exact Dy 3 ∅
 ·exact Dy 4 ∅
 ·exact vU (Dz QL QM QN QO)
 ·exact vU (Dz QP QQ QR QS)
noncomputable def kN(x z c:Nat):Nat:=if c=97 then x else if c=98 then z else if c=65 then ay x else ay z
noncomputable def xM(x z c:Nat):Nat:=if c=x then 97 else if c=z then 98 else if c=ay x then 65 else 66
structure DA(x z:Nat):Prop where
 lx:Lt x
 lz:Lt z
 n1:x≠z
 n2:x≠ay z
namespace DA
variable{x z:Nat}(h:DA x z)
include h
theorem a1:ay x≠z:=λe=>h.n2 (by rw[<-e,aF h.lx])
theorem a2:ay x≠ay z:=λe=>h.n1 (dk h.lx h.lz e)
theorem a3:ay x≠x:=iN h.lx
theorem a4:ay z≠z:=iN h.lz
theorem yd(p:y.Perm [x,z,ay x,ay z]):Yd y:=by
 have b:Yd [x,z,ay x,ay z]:=by
  refine ⟨?_,?_,?_⟩
  ·simp only[Qb5,Qaf,Qaj,or_false,not_or,not_false_eq_true,Qds,and_true]
   exact ⟨⟨h.n1,Ne.symm h.a3,h.n2⟩,⟨Ne.symm h.a1,Ne.symm h.a4⟩,h.a2⟩
  ·intro c hc
   simp only[Qaf,Qaj,or_false]at hc
   rcases hc with rfl | rfl | rfl | rfl
   ·exact h.lx
   ·exact h.lz
   ·exact h.lx.ay
   ·exact h.lz.ay
  ·intro c hc
   simp only[Qaf,Qaj,or_false]at hc ⊢
   rcases hc with rfl | rfl | rfl | rfl
   ·exact .inr (.inr (.inl rfl))
   ·exact .inr (.inr (.inr rfl))
   ·exact .inl (aF h.lx)
   ·exact .inr (.inl (aF h.lz))
 exact b.perm p.symm
theorem p1:kN x z 97=x:=rfl
theorem p2:kN x z 98=z:=rfl
theorem p3:kN x z 65=ay x:=rfl
theorem p4:kN x z 66=ay z:=rfl
theorem q1:xM x z x=97:=if_pos rfl
theorem q2:xM x z z=98:=by unfold xM;rw[if_neg (Ne.symm h.n1),if_pos rfl]
theorem q3:xM x z (ay x)=65:=by unfold xM;rw[if_neg h.a3,if_neg h.a1,if_pos rfl]
theorem q4:xM x z (ay z)=66:=by unfold xM;rw[if_neg (Ne.symm h.n2),if_neg h.a4,if_neg (Ne.symm h.a2)]
theorem to(hy:Yd y)(hm:∀c∈y,c=97\/c=98\/c=65\/c=66):Ah y (y.map (kN x z)) (kN x z) false:=by
 have e:∀c,(c=97\/c=98\/c=65\/c=66)->xM x z (kN x z c)=c:=λc hc=>by
  rcases hc with rfl | rfl | rfl | rfl
  ·rw[h.p1,h.q1]
  ·rw[h.p2,h.q2]
  ·rw[h.p3,h.q3]
  ·rw[h.p4,h.q4]
 refine zT hy (λa ha b hb q=>?_) (λa ha=>?_) λa ha=>?_
 ·rw[<-e a (hm a ha),q,e b (hm b hb)]
 ·rcases hm a ha with rfl | rfl | rfl | rfl
  ·rfl
  ·rfl
  ·show x=ay (ay x);rw[aF h.lx]
  ·show z=ay (ay z);rw[aF h.lz]
 ·rcases hm a ha with rfl | rfl | rfl | rfl
  ·exact h.lx
  ·exact h.lz
  ·exact h.lx.ay
  ·exact h.lz.ay
theorem back(hy:Yd y)(hm:∀c∈y,c=x\/c=z\/c=ay x\/c=ay z):Ah y (y.map (xM x z)) (xM x z) false:=by
 have e:∀c,(c=x\/c=z\/c=ay x\/c=ay z)->kN x z (xM x z c)=c:=λc hc=>by
  rcases hc with rfl | rfl | rfl | rfl
  ·rw[h.q1,h.p1]
  ·rw[h.q2,h.p2]
  ·rw[h.q3,h.p3]
  ·rw[h.q4,h.p4]
 refine zT hy (λa ha b hb q=>?_) (λa ha=>?_) λa ha=>?_
 ·rw[<-e a (hm a ha),q,e b (hm b hb)]
 ·rcases hm a ha with rfl | rfl | rfl | rfl
  ·rw[h.q3,h.q1];rfl
  ·rw[h.q4,h.q2];rfl
  ·rw[aF h.lx,h.q1,h.q3];rfl
  ·rw[aF h.lz,h.q2,h.q4];rfl
 ·rcases hm a ha with rfl | rfl | rfl | rfl
  ·rw[h.q1];decide
  ·rw[h.q2];decide
  ·rw[h.q3];decide
  ·rw[h.q4];decide
end DA
theorem DB(f:Nat->Nat)(w:c7)(k:Nat):(bR w k).map f=bR (w.map f) k:=by unfold bR;rw[Qaq,List.map_drop,Qgd]
theorem Mt{f:Nat->Nat}{w:c7}(Im:∀a∈w,f (ay a)=ay (f a)):(bC w).map f=bC (w.map f):=by
 unfold bC
 rw[Qd7,Qbh,Qbh]
 congr 1
 exact Qb0 Im
theorem vV{w:c7}(h:AllLt w)(k:Nat):aG (bR w k)=aG w:=by
 have hr:AllLt (bR w k):=λc hc=>h c (by
  unfold bR at hc
  rcases Qap.mp hc with g | g
  ·exact Qch g
  ·exact Qb9 g)
 unfold aG
 rw[<-mS hr,zi h,mS h]
theorem Fd{d w:c7}(h:AllLt d){k:Nat}(e:w=bR d k\/w=bR (bC d) k):aG w=aG d:=by
 rcases e with rfl | rfl
 ·exact vV h k
 ·rw[vV (jF h),zk h]
theorem sJ{d:c7}(hy:Yd y)(h:SW y d):∃k,k<=(d:)/\(aG d=bR d k\/aG d=bR (bC d) k):=by
 have key:∀{v:c7},SW y v->∃k,k<=(v:)/\aP v=bR v k:=λ{v} hv=>by
  rw[jH,hv.core hy]
  obtain ⟨k,e⟩:=kF v
  by_cases z:k<=(v:)
  ·exact ⟨k,z,e⟩
  ·refine ⟨0,Qau _,?_⟩
   rw[e]
   unfold bR
   rw[Qbi (),Qai ()]
   simp
 unfold aG a_
 obtain ⟨k,a,b⟩:=key h
 obtain ⟨j,c,e⟩:=key (h.bC hy)
 rw[bA]at c
 split
 ·exact ⟨j,c,.inr e⟩
 ·exact ⟨k,a,.inl b⟩
noncomputable def RZ(y:c7)(n:Nat)(d:c7):Bool:=Nat.beq (d:) n&&d.all (λc=>y.contains c)&&WG d&&Nat.beq (cS y (Mn d 12) (Mn d 12)) 0&&(List.range n).all λj=>Nat.beq j 0||!(decide (bR d j=d))
structure VA(y:c7)(N:Nat)(ds:Nat->List c7):Prop where
 yd:Yd y
 lt:∀c∈y,c=97\/c=98\/c=65\/c=66
 six:N<=6
 chk:∀n,1<=n->n<=N->BO y n (ds n)=true
 gd:∀n,1<=n->n<=N->∀d∈ds n,RZ y n d=true
theorem NM{d:c7}(hy:Yd y)(h1:1<=n)(hn:n<=6)(h:RZ y n d=true):SW y d/\(d:)=n/\eS y d=0:=by
 unfold RZ at h
 simp only[Qb4]at h
 obtain ⟨⟨⟨⟨a,b⟩,c⟩,e⟩,g⟩:=h
 have a:=Qd0 a
 have ne:d≠[]:=λz=>by rw[z]at a;exact absurd a (by show ¬0=n;lia)
 have hs:SW y d:=QH ne (λx hx=>by simpa using Qcg.mp b x hx) c
 refine ⟨hs,a,?_⟩
 have e1:SS y d d=0:=by
  rw[NL hy hs hs (N:=12) (),Qd0 e]
  rfl
 have e2:kr d=1:=Mq ne λj j1 j2 z=>by
  have t:=Qcg.mp g j (Qbr.mpr ())
  rw[Qg0]at t
  rcases t with t | t
  ·exact absurd (Qd0 t) ()
  ·rw[decide_eq_true z]at t;cases t
 unfold eS
 rw[e1,e2]
 rfl
section
variable{y y0:c7}{N x z k:Nat}{ds:Nat->List c7}
theorem NN{y y' w:c7}(h:SW y w)(s:∀c∈y,c∈y'):SW y' w:=⟨h.ne,λc hc=>s c (h.bO c hc),h.red⟩
theorem Jz{y:c7}{k:Nat}:c∈y.drop k++y.take k↔c∈y:=by
 rw[Qap,or_comm, <-Qap,Qag]
theorem sL{y w:c7}(hy:Yd y)(k:Nat)(hw:SW y w):eS (y.drop k++y.take k) w=eS y w:=by
 have:=(Dt hy k).own hw
 rwa [Qec]at this
theorem VA.mem(B:VA y0 N ds)(h:DA x z)(hy:y=(y0.map (kN x z)).drop k++(y0.map (kN x z)).take k)(hn:n<=N)(w:c7):
  ((∀c∈w,c∈y)/\1<=(w:)/\(w:)<=n/\xI w=true/\zO y w=true)↔ ∃m,1<=m/\m<=n/\∃d∈ds m,w=aG (d.map (kN x z)):=by
 have T:=h.to B.yd B.lt
 have y1:Yd (y0.map (kN x z)):=T.zd
 have iy:∀c,c∈y↔c∈y0.map (kN x z):=λc=>by rw[hy];exact Jz
 have zX:Yd y:=by rw[hy];exact (Dt y1 k).zd
 have pq:∀c∈y0,xM x z (kN x z c)=c:=λc hc=>by
  rcases B.lt c hc with rfl | rfl | rfl | rfl
  ·rw[h.p1,h.q1]
  ·rw[h.p2,h.q2]
  ·rw[h.p3,h.q3]
  ·rw[h.p4,h.q4]
 have m1:∀c∈y0.map (kN x z),c=x\/c=z\/c=ay x\/c=ay z:=λc hc=>by
  obtain ⟨a,ha,rfl⟩:=Qay.mp hc
  rcases B.lt a ha with rfl | rfl | rfl | rfl
  ·exact .inl rfl
  ·exact .inr (.inl rfl)
  ·exact .inr (.inr (.inl rfl))
  ·exact .inr (.inr (.inr rfl))
 have U:=h.back y1 m1
 have e0:(y0.map (kN x z)).map (xM x z)=y0:=by
  rw[Qbh]
  calc _=y0.map id:=Qb0 pq
   _=y0:=Qec _
 rw[e0]at U
 constructor
 ·rintro ⟨hc,h1,h2,hl,ho⟩
  have ne:w≠[]:=λe=>by rw[e]at h1;exact absurd h1 ∅
  have el:aG w=w:=of_decide_eq_true hl
  have hw:SW y w:=si zX ne hc el
  have WH:SW (y0.map (kN x z)) w:=NN hw λc hc=>(iy c).mp hc
  have B6:eS y w=0:=of_decide_eq_true ho
  rw[hy,sL y1 k WH]at B6
  have hv:SW y0 (w.map (xM x z)):=U.sw WH
  have ov:eS y0 (w.map (xM x z))=0:=by rw[U.own WH];exact B6
  have lv:(w.map (xM x z):)=(w:):=Wh _
  obtain ⟨d,hd,j,_,e⟩:=Ms (n:=(w:)) B.yd (by have:=B.six;lia) (B.chk _ h1 ()) hv lv ov
  obtain ⟨sd,_,_⟩:=NM B.yd h1 (by have:=B.six;lia) (B.gd _ h1 () d hd)
  have back:(w.map (xM x z)).map (kN x z)=w:=by
   have bk:∀c∈w,(kN x z ∘ xM x z) c=id c:=λc hc=>by
    obtain ⟨a,ha,e⟩:=Qay.mp (WH.bO c hc)
    show kN x z (xM x z c)=c
    rw[<-e,pq a ha]
   rw[Qbh,Qb0 bk,Qec]
  have e2:w=bR (d.map (kN x z)) j\/w=bR (bC (d.map (kN x z))) j:=by
   rcases e with e | e
   ·left;rw[<-back,e,DB]
   ·right;rw[<-back,e,DB,Mt λa ha=>T.Im a (sd.bO a ha)]
  have ald:AllLt (d.map (kN x z)):=λc hc=>y1.lt c ((T.sw sd).bO c hc)
  exact ⟨(w:),h1,h2,d,hd,by rw[<-Fd ald e2,el]⟩
 ·rintro ⟨m,h1,h2,d,hd,rfl⟩
  obtain ⟨sd,ld,od⟩:=NM B.yd h1 (by have:=B.six;lia) (B.gd _ h1 () d hd)
  have su1:=T.sw sd
  have su:SW y (d.map (kN x z)):=NN su1 λc hc=>(iy c).mpr hc
  have ou:eS y (d.map (kN x z))=0:=by rw[hy,sL y1 k su1,T.own sd,od]
  have alu:AllLt (d.map (kN x z)):=λc hc=>zX.lt c (su.bO c hc)
  obtain ⟨j,hj,e⟩:=sJ zX su
  have key:SW y (aG (d.map (kN x z)))/\(aG (d.map (kN x z)):)=m/\eS y (aG (d.map (kN x z)))=0:=by
   have lm:(d.map (kN x z):)=m:=by rw[Wh,ld]
   rcases e with e | e
   ·rw[e];exact ⟨su.bR hj,by rw[bK,lm],by rw[Du zX su hj,ou]⟩
   ·rw[e]
    have st:=su.bC zX
    exact ⟨st.bR (by rw[bA];exact hj),by rw[bK,bA,lm],by rw[Du zX st (by rw[bA];exact hj),Mr zX su,ou]⟩
  obtain ⟨k1,k2,k3⟩:=key
  refine ⟨k1.bO,(),(),decide_eq_true (EC alu),decide_eq_true k3⟩
end
theorem BI.mem:∀{n:Nat} {ls:List c7},BI y n ls->∀w,w∈ls↔(∀c∈w,c∈y)/\1<=(w:)/\(w:)<=n/\xI w=true/\zO y w=true
 | 0,ls,h,w=>by
  rw[show ls=[] from h]
  exact ⟨λz=>absurd z Qaj,λ⟨_,a,b,_⟩=>by lia⟩
 | n+1,ls,⟨a,b,e,h1,h2⟩,w=>by
  rw[e,Qap,h1.mem w,h2.mem w]
  constructor
  ·rintro (⟨p,q,r,s⟩ | ⟨p,q,s⟩)
   ·exact ⟨p,q,(),s⟩
   ·exact ⟨p,(),(),s⟩
  ·rintro ⟨p,q,r,s⟩
   by_cases t:(w:)=n+1
   ·exact .inr ⟨p,t,s⟩
   ·exact .inl ⟨p,q,(),s⟩
theorem BI.ord:∀{n:Nat} {ls:List c7},BI y n ls->ls.Nodup/\ls.Pairwise λa b=>ku b a=false
 | 0,ls,h=>by rw[show ls=[] from h];exact ⟨Qds,List.Pairwise.nil⟩
 | n+1,ls,⟨a,b,e,h1,h2⟩=>by
  obtain ⟨d1,o1⟩:=h1.ord
  have ha:=h1.len
  have hb:=λw hw=>((h2.mem w).mp hw).2.1
  rw[e]
  refine ⟨Qcn.mpr ⟨d1,h2.nd,λu hu v hv z=>?_⟩,Qa9.mpr ⟨o1,Qdp (λ{u v} hu hv g=>?_) h2.asc,λu hu v hv=>?_⟩⟩
  ·have:=(ha u hu).2
   have:=hb v hv
   rw[z]at*
   lia
  ·unfold ku
   rw[if_pos (by rw[hb u hu,hb v hv])]
   exact decide_eq_false g
  ·have p:=(ha u hu).2
   have q:=hb v hv
   unfold ku
   rw[if_neg ()]
   exact decide_eq_false ()
theorem sortedK{a b:List c7}(h:a.Perm b)(p1:a.Pairwise λx y=>ku y x=false)(p2:b.Pairwise λx y=>ku y x=false):a=b:=
 List.Perm.eq_of_pairwise (le:=λx y=>ku y x=false) (λx y _ _ g1 g2=>Lg x y g2 g1) p1 p2 h
theorem BI.eq(h:BI y n ls)(nd:ws.Nodup)(o:ws.Pairwise λa b=>ku b a=false)(m:∀w,w∈ws↔(∀c∈w,c∈y)/\1<=(w:)/\(w:)<=n/\xI w=true/\zO y w=true):ls=ws:=
 sortedK ((List.perm_ext_iff_of_nodup h.ord.1 nd).mpr λw=>by rw[h.mem,m]) h.ord.2 o
noncomputable def Y0:c7:=[97,65,98,66]
noncomputable def Y1:c7:=[97,65]
noncomputable def WI(n:Nat):List c7:=Jy n 97 98 65 66
noncomputable def WJ(n:Nat):List c7:=if n=1 then [[97],[98]] else if n=2 then [[97,98]] else []
noncomputable def WK(n:Nat):List c7:=if n=1 then [[97]] else []
theorem QT:∀n∈[1,2,3,4],BO Y0 n (WJ n)=true:=⋯
theorem QU:∀n∈[1,2,3,4],BO Y1 n (WK n)=true:=⋯
theorem Y2:∀n∈[1,2,3,4,5,6],∀d∈WI n,RZ By n d=true:=⋯
theorem VB:∀n∈[1,2,3,4],∀d∈WJ n,RZ Y0 n d=true:=⋯
theorem VC:∀n∈[1,2,3,4],∀d∈WK n,RZ Y1 n d=true:=⋯
theorem in6(h1:1<=n)(h2:n<=6):n∈[1,2,3,4,5,6]:=by
 obtain rfl | rfl | rfl | rfl | rfl | rfl:n=1\/n=2\/n=3\/n=4\/n=5\/n=6:=by lia
 all_goals decide
theorem in4(h1:1<=n)(h2:n<=4):n∈[1,2,3,4]:=by
 obtain rfl | rfl | rfl | rfl:n=1\/n=2\/n=3\/n=4:=by lia
 all_goals decide
theorem Y3:VA By 6 WI:=⟨Vv,∅,∅,λn a b=>Vz n (in6 a b),λn a b=>Y2 n (in6 a b)⟩
theorem Y4:VA Y0 4 WJ:=⟨⟨∅,∅,∅⟩,∅,∅,λn a b=>QT n (in4 a b),λn a b=>VB n (in4 a b)⟩
theorem QV:VA Y1 4 WK:=⟨⟨∅,∅,∅⟩,∅,∅,λn a b=>QU n (in4 a b),λn a b=>VC n (in4 a b)⟩
theorem QW{w:c7}:Fb x z n w↔ ∃m,1<=m/\m<=n/\∃d∈WI m,w=aG (d.map (kN x z)):=by
 have e1:∀p q,(ev p q 97 98).map (kN x z)=ev p q x z:=λp q=>Ju _ _ _ _ _
 have e2:∀p q,(ev p q 97 66).map (kN x z)=ev p q x (ay z):=λp q=>Ju _ _ _ _ _
 have e3:[97,98,65,66].map (kN x z)=[x,z,ay x,ay z]:=rfl
 constructor
 ·rintro (⟨p,q,a,b,c⟩ | ⟨a,b⟩)
  ·have h1:1<=p+q:=Qe2 λe=>by
    rw[show p=0 by lia,show q=0 by lia]at b;cases b
   refine ⟨p+q,h1,a,?_⟩
   have m:∀u,u=98\/u=66->ev p q 97 u∈WI (p+q):=λu hu=>Qca _ (Qbp.mpr ⟨p,Qbr.mpr (),by
    rw[show p+q - p=q by lia,if_pos b]
    rcases hu with rfl | rfl
    ·exact Qac
    ·exact Qae _ Qac⟩)
   rcases c with c | c
   ·exact ⟨_,m 98 (.inl rfl),by rw[e1];exact c⟩
   ·exact ⟨_,m 66 (.inr rfl),by rw[e2];exact c⟩
  ·exact ⟨4,∅,a,[97,98,65,66],Qam _ (by rw[if_pos rfl];exact Wi.mpr rfl),by rw[e3];exact b⟩
 ·rintro ⟨m,h1,h2,d,hd,e⟩
  rcases Qap.mp hd with g | g
  ·obtain ⟨p,hp,g⟩:=Qbp.mp g
   have tZ:=Qbr.mp hp
   by_cases t:Nat.gcd p (m - p)=1
   ·rw[if_pos t]at g
    simp only[Qaf,Qaj,or_false]at g
    refine .inl ⟨p,m - p,(),t,?_⟩
    rcases g with rfl | rfl
    ·rw[e1]at e;exact .inl e
    ·rw[e2]at e;exact .inr e
   ·rw[if_neg t]at g
    exact absurd g Qaj
  ·by_cases t:m=4
   ·rw[if_pos t]at g
    rw[Wi.mp g,e3]at e
    exact .inr ⟨(),e⟩
   ·rw[if_neg t]at g
    exact absurd g Qaj
theorem BP{k:Nat}(h:DA x z)(hy:y=[x,z,ay x,ay z].drop k++[x,z,ay x,ay z].take k)(hn:n<=6)(hl:BI y n ls)(nd:ws.Nodup)(o:ws.Pairwise λa b=>ku b a=false)(m:∀w,w∈ws↔Fb x z n w):ls=ws:=
 hl.eq nd o λw=>by rw[m,QW];exact (Y3.mem h hy hn w).symm
theorem Fe{k:Nat}(h:DA x z)(hy:y=[x,ay x,z,ay z].drop k++[x,ay x,z,ay z].take k)(hn:n<=4)(hl:BI y n ls)(nd:ws.Nodup)(o:ws.Pairwise λa b=>ku b a=false)
  (m:∀w,w∈ws↔(1<=n/\(w=aG [x]\/w=aG [z]))\/(2<=n/\w=aG [x,z])):ls=ws:=
 hl.eq nd o λw=>by
  rw[m,Y4.mem h hy hn w]
  constructor
  ·rintro (⟨a,b | b⟩ | ⟨a,b⟩)
   ·exact ⟨1,∅,a,[97],Qac,b⟩
   ·exact ⟨1,∅,a,[98],Qae _ Qac,b⟩
   ·exact ⟨2,∅,a,[97,98],Qac,b⟩
  ·rintro ⟨m,h1,h2,d,hd,e⟩
   unfold WJ at hd
   by_cases t1:m=1
   ·rw[if_pos t1]at hd
    simp only[Qaf,Qaj,or_false]at hd
    rcases hd with rfl | rfl
    ·exact .inl ⟨(),.inl e⟩
    ·exact .inl ⟨(),.inr e⟩
   ·rw[if_neg t1]at hd
    by_cases t2:m=2
    ·rw[if_pos t2]at hd
     rw[Wi.mp hd]at e
     exact .inr ⟨(),e⟩
    ·rw[if_neg t2]at hd
     exact absurd hd Qaj
theorem Ff(h:DA x z)(hn:n<=4)(hl:BI [x,ay x] n ls):ls=[aG [x]].take n:=by
 refine hl.eq (by cases n<;>simp) (by cases n<;>simp) λw=>?_
 rw[QV.mem (k:=0) h (by rfl) hn w]
 constructor
 ·intro hw
  have h1:1<=n:=Qe2 λe=>by rw[e]at hw;exact absurd hw Qaj
  have:=Qb9 hw
  exact ⟨1,∅,h1,[97],Qac,Wi.mp this⟩
 ·rintro ⟨m,h1,h2,d,hd,e⟩
  unfold WK at hd
  by_cases t1:m=1
  ·rw[if_pos t1]at hd
   rw[Wi.mp hd]at e
   rw[e,Qai (by show 1<=n;lia)]
   exact Wi.mpr rfl
  ·rw[if_neg t1]at hd
   exact absurd hd Qaj
theorem nq(h:DA x z):aG [x]=[x]\/aG [x]=[ay x]:=by
 have hy:=h.yd (Qej _)
 have hs:SW [x,z,ay x,ay z] [x]:=⟨by simp,by simp,λk=>by
  have e:∀j,rd [x] j=x:=λj=>Wi.mp (rL (by simp) j)
  rw[e,e]
  exact Ne.symm (iN h.lx)⟩
 obtain ⟨k,hk,e⟩:=sJ hy hs
 have AE:k=0\/k=1:=by have:k<=1:=hk;lia
 rcases AE with rfl | rfl<;>rcases e with e | e
 ·exact .inl e
 ·exact .inr e
 ·exact .inl e
 ·exact .inr e
theorem DA.symm(h:DA x z):DA z x:=⟨h.lz,h.lx,Ne.symm h.n1,λe=>h.a1 e.symm⟩
theorem JA(h:DA x z):(aG [x,z]:)=2:=by
 have hy:=h.yd (Qej _)
 have hs:SW [x,z,ay x,ay z] [x,z]:=QF hy (by simp) (by simp) (Ne.symm h.a1) h.n2 (by simp) λc hc=>by simpa using hc
 obtain ⟨k,hk,e⟩:=sJ hy hs
 rcases e with e | e<;>rw[e,bK]
 ·rfl
 ·rw[bA];rfl
noncomputable def ug(x z M:Nat):List c7:=(([[x],[z],[x,z]].filter λw=>decide ((w:)<=M)).map aG)
theorem Mu(h:DA x z)(M:Nat):(ug x z M).Nodup/\∀w,w∈ug x z M↔(1<=M/\(w=aG [x]\/w=aG [z]))\/(2<=M/\w=aG [x,z]):=by
 have d1:aG [x]≠aG [z]:=λe=>by
  rcases nq h with a | a<;>rcases nq h.symm with b | b<;>rw[a,b]at e<;>have e:=List.head_eq_of_cons_eq e
  ·exact h.n1 e
  ·exact h.n2 e
  ·exact h.a1 e
  ·exact h.a2 e
 have l1:(aG [x]:)=1:=by rcases nq h with a | a<;>rw[a]<;>rfl
 have l2:(aG [z]:)=1:=by rcases nq h.symm with a | a<;>rw[a]<;>rfl
 have l3:=JA h
 have d2:aG [x]≠aG [x,z]:=λe=>by rw[e]at l1;lia
 have d3:aG [z]≠aG [x,z]:=λe=>by rw[e]at l2;lia
 match M with
 | 0=>exact ⟨Qds,λw=>⟨λg=>absurd g Qaj,λg=>by lia⟩⟩
 | 1=>
  have e:ug x z 1=[aG [x],aG [z]]:=rfl
  rw[e]
  refine ⟨by simp[d1],λw=>?_⟩
  simp only[Qaf,Qaj,or_false]
  constructor
  ·exact λg=> .inl ⟨(),g⟩
  ·rintro (⟨_,g⟩ | ⟨g,_⟩)
   ·exact g
   ·lia
 | M+2=>
  have e:ug x z (M+2)=[aG [x],aG [z],aG [x,z]]:=by
   unfold ug
   rw[List.filter_eq_self.mpr λw hw=>?_]
   ·rfl
   ·simp only[Qaf,Qaj,or_false]at hw
    rcases hw with rfl | rfl | rfl<;>exact decide_eq_true (by simp)
  rw[e]
  refine ⟨by simp[d1,d2,d3],λw=>?_⟩
  simp only[Qaf,Qaj,or_false]
  constructor
  ·rintro (g | g | g)
   ·exact .inl ⟨(),.inl g⟩
   ·exact .inl ⟨(),.inr g⟩
   ·exact .inr ⟨(),g⟩
  ·rintro (⟨_,g | g⟩ | ⟨_,g⟩)
   ·exact .inl g
   ·exact .inr (.inl g)
   ·exact .inr (.inr g)
local macro_rules | `(tactic| walk_at "rd") => `(tactic| repeat (first
 | refine ⟨_,rfl,?_⟩
 | refine ⟨_,_,rfl,rfl,?_⟩
 | refine ⟨rfl,?_⟩
 | refine And.intro (by first | decide | omega | assumption | exact Qf2 rfl | exact .inl ⟨∅,∅⟩ | exact .inr ⟨∅,∅⟩ | exact ⟨∅,∅⟩ | exact ⟨by omega,by omega⟩) ?_))
local macro_rules | `(tactic| walk_at "wk") => `(tactic| repeat (first
 | refine ⟨_,rfl,?_⟩
 | refine ⟨_,_,rfl,rfl,?_⟩
 | refine ⟨_,_,_,rfl,rfl,by first | assumption | omega,by assumption,?_⟩
 | refine ⟨rfl,?_⟩
 | refine And.intro (by first | decide | omega | assumption | exact Qf2 rfl | exact .inl ⟨∅,∅⟩ | exact .inr ⟨∅,∅⟩ | exact ⟨∅,∅⟩ | exact ⟨by omega,by omega⟩) ?_))
local macro_rules | `(tactic| walk_at "bd") => `(tactic| first | assumption | exact aar _ | exact apl (by walk_at "bd") (by walk_at "bd"))
noncomputable def top(i:Nat):Stmt:=PySem.Challenge.pw_mustmeet_k80_whole_lone_loops_of_crossed.main.body.getD i (.Pass ⟨0,0,0,0⟩)
noncomputable abbrev lZ:Stmt:=top 1
noncomputable abbrev sM:Stmt:=top 2
noncomputable abbrev xN:Stmt:=top 4
noncomputable abbrev gW:Stmt:=top 5
noncomputable abbrev iW:Stmt:=top 7
noncomputable abbrev sN:Stmt:=top 8
noncomputable abbrev fK:Stmt:=top 9
noncomputable abbrev oI:Stmt:=top 10
noncomputable abbrev gs:Stmt:=top 11
noncomputable abbrev j6:Stmt:=top 12
noncomputable abbrev fi:Stmt:=top 13
noncomputable abbrev iX:Stmt:=top 15
noncomputable abbrev gX:Stmt:=top 17
noncomputable abbrev j7:Stmt:=top 19
noncomputable abbrev l_:Stmt:=top 20
noncomputable abbrev BQ:Stmt:=top 21
noncomputable abbrev BR:Stmt:=top 22
noncomputable abbrev BS:Stmt:=top 23
noncomputable abbrev gu:Stmt:=top 25
noncomputable abbrev gY:Stmt:=top 28
noncomputable abbrev iY:Stmt:=top 29
noncomputable abbrev oJ:Stmt:=top 30
noncomputable abbrev oK:Stmt:=top 31
noncomputable abbrev gZ:Stmt:=top 32
noncomputable abbrev gv:Stmt:=top 33
noncomputable abbrev g7:Stmt:=top 34
noncomputable abbrev iZ:Stmt:=top 35
noncomputable abbrev BU:Stmt:=top 36
noncomputable abbrev xO:Stmt:=top 38
noncomputable abbrev JB:Stmt:=top 39
noncomputable abbrev oM:Stmt:=top 41
noncomputable abbrev i0:Stmt:=top 42
noncomputable abbrev i3:Stmt:=top 43
noncomputable abbrev i4:Stmt:=top 44
noncomputable abbrev BV:Stmt:=top 46
noncomputable abbrev xP:Stmt:=top 47
noncomputable abbrev sO:Stmt:=top 48
noncomputable abbrev oN:Stmt:=top 49
noncomputable abbrev xQ:Stmt:=top 50
noncomputable abbrev xR:Stmt:=top 51
noncomputable abbrev DC:Stmt:=top 52
structure bB(K:c8)(mg:Str->Option Value)(x:Str)(st:Stmt)(ps:List Str)(f:Addr)(fd:FuncData):Prop where
 fn:Kx K x x st f fd
 mg:mg x=some (.ref f)
 bd:Binds K fd ps []
variable{X:Cx}
theorem ah{ss:List Stmt}(Z:TS)(h:x6 X ss Z):x6 X ss Z:=h
variable{mg:Str->Option Value}{pos:Pos}
theorem ak{k:Nat}{f:Addr}{fd:FuncData}{ps:List Str}{sp:Sp}{x:Str}{st:Stmt}{e:Expr}{es:List Expr}{t:TA}{p:Pos}(G:bD X.prog X.w X.K X.mg X.base eQ k f fd ps sp)(F:bB K mg x st ps f fd)(hr:cH j X.A)(ha:PA X (e::es) t)(hK:X.K=K:=by rfl)(hm:X.mg=mg:=by rfl)(hg:Gl X x:=by rfl)(hj:k<=j:=by decide)(hd:(x==("__debug__":Str))=false:=by decide)(he:starEach (e::es) X.env=(false,eval e X.env)::starEach es X.env:=by rfl)(hp:(backTo pos (starEach es X.env)).any (·.1)=false:=by rfl):PE X (.Call (.Name x p) (e::es) [] pos) (MX sp [] E0 t):=by
 subst hK;subst hm;exact kf G (hr.mono hj) hg F.mg F.fn.kp F.bd .nil gG ha hd he hp
variable{te:TE}
theorem aA{x:Str}{e:Expr}{p:Pos}(hN:X.N.Nodup)(he:PE X e te)(hi:X.N[i]? =some x:=by rfl)(hx:Loc X.env.scope x:=by first | exact .inl rfl | exact .inr rfl)(hs:swapsWith e (some (.Name x p)) pos.line X.env=pure false:=by rfl)(hf:X.fn x=true\/X.env.scope.names.lookup x=some .local:=by first | exact .inl rfl | exact .inr rfl):PS X (.Assign [.Name x p] e pos) (FO te (uC i)):=An hN hi hx he hs hf
theorem ag{e:Expr}(he:PE X e te)(hs:starEach [e] X.env=(false,eval e X.env)::starEach [] X.env:=by rfl):PA X [e] (FX te Oj):=ai he bW hs
theorem i5(K:c8){e:Expr}{p:Pos}(hm:X.mg "len"=none)(he:PE X e te)(hK:X.K=K:=by rfl)(hg:Gl X "len":=by rfl)(hs:starEach [e] X.env=(false,eval e X.env)::starEach [] X.env:=by rfl)(hp:(backTo pos (starEach [] X.env)).any (·.1)=false:=by rfl):PE X (.Call (.Name "len" p) [e] [] pos) (XD (M6 K) (FX te Oj)):=aY (tT K hK) hg hm Qce (ai he bW hs) ∅ ∅ hs hp
noncomputable abbrev kO:Stmt:=inC (top 26) 0
noncomputable abbrev iF:Stmt:=inC (top 27) 0
structure Txt(K:c8)(mg:Str->Option Value)(f0 f1 f2 f3 f4 f5 f6 f7 f8 f9 R0 R1 R3 R4 R5 R6 R7 R8 R9 JC JD R_ Sa Sb Sd Se Sf Sg Sh Si Sj Sk Sl Sm So Sq Sr Ss Su QX QY aN aW lK g8 i6 nu:Addr)(d0 d1 d2 d3 d4 d5 d6 d7 d8 d9 Sv Sw Sx Sy Sz SA SD SE SF SG SH SI SJ SK SM SN SO SQ SR SU SV SX SY S0 S3 S4 S5 S6 S7 QZ Q0 zY sP:FuncData):Prop where
 F0:bB K mg "contrary" lZ ["letter"] f0 d0
 F1:bB K mg "turned" sM ["word"] f1 d1
 F2:bB K mg "bands" xN ["yard"] f2 d2
 F3:bB K mg "steps_round" gW ["yard","start","end"] f3 d3
 F4:bB K mg "strands_at" iW ["yard","drawing","end"] f4 d4
 F5:bB K mg "points" sN ["yard","drawing"] f5 d5
 F6:bB K mg "corner_points" fK ["word","cord","place"] f6 d6
 F7:bB K mg "corners" oI ["yard","drawing"] f7 d7
 F8:bB K mg "chord_starts" gs ["some"] f8 d8
 F9:bB K mg "number_in" j6 ["rising","point"] f9 d9
 F10:bB K mg "count_meetings" fi ["some"] R0 Sv
 F11:bB K mg "strands_in" iX ["words","band"] R1 Sw
 F12:bB K mg "corner_ends" gX ["word","place"] R3 Sx
 F13:bB K mg "shortened" j7 ["word"] R4 Sy
 Y5:bB K mg "shortest" l_ ["word"] R5 Sz
 Kd:bB K mg "ring" BQ ["word"] R6 SA
 Q3:bB K mg "loop" BR ["word"] R7 SD
 WL:bB K mg "root" BS ["word"] R8 SE
 WM:bB K mg "corner_steps" gu ["yard","word","place"] R9 SF
 FE:bB K mg "steps_ahead" gY ["seen","start","end"] JC SG
 FF:bB K mg "steps_back" iY ["seen","start","end"] JD SH
 Y6:bB K mg "parting" oJ ["steps","one","other","enough"] R_ SI
 Y7:bB K mg "side_of" oK ["seen"] Sa SJ
 F23:bB K mg "comes_ahead" gZ ["one","other"] Sb SK
 F24:bB K mg "number_among" gv ["order","seen"] Sd SM
 F25:bB K mg "seen_strand" g7 ["words","ways","strand"] Se SN
 F26:bB K mg "taut_order" iZ ["words","ways","band"] Sf SO
 F27:bB K mg "taut" BU ["yard","words"] Sg SQ
 F28:bB K mg "least" xO ["yard","words"] Sh SR
 F29:bB K mg "own" JB ["yard","word"] Si SU
 F30:bB K mg "is_lone" oM ["yard","word"] Sj SV
 F31:bB K mg "may_follow" i0 ["word","letter"] Sk SX
 F32:bB K mg "one_longer" i3 ["yard","words"] Sl SY
 WN:bB K mg "lone_loops" i4 ["yard","length"] Sm S0
 F34:bB K mg "_law_box" BV ["_law_script","_law_k"] So S3
 Q5:bB K mg "_law_take" xP ["_law_box_here","_law_many"] Sq S4
 JE:bB K mg "_law_other" sO ["_law_letter"] Sr S5
 F37:bB K mg "_law_common" oN ["_law_p","_law_q"] Ss S6
 Y8:bB K mg "_law_even" xQ ["_law_x","_law_y","_law_p","_law_q"] Su S7
 F39:bB K mg "_law_due" xR ["_law_x","_law_y","_law_length"] QX QZ
 F40:bB K mg "law" DC ["_law_script"] QY Q0
 L39:Es K "_law_due" "_law_due" xR QX QZ i6
 sQ:TabAt K "_law_due" i6
 L40:Es K "law" "law" DC QY Q0 nu
 zZ:TabAt K "law" nu
 tn:([i6,nu]:List Addr).Nodup
 JF:mg "Seen"=some (.ref aN)
 dP:MW K aN
 n_Seen_strand:eE K aN "strand"
 n_Seen_way:eE K aN "way"
 n_Seen_place:eE K aN "place"
 NO:mg "Way"=some (.ref aW)
 gQ:MW K aW
 n_Way_size:eE K aW "size"
 n_Way_root_size:eE K aW "root_size"
 n_Way_leads:eE K aW "leads"
 n_Way_onward:eE K aW "onward"
 n_Way_backward:eE K aW "backward"
 NP:Mk K aW lK
 VD:Kx K "__init__" "Way.__init__" kO lK zY
 NQ:Binds K zY ["self","yard","word","longest"] []
 JG:Mk K aN g8
 Q6:Kx K "__init__" "Seen.__init__" iF g8 sP
 JH:Binds K sP ["self","strand","way","place"] []
 z_enumerate:mg "enumerate"=none
 z_int:mg "int"=none
 z_len:mg "len"=none
 z_list:mg "list"=none
 z_max:mg "max"=none
 z_min:mg "min"=none
 z_range:mg "range"=none
 z_reversed:mg "reversed"=none
 z_sorted:mg "sorted"=none
 z_str:mg "str"=none
 z_tuple:mg "tuple"=none
theorem z7:aH ["letter"] ["letter"] (aB lZ):=⟨rfl,rfl,rfl,⋯,rfl,⋯,⋯⟩
theorem Fg:aH ["word"] ["word"] (aB sM):=⟨rfl,rfl,rfl,⋯,rfl,⋯,⋯⟩
theorem JI:aH ["yard"] ["yard"] (aB xN):=⟨rfl,rfl,rfl,⋯,rfl,⋯,⋯⟩
theorem sR:aH ["yard","start","end"] ["yard","start","end"] (aB gW):=⟨rfl,rfl,rfl,⋯,rfl,⋯,⋯⟩
theorem lL:aH ["yard","drawing","end","order"] ["yard","drawing","end"] (aB iW):=⟨rfl,rfl,rfl,⋯,rfl,⋯,⋯⟩
theorem kP:aH ["yard","drawing","told","end","strand"] ["yard","drawing"] (aB sN):=⟨rfl,rfl,rfl,⋯,rfl,⋯,⋯⟩
theorem iG:aH ["word","cord","place","ahead"] ["word","cord","place"] (aB fK):=⟨rfl,rfl,rfl,⋯,rfl,⋯,⋯⟩
theorem cR:aH ["yard","drawing","numbers","number","point","told","cord","word","place","pair"] ["yard","drawing"] (aB oI):=⟨rfl,rfl,rfl,⋯,rfl,⋯,⋯⟩
theorem dM:aH ["some","starts","corner","first"] ["some"] (aB gs):=⟨rfl,rfl,rfl,⋯,rfl,⋯,⋯⟩
theorem du:aH ["rising","point","low","high","middle"] ["rising","point"] (aB j6):=⟨rfl,rfl,rfl,⋯,rfl,⋯,⋯⟩
theorem bH:aH ["some","starts","begun","many","point","number"] ["some"] (aB fi):=⟨rfl,rfl,rfl,⋯,rfl,⋯,⋯⟩
theorem cX:aH ["words","band","found","cord","word","place","letter"] ["words","band"] (aB iX):=⟨rfl,rfl,rfl,⋯,rfl,⋯,⋯⟩
theorem sS:aH ["word","place"] ["word","place"] (aB gX):=⟨rfl,rfl,rfl,⋯,rfl,⋯,⋯⟩
theorem i7:aH ["word","kept","letter"] ["word"] (aB j7):=⟨rfl,rfl,rfl,⋯,rfl,⋯,⋯⟩
theorem dX:aH ["word","left","start","end"] ["word"] (aB l_):=⟨rfl,rfl,rfl,⋯,rfl,⋯,⋯⟩
theorem kQ:aH ["word","whole","least","start","begun"] ["word"] (aB BQ):=⟨rfl,rfl,rfl,⋯,rfl,⋯,⋯⟩
theorem Mv:aH ["word"] ["word"] (aB BR):=⟨rfl,rfl,rfl,⋯,rfl,⋯,⋯⟩
theorem qw:aH ["word","whole","size","times"] ["word"] (aB BS):=⟨rfl,rfl,rfl,⋯,rfl,⋯,⋯⟩
theorem jl:aH ["yard","word","place","ends"] ["yard","word","place"] (aB gu):=⟨rfl,rfl,rfl,⋯,rfl,⋯,⋯⟩
theorem j8:aH ["seen","start","end","first"] ["seen","start","end"] (aB gY):=⟨rfl,rfl,rfl,⋯,rfl,⋯,⋯⟩
theorem lM:aH ["seen","start","end","first"] ["seen","start","end"] (aB iY):=⟨rfl,rfl,rfl,⋯,rfl,⋯,⋯⟩
theorem dQ:aH ["steps","one","other","enough","many","size"] ["steps","one","other","enough"] (aB oJ):=⟨rfl,rfl,rfl,⋯,rfl,⋯,⋯⟩
theorem md:aH ["seen","way","cord"] ["seen"] (aB oK):=⟨rfl,rfl,rfl,⋯,rfl,⋯,⋯⟩
theorem eN:aH ["one","other","enough","ahead","back"] ["one","other"] (aB gZ):=⟨rfl,rfl,rfl,⋯,rfl,⋯,⋯⟩
theorem cu:aH ["order","seen","low","high","middle"] ["order","seen"] (aB gv):=⟨rfl,rfl,rfl,⋯,rfl,⋯,⋯⟩
theorem gw:aH ["words","ways","strand","word","place"] ["words","ways","strand"] (aB g7):=⟨rfl,rfl,rfl,⋯,rfl,⋯,⋯⟩
theorem fo:aH ["words","ways","band","order","strand","seen"] ["words","ways","band"] (aB iZ):=⟨rfl,rfl,rfl,⋯,rfl,⋯,⋯⟩
theorem xS:aH ["yard","words","longest","ways"] ["yard","words"] (aB BU):=⟨rfl,rfl,rfl,⋯,rfl,⋯,⋯⟩
theorem JJ:aH ["yard","words"] ["yard","words"] (aB xO):=⟨rfl,rfl,rfl,⋯,rfl,⋯,⋯⟩
theorem Q7:aH ["yard","word"] ["yard","word"] (aB JB):=⟨rfl,rfl,rfl,⋯,rfl,⋯,⋯⟩
theorem sU:aH ["yard","word","short"] ["yard","word"] (aB oM):=⟨rfl,rfl,rfl,⋯,rfl,⋯,⋯⟩
theorem uh:aH ["word","letter"] ["word","letter"] (aB i0):=⟨rfl,rfl,rfl,⋯,rfl,⋯,⋯⟩
theorem g9:aH ["yard","words","longer","word"] ["yard","words"] (aB i3):=⟨rfl,rfl,rfl,⋯,rfl,⋯,⋯⟩
theorem dI:aH ["yard","length","told","words","size"] ["yard","length"] (aB i4):=⟨rfl,rfl,rfl,⋯,rfl,⋯,⋯⟩
theorem ny:aH ["_law_script","_law_k","_law_cell","_law_seed"] ["_law_script","_law_k"] (aB BV):=⟨rfl,rfl,rfl,⋯,rfl,⋯,⋯⟩
theorem sV:aH ["_law_box_here","_law_many","_law_digit","_law_one"] ["_law_box_here","_law_many"] (aB xP):=⟨rfl,rfl,rfl,⋯,rfl,⋯,⋯⟩
theorem oO:aH ["_law_letter","_law_small","_law_capital"] ["_law_letter"] (aB sO):=⟨rfl,rfl,rfl,⋯,rfl,⋯,⋯⟩
theorem sW:aH ["_law_p","_law_q"] ["_law_p","_law_q"] (aB oN):=⟨rfl,rfl,rfl,⋯,rfl,⋯,⋯⟩
theorem iH:aH ["_law_x","_law_y","_law_p","_law_q","_law_found","_law_at","_law_k"] ["_law_x","_law_y","_law_p","_law_q"] (aB xQ):=⟨rfl,rfl,rfl,⋯,rfl,⋯,⋯⟩
theorem qx:aH ["_law_x","_law_y","_law_length","_law_found","_law_p","_law_q"] ["_law_x","_law_y","_law_length"] (aB xR):=⟨rfl,rfl,rfl,⋯,rfl,⋯,⋯⟩
theorem eO:aH ["_law_script","_law_k","_law_box_here","_law_length","_law_left","_law_x","_law_y","_law_at","_law_yard","_law_due_here"] ["_law_script"] (aB DC):=⟨rfl,rfl,rfl,⋯,rfl,⋯,⋯⟩
theorem sZ:aH ["self","yard","word","longest","steps","rounds"] ["self","yard","word","longest"] (aB kO):=⟨rfl,rfl,rfl,⋯,rfl,⋯,⋯⟩
theorem Fh:aH ["self","strand","way","place"] ["self","strand","way","place"] (aB iF):=⟨rfl,rfl,rfl,⋯,rfl,⋯,⋯⟩
section
variable{P:Program}{w:World}{K:c8}{mg:Str->Option Value}{base:Heap}{f0 f1 f2 f3 f4 f5 f6 f7 f8 f9 R0 R1 R3 R4 R5 R6 R7 R8 R9 JC JD R_ Sa Sb Sd Se Sf Sg Sh Si Sj Sk Sl Sm So Sq Sr Ss Su QX QY aN aW lK g8 i6 nu:Addr}{d0 d1 d2 d3 d4 d5 d6 d7 d8 d9 Sv Sw Sx Sy Sz SA SD SE SF SG SH SI SJ SK SM SN SO SQ SR SU SV SX SY S0 S3 S4 S5 S6 S7 QZ Q0 zY sP:FuncData}[Cw base mg]
variable(T:Txt K mg f0 f1 f2 f3 f4 f5 f6 f7 f8 f9 R0 R1 R3 R4 R5 R6 R7 R8 R9 JC JD R_ Sa Sb Sd Se Sf Sg Sh Si Sj Sk Sl Sm So Sq Sr Ss Su QX QY aN aW lK g8 i6 nu d0 d1 d2 d3 d4 d5 d6 d7 d8 d9 Sv Sw Sx Sy Sz SA SD SE SF SG SH SI SJ SK SM SN SO SQ SR SU SV SX SY S0 S3 S4 S5 S6 S7 QZ Q0 zY sP)
include T
theorem ui:bD P w K mg base eQ 1 R1 Sw ["words","band"] (lF K):=by
 refine T.F11.fn.ok cX (λvs H Q E h=>rZ h) (λ_ _ _ _ H vs Q E hr h=>?_)
 refine let Z4:TS:=_;let Z3:TS:=_;let Z2:TS:=_;let Z1:TS:=_;let Z0:TS:=_;⟨_,(aa (aA (i:=2) cX.nd (dN bW))
   (ah Z0 (aa (cN PassesOwn.never rfl (yM K rfl rfl T.z_enumerate (ag (pv 0))) (qb (n:=2) K rfl rfl (fq (aV (i:=3) cX.nd rfl (Or.inl rfl)) (fq (aV (i:=4) cX.nd rfl (Or.inl rfl)) p7))) (ah Z1 (aj (cN PassesOwn.never rfl (GB rfl T.z_enumerate (ag (pv 4))) (qb (n:=2) K rfl rfl (fq (aV (i:=5) cX.nd rfl (Or.inl rfl)) (fq (aV (i:=6) cX.nd rfl (Or.inl rfl)) p7))) (ah Z2 (aj (c_ (bf jy (fj K rfl Qbd Qfr Qfp qN (pv 6)) (pv 1) (aZ _)) (ah Z3 (aj (d_ (cJ K rfl Qbn Qdn Qdm hV (pv 2) (ag (dz (ai (pv 3) (ag (pv 5))))))))) b9)))))))
   (ah Z4 (aj (aM (pv 2))))))),?_⟩
 obtain ⟨wt,ws,band,rfl,vW,hf,hw,hb,q⟩:=h
 have hs:=Zs1
 walk_at "wk"
 intro p1 n1
 refine ⟨_,rfl,wt,rfl,⟨_,di.of ((az.upd n1) _ _ vW)⟩,?_⟩
 refine let j9:Nat->L2.St->Hp->Prop:=(λj σ H'=>∃(ps:List Pr) (cv wv pv lv:Option V),σ=[some (.ref wt),some (.str (S [band])),some (.ref p1),cv,wv,pv,lv]/\H' p1=some (.lst (vE ps))/\(∀p∈ps,pQ H' p)/\ps.map Pr.pair=dc band ws j/\(ps:)<=12*j/\az H H');u9 (K:=K) (a:=wt) (xs:=dD ws) j9
  ⟨[],none,none,none,none,rfl,ae,λ_ h=>absurd h Qaj,rfl,Qau _,az.upd n1⟩ (λj σ H' _ ⟨_,_,_,_,_,_,_,_,_,_,h⟩=>di.of (h _ _ vW)) ?_ ?_
 ·rintro j x σ H1 T hx ⟨ps,cv,wv,pv,lv,rfl,hp,yV,vc,kU,s1⟩ nT
  have hj:j<(ws:):=by
   have:=(OC.mp hx).1
   rwa [cy]at this
  rw[rz hj]at hx
  cases hx
  have J3:ws[j]? =some ws[j]:=OD hj
  obtain ⟨x9,NR⟩:=hw _ (Qb3 hj)
  generalize ws[j]=w at J3 x9 NR ⊢
  refine ⟨T,_,rfl,di.of ae,rfl,_,_,rfl,_,_,rfl,rfl,?_⟩
  have sT:=az.upd (o:= .tup [.int j,.str (S w)]) nT
  refine ⟨_,rfl,w,rfl,?_⟩
  refine let z8:Nat->L2.St->Hp->Prop:=(λm σ H'=>∃(us:List Pr) (pv lv:Option V),σ=[some (.ref wt),some (.str (S [band])),some (.ref p1),some (.int j),some (.str (S w)),pv,lv]/\H' p1=some (.lst (vE us))/\(∀p∈us,pQ H' p)/\us.map Pr.pair=dc band ws j++ja band j w m/\(us:)<=12*j+m/\az H H');GC (l:=w) z8
   ⟨ps,pv,lv,rfl,sT _ _ hp,λp tZ=>(yV p tZ).same sT,by rw[vc];show _=_++[];rw[Qa4],(),s1.trans sT⟩ ?_ ?_
  ·rintro m l σ H2 T2 hm ⟨us,pv2,lv2,rfl,wL,Fs,Fi,S8,s2⟩ nT2
   have hmw:m<(w:):=(OC.mp hm).1
   have VE:=x9 l (Qas hm)
   have es:=Bu (band:=band) (c:=j) hm
   have WO:=az.upd (o:= .tup [.int m,.str (S [l])]) nT2
   refine ⟨T2,_,rfl,di.of ae,rfl,_,_,rfl,_,_,rfl,rfl,?_⟩
   refine ⟨_,rfl,rfl,l,rfl,rfl,VE.lt,_,rfl,[PyProof.Rows.lo1 l],[band],rfl,rfl,_,rfl,?_⟩
   have ev:decide ([PyProof.Rows.lo1 l]=[band])=Bt band l:=by rw[<-Iv hb VE];simp
   rw[ev]
   have Q8:=WO _ _ wL
   walk_at"j"
   ·rw[if_pos z]at es
    refine ⟨_,rfl,.inl ⟨rfl,_,bL.of Q8⟩,_,rfl,_,rfl,by show 2<=sizeLine;decide,λt nt=>?_⟩
    have Fj:=(az.upd (o:= .tup [.int j,.int m]) nt) _ _ Q8
    have s3:=WO.trans (az.upd (o:= .tup [.int j,.int m]) nt)
    refine ⟨p1,_,_,rfl,rfl,Fj,by rw[xx];lia,?_⟩
    refine ⟨us++[⟨t,j,m⟩],_,_,rfl,by rw[ae];exact congrArg (λx=>some (HO.lst x)) (Ip us ⟨t,j,m⟩),λp tZ=>?_,by rw[Qaq,Fi,es,RI];rfl,by rw[T6];show (us:)+1<=_;lia,λa o ea=>by rw[au (ao ea n1)];exact s3 _ _ (s2 a o ea)⟩
    rcases Qap.mp tZ with g | g
    ·exact ((Fs p g).same s3).ts (fL.KS Fj)
    ·have e2:=Wi.mp g
     subst e2
     exact pQ.ts (H:=upd (upd H2 T2 (.tup [.int m,.str (S [l])])) t (.tup [.int j,.int m])) ⟨ae,by show j<1000;lia,by show m<1000;lia⟩ (fL.KS Fj)
   ·rw[if_neg z,Qa4]at es
    exact ⟨us,_,_,rfl,Q8,λp tZ=>(Fs p tZ).same WO,by rw[Fi,es],(),s2.trans WO⟩
  ·rintro σ H2 ⟨us,pv2,lv2,rfl,wL,Fs,Fi,S8,s2⟩
   exact ⟨us,_,_,_,_,rfl,wL,Fs,by rw[Fi,zA J3],(),s2⟩
 ·rintro σ H1 ⟨ps,cv,wv,pv,lv,rfl,hp,yV,vc,kU,s1⟩
  rw[cy]at vc
  exact ⟨_,rfl,q p1 ps H1 n1 hp yV vc s1⟩
theorem Fl:bD P w K mg base eQ 1 g8 sP ["self","strand","way","place"] (vL K aN):=by
 refine T.Q6.ok Fh (λvs H Q E h=>BC h) (λ_ _ _ _ H vs Q E hr h=>?_)
 refine let Z1:TS:=_;let Z0:TS:=_;⟨_,(aa (jv (pv 0) (pv 1) rfl)
   (ah Z0 (aa (jv (pv 0) (pv 2) rfl)
   (ah Z1 (aj (jv (pv 0) (pv 3) rfl)))))),?_⟩
 obtain ⟨x,dx,t,w',p,rfl,hx,q⟩:=h
 refine ⟨_,rfl,_,rfl,x,aN,dx,_,rfl,hx,T.dP,T.n_Seen_strand,by show 0<1000;decide,?_⟩
 refine ⟨_,rfl,_,rfl,x,aN,dx,_,rfl,ae,T.dP,T.n_Seen_way,Qbm (de _ _ _) (by show 0+1<1000;decide),?_⟩
 refine ⟨_,rfl,_,rfl,x,aN,dx,_,rfl,ae,T.dP,T.n_Seen_place,Qbm (de _ _ _) (Qbm (Qc9 (de _ _ _)) (by show 0+1+1<1000;decide)),?_⟩
 exact q _ ae λb o e z=>by rw[au z,au z,au z];exact e
theorem s_:bD P w K mg base eQ 3 Se SN ["words","ways","strand"] (jZ K aW aN):=by
 have z9:=Fl (P:=P) (w:=w) (base:=base) T
 refine T.F25.fn.ok gw (λvs H Q E h=>pU h) (λ_ _ _ _ H vs Q E hr h=>?_)
 refine let Z3:TS:=_;let Z2:TS:=_;let Z1:TS:=_;let Z0:TS:=_;⟨_,(aa (aA (i:=3) gw.nd (bj (bJ K rfl) (pv 0) (bj (bJ K rfl) (pv 2) aq (λ_ _=>rfl)) (λ_ _=>rfl)))
   (ah Z0 (aa (aA (i:=4) gw.nd (bj (bJ K rfl) (pv 2) aq (λ_ _=>rfl)))
   (ah Z1 (aa (c_ (js (fj K rfl Qbd Qfg Qff lS (bj qK (pv 3) (pv 4) (λ_ _=>rfl)))) (ah Z2 (aj (aM (p8 T.JG z9 (hr.mono ∅) rfl T.JF T.JH .nil gG (ai (pv 2) (ai (bj (bJ K rfl) (bj (b8 K rfl) (pv 1) (bj (bJ K rfl) (pv 2) aq (λ_ _=>rfl)) (λ_ _=>rfl)) aq (λ_ _=>rfl)) (ag (pv 4)))))))) b9)
   (ah Z3 (aj (aM (p8 T.JG z9 (hr.mono ∅) rfl T.JF T.JH .nil gG (ai (pv 2) (ai (bj (bJ K rfl) (bj (b8 K rfl) (pv 1) (bj (bJ K rfl) (pv 2) aq (λ_ _=>rfl)) (λ_ _=>rfl)) aq (λ_ _=>rfl)) (ag (aD eh (aD eh (aY bM rfl T.z_len Qce (ag (pv 3))) aq) (pv 4)))))))))))))),?_⟩
 obtain ⟨y,lg,wt,vt,st,w',ws,nE,p,c,i,rfl,hy,vW,WQ,oS,hw,hp,ok,hi,q⟩:=h
 have hs:=Zs1
 have NR:=ok.on.uz
 have hlz:=ok.on.lz
 have M0:=ok.on.sw
 have h8:(rd w' i)<128:=(hy.lt _ (M0.rd _)).lt
 have hc:(dD ws)[c]? =some (V.str (S w')):=by
  have hl:=(OC.mp hw).1
  rw[rz hl,(OC.mp hw).2]
 refine ⟨_,rfl,_,rfl,st,_,0,_,rfl,rfl,di.of oS,rfl,wt,_,_,_,rfl,rfl,di.of vW,dj hc,?_⟩
 refine ⟨_,rfl,st,_,1,_,rfl,rfl,di.of oS,rfl,?_⟩
 refine ⟨_,rfl,_,rfl,w',_,_,rfl,rfl,(),by rw[Hy () ()],?_⟩
 have made:∀(x dx:Addr) (H':Hp) (t w2:Addr) (pl:Nat),H x=none->H dx=none->dx≠x->bE x (L2.upd (L2.upd H dx (.own x)) x (.ins aN dx [])) H'->az H H':=λx dx H' t w2 pl nx Qr ne sm a o e=>by
  refine sm a o ?_ (ao e nx)
  rw[au (ao e nx),au (ao e Qr)]
  exact e
 refine ⟨rfl,_,rfl,rfl,h8,?_⟩
 walk_at "rd"
 walk_at"j"
 ·refine ⟨_,rfl,_,rfl,_,rfl,st,_,0,_,rfl,rfl,di.of oS,rfl,vt,_,_,_,rfl,rfl,bL.of WQ,dj (Ja hp),p.t,_,0,_,rfl,rfl,di.of ok.tp,rfl,_,rfl,λx dx nx Qr ne=>⟨x,dx,st,p.a,i,rfl,ae,λH' hx sm=>⟨rfl,?_⟩⟩⟩
  have Q9:=made x dx H' st p.a i nx Qr ne sm
  exact q ⟨x,st,p.a,c,i,w',i,p.r⟩ H' ⟨rfl,rfl,by rw[if_pos z],by rw[if_pos z]⟩ rfl ⟨⟨dx,hx⟩,Q9 _ _ oS,ok.on.same Q9,hi⟩ nx Q9
 ·have ei:((w':):Int) - 1 - i=(((w':) - 1 - i:Nat):Int):=by lia
  refine ⟨_,rfl,_,rfl,_,rfl,st,_,0,_,rfl,rfl,di.of oS,rfl,vt,_,_,_,rfl,rfl,bL.of WQ,dj (Ja hp),p.t,_,1,_,rfl,rfl,di.of ok.tp,rfl,_,rfl,w',rfl,(),_,_,rfl,rfl,_,rfl,_,_,rfl,rfl,λx dx nx Qr ne=>⟨x,dx,st,p.b,(w':) - 1 - i,by rw[<-ei];rfl,ae,λH' hx sm=>⟨rfl,?_⟩⟩⟩
  have Q9:=made x dx H' st p.b 0 nx Qr ne sm
  exact q ⟨x,st,p.b,c,i,bC w',(w':) - 1 - i,p.q⟩ H' ⟨rfl,rfl,by rw[if_neg z],by rw[if_neg z]⟩ rfl ⟨⟨dx,hx⟩,Q9 _ _ oS,ok.bk.same Q9,by show (w':) - 1 - i<(bC w':);rw[bA];lia⟩ nx Q9
theorem j_:bD P w K mg base eQ 1 JC SG ["seen","start","end"] (gq K aW aN):=by
 refine T.FE.fn.ok j8 (λvs H Q E h=>pR h) (λ_ _ _ _ H vs Q E hr h=>?_)
 refine let Z0:TS:=_;⟨_,(aa (aA (i:=3) j8.nd (aD bo (bQ K rfl (pv 0) rfl) aq))
   (ah Z0 (aj (aM (cI qL (bQ K rfl (bQ K rfl (pv 0) rfl) rfl) (ck (aD bo (pv 3) (pv 1))) (ck (aD bo (pv 3) (pv 2)))))))),?_⟩
 obtain ⟨y,lg,s,x,z,rfl,hz,hs,UM,q⟩:=h
 obtain ⟨d1,e1⟩:=hs.ob
 obtain ⟨d2,e2⟩:=hs.wy.ob
 have:=hs.wy.uz
 have:=hs.wy.lz
 have h1:1<=(s.u:):=Qbm (Qau _) hs.pz
 have rl:=m_ (lg:=lg) h1
 have Ve:(100000:Nat)<sizeLine:=by decide
 refine ⟨_,rfl,s.a,aN,d1,_,_,rfl,e1,T.dP,T.n_Seen_place,m9,?_⟩
 walk_at "rd"
 refine ⟨s.a,aN,d1,_,_,rfl,e1,T.dP,T.n_Seen_way,oB,s.wy,aW,d2,_,_,rfl,e2,T.gQ,T.n_Way_onward,Vq,?_⟩
 walk_at "rd"
 refine ⟨by rw[vM,dq];lia,?_⟩
 rw[show (s.p:Int)+1=((s.p+1:Nat):Int) by lia,Dd UM]
 exact q
theorem lN:bD P w K mg base eQ 1 JD SH ["seen","start","end"] (gU K aW aN):=by
 refine T.FF.fn.ok lM (λvs H Q E h=>rW h) (λ_ _ _ _ H vs Q E hr h=>?_)
 refine let Z0:TS:=_;⟨_,(aa (aA (i:=3) lM.nd (aD eh (aD eh (bQ K rfl (bQ K rfl (pv 0) rfl) rfl) aq) (bQ K rfl (pv 0) rfl)))
   (ah Z0 (aj (aM (cI qL (bQ K rfl (bQ K rfl (pv 0) rfl) rfl) (ck (aD bo (pv 3) (pv 1))) (ck (aD bo (pv 3) (pv 2)))))))),?_⟩
 obtain ⟨y,lg,s,x,z,rfl,hz,hs,UM,q⟩:=h
 obtain ⟨d1,e1⟩:=hs.ob
 obtain ⟨d2,e2⟩:=hs.wy.ob
 have:=hs.wy.uz
 have:=hs.wy.lz
 have hp:=hs.pz
 have h1:1<=(s.u:):=Qbm (Qau _) hs.pz
 have rl:=m_ (lg:=lg) h1
 have Ve:(100000:Nat)<sizeLine:=by decide
 refine ⟨_,rfl,s.a,aN,d1,_,_,rfl,e1,T.dP,T.n_Seen_way,oB,s.wy,aW,d2,_,_,rfl,e2,T.gQ,T.n_Way_size,Dc,?_⟩
 walk_at "rd"
 refine ⟨s.a,aN,d1,_,_,rfl,e1,T.dP,T.n_Seen_place,m9,?_⟩
 walk_at "rd"
 refine ⟨s.a,aN,d1,_,_,rfl,e1,T.dP,T.n_Seen_way,oB,s.wy,aW,d2,_,_,rfl,e2,T.gQ,T.n_Way_backward,L6,?_⟩
 walk_at "rd"
 refine ⟨by rw[vM,Qa0,dq];lia,?_⟩
 rw[show ((s.u:):Int) - 1 - s.p=(((s.u:) - 1 - s.p:Nat):Int) by lia,Dd UM]
 exact q
theorem BW:bD P w K mg base eQ 2 R_ SI ["steps","one","other","enough"] (rX K aW aN JC JD):=by
 have cA:=j_ (P:=P) (w:=w) (base:=base) T
 have cT:=lN (P:=P) (w:=w) (base:=base) T
 refine T.Y6.fn.ok dQ (λvs H Q E h=>zH h) (λ_ _ _ _ H vs Q E hr h=>?_)
 refine let Z8:TS:=_;let Z7:TS:=_;let Z6:TS:=_;let Z5:TS:=_;let Z4:TS:=_;let Z3:TS:=_;let Z2:TS:=_;let Z1:TS:=_;let Z0:TS:=_;⟨_,(aa (aA (i:=4) dQ.nd aq)
   (ah Z0 (aa (aA (i:=5) dQ.nd aq)
   (ah Z1 (Ck (fV PassesOwn.never (PW.pt (wa (bf uE (pv 4) (pv 3) (aZ _)) (p6 (bf jy (mI (pv 0) cA (hr.mono ∅) T.FE.fn.kp T.FE.bd cT (hr.mono ∅) T.FF.fn.kp T.FF.bd gG (ai (pv 1) (ai (pv 4) (ag (aD bo (pv 4) (pv 5)))))) (mI (pv 0) cA (hr.mono ∅) T.FE.fn.kp T.FE.bd cT (hr.mono ∅) T.FF.fn.kp T.FF.bd gG (ai (pv 2) (ai (pv 4) (ag (aD bo (pv 4) (pv 5)))))) (aZ _))))) (ah Z2 (aa (lQ (i:=4) dQ.nd rfl (Or.inl rfl) (pv 5) wc)
   (ah Z3 (aj (lQ (i:=5) dQ.nd rfl (Or.inl rfl) aq Pm))))))
   (ah Z4 (Ck (fV PassesOwn.never (bf uF (pv 5) aq (aZ _)) (ah Z5 (aa (lQ (i:=5) dQ.nd rfl (Or.inl rfl) aq Ld)
   (ah Z6 (aj (c_ (bf jy (mI (pv 0) cA (hr.mono ∅) T.FE.fn.kp T.FE.bd cT (hr.mono ∅) T.FF.fn.kp T.FF.bd gG (ai (pv 1) (ai (pv 4) (ag (aD bo (pv 4) (pv 5)))))) (mI (pv 0) cA (hr.mono ∅) T.FE.fn.kp T.FE.bd cT (hr.mono ∅) T.FF.fn.kp T.FF.bd gG (ai (pv 2) (ai (pv 4) (ag (aD bo (pv 4) (pv 5)))))) (aZ _)) (ah Z7 (aj (lQ (i:=4) dQ.nd rfl (Or.inl rfl) (pv 5) wc))) b9))))))
   (ah Z8 (aj (aM (pv 4))))))))))),?_⟩
 obtain ⟨y,lg,s1,t1,b,en,rfl,hz,hs,ht,hen,q⟩:=h
 have call:∀(u:Sn) (x d:Nat) (t:TA) (σ:L2.St) (Q':VK),σ[0]? =some (some (V.ref (if b=true then JC else JD)))->jV H aW aN y lg u->(∀R:List V->Hp->Prop,R [V.ref u.a,V.int x,V.int ((x:Int)+d)] H->t σ H R)->Q' (V.str (S (seg (Qo b y lg u) x (x+d)))) H->G4 JC JD (gq K aW aN) (gU K aW aN) E0 (N6 0) t σ H Q':=by
  intro u x d t σ Q' h0 hu YY hq
  refine ⟨_,h0,?_⟩
  cases b
  ·exact .inr ⟨rfl,YY _ ⟨y,lg,u,x,x+d,by rw[Qbl],hz,hu,(),hq⟩⟩
  ·exact .inl ⟨rfl,YY _ ⟨y,lg,u,x,x+d,by rw[Qbl],hz,hu,(),hq⟩⟩
 generalize (if b=true then JC else JD)=fx at call ⊢
 generalize el:Qo b y lg s1=l at q
 generalize em:Qo b y lg t1=m at q
 walk_at "rd"
 refine ⟨λσ H'=>∃(mn sz e:Nat),σ=[some (.ref fx),some (.ref s1.a),some (.ref t1.a),some (.int en),some (.int mn),some (.int sz)]/\H'=H/\sz=2 ^ e/\sz<=1000000/\mn<=1000000/\jW l m mn/\(en<=mn\/∃k,mn<=k/\k<mn+sz/\l[k]?≠ m[k]?),?_,?_⟩
 ·refine ⟨λw σ H'=>∃(mn sz e:Nat),σ=[some (.ref fx),some (.ref s1.a),some (.ref t1.a),some (.int en),some (.int mn),some (.int sz)]/\H'=H/\w=en - mn/\sz=2 ^ e/\mn+1=sz/\mn<=2*en/\jW l m mn,⟨_,0,1,0,rfl,rfl,rfl,rfl,rfl,Qau _,λk hk=>absurd hk (Qdx _)⟩,?_⟩
  rintro w' σ H2 ⟨mn,sz,e,rfl,rfl,rfl,he,WR,WC,ha⟩
  walk_at "rd"
  walk_at"j"
  ·have z1:(mn:Int)<en:=of_decide_eq_true z
   refine call s1 mn sz _ _ _ rfl hs (λR hR=>⟨_,rfl,_,rfl,_,rfl,_,rfl,_,_,rfl,rfl,hR⟩) ?_
   refine call t1 mn sz _ _ _ rfl ht (λR hR=>⟨_,rfl,_,rfl,_,rfl,_,rfl,_,_,rfl,rfl,hR⟩) ?_
   rw[el,em]
   walk_at "rd"
   refine cZ (λy1=>?_) (λy1=>?_)
   ·have y2:seg l mn (mn+sz)=seg m mn (mn+sz):=by simpa using of_decide_eq_true y1
    refine ⟨_,rfl,_,rfl,_,_,rfl,rfl,_,rfl,_,_,rfl,rfl,.inl ⟨(),()⟩,?_⟩
    refine ⟨en - (mn+sz),(),mn+sz,sz*2,e+1,by rw[Qbl,Int.natCast_mul];rfl,rfl,rfl,by rw[he,Nat.pow_succ],(),(),ha.more y2⟩
   ·have y2:seg l mn (mn+sz)≠seg m mn (mn+sz):=λw=>y1 (decide_eq_true (by rw[w]))
    exact ⟨mn,sz,e,rfl,rfl,he,(),(),ha,.inr (IW y2)⟩
  ·have z1: ¬(mn:Int)<en:=λw=>z (decide_eq_true w)
   exact ⟨mn,sz,e,rfl,rfl,he,(),(),ha,.inl ()⟩
 ·rintro σ H2 ⟨mn,sz,e,rfl,rfl,he,hsz,WC,ha,hb⟩
  refine ⟨λσ H'=>∃mn:Nat,σ=[some (.ref fx),some (.ref s1.a),some (.ref t1.a),some (.int en),some (.int mn),some (.int 1)]/\H'=H2/\jW l m mn/\(en<=mn\/l[mn]?≠ m[mn]?),?_,?_⟩
  ·refine ⟨λw σ H'=>∃(mn sz e:Nat),σ=[some (.ref fx),some (.ref s1.a),some (.ref t1.a),some (.int en),some (.int mn),some (.int sz)]/\H'=H2/\sz=w/\sz=2 ^ e/\sz<=1000000/\mn<=3000000 - 2*sz/\jW l m mn/\(en<=mn\/∃k,mn<=k/\k<mn+sz/\l[k]?≠ m[k]?),⟨_,mn,sz,e,rfl,rfl,rfl,he,hsz,(),ha,hb⟩,?_⟩
   rintro w' σ H3 ⟨mn,sz,e,rfl,rfl,rfl,he,hsz,WC,ha,hb⟩
   walk_at "rd"
   walk_at"j"
   ·have z1:(1:Int)<sz:=of_decide_eq_true z
    obtain ⟨e',rfl⟩:∃e',e=e'+1:=⟨e - 1,by
     cases e with
     | zero=>rw[he]at z1;simp at z1
     | succ e=>rfl⟩
    have hh:sz=2*2 ^ e':=by rw[he,Nat.pow_succ,Qc8]
    have hp:0<2 ^ e':=Nat.pow_pos ∅
    generalize VF:2 ^ e'=h2 at hh hp
    have Y9:=VF.symm
    have ed:(sz:Int) / 2=(h2:Nat):=by lia
    refine ⟨_,rfl,_,_,rfl,rfl,⟨∅,∅⟩,?_⟩
    refine call s1 mn h2 _ _ _ rfl hs (λR hR=>⟨_,rfl,_,rfl,_,rfl,_,rfl,_,_,rfl,rfl,by rw[ed];exact hR⟩) ?_
    refine call t1 mn h2 _ _ _ rfl ht (λR hR=>⟨_,rfl,_,rfl,_,rfl,_,rfl,_,_,rfl,rfl,by rw[ed];exact hR⟩) ?_
    rw[el,em]
    walk_at "rd"
    have NS:∃e2,h2=2 ^ e2:=⟨e',Y9⟩
    obtain ⟨e2,he2⟩:=NS
    refine cZ (λy1=>?_) (λy1=>?_)
    ·have y2:seg l mn (mn+h2)=seg m mn (mn+h2):=by simpa using of_decide_eq_true y1
     refine ⟨_,rfl,_,rfl,_,_,rfl,rfl,?_⟩
     refine ⟨h2,(),mn+h2,h2,e2,by rw[Qbl, <-ed];rfl,rfl,rfl,he2,(),(),ha.more y2,?_⟩
     rcases hb with hb | ⟨k,k1,k2,k3⟩
     ·exact .inl ()
     ·refine .inr ⟨k,Classical.byContradiction λw=>k3 (BD.mp y2 k k1 ()),(),k3⟩
    ·have y2:seg l mn (mn+h2)≠seg m mn (mn+h2):=λw=>y1 (decide_eq_true (by rw[w]))
     exact ⟨h2,(),mn,h2,e2,by rw[<-ed];rfl,rfl,rfl,he2,(),(),ha,.inr (IW y2)⟩
   ·have z1: ¬(1:Int)<sz:=λw=>z (decide_eq_true w)
    have hp:0<2 ^ e:=Nat.pow_pos ∅
    have e1:sz=1:=by lia
    subst e1
    exact ⟨mn,rfl,rfl,ha,hb.imp id λ⟨k,k1,k2,k3⟩=>by rwa [show k=mn by lia]at k3⟩
  ·rintro σ H3 ⟨mn,rfl,rfl,ha,hb⟩
   exact ⟨_,rfl,q mn ha hb⟩
theorem BX:bD P w K mg base eQ 1 Sa SJ ["seen"] (rY K aW aN):=by
 refine T.Y7.fn.ok md (λvs H Q E h=>zI h) (λ_ _ _ _ H vs Q E hr h=>?_)
 refine let Z3:TS:=_;let Z2:TS:=_;let Z1:TS:=_;let Z0:TS:=_;⟨_,(aa (aA (i:=1) md.nd (bQ K rfl (pv 0) rfl))
   (ah Z0 (aa (aA (i:=2) md.nd (bj (bJ K rfl) (bQ K rfl (pv 0) rfl) aq (λ_ _=>rfl)))
   (ah Z1 (aa (c_ (js (bQ K rfl (pv 1) rfl)) (ah Z2 (aj (aM (dz (ai (pv 2) (ag (aD ft (bQ K rfl (pv 0) rfl) (bQ K rfl (pv 1) rfl)))))))) b9)
   (ah Z3 (aj (aM (dz (ai (yp qD (pv 2)) (ag (yp qD (aD ft (aD eh (aD eh (bQ K rfl (pv 1) rfl) aq) (bQ K rfl (pv 0) rfl)) (bQ K rfl (pv 1) rfl)))))))))))))),?_⟩
 obtain ⟨y,lg,s1,rfl,hs,q⟩:=h
 obtain ⟨d1,e1⟩:=hs.ob
 obtain ⟨d2,e2⟩:=hs.wy.ob
 have hp:=hs.pz
 have rp:=jY hs.wy.sw.ne hs.wy.rt
 have u1:=hs.wy.uz
 have u2:=hs.wy.lz
 refine ⟨_,rfl,s1.a,aN,d1,_,_,rfl,e1,T.dP,T.n_Seen_way,oB,?_⟩
 refine ⟨_,rfl,s1.a,aN,d1,_,_,rfl,e1,T.dP,T.n_Seen_strand,vK,s1.t,_,0,_,rfl,rfl,di.of hs.st,rfl,?_⟩
 refine ⟨_,rfl,s1.wy,aW,d2,_,_,rfl,e2,T.gQ,T.n_Way_leads,IV,?_⟩
 walk_at "rd"
 have ed1:(s1.p:Int) / (s1.r:Int)=((s1.p / s1.r:Nat):Int):=(Qfn _ _).symm
 have ed2:(((s1.u:):Int) - 1 - s1.p) / (s1.r:Int)=((((s1.u:) - 1 - s1.p) / s1.r:Nat):Int):=by
  rw[Qfn];congr 1;lia
 walk_at"j"
 ·refine ⟨_,rfl,_,rfl,s1.a,aN,d1,_,_,rfl,e1,T.dP,T.n_Seen_place,m9,_,rfl,s1.wy,aW,d2,_,_,rfl,e2,T.gQ,T.n_Way_root_size,qq,_,_,rfl,rfl,⟨(),()⟩,by show 2<=sizeLine;decide,λp np=>?_⟩
  refine q p _ np ?_ (az.upd np)
  rw[ae]
  unfold BE
  rw[if_pos z, <-ed1]
 ·refine ⟨_,rfl,_,rfl,_,rfl,s1.wy,aW,d2,_,_,rfl,e2,T.gQ,T.n_Way_size,Dc,_,_,rfl,rfl,_,rfl,s1.a,aN,d1,_,_,rfl,e1,T.dP,T.n_Seen_place,m9,_,_,rfl,rfl,_,rfl,s1.wy,aW,d2,_,_,rfl,e2,T.gQ,T.n_Way_root_size,qq,_,_,rfl,rfl,⟨(),()⟩,_,rfl,by show 2<=sizeLine;decide,λp np=>?_⟩
  refine q p _ np ?_ (az.upd np)
  rw[ae]
  unfold BE
  rw[if_neg z, <-ed2]
theorem tf:bD P w K mg base eQ 3 Sb SK ["one","other"] (jX K aW aN):=by
 have vX:=BW (P:=P) (w:=w) (base:=base) T
 have vY:=BX (P:=P) (w:=w) (base:=base) T
 have cA:=j_ (P:=P) (w:=w) (base:=base) T
 have cT:=lN (P:=P) (w:=w) (base:=base) T
 refine T.F23.fn.ok eN (λvs H Q E h=>pT h) (λ_ _ _ _ H vs Q E hr h=>?_)
 refine let Z6:TS:=_;let Z5:TS:=_;let Z4:TS:=_;let Z3:TS:=_;let Z2:TS:=_;let Z1:TS:=_;let Z0:TS:=_;⟨_,(aa (aA (i:=2) eN.nd (aD bo (bQ K rfl (bQ K rfl (pv 0) rfl) rfl) (bQ K rfl (bQ K rfl (pv 1) rfl) rfl)))
   (ah Z0 (aa (aA (i:=3) eN.nd (ak vX T.Y6 hr (ai (B9 (v:= .ref JC) rfl T.FE.mg rfl) (ai (pv 0) (ai (pv 1) (ag (pv 2)))))))
   (ah Z1 (aa (aA (i:=4) eN.nd (ak vX T.Y6 hr (ai (B9 (v:= .ref JD) rfl T.FF.mg rfl) (ai (pv 0) (ai (pv 1) (ag (pv 2)))))))
   (ah Z2 (aa (c_ (bf FV (aY (ke rfl) rfl T.z_min boot_min (ai (pv 3) (ag (pv 4)))) (pv 2) (aZ _)) (ah Z3 (aj (aM (eA (O0 K rfl hr) (ak vY T.Y7 hr (ag (pv 0))) (ak vY T.Y7 hr (ag (pv 1))) (aZ _))))) b9)
   (ah Z4 (aa (c_ (bf MV (pv 3) (pv 4) (aZ _)) (ah Z5 (aj (aM (eA wD (ak cA T.FE hr (ai (pv 0) (ai (pv 3) (ag (aD bo (pv 3) aq))))) (ak cA T.FE hr (ai (pv 1) (ai (pv 3) (ag (aD bo (pv 3) aq))))) (aZ _))))) b9)
   (ah Z6 (aj (aM (eA wD (ak cT T.FF hr (ai (pv 0) (ai (pv 4) (ag (aD bo (pv 4) aq))))) (ak cT T.FF hr (ai (pv 1) (ai (pv 4) (ag (aD bo (pv 4) aq))))) (aZ _)))))))))))))),?_⟩
 obtain ⟨y,lg,s1,t1,rfl,hy,hz,hs,ht,h0,q⟩:=h
 obtain ⟨d1,e1⟩:=hs.ob
 obtain ⟨d2,e2⟩:=hs.wy.ob
 obtain ⟨d3,e3⟩:=ht.ob
 obtain ⟨d4,e4⟩:=ht.wy.ob
 have rp:=jY hs.wy.sw.ne hs.wy.rt
 have rp':=jY ht.wy.sw.ne ht.wy.rt
 have u1:=hs.wy.uz
 have u1':=ht.wy.uz
 have u2:=hs.wy.lz
 have ns:=hs.wy.sw.ne
 have nt:=ht.wy.sw.ne
 have lf:=aX hs.wy.sw (s1.p:Int)
 have WS:=aX ht.wy.sw (t1.p:Int)
 have as:=vN (lg:=lg) (s:=s1) (en:=s1.r+t1.r) hs.pz ()
 have at':=vN (lg:=lg) (s:=t1) (en:=s1.r+t1.r) ht.pz ()
 refine ⟨_,rfl,s1.a,aN,d1,_,_,rfl,e1,T.dP,T.n_Seen_way,oB,s1.wy,aW,d2,_,_,rfl,e2,T.gQ,T.n_Way_root_size,qq,_,rfl,t1.a,aN,d3,_,_,rfl,e3,T.dP,T.n_Seen_way,oB,t1.wy,aW,d4,_,_,rfl,e4,T.gQ,T.n_Way_root_size,qq,_,_,rfl,rfl,?_⟩
 refine ⟨_,rfl,_,rfl,_,rfl,y,lg,s1,t1,true,s1.r+t1.r,by rw[Qbl];rfl,hz,hs,ht,(),λm RM A0=>?_⟩
 refine ⟨_,rfl,_,rfl,_,rfl,y,lg,s1,t1,false,s1.r+t1.r,by rw[Qbl];rfl,hz,hs,ht,(),λn Ws we=>?_⟩
 have Y_:jW (Fy y lg s1) (Fy y lg t1) m:=RM
 have VG:s1.r+t1.r<=m\/(Fy y lg s1)[m]?≠ (Fy y lg t1)[m]?:= A0
 have Za:jW (Fz y lg s1) (Fz y lg t1) n:=Ws
 have VH:s1.r+t1.r<=n\/(Fz y lg s1)[n]?≠ (Fz y lg t1)[n]?:= we
 have ga:∀k,k<s1.r+t1.r->(Fy y lg s1)[k]? =some (Aj (ff y (sq s1.u s1.p) (k+1)))/\(Fy y lg t1)[k]? =some (Aj (ff y (sq t1.u t1.p) (k+1))):=λk hk=>⟨IX ns (),IX nt ()⟩
 have gb:∀k,k<s1.r+t1.r->(Fz y lg s1)[k]? =some (Aj (ff y (sq s1.u s1.p) (-(k:Int))))/\(Fz y lg t1)[k]? =some (Aj (ff y (sq t1.u t1.p) (-(k:Int)))):=λk hk=>⟨IZ ns hs.pz (),IZ nt ht.pz ()⟩
 refine ⟨_,rfl,_,rfl,_,_,rfl,?_⟩
 walk_at "rd"
 by_cases par:∀k,sq s1.u s1.p k=sq t1.u t1.p k
 ·have ef:sq s1.u s1.p=sq t1.u t1.p:=funext par
  have m1:s1.r+t1.r<=m:=Dj (λk hk=>by rw[(ga k hk).1,(ga k hk).2,ef]) VG
  have n1:s1.r+t1.r<=n:=Dj (λk hk=>by rw[(gb k hk).1,(gb k hk).2,ef]) VH
  refine cZ (λz=>?_) (λz=>absurd (decide_eq_true (show ((s1.r:Int)+t1.r)<=(if (n:Int)<m then (n:Int) else m) by split<;>lia)) z)
  refine ⟨_,rfl,y,lg,s1,rfl,hs,λp1 H1 np1 J_ VI=>⟨_,rfl,y,lg,t1,rfl,ht.same VI,λp2 H2 np2 wL b7=>?_⟩⟩
  refine ⟨p1,p2,_,_,_,_,rfl,rfl,di.of (b7 _ _ J_),di.of wL,?_⟩
  have e:JY (BE s1).1 (BE s1).2 (BE t1).1 (BE t1).2=bT (k_ y (2*lg) s1) (k_ y (2*lg) t1):=by
   unfold k_
   rw[ef,fE,L8]
  have kq:=q H2 (VI.trans b7)
  rw[<-e]at kq
  exact kq
 ·have eG:∃k,sq s1.u s1.p k≠sq t1.u t1.p k:=Classical.byContradiction λz=>par λk=>Classical.byContradiction λw=>z ⟨k,w⟩
  have z0:sq s1.u s1.p 0=sq t1.u t1.p 0:=by unfold sq;rw[Qek,Qek];exact h0
  obtain ⟨a,b,rn,ha,hb⟩:=dG (p:=s1.r) (q:=t1.r) () () (Df ns hs.wy.rt s1.p) (Df nt ht.wy.rt t1.p) z0 eG
  have pf:=Dh hy lf
  have pg:=Dh hy WS
  have key:=og hy lf WS rn [(BE s1).1,(BE s1).2] [(BE t1).1,(BE t1).2] (2*lg) 0 (Qau _) (Qau _) () ()
  have sa:ff y (sq s1.u s1.p) (a+1)≠ff y (sq t1.u t1.p) (a+1):=λw=>rn.hi (by
   unfold ff at w
   rw[show (a:Int)+1 - 1=a by lia, <-rn.oe a () ()]at w
   exact mW (hy.cl _ (lf.bO _)) (lf.bO _) (WS.bO _) w)
  have sb:ff y (sq s1.u s1.p) (-(b:Int))≠ff y (sq t1.u t1.p) (-(b:Int)):=λw=>by
   have c:=Bo hy lf WS (rn.oe (-(b:Int)) () ()) rn.lo
   unfold gS at c
   rw[w]at c
   simp at c
  have em:m=a:=Di ha (λk hk=>by
   rw[(ga k ()).1,(ga k ()).2]
   unfold ff
   rw[show (k:Int)+1 - 1=k by lia,rn.oe k () (),rn.oe (k+1) () ()]) (λw=>sa (Dg (pf _) (pg _) (by rw[(ga a ha).1,(ga a ha).2]at w;exact Qal w))) Y_ VG
  have en:n=b:=Di hb (λk hk=>by
   rw[(gb k ()).1,(gb k ()).2]
   unfold ff
   rw[rn.oe (-(k:Int)) () (),rn.oe (-(k:Int) - 1) () ()]) (λw=>sb (Dg (pf _) (pg _) (by rw[(gb b hb).1,(gb b hb).2]at w;exact Qal w))) Za VH
  subst em
  subst en
  refine cZ (λz=>absurd (show ((s1.r:Int)+t1.r)<=(if (n:Int)<m then (n:Int) else m) from of_decide_eq_true z) (by split<;>lia)) (λz=>?_)
  walk_at "rd"
  have AN:(m:Int)+1=((m+1:Nat):Int):=by lia
  have L3:(n:Int)+1=((n+1:Nat):Int):=by lia
  refine cZ (λz2=>?_) (λz2=>?_)
  ·have z3:m<=n:=by have:=of_decide_eq_true z2;lia
   refine ⟨_,rfl,_,rfl,_,rfl,_,_,rfl,rfl,y,lg,s1,m,m+1,by rw[<-AN];rfl,hz,hs,(),?_⟩
   refine ⟨_,rfl,_,rfl,_,rfl,_,_,rfl,rfl,y,lg,t1,m,m+1,by rw[<-AN];rfl,hz,ht,(),?_⟩
   refine ⟨_,_,rfl,rfl,?_⟩
   rw[if_pos z3]at key
   have e:decide (seg (Fy y lg s1) m (m+1)<seg (Fy y lg t1) m (m+1))=bT (k_ y (2*lg) s1) (k_ y (2*lg) t1):=by
    rw[qr (ga m ha).1,qr (ga m ha).2,I_]
    exact (decide_eq_decide.mpr (I0 (pf _) (pg _))).trans key.symm
   have kq:=q H (az.refl H)
   rw[<-e]at kq
   exact kq
  ·have z3: ¬m<=n:=λw=>z2 (decide_eq_true ())
   refine ⟨_,rfl,_,rfl,_,rfl,_,_,rfl,rfl,y,lg,s1,n,n+1,by rw[<-L3];rfl,hz,hs,(),?_⟩
   refine ⟨_,rfl,_,rfl,_,rfl,_,_,rfl,rfl,y,lg,t1,n,n+1,by rw[<-L3];rfl,hz,ht,(),?_⟩
   refine ⟨_,_,rfl,rfl,?_⟩
   rw[if_neg z3]at key
   have e:decide (seg (Fz y lg s1) n (n+1)<seg (Fz y lg t1) n (n+1))=bT (k_ y (2*lg) s1) (k_ y (2*lg) t1):=by
    rw[qr (gb n hb).1,qr (gb n hb).2,I_]
    exact (decide_eq_decide.mpr (I0 (pf _) (pg _))).trans key.symm
   have kq:=q H (az.refl H)
   rw[<-e]at kq
   exact kq
theorem pX:bD P w K mg base eQ 4 Sd SM ["order","seen"] (jf K aW aN):=by
 have uj:=tf (P:=P) (w:=w) (base:=base) T
 refine T.F24.fn.ok cu (λvs H Q E h=>oF h) (λ_ _ _ _ H vs Q E hr h=>?_)
 refine let Z6:TS:=_;let Z5:TS:=_;let Z4:TS:=_;let Z3:TS:=_;let Z2:TS:=_;let Z1:TS:=_;let Z0:TS:=_;⟨_,(aa (aA (i:=2) cu.nd aq)
   (ah Z0 (aa (aA (i:=3) cu.nd (i5 K T.z_len (pv 0)))
   (ah Z1 (aa (fV PassesOwn.never (bf uE (pv 2) (pv 3) (aZ _)) (ah Z2 (aa (aA (i:=4) cu.nd (aD ft (aD bo (pv 2) (pv 3)) aq))
   (ah Z3 (aj (c_ (js (ak uj T.F23 hr (ai (bj (b8 K rfl) (pv 0) (pv 4) (λ_ _=>rfl)) (ag (pv 1))))) (ah Z4 (aj (aA (i:=2) cu.nd (aD bo (pv 4) aq)))) (ah Z5 (aj (aA (i:=3) cu.nd (pv 4))))))))))
   (ah Z6 (aj (aM (pv 2))))))))),?_⟩
 obtain ⟨y,lg,a,ss,t1,rfl,hy,hz,ha,JK,ht,up,hn,q⟩:=h
 have hs:=Zs1
 have key:=Qcs.mp up
 refine ⟨_,rfl,a,_,rfl,.inl (bL.of ha),?_⟩
 walk_at "rd"
 refine ⟨λm σ H'=>∃(lo hi:Nat) (mv:Option V),σ=[some (.ref a),some (.ref t1.a),some (.int lo),some (.int hi),mv]/\m=hi - lo/\lo<=hi/\hi<=(ss:)/\(∀k s,ss[k]? =some s->k<lo->bT (k_ y (2*lg) s) (k_ y (2*lg) t1)=true)/\(∀k s,ss[k]? =some s->hi<=k->bT (k_ y (2*lg) s) (k_ y (2*lg) t1)=false)/\az H H',⟨_,0,(ss:),none,by rw[nh];rfl,rfl,Qau _,Qaa _,λk s _ hk=>absurd hk (Qdx _),(λk s e hk=>by rw[Qde hk]at e;cases e),az.refl H⟩,?_⟩
 rintro m σ H2 ⟨lo,hi,mv,rfl,rfl,h1,h2,h3,h4,s2⟩
 walk_at "rd"
 walk_at"j"
 ·have z1:(lo:Int)<hi:=of_decide_eq_true z
  have em:(((lo:Int)+hi) / 2)=(((lo+hi) / 2:Nat):Int):=by lia
  have hm:(lo+hi) / 2<(ss:):=by lia
  have hg:ss[(lo+hi) / 2]? =some ss[(lo+hi) / 2]:=OD hm
  obtain ⟨ok,e0⟩:=JK _ (Qb3 hm)
  walk_at "rd"
  refine ⟨a,_,((lo:Int)+hi) / 2,_,rfl,rfl,bL.of (s2 _ _ ha),by rw[em];exact dj (Qp hg),_,rfl,y,lg,ss[(lo+hi) / 2],t1,rfl,hy,hz,ok.same s2,ht.same s2,e0,λH3 s3=>?_⟩
  walk_at "rd"
  refine cZ (λy1=>?_) (λy1=>?_)
  ·walk_at "rd"
   have e1:((lo:Int)+hi) / 2+1=(((lo+hi) / 2+1:Nat):Int):=by lia
   refine ⟨hi - ((lo+hi) / 2+1),(),(lo+hi) / 2+1,hi,_,by rw[<-e1];rfl,rfl,(),h2,λk s e hk=>?_,h4,s2.trans s3⟩
   by_cases q1:k=(lo+hi) / 2
   ·subst q1
    rw[hg]at e
    cases e
    exact y1
   ·obtain ⟨AE,ek⟩:=OC.mp e
    have VJ:=key k ((lo+hi) / 2) AE hm ()
    rw[ek]at VJ
    cases r:bT (k_ y (2*lg) s) (k_ y (2*lg) t1)
    ·have:=L2.wU _ _ _ r VJ
     rw[this]at y1
     cases y1
    ·rfl
  ·walk_at "rd"
   have y2:bT (k_ y (2*lg) ss[(lo+hi) / 2]) (k_ y (2*lg) t1)=false:=by simpa using y1
   refine ⟨(lo+hi) / 2 - lo,(),lo,(lo+hi) / 2,_,by rw[<-em];rfl,rfl,(),(),h3,λk s e hk=>?_,s2.trans s3⟩
   by_cases q1:k=(lo+hi) / 2
   ·subst q1
    rw[hg]at e
    cases e
    exact y2
   ·obtain ⟨AE,ek⟩:=OC.mp e
    have VJ:=key ((lo+hi) / 2) k hm AE ()
    rw[ek]at VJ
    exact L2.wU _ _ _ y2 VJ
 ·have z1: ¬(lo:Int)<hi:=λw=>z (decide_eq_true w)
  walk_at "rd"
  have e:hi=lo:=by lia
  subst e
  exact q hi H2 h2 h3 h4 s2
theorem uk:bD P w K mg base eQ 5 Sf SO ["words","ways","band"] (lG K aW aN):=by
 have xT:=ui (P:=P) (w:=w) (base:=base) T
 have um:=s_ (P:=P) (w:=w) (base:=base) T
 have tm:=pX (P:=P) (w:=w) (base:=base) T
 refine T.F26.fn.ok fo (λvs H Q E h=>r6 h) (λ_ _ _ _ H vs Q E hr h=>?_)
 refine ⟨_,(aa (aA (i:=3) fo.nd (dN bW))
   (aa (cN PassesOwn.never rfl (gc K rfl (ak xT T.F11 hr (ai (pv 0) (ag (pv 2))))) (aV (i:=4) fo.nd rfl (Or.inl rfl)) (aa (aA (i:=5) fo.nd (ak um T.F25 hr (ai (pv 0) (ai (pv 1) (ag (pv 4))))))
   (aj (d_ (cJ K rfl Qbn PySem.F.slot_list_insert PySem.F.type_list_insert Ed (pv 3) (ai (ak tm T.F24 hr (ai (pv 3) (ag (pv 5)))) (ag (pv 5))))))))
   (aj (aM (dU (gh K rfl) rfl T.z_tuple boot_tuple (ag (eF ["seen"] [none] (gc K rfl (pv 3)) trivial (λ_ _ _ _=>(aV (i:=0) (by decide+kernel:List.Nodup (["seen"]:List Str)) rfl (Or.inl rfl))) (λ_ _ _ _=>nQ) (λ_ _ _ _=>(bQ K rfl (pv 0) rfl))))))))),?_⟩
 obtain ⟨y,lg,wt,vt,ws,nE,band,rfl,hy,hz,vW,Zb,uo,hb,WQ,x9,VL,q⟩:=h
 have hs:=Zs1
 walk_at "rd"
 intro a na
 have s0:=az.upd (o:= .lst []) na
 refine ⟨_,rfl,_,rfl,wt,ws,band,rfl,s0 _ _ vW,Zb,λw hw=>⟨λc hc=>hy.lt c ((uo w hw).1.bO c hc),(uo w hw).2⟩,hb,λb ps H1 nb En yV vc s1=>?_⟩
 have Q_:=s0.trans s1
 have hba:b≠a:=λz=>by rw[z,ae]at nb;cases nb
 have aas:(ps:)<=48:=by
  have h1:(ps.map Pr.pair:)<=48:=by
   rw[vc]
   have:=j5 band (λw hw=>(uo w hw).2) (ws:) (Qaa _)
   lia
  rwa [Wh]at h1
 have pin:∀p∈ps,∃w,ws[p.c]? =some w/\p.i<(w:)/\Bt band (rd w p.i)=true:=λp hp=>by
  have hm:p.pair∈dc band ws (ws:):=by rw[<-vc];exact Qay.mpr ⟨p,hp,rfl⟩
  exact BG hm
 refine ⟨b,rfl,⟨_,bL.of En⟩,?_⟩
 refine let j9:Nat->L2.St->Hp->Prop:=(λk σ H'=>∃(ss:List Sn) (sv nv:Option V),σ=[some (.ref wt),some (.ref vt),some (.str (S [band])),some (.ref a),sv,nv]/\H' a=some (.lst (Dk ss))/\(∀s∈ss,jV H' aW aN y lg s/\rd s.u s.p=band/\∃w,ws[s.c]? =some w/\BF w s.c s.i s/\s.i<(w:))/\(ss.map λs=>(s.c,s.i)).Perm ((ps.take k).map Pr.pair)/\EZ y (2*lg) ss/\bE a H1 H');ju (K:=K) (a:=b) (xs:=vE ps) j9
  ⟨[],none,none,rfl,s1 _ _ ae,λ_ h=>absurd h Qaj,.nil,List.Pairwise.nil,bE.refl _ _⟩ (λk σ H' _ ⟨_,_,_,_,_,_,_,_,h⟩=>bL.of (h _ _ En hba)) ?_ ?_
 ·rintro k x σ H2 hx ⟨ss,sv,nv,rfl,ha,JK,A6,S9,s2⟩
  show N8 _ _ _ _ _
  refine Nl λDx Zc=>?_
  obtain ⟨p,hp,rfl⟩:=Iq hx
  have hk:k<(ps:):=(OC.mp hp).1
  have VM:=Qas hp
  obtain ⟨w,hw,hi,ho⟩:=pin p VM
  have Yz:=Qas hw
  have PC:p.c<(nE:):=by rw[x9];exact (OC.mp hw).1
  have bU:=VL p.c w nE[p.c] hw (OD PC)
  have go:∀c o,H c=some o->H2 c=some o:=λc o e=>s2 _ _ (Q_ c o e) (ao e na)
  have Zd:=(yV p VM).tp
  have O_:p.t≠a:=λz=>by rw[z,s1 _ _ ae]at Zd;cases Zd
  have Ze:=s2 _ _ Zd O_
  have ssl:(ss:)=k:=by
   have:=A6.length_eq
   rw[Wh,Wh,Qad]at this
   lia
  refine ⟨_,rfl,_,rfl,_,rfl,y,lg,wt,vt,p.t,w,ws,nE,nE[p.c],p.c,p.i,rfl,hy,go _ _ vW,go _ _ WQ,Ze,hw,OD PC,bU.same go,hi,λs H3 NT oS hso hnn s3=>?_⟩
  have hsb:=NT.band hy (uo w Yz).1 hi hb ho
  refine ⟨_,rfl,.inl ⟨rfl,_,bL.of (s3 _ _ ha)⟩,_,rfl,_,rfl,y,lg,a,ss,s,rfl,hy,hz,s3 _ _ ha,λt ht=>⟨(JK t ht).1.same s3,by rw[(JK t ht).2.1,hsb]⟩,hso,S9,(),λn H4 hn h1 h2 s4=>?_⟩
  have ha4:=s4 _ _ (s3 _ _ ha)
  refine ⟨_,rfl,a,_,n,_,rfl,rfl,ha4,by rw[nh];exact hn,by rw[nh];lia,?_⟩
  have e1:(Dk ss).take n++V.ref s.a::(Dk ss).drop n=Dk (ss.take n++s::ss.drop n):=by
   unfold Dk
   rw[Qaq,Qgd,Qa3,List.map_drop]
  rw[e1]
  have su:∀t,jV H4 aW aN y lg t->jV (L2.upd H4 a (.lst (Dk (ss.take n++s::ss.drop n)))) aW aN y lg t:=λt ot=>by
   have ne:∀{c:Addr} {o:HO},H4 c=some o->(∀l,o≠ .lst l)->c≠a:=λ{c o} e no z=>by rw[z,ha4]at e;exact no _ (Qal e).symm
   obtain ⟨dx,eo⟩:=ot.ob
   obtain ⟨dw,ew⟩:=ot.wy.ob
   exact ⟨⟨dx,by rw[au (ne eo (λl z=>by cases z))];exact eo⟩,by rw[au (ne ot.st (λl z=>by cases z))];exact ot.st,⟨⟨dw,by rw[au (ne ew (λl z=>by cases z))];exact ew⟩,ot.wy.sw,ot.wy.uz,ot.wy.lz,ot.wy.rt⟩,ot.pz⟩
  refine Zc _ _ ⟨ss.take n++s::ss.drop n,_,_,rfl,ae,λt ht=>?_,?_,Qq S9 h1 h2,λc o e z=>by rw[au z];exact s4 _ _ (s3 _ _ (s2 c o e z))⟩
  ·have:t=s\/t∈ss:=by
    rcases Qap.mp ht with r | r
    ·exact .inr (Qb9 r)
    ·rcases Qaf.mp r with r | r
     ·exact .inl r
     ·exact .inr (Qch r)
   rcases this with r | r
   ·subst r
    refine ⟨su _ (hso.same s4),hsb,w,?_,?_,?_⟩
    ·rw[NT.ec];exact hw
    ·rw[NT.ec,NT.ei];exact NT
    ·rw[NT.ei];exact hi
   ·exact ⟨su _ (((JK t r).1.same s3).same s4),(JK t r).2⟩
  ·rw[Qaq,Qa3, <-take_snoc hp,Qaq,NT.ec,NT.ei]
   have p1:(ss.take n).map (λs=>(s.c,s.i))++(p.c,p.i)::(ss.drop n).map (λs=>(s.c,s.i)) |>.Perm ((p.c,p.i)::ss.map λs=>(s.c,s.i)):=by
    refine List.perm_middle.trans (List.Perm.cons _ ?_)
    rw[<-Qaq,Qag]
   exact p1.trans ((List.Perm.cons _ A6).trans (Qe3 _ _).symm)
 ·rintro σ H2 ⟨ss,sv,nv,rfl,ha,JK,A6,S9,s2⟩
  rw[xx,Qbv,vc]at A6
  have ssl:(ss:)<=48:=by
   have:=A6.length_eq
   rw[Wh, <-vc,Wh]at this
   lia
  have JL:az H H2:=λc o e=>s2 _ _ (Q_ c o e) (ao e na)
  refine ⟨_,rfl,a,rfl,⟨_,bL.of ha⟩,?_⟩
  refine let z8:Nat->List V->Hp->Prop:=(λi acc H'=>H'=H2/\acc=(ss.take i).map λs=>V.ref s.t);uY (K:=K) (a:=a) (xs:=Dk ss) z8 (by rw[nh];lia) (λi acc H' h=>by rw[h.1];exact bL.of ha) ⟨rfl,rfl⟩ ?_ ?_
  ·rintro i x acc H3 Nx hi hx hl ⟨rfl,rfl⟩ nx
   obtain ⟨t,ht,rfl⟩:=L9 hx
   obtain ⟨dx,e⟩:=(JK t (Qas ht)).1.ob
   refine ⟨trivial,kB ⟨_,rfl,t.a,aN,dx,_,_,rfl,e,T.dP,T.n_Seen_strand,vK,nx _ _ (by simpa using hl) ⟨rfl,?_⟩⟩⟩
   rw[<-take_snoc ht,Qaq]
   rfl
  ·rintro acc H3 D hl ⟨rfl,rfl⟩ hD
   rw[nh,Qbv]
   refine ⟨D,_,rfl,.inl ⟨bL.of ae,λt nt=>?_⟩⟩
   have sA:=(az.upd (o:= .lst (ss.map λs=>V.ref s.t)) hD).trans (az.upd (o:= .tup (ss.map λs=>V.ref s.t)) nt)
   have ep:(ss.map λs=>(⟨s.t,s.c,s.i⟩:Pr)).map Pr.pair=ss.map λs=>(s.c,s.i):=by rw[Qbh];rfl
   refine q t (ss.map λs=>(⟨s.t,s.c,s.i⟩:Pr)) _ (az.free (JL.trans (az.upd hD)) nt) (by rw[ae];unfold vE;rw[Qbh];rfl) (λp hp=>?_) (by rw[ep];exact A6) ?_ (JL.trans sA)
   ·obtain ⟨s,Ud,rfl⟩:=Qay.mp hp
    obtain ⟨ok,_,w,hw,_,hi⟩:=JK s Ud
    have h1:=(OC.mp hw).1
    have h2:=(uo w (Qas hw)).2
    exact ⟨sA _ _ ok.st,by show s.c<1000;lia,by show s.i<1000;lia⟩
   ·rw[ep]
    unfold E1
    rw[Qb8]
    refine Qdp (λ{s t} h1 h2 h=>?_) S9
    obtain ⟨o1,_,w1,e1,i1,l1⟩:=JK s h1
    obtain ⟨o2,_,w2,e2,i2,l2⟩:=JK t h2
    have g1:ws.getD s.c []=w1:=by rw[Qao,e1];rfl
    have g2:ws.getD t.c []=w2:=by rw[Qao,e2];rfl
    rw[<-Dm hy (uo w1 (Qas e1)).1 l1 g1 i1 o1.wy.rt, <-Dm hy (uo w2 (Qas e2)).1 l2 g2 i2 o2.wy.rt]
    exact h
theorem xU:bD P w K mg base eQ 1 f9 d9 ["rising","point"] (m8 K):=by
 refine T.F9.fn.ok du (λvs H Q E h=>uf h) (λ_ _ _ _ H vs Q E hr h=>?_)
 refine let Z6:TS:=_;let Z5:TS:=_;let Z4:TS:=_;let Z3:TS:=_;let Z2:TS:=_;let Z1:TS:=_;let Z0:TS:=_;⟨_,(aa (aA (i:=2) du.nd aq)
   (ah Z0 (aa (aA (i:=3) du.nd (aD eh (i5 K T.z_len (pv 0)) aq))
   (ah Z1 (aa (fV PassesOwn.never (bf uE (pv 2) (pv 3) (aZ _)) (ah Z2 (aa (aA (i:=4) du.nd (aD ft (aD bo (pv 2) (pv 3)) aq))
   (ah Z3 (aj (c_ (bf uE (bj (b8 K rfl) (pv 0) (pv 4) (λ_ _=>rfl)) (pv 1) (aZ _)) (ah Z4 (aj (aA (i:=2) du.nd (aD bo (pv 4) aq)))) (ah Z5 (aj (aA (i:=3) du.nd (pv 4))))))))))
   (ah Z6 (aj (aM (pv 2))))))))),?_⟩
 obtain ⟨a,l,p,rfl,ha,up,hp,hn,q⟩:=h
 have hs:=Zs1
 have hi:=Qak hp
 have Zf:l[l.idxOf p]=p:=Qcx hi
 have key:=Qcs.mp up
 refine ⟨_,rfl,a,_,rfl,.inl (bL.of ha),?_⟩
 rw[m7]
 walk_at "wk"
 refine ⟨λm σ H'=>∃(lo hi:Nat) (mv:Option V),σ=[some (.ref a),some (.int p),some (.int lo),some (.int hi),mv]/\m=hi - lo/\lo<=l.idxOf p/\l.idxOf p<=hi/\hi<(l:)/\H'=H,⟨_,0,(l:) - 1,none,?_,rfl,Qau _,by omega,by omega,rfl⟩,?_⟩
 ·have:(((l:):Int) - 1)=(((l:) - 1:Nat):Int):=by omega
  rw[<-this];rfl
 rintro m σ H2 ⟨lo,p9,mv,rfl,rfl,h1,h2,h3,rfl⟩
 walk_at "wk"
 walk_at"j"
 ·have z1:(lo:Int)<p9:=of_decide_eq_true z
  have em:(((lo:Int)+p9) / 2)=(((lo+p9) / 2:Nat):Int):=by omega
  have hm:(lo+p9) / 2<(l:):=by omega
  walk_at "rd"
  refine ⟨a,_,((lo:Int)+p9) / 2,_,rfl,rfl,bL.of ha,by rw[em];exact dj (IL (OD hm)),?_⟩
  walk_at "rd"
  refine cZ (λy=>?_) (λy=>?_)
  ·have y1:((l[(lo+p9) / 2]:Nat):Int)<p:=of_decide_eq_true y
   have lt:(lo+p9) / 2<l.idxOf p:=by
    refine Classical.byContradiction λw=>?_
    by_cases e:(lo+p9) / 2=l.idxOf p
    ·have:l[(lo+p9) / 2]=p:=by simp only[e];exact Zf
     omega
    ·have:=key (l.idxOf p) ((lo+p9) / 2) hi hm (by omega)
     rw[Zf]at this
     omega
   walk_at "rd"
   have e1:((lo:Int)+p9) / 2+1=(((lo+p9) / 2+1:Nat):Int):=by omega
   refine ⟨p9 - ((lo+p9) / 2+1),by omega,(lo+p9) / 2+1,p9,_,by rw[<-e1];rfl,rfl,by omega,h2,h3,rfl⟩
  ·have y1: ¬((l[(lo+p9) / 2]:Nat):Int)<p:=λw=>y (decide_eq_true w)
   have le:l.idxOf p<=(lo+p9) / 2:=by
    refine Classical.byContradiction λw=>?_
    have:=key ((lo+p9) / 2) (l.idxOf p) hm hi (by omega)
    rw[Zf]at this
    omega
   walk_at "rd"
   refine ⟨(lo+p9) / 2 - lo,by omega,lo,(lo+p9) / 2,_,by rw[<-em];rfl,rfl,h1,le,by omega,rfl⟩
 ·have z1: ¬(lo:Int)<p9:=λw=>z (decide_eq_true w)
  have e:lo=l.idxOf p:=by omega
  walk_at "rd"
  rw[e]
  exact q
theorem pY:bD P w K mg base eQ 1 f8 d8 ["some"] (jc K):=by
 refine T.F8.fn.ok dM (λvs H Q E h=>oz h) (λ_ _ _ _ H vs Q E hr h=>?_)
 refine let Z4:TS:=_;let Z3:TS:=_;let Z2:TS:=_;let Z1:TS:=_;let Z0:TS:=_;⟨_,(aa (aA (i:=1) dM.nd yQ)
   (ah Z0 (aa (cN PassesOwn.never rfl (gc K rfl (pv 0)) (aV (i:=2) dM.nd rfl (Or.inl rfl)) (ah Z1 (aa (aA (i:=3) dM.nd (aY (ke rfl) rfl T.z_min boot_min (ai (bj (bJ K rfl) (pv 2) aq (λ_ _=>rfl)) (ag (bj (bJ K rfl) (pv 2) aq (λ_ _=>rfl))))))
   (ah Z2 (aa (kj (lh hr) (pv 1) (bj (bJ K rfl) (pv 2) aq (λ_ _=>rfl)) (pv 3) rfl)
   (ah Z3 (aj (kj (lh hr) (pv 1) (bj (bJ K rfl) (pv 2) aq (λ_ _=>rfl)) (pv 3) rfl))))))))
   (ah Z4 (aj (aM (pv 1))))))),?_⟩
 obtain ⟨a,qs,rfl,ha,hq,hn,nd,q⟩:=h
 have hs:=Zs1
 walk_at "wk"
 intro d WT
 have had:a≠d:=ao ha WT
 refine ⟨_,rfl,a,rfl,⟨_,bL.of (by rw[au had];exact ha)⟩,?_⟩
 refine let j9:Nat->L2.St->Hp->Prop:=(λk σ H'=>∃(cv fv:Option V),σ=[some (.ref a),some (.ref d),cv,fv]/\H' d=some (.dK (gC ((qs.take k).map Q4.v)))/\bE d H H');ju (K:=K) (a:=a) (xs:=ER qs) j9
  ⟨none,none,rfl,ae,λb o e z=>by rw[au z];exact e⟩ (λk σ H' _ ⟨_,_,_,_,h⟩=>bL.of (h _ _ ha had)) ?_ ?_
 ·rintro k x σ H1 hx ⟨cv,fv,rfl,hd,s1⟩
  obtain ⟨c,hc,rfl⟩:=Qe hx
  have hk:k<(qs:):=(OC.mp hc).1
  have tc:=hq c (Qas hc)
  have kT:c.t≠d:=λz=>by have h9:H c.t=_:=tc;rw[z,WT]at h9;cases h9
  have WU:ue H1 c:=s1 _ _ tc kT
  have lc:(gC ((qs.take k).map Q4.v):)<=2000:=by rw[zF,Wh,Qad];omega
  have e:(qs.take (k+1)).map Q4.v=(qs.take k).map Q4.v++[c.v]:=by rw[<-take_snoc hc,Qaq];rfl
  have nd1:(eM ((qs.take k).map Q4.v++[c.v])).Nodup:=by
   rw[<-e]
   have:qs.map Q4.v=(qs.take (k+1)).map Q4.v++(qs.drop (k+1)).map Q4.v:=by rw[<-Qaq,Qag]
   rw[this]at nd
   unfold eM at nd ⊢
   rw[Qcd,Qcn]at nd
   exact nd.1
  refine ⟨_,rfl,c.t,_,2,_,rfl,rfl,di.of WU,rfl,_,rfl,c.t,_,3,_,rfl,rfl,di.of WU,rfl,_,_,rfl,?_⟩
  refine ⟨_,rfl,_,rfl,_,rfl,c.t,_,2,_,rfl,rfl,di.of WU,rfl,d,_,rfl,pH.k (k:=Sum.inl (c.v.2.2.1:Int)) hd (by omega),?_⟩
  have tc2:∀o,ue (L2.upd H1 d o) c:=λo=>by show L2.upd H1 d o c.t=_;rw[au kT];exact WU
  refine ⟨_,rfl,_,rfl,_,rfl,c.t,_,3,_,rfl,rfl,di.of (tc2 _),rfl,d,_,rfl,pH.k (k:=Sum.inl (c.v.2.2.2:Int)) ae (Qbm (gH _ _ _) (by omega)),?_⟩
  refine ⟨_,_,rfl,?_,λb o eb z=>by rw[au z,au z];exact s1 b o eb z⟩
  rw[ae,e, <-L4 nd1]
  rfl
 ·rintro σ H1 ⟨cv,fv,rfl,hd,s1⟩
  rw[C8,Qbv]at hd
  exact ⟨_,rfl,q d H1 WT hd λb o eb=>s1 b o eb (ao eb WT)⟩
theorem dY:bD P w K mg base eQ 1 f0 d0 ["letter"] (oZ K):=by
 refine T.F0.fn.ok z7 (λvs H Q E h=>w5 h) (λ_ _ _ _ H vs Q E hr h=>?_)
 refine let Z1:TS:=_;let Z0:TS:=_;⟨_,(aa (c_ (js (fj K rfl Qbd Qfg Qff lS (pv 0))) (ah Z0 (aj (aM (fj K rfl Qbd PySem.F.slot_str_upper PySem.F.type_str_upper Gk (pv 0))))) b9)
   (ah Z1 (aj (aM (fj K rfl Qbd Qfr Qfp qN (pv 0)))))),?_⟩
 obtain ⟨c,rfl,hc,q⟩:=h
 refine ⟨_,rfl,rfl,c,rfl,rfl,hc,_,rfl,cZ (λe=>?_) (λe=>?_)⟩
 ·refine ⟨_,rfl,rfl,c,rfl,rfl,hc,?_⟩
  have z:ay c=PyProof.Rows.up1 c:=if_pos e
  rw[<-z]
  exact q
 ·refine ⟨_,rfl,rfl,c,rfl,rfl,hc,?_⟩
  have z:ay c=PyProof.Rows.lo1 c:=if_neg e
  rw[<-z]
  exact q
theorem tu:bD P w K mg base eQ 2 R3 Sx ["word","place"] (jK K):=by
 walk_at"x"
 refine T.F12.fn.ok sS (λvs H Q E h=>pM h) (λ_ _ _ _ H vs Q E hr h=>?_)
 refine ⟨_,(aj (aM (dz (ai (ak bZ T.F0 hr (ag (bj qK (pv 0) (aD eh (pv 1) aq) (λ_ _=>rfl)))) (ag (bj qK (pv 0) (pv 1) (λ_ _=>rfl))))))),?_⟩
 obtain ⟨w,i,rfl,hl,hz,hi,q⟩:=h
 have hs:=Zs1
 have eG:w≠[]:=λz=>by rw[z]at hi;simp at hi
 refine ⟨_,rfl,_,rfl,_,_,rfl,rfl,w,_,_,rfl,rfl,(),Hy () (),_,rfl,(hl _ (rL eG _)).lt,?_⟩
 refine ⟨_,rfl,_,rfl,w,_,_,rfl,rfl,(),Hy () (),by show 2<=sizeLine;decide,λt nt=>?_⟩
 exact q t _ nt ae (az.upd nt)
theorem oP:bD P w K mg base eQ 2 f1 d1 ["word"] (ve K):=by
 walk_at"x"
 refine T.F1.fn.ok Fg (λvs H Q E h=>A9 h) (λ_ _ _ _ H vs Q E hr h=>?_)
 refine ⟨_,(aj (aM (cJ K rfl Qbd Qen Qel (mE K rfl) (pA [] ⋯) (ag (eF ["letter"] [none] (OM rfl T.z_reversed (ag (pv 0))) trivial (λ_ _ _ _=>(aV (i:=0) (by decide+kernel:List.Nodup (["letter"]:List Str)) rfl (Or.inl rfl))) (λ_ _ _ _=>nQ) (λ_ _ _ _=>(ak bZ T.F0 hr (ag (pv 0))))))))),?_⟩
 obtain ⟨l,rfl,hc,hz,q⟩:=h
 have hs:(1000:Nat)<sizeLine:=by decide
 refine ⟨rfl,_,rfl,l,rfl,(),?_⟩
 rw[Lm]
 refine let j9:Nat->List V->Hp->Prop:=(λi acc H'=>az H H'/\acc=eR ((l.reverse.take i).map ay));mC (xs:=eR l.reverse) j9 (by rw[b_,Qa0];lia) ⟨az.refl H,rfl⟩ ?_ ?_
 ·rintro i x acc H1 Nx hi hx hl ⟨s1,rfl⟩ nx
  obtain ⟨c,tL,rfl⟩:=kh hx
  refine ⟨trivial,kB ⟨_,rfl,c,rfl,hc c (Qcf.mp (Qas tL)),nx _ _ (by simpa using hl) ⟨s1,?_⟩⟩⟩
  rw[gi, <-take_snoc tL,Qaq]
  rfl
 ·rintro acc H1 D hl ⟨s1,rfl⟩ hD
  refine ⟨D,(bC l).map λc=>[c],rfl,rfl,bL.of ?_,?_,?_⟩
  ·rw[ae, <-kA,b_,Qai (Qaa _),Qd7]
   rfl
  ·rw[Hi]
   unfold bC
   rw[Qa0,Wh]
   lia
  ·rw[y_]
   exact q _ (s1.trans (az.upd hD))
theorem xV:bD P w K mg base eQ 2 R4 Sy ["word"] (mP K):=by
 walk_at"x"
 refine T.F13.fn.ok i7 (λvs H Q E h=>uc h) (λ_ _ _ _ H vs Q E hr h=>?_)
 refine let Z4:TS:=_;let Z3:TS:=_;let Z2:TS:=_;let Z1:TS:=_;let Z0:TS:=_;⟨_,(aa (aA (i:=1) i7.nd (dN bW))
   (ah Z0 (aa (cN PassesOwn.never rfl (qU (pv 0)) (aV (i:=2) i7.nd rfl (Or.inl rfl)) (ah Z1 (aj (c_ (PW.pt (wa (KO K rfl (pv 1)) (p6 (bf jy (bj (b8 K rfl) (pv 1) (yp qD aq) (λ_ _=>rfl)) (ak bZ T.F0 hr (ag (pv 2))) (aZ _))))) (ah Z2 (aj (d_ (fj K rfl Qbn Qeo Qem Oz (pv 1))))) (ah Z3 (aj (d_ (cJ K rfl Qbn Qdn Qdm hV (pv 1) (ag (pv 2))))))))))
   (ah Z4 (aj (aM (cJ K rfl Qbd Qen Qel (mE K rfl) (pA [] ⋯) (ag (pv 1))))))))),?_⟩
 obtain ⟨l,rfl,hl,hz,q⟩:=h
 have hs:=Zs1
 walk_at "rd"
 intro p1 n1
 refine ⟨_,rfl,l,rfl,?_⟩
 refine let j9:Nat->L2.St->Hp->Prop:=(λi σ H'=>∃lv,σ=[some (.str (S l)),some (.ref p1),lv]/\H' p1=some (.lst (eR (red (l.take i))))/\bE p1 H H');Cg (xs:=eR l) j9 ⟨none,rfl,ae,bE.of (az.upd n1)⟩ ?_ ?_
 ·rintro i x σ H1 hx ⟨lv,rfl,hp,s1⟩
  obtain ⟨c,hc,rfl⟩:=kh hx
  have hi:i<(l:):=(OC.mp hc).1
  have h8:c<128:=(hl c (Qas hc)).lt
  have PR:(red (l.take i):)<=1000:=Qa7 (kE _) (by rw[Qad];lia)
  have fin:∀st,st=bP (red (l.take i)) c->∃lv,[some (V.str (S l)),some (V.ref p1),some (V.str (S [c]))]=[some (V.str (S l)),some (.ref p1),lv]/\(upd H1 p1 (.lst (eR st))) p1=some (.lst (eR (red (l.take (i+1)))))/\bE p1 H (upd H1 p1 (.lst (eR st))):=λst e=>
   ⟨_,rfl,by rw[ae,Hm hc,e],λb o e z=>by rw[au z];exact s1 b o e z⟩
  refine ⟨_,rfl,p1,_,rfl,bL.of hp,?_⟩
  rcases snoc_cases (red (l.take i)) with e | ⟨m,a,e⟩
  ·rw[e]at hp ⊢
   refine Hl rfl ?_
   refine T9 ?_
   refine ⟨_,rfl,.inl ⟨rfl,_,bL.of hp⟩,_,rfl,p1,_,_,rfl,rfl,hp,by rw[b_];exact (by decide:(0:Nat)<sizeLine),?_⟩
   rw[gi]
   refine fin _ ?_
   rw[e]
   unfold bP
   rw[if_neg (by simp)]
  ·rw[e]at hp PR ⊢
   have QI:(m:)<=1000:=by simp at PR;lia
   rw[<-gi]at hp ⊢
   refine Vd (by simp) ?_
   refine ⟨_,rfl,_,rfl,p1,_,_,_,rfl,rfl,bL.of hp,yv _ _,_,rfl,c,rfl,h8,[a],[ay c],rfl,rfl,_,rfl,cZ (λz=>?_) (λz=>?_)⟩
   ·have ea:a=ay c:=by simpa using of_decide_eq_true z
    refine ⟨_,rfl,.inl ⟨rfl,_,bL.of hp⟩,p1,_,V.str (S [a]),rfl,rfl,hp,by simp,?_⟩
    rw[Qc0]
    refine fin _ ?_
    rw[e]
    unfold bP
    rw[if_pos (by simp[ea]),Qc0]
   ·have ea:a≠ay c:=λw=>z (decide_eq_true (by rw[w]))
    refine ⟨_,rfl,.inl ⟨rfl,_,bL.of hp⟩,_,rfl,p1,_,_,rfl,rfl,hp,by rw[T6,b_];show (m:)+1<sizeLine;lia,?_⟩
    rw[gi,gi]
    refine fin _ ?_
    rw[e]
    unfold bP
    rw[if_neg (by simpa using ea)]
 ·rintro σ H1 ⟨lv,rfl,hp,s1⟩
  rw[zc]at hp
  refine ⟨rfl,_,rfl,p1,(red l).map λc=>[c],rfl,rfl,bL.of (by rw[<-kA];exact hp),?_,?_⟩
  ·rw[Hi]
   have:=kE l
   lia
  ·rw[y_]
   exact q _ (λb o e=>s1 b o e (ao e n1))
theorem o9:bD P w K mg base eQ 3 R5 Sz ["word"] (o4 K):=by
 have z_:=xV (P:=P) (w:=w) (base:=base) T
 walk_at"x"
 refine T.Y5.fn.ok dX (λvs H Q E h=>w_ h) (λ_ _ _ _ H vs Q E hr h=>?_)
 refine let Z5:TS:=_;let Z4:TS:=_;let Z3:TS:=_;let Z2:TS:=_;let Z1:TS:=_;let Z0:TS:=_;⟨_,(aa (aA (i:=1) dX.nd (ak z_ T.F13 hr (ag (pv 0))))
   (ah Z0 (aa (aA (i:=2) dX.nd aq)
   (ah Z1 (aa (aA (i:=3) dX.nd (aY bM rfl T.z_len Qce (ag (pv 1))))
   (ah Z2 (aa (fV PassesOwn.never (PW.pt (wa (bf FV (aD eh (pv 3) (pv 2)) aq (aZ _)) (p6 (bf jy (bj qK (pv 1) (pv 2) (λ_ _=>rfl)) (ak bZ T.F0 hr (ag (bj qK (pv 1) (aD eh (pv 3) aq) (λ_ _=>rfl)))) (aZ _))))) (ah Z3 (aa (lQ (i:=2) dX.nd rfl (Or.inl rfl) aq wc)
   (ah Z4 (aj (lQ (i:=3) dX.nd rfl (Or.inl rfl) aq Oa))))))
   (ah Z5 (aj (aM (cI qL (pv 1) (ck (pv 2)) (ck (pv 3))))))))))))),?_⟩
 obtain ⟨l,rfl,hl,hz,q⟩:=h
 have hs:=Zs1
 refine ⟨_,rfl,l,rfl,hl,hz,λH1 s1=>?_⟩
 have Ng:=kE l
 have cU:=w9 hl
 generalize red l=r at Ng cU q ⊢
 have hrz:(r:)<=sizeLine:=by lia
 walk_at "rd"
 refine ⟨λm σ H'=>∃(a e:Nat),σ=[some (.str (S l)),some (.str (S r)),some (.int a),some (.int e)]/\m=e - a/\a<=e/\e<=(r:)/\core (Fu r a e)=core r/\H'=H1,⟨_,0,(r:),rfl,rfl,Qau _,Qaa _,by rw[Lq],rfl⟩,?_⟩
 rintro m σ H2 ⟨a,e,rfl,rfl,h1,h2,hc,rfl⟩
 have fin:core (Fu r a e)=Fu r a e->Q (.str (S (cut r (some (a:Int)) (some (e:Int))))) H2:=λz=>by
  have e1:cut r (some (a:Int)) (some (e:Int))=Fu r a e:=by
   unfold cut Fu
   rw[HT.gE,HT.gE]
   have e1:min a (r:)=a:=by lia
   have e2:min e (r:)=e:=by lia
   rw[e1,e2]
  rw[e1, <-z,hc]
  exact q H2 s1
 walk_at "rd"
 walk_at"j"
 ·have z1:(2:Int)<=(e:Int) - (a:Int):=of_decide_eq_true z
  have ha:a<(r:):=by lia
  have he:e - 1<(r:):=by lia
  have g0:tF r (a:Int)=some r[a]:=dj (OD ha)
  have g1:tF r ((e:Int) - 1)=some r[e - 1]:=by
   have:(e:Int) - 1=((e - 1:Nat):Int):=by lia
   rw[this];exact dj (OD he)
  have h8:r[e - 1]<128:=(cU _ (Qb3 he)).lt
  have hw:=PM (l:=r) (s:=a) (e:=e) () h2
  refine ⟨_,rfl,_,rfl,r,_,_,rfl,rfl,hrz,g0,?_⟩
  walk_at "rd"
  refine ⟨r,_,_,rfl,rfl,hrz,g1,?_⟩
  walk_at "rd"
  refine cZ (λy=>?_) (λy=>?_)
  ·have ey:r[a]=ay r[e - 1]:=by simpa using of_decide_eq_true y
   walk_at "rd"
   refine ⟨(e - 1) - (a+1),(),a+1,e - 1,?_,rfl,(),(),?_,rfl⟩
   ·have e1:(a:Int)+1=((a+1:Nat):Int):=by lia
    have e2:(e:Int) - 1=((e - 1:Nat):Int):=by lia
    rw[<-e1, <-e2]
    rfl
   ·rw[<-hc,hw,mM ey]
  ·have ey:r[a]≠ay r[e - 1]:=λw=>y (decide_eq_true (by rw[w]))
   walk_at "rd"
   exact fin (by rw[hw,eY ey])
 ·have z1: ¬(2:Int)<=(e:Int) - (a:Int):=λw=>z (decide_eq_true w)
  walk_at "rd"
  exact fin (eZ (by rw[Lp h2];lia))
theorem xW:bD P w K mg base eQ 4 R6 SA ["word"] (CD K):=by
 have me:=o9 (P:=P) (w:=w) (base:=base) T
 refine T.Kd.fn.ok kQ (λvs H Q E h=>Ho h) (λ_ _ _ _ H vs Q E hr h=>?_)
 refine let Z5:TS:=_;let Z4:TS:=_;let Z3:TS:=_;let Z2:TS:=_;let Z1:TS:=_;let Z0:TS:=_;⟨_,(aa (aA (i:=1) kQ.nd (ak me T.Y5 hr (ag (pv 0))))
   (ah Z0 (aa (aA (i:=2) kQ.nd (pv 1))
   (ah Z1 (aa (cN PassesOwn.never rfl (uD rfl T.z_range (ai aq (ag (aY bM rfl T.z_len Qce (ag (pv 1)))))) (aV (i:=3) kQ.nd rfl (Or.inl rfl)) (ah Z2 (aa (aA (i:=4) kQ.nd (aD cF (cI qL (pv 1) (ck (pv 3)) fQ) (cI qL (pv 1) fQ (ck (pv 3)))))
   (ah Z3 (aj (c_ (bf wD (pv 4) (pv 2) (aZ _)) (ah Z4 (aj (aA (i:=2) kQ.nd (pv 4)))) b9))))))
   (ah Z5 (aj (aM (pv 2))))))))),?_⟩
 obtain ⟨l,rfl,hl,hz,q⟩:=h
 have hs:=Zs1
 refine ⟨_,rfl,l,rfl,hl,hz,λH1 s1=>?_⟩
 have hc1:(core (red l):)<=1000:=Qa7 (mO _) (Qa7 (kE l) hz)
 unfold aP bV at q
 generalize core (red l)=c at hc1 q ⊢
 have hcz:(c:)<=sizeLine:=by lia
 walk_at "rd"
 refine ⟨_,_,rfl,⟨∅,∅,(),()⟩,?_⟩
 refine dR (λi σ H'=>H'=H1/\∃sv bv,σ=[some (.str (S l)),some (.str (S c)),some (.str (S (cn c (jo c i)))),sv,bv]) ⟨rfl,none,none,rfl⟩ ?_ ?_
 ·rintro i σ H2 hi ⟨rfl,sv,bv,rfl⟩
  have e1:(1:Int)+(i:Int)=((i+1:Nat):Int):=by lia
  rw[e1]
  have hlen:(cut c (some ((i+1:Nat):Int)) none:)+(cut c none (some ((i+1:Nat):Int)):)<=sizeLine:=by rw[jG,rD,Qat,Qad];lia
  have Zg:cut c (some ((i+1:Nat):Int)) none++cut c none (some ((i+1:Nat):Int))=bR c (i+1):=by rw[jG,rD];rfl
  walk_at "rd"
  rw[Zg]
  walk_at"j"
  ·have z':bR c (i+1)<cn c (jo c i):=of_decide_eq_true z
   have hle:cn c (jo c (i+1))=bR c (i+1):=by rw[vp,iP];unfold a_;rw[if_pos z']
   refine ⟨_,rfl,?_⟩
   rw[hle]
   exact ⟨rfl,_,_,rfl⟩
  ·have z': ¬bR c (i+1)<cn c (jo c i):=λy=>z (decide_eq_true y)
   have hle:cn c (jo c (i+1))=cn c (jo c i):=by rw[vp,iP];unfold a_;rw[if_neg z']
   rw[hle]
   exact ⟨rfl,_,_,rfl⟩
 ·rintro σ H2 ⟨rfl,sv,bv,rfl⟩
  have e:(((c:):Int) - 1).toNat=(c:) - 1:=by lia
  rw[e]
  exact ⟨_,rfl,q _ s1⟩
theorem tw:bD P w K mg base eQ 1 f3 d3 ["yard","start","end"] (jJ K):=by
 refine T.F3.fn.ok sR (λvs H Q E h=>pL h) (λ_ _ _ _ H vs Q E hr h=>?_)
 refine ⟨_,(aj (aM (aD eV (aD eh (cJ K rfl Qbd PySem.F.slot_str_find PySem.F.type_str_find yE (pv 0) (ag (pv 2))) (cJ K rfl Qbd PySem.F.slot_str_find PySem.F.type_str_find yE (pv 0) (ag (pv 1)))) (aY bM rfl T.z_len Qce (ag (pv 0)))))),?_⟩
 obtain ⟨y,a,b,rfl,ha,hb,hz,q⟩:=h
 have hs:(1000:Nat)<sizeLine:=by decide
 have hp:(0:Int)<((y:):Int):=by have:=List.length_pos_of_mem ha;lia
 refine ⟨_,rfl,rfl,_,rfl,y,b,rfl,rfl,?_⟩
 rw[if_pos hb]
 refine ⟨_,rfl,rfl,_,rfl,y,a,rfl,rfl,?_⟩
 rw[if_pos ha]
 exact ⟨_,_,rfl,rfl,_,rfl,y,rfl,(),_,_,rfl,rfl,hp,q⟩
theorem pZ:bD P w K mg base eQ 3 R9 SF ["yard","word","place"] (jd K):=by
 have uq:=tu (P:=P) (w:=w) (base:=base) T
 have ur:=tw (P:=P) (w:=w) (base:=base) T
 refine T.WM.fn.ok jl (λvs H Q E h=>oE h) (λ_ _ _ _ H vs Q E hr h=>?_)
 refine let Z0:TS:=_;⟨_,(aa (aA (i:=3) jl.nd (ak uq T.F12 hr (ai (pv 1) (ag (pv 2)))))
   (ah Z0 (aj (aM (ak ur T.F3 hr (ai (pv 0) (ai (bj (bJ K rfl) (pv 3) aq (λ_ _=>rfl)) (ag (bj (bJ K rfl) (pv 3) aq (λ_ _=>rfl)))))))))),?_⟩
 obtain ⟨y,w,i,rfl,hy,hz,hw,NR,hi,q⟩:=h
 refine ⟨_,rfl,_,rfl,w,i,rfl,λc hc=>hy.lt c (hw.bO c hc),NR,hi,λp H1 np hp s1=>?_⟩
 refine ⟨_,rfl,_,rfl,p,_,0,_,rfl,rfl,di.of hp,rfl,_,rfl,p,_,1,_,rfl,rfl,di.of hp,rfl,y,_,_,rfl,hy.cl _ (hw.rd _),hw.rd _,(),?_⟩
 have rg:=fg (hy.cl _ (hw.rd ((i:Int) - 1))) (hw.rd i) (Ne.symm (hw.red i))
 obtain ⟨n,hn⟩:∃n:Nat,cst y w i=n:=⟨(cst y w i).toNat,by have:=rg.1;unfold cst;lia⟩
 have:=rg.2.1
 have e:zq y (ay (rd w ((i:Int) - 1))) (rd w i)=n:=hn
 have key:=q n H1 hn () s1
 rw[<-e]at key
 exact key
theorem Mw:bD P w K mg base eQ 1 So S3 ["_law_script","_law_k"] (Cy K):=by
 refine T.F34.fn.ok ny (λvs H Q E h=>Hh h) (λ_ _ _ _ H vs Q E hr h=>?_)
 refine let Z5:TS:=_;let Z4:TS:=_;let Z3:TS:=_;let Z2:TS:=_;let Z1:TS:=_;let Z0:TS:=_;⟨_,(aa (aA (i:=2) ny.nd (aD bo (aD nI aq (pv 1)) aq))
   (ah Z0 (aa (c_ (bf uE (pv 1) (i5 K T.z_len (pv 0)) (aZ _)) (ah Z1 (aj (aA (i:=2) ny.nd (bj (b8 K rfl) (pv 0) (pv 1) (λ_ _=>rfl))))) (ah Z2 (aj (c_ (bf uF (i5 K T.z_len (pv 0)) aq (aZ _)) (ah Z3 (aj (aA (i:=2) ny.nd (aD bo (pv 2) (aD nI (aD eV (bj (b8 K rfl) (pv 0) (aD eV (pv 1) (i5 K T.z_len (pv 0))) (λ_ _=>rfl)) aq) aq))))) b9))))
   (ah Z4 (aa (aA (i:=3) ny.nd (aD eV (aD FT (aD bo (aD bo (aD eV (pv 2) aq) (aD nI aq (pv 1))) aq) aq) aq))
   (ah Z5 (aj (aM (dN (ai (bj (b8 K rfl) (dN (ai aq (ag (pv 2)))) (dU uG rfl T.z_int boot_int (ag (eA FV (pv 2) (aD FT aq aq) (aZ _)))) (λ_ _=>rfl)) (ag (aD bo (aD eV (pv 3) aq) aq)))))))))))),?_⟩
 obtain ⟨a,ns,k,rfl,hS,hk,q⟩:=h
 have hp:(0:Int)<2147483629:=by decide
 walk_at "rd"
 refine ⟨a,_,rfl,.inl hS,?_⟩
 walk_at "rd"
 refine cZ (λe=>?_) (λe=>?_)
 ·have e':(k:Int)<((ns.map V.int:):Nat):=of_decide_eq_true e
  rw[Wh]at e'
  obtain ⟨z,hz⟩:=Cz (ns:=ns) (i:=k) ()
  walk_at "rd"
  refine ⟨a,_,k,_,rfl,rfl,hS,dj hz,?_⟩
  walk_at "rd"
  refine λp1 n1=>?_
  walk_at "rd"
  refine .inr ⟨_,rfl,?_⟩
  obtain ⟨y,hy⟩:=A_ _ z
  refine ⟨p1,_,_,_,rfl,rfl,bL.of ae,hy,?_⟩
  walk_at "rd"
  walk_at"t"
 ·walk_at "rd"
  refine ⟨a,_,rfl,.inl hS,?_⟩
  walk_at "rd"
  refine cZ (λe2=>?_) (λe2=>?_)
  ·have e':(0:Int)<((ns.map V.int:):Nat):=of_decide_eq_true e2
   have hl:(0:Int)<((ns:):Int):=by rw[Wh]at e';exact e'
   have m1:0<=(k:Int)%((ns:):Int):=Qcp _ ()
   have m2:(k:Int)%((ns:):Int)<((ns:):Int):=Qcj _ hl
   obtain ⟨z,hz⟩:=Cz (ns:=ns) (i:=((k:Int)%((ns:):Int)).toNat) ()
   have K4:tF (ns.map V.int) ((k:Int)%((ns.map V.int:):Nat))=some (V.int z):=by
    have:=dj hz
    rw[Int.toNat_of_nonneg m1]at this
    rw[Wh]
    exact this
   walk_at "rd"
   refine ⟨a,_,rfl,.inl hS,?_⟩
   walk_at "rd"
   refine ⟨a,_,_,_,rfl,rfl,hS,K4,?_⟩
   walk_at "rd"
   refine λp1 n1=>?_
   walk_at "rd"
   refine .inr ⟨_,rfl,?_⟩
   obtain ⟨y,hy⟩:=A_ _ _
   refine ⟨p1,_,_,_,rfl,rfl,bL.of ae,hy,?_⟩
   walk_at "rd"
   walk_at"t"
  ·walk_at "rd"
   refine λp1 n1=>?_
   walk_at "rd"
   refine .inr ⟨_,rfl,?_⟩
   obtain ⟨y,hy⟩:=A_ _ _
   refine ⟨p1,_,_,_,rfl,rfl,bL.of ae,hy,?_⟩
   walk_at "rd"
   walk_at"t"
theorem JM:bD P w K mg base eQ 1 Sq S4 ["_law_box_here","_law_many"] (y9 K):=by
 refine T.Q5.fn.ok sV (λvs H Q E h=>Eu h) (λ_ _ _ _ H vs Q E hr h=>?_)
 refine let Z5:TS:=_;let Z4:TS:=_;let Z3:TS:=_;let Z2:TS:=_;let Z1:TS:=_;let Z0:TS:=_;⟨_,(aa (c_ (bf uF (bj (b8 K rfl) (pv 0) aq (λ_ _=>rfl)) aq (aZ _)) (ah Z0 (aa (aA (i:=2) sV.nd (aD eV (bj (b8 K rfl) (pv 0) aq (λ_ _=>rfl)) (pv 1)))
   (ah Z1 (aa (FP (aD ft (bj (b8 K rfl) (pv 0) aq (λ_ _=>rfl)) (pv 1)) (FN (pv 0) aq set_list))
   (ah Z2 (aj (aM (pv 2)))))))) b9)
   (ah Z3 (aa (aA (i:=3) sV.nd (aD eV (aD nI (bj (b8 K rfl) (pv 0) aq (λ_ _=>rfl)) aq) aq))
   (ah Z4 (aa (FP (aD bo (aD eV (aD bo (aD nI (pv 3) aq) aq) aq) aq) (FN (pv 0) aq set_list))
   (ah Z5 (aj (aM (aD eV (aD ft (aD bo (aD nI (pv 3) aq) (bj (b8 K rfl) (pv 0) aq (λ_ _=>rfl))) aq) (pv 1)))))))))),?_⟩
 obtain ⟨b,m,rfl,⟨x,y,hb⟩,h1,h2,q⟩:=h
 have fin:∀(r x' y':Int),0<=r->r<m->Q (.int r) (upd H b (.lst [.int x',.int y'])):=λr x' y' h3 h4=>by
  have e:r=((r.toNat:Nat):Int):=by lia
  rw[e]
  exact q r.toNat _ () ⟨x',y',ae⟩ (bE.upd b H _)
 refine ⟨_,rfl,b,_,0,_,rfl,rfl,bL.of hb,rfl,_,_,rfl,rfl,_,rfl,cZ (λe=>?_) (λe=>?_)⟩
 ·refine ⟨_,rfl,b,_,0,_,rfl,rfl,bL.of hb,rfl,_,rfl,_,_,rfl,rfl,(by lia:0<m),?_⟩
  refine ⟨_,rfl,b,_,0,_,rfl,rfl,bL.of hb,rfl,_,rfl,_,_,rfl,rfl,⟨(),()⟩,_,rfl,b,_,0,0,rfl,rfl,hb,rfl,_,rfl,?_⟩
  exact fin (x%m) (x / m) y (Qcp _ ()) (Qcj _ ())
 ·refine ⟨_,rfl,b,_,1,_,rfl,rfl,bL.of hb,rfl,_,_,rfl,rfl,.inr ⟨∅,∅⟩,_,_,rfl,rfl,(by decide:(0:Int)<2147483647),?_⟩
  refine ⟨_,rfl,_,_,rfl,rfl,.inr ⟨∅,∅⟩,_,_,rfl,rfl,_,_,rfl,rfl,(by decide:(0:Int)<2147483629),_,_,rfl,rfl,_,rfl,b,_,1,1,rfl,rfl,hb,rfl,?_⟩
  refine ⟨_,rfl,_,_,rfl,rfl,.inr ⟨∅,∅⟩,_,rfl,b,_,1,_,rfl,rfl,bL.of ae,rfl,_,_,rfl,rfl,_,_,rfl,rfl,⟨∅,∅⟩,_,rfl,_,_,rfl,rfl,(by lia:0<m),?_⟩
  exact fin _ _ _ (Qcp _ ()) (Qcj _ ())
theorem vZ:bD P w K mg base eQ 1 Sr S5 ["_law_letter"] (vd K):=by
 refine T.JE.fn.ok oO (λvs H Q E h=>A8 h) (λ_ _ _ _ H vs Q E hr h=>?_)
 refine let Z3:TS:=_;let Z2:TS:=_;let Z1:TS:=_;let Z0:TS:=_;⟨_,(aa (aA (i:=1) oO.nd (pA [97,98,99,100,101,102,103,104,105,106,107,108,109,110,111,112,113,114,115,116,117,118,119,120,121,122] ⋯))
   (ah Z0 (aa (aA (i:=2) oO.nd (pA [65,66,67,68,69,70,71,72,73,74,75,76,77,78,79,80,81,82,83,84,85,86,87,88,89,90] ⋯))
   (ah Z1 (aa (c_ (bf OI (pv 0) (pv 1) (by with_unfolding_all rfl)) (ah Z2 (aj (aM (bj qK (pv 2) (cJ K rfl Qbd Qfs Qfq nS (pv 1) (ag (pv 0))) (λ_ _=>rfl))))) b9)
   (ah Z3 (aj (aM (bj qK (pv 1) (cJ K rfl Qbd Qfs Qfq nS (pv 2) (ag (pv 0))) (λ_ _=>rfl)))))))))),?_⟩
 obtain ⟨c,rfl,hc,q⟩:=h
 refine ⟨_,rfl,_,rfl,c,aR,rfl,rfl,_,rfl,cZ (λe=>?_) (λe=>?_)⟩
 ·have hm:c∈aR:=of_decide_eq_true e
  exact ⟨_,rfl,_,rfl,rfl,_,rfl,aR,c,rfl,rfl,hm,lU,_,ay c,rfl,rfl,∅,y8 c hm,q⟩
 ·have hm:c∈lU:=hc.resolve_left λz=>e (decide_eq_true z)
  exact ⟨_,rfl,_,rfl,rfl,_,rfl,lU,c,rfl,rfl,hm,aR,_,ay c,rfl,rfl,∅,Et c hm,q⟩
theorem uu:bD P w K mg base eQ 2 Sk SX ["word","letter"] (lH K):=by
 walk_at"x"
 refine T.F31.fn.ok uh (λvs H Q E h=>sj h) (λ_ _ _ _ H vs Q E hr h=>?_)
 refine ⟨_,(aj (aM (To (eA jy (pv 0) (pA [] ⋯) (aZ _)) (Am (FL (eA Gx (pv 1) (ak bZ T.F0 hr (ag (bj qK (pv 0) (yp qD aq) (λ_ _=>rfl)))) (aZ _)) (Am (eA Pp (bj qK (pv 0) aq (λ_ _=>rfl)) (aY (qW rfl) rfl T.z_min boot_min (ai (pv 1) (ag (ak bZ T.F0 hr (ag (pv 1)))))) (aZ _)))))))),?_⟩
 obtain ⟨u,c,rfl,hu,hl,hc,q⟩:=h
 have hs:=Zs1
 walk_at"T"
 ·have e:fB u c=true:=by unfold fB;rw[z];rfl
  rw[e]at q
  exact q
 have hn:u≠[]:=λe=>z (decide_eq_true e)
 obtain ⟨e0,e1⟩:=Mm hn
 rw[Vr hn]at q
 refine ⟨_,rfl,_,rfl,_,rfl,u,_,_,rfl,rfl,hl,e1,_,rfl,hu _ (List.getLast_mem hn),_,_,rfl,rfl,_,rfl,cZ (λz2=>?_) (λz2=>?_)⟩
 ·have z3:decide (c≠ay (u.getLast hn))=true:=by simpa using z2
  rw[z3]at q
  exact ⟨_,rfl,u,_,_,rfl,rfl,hl,e0,_,rfl,_,rfl,c,rfl,hc,_,_,rfl,_,_,rfl,rfl,q⟩
 ·have z3:decide (c≠ay (u.getLast hn))=false:=by simpa using z2
  rw[z3]at q
  exact q
theorem uv:bD P w K mg base eQ 3 Sl SY ["yard","words"] (lI K):=by
 have xX:=uu (P:=P) (w:=w) (base:=base) T
 refine T.F32.fn.ok g9 (λvs H Q E h=>so h) (λ_ _ _ _ H vs Q E hr h=>?_)
 refine let Z2:TS:=_;let Z1:TS:=_;let Z0:TS:=_;⟨_,(aa (aA (i:=2) g9.nd (dN bW))
   (ah Z0 (aa (cN PassesOwn.never rfl (gc K rfl (pv 1)) (aV (i:=3) g9.nd rfl (Or.inr rfl)) (ah Z1 (aj (d_ (cJ K rfl Qbn PySem.F.slot_list_extend PySem.F.type_list_extend uQ (pv 2) (ag (eF ["letter","word"] [none,some 3] (qU (pv 0)) ⟨⟨rfl,rfl,by first | exact .inl rfl | exact .inr rfl⟩,trivial⟩ (λ_ _ _ _=>(aV (i:=0) (by decide+kernel:List.Nodup (["letter","word"]:List Str)) rfl (Or.inl rfl))) (λ_ _ _ _=>(wA (js (ak xX T.F31 hr (ai (pv 1) (ag (pv 0))))))) (λ_ _ _ _=>(aD cF (pv 1) (pv 0))))))))))
   (ah Z2 (aj (aM (pv 2))))))),?_⟩
 obtain ⟨y,wt,ls,rfl,hy,hyn,hz,hw,hl,hn,q⟩:=h
 have hs:=Zs1
 refine ⟨by show 0<=sizeLine;decide,λp n=>?_⟩
 have s0:=az.upd (o:= .lst []) n
 refine ⟨_,rfl,wt,rfl,⟨_,bL.of (s0 _ _ hw)⟩,?_⟩
 refine let j9:Nat->L2.St->Hp->Prop:=(λi σ H'=>∃(ms:List c7) (wv:Option V),σ=[some (.str (S y)),some (.ref wt),some (.ref p),wv]/\H' p=some (.lst (dD ms))/\E7 fB y (ls.take i) ms/\az H H');ju (K:=K) (a:=wt) (xs:=dD ls) j9 ⟨[],none,rfl,ae,Jo _ _,s0⟩ (λi σ H' _ ⟨_,_,_,_,_,s⟩=>bL.of (s _ _ hw)) ?_ ?_
 ·rintro i x σ H1 hx ⟨ms,wv,rfl,hp,hg,s1⟩
  obtain ⟨l,Mx,rfl⟩:=xH hx
  have Yp:=Qas Mx
  have hi:i<(ls:):=(OC.mp Mx).1
  obtain ⟨Zh,RG⟩:=hl l Yp
  have hl8:∀a∈l,a<128:=λa ha=>hy a (Zh a ha)
  have QI:(ms:)<=40000:=by
   have:=hg.tH
   rw[Qad,Qbs (by omega)]at this
   have h2:(y:)*i<=8*5000:=Nat.mul_le_mul hz (by omega)
   omega
  refine ⟨_,rfl,.inl ⟨rfl,_,bL.of hp⟩,_,rfl,y,rfl,?_⟩
  refine let z8:Nat->List V->Hp->Prop:=(λj acc H'=>H'=H1/\acc=dD (((y.take j).filter (fB l)).map λc=>l++[c]));mC (xs:=eR y) z8 (by rw[b_];omega) ⟨rfl,rfl⟩ ?_ ?_
  ·rintro j x acc H2 Nx hj OS BY ⟨rfl,rfl⟩ nx
   obtain ⟨c,Zi,rfl⟩:=kh OS
   have RL:=Qas Zi
   refine ⟨⟨rfl,trivial⟩,?_⟩
   refine ⟨_,rfl,_,rfl,l,c,rfl,hl8,by omega,hy c RL,_,rfl,cZ (λz=>?_) (λz=>?_)⟩
   ·refine ⟨_,rfl,_,rfl,_,_,rfl,rfl,by show (l:)+1<=sizeLine;omega,?_⟩
    refine nx _ _ (by simpa using BY) ⟨rfl,?_⟩
    rw[rq, <-take_snoc Zi,Qcc,NJ _ c z,Qaq]
    rfl
   ·refine nx _ _ (by omega) ⟨rfl,?_⟩
    rw[<-take_snoc Zi,Qcc,NK _ c z,Qa4]
  ·rintro acc H2 D BY ⟨rfl,rfl⟩ hD
   rw[b_,Qbv]
   have pD:p≠D:=ao hp hD
   have hnl:(((y.filter (fB l)).map λc=>l++[c]):)<=(y:):=by rw[Wh];exact Qdd _ _
   refine ⟨p,D,_,_,rfl,rfl,by rw[au pD];exact hp,ae,by rw[cy,cy];omega,?_⟩
   rw[Dr]
   refine ⟨ms++((y.filter (fB l)).map λc=>l++[c]),_,rfl,ae,?_,az.up2 (s1.trans (az.upd hD)) n⟩
   rw[<-take_snoc Mx]
   refine E8 hg (λm=>?_) ?_ hnl
   ·rw[Qay]
    exact ⟨λ⟨c,hc,e⟩=>⟨c,(Qbq.mp hc).1,(Qbq.mp hc).2,e.symm⟩,λ⟨c,h1,h2,e⟩=>⟨c,Qbq.mpr ⟨h1,h2⟩,e.symm⟩⟩
   ·exact List.Pairwise.map _ (λa b h e=>h (by have:=List.append_cancel_left e;simpa using this)) (hyn.filter _)
 ·rintro σ H1 ⟨ms,wv,rfl,hp,hg,s1⟩
  rw[cy,Qbv]at hg
  exact ⟨_,rfl,q p ms H1 n hp hg s1⟩
theorem xY:bD P w K mg base eQ 5 R7 SD ["word"] (CF K):=by
 have mf:=xW (P:=P) (w:=w) (base:=base) T
 have ka:=oP (P:=P) (w:=w) (base:=base) T
 refine T.Q3.fn.ok Mv (λvs H Q E h=>Hq h) (λ_ _ _ _ H vs Q E hr h=>?_)
 refine ⟨_,(aj (aM (aY (qW rfl) rfl T.z_min boot_min (ai (ak mf T.Kd hr (ag (pv 0))) (ag (ak mf T.Kd hr (ag (ak ka T.F1 hr (ag (pv 0)))))))))),?_⟩
 obtain ⟨l,rfl,hl,hz,q⟩:=h
 refine ⟨_,rfl,l,rfl,hl,hz,λH1 s1=>?_⟩
 refine ⟨_,rfl,l,rfl,za hl,hz,λH2 s2=>?_⟩
 refine ⟨bC l,rfl,jF hl,by rw[bA];exact hz,λH3 s3=>?_⟩
 exact ⟨_,_,rfl,q _ ((s1.trans s2).trans s3)⟩
theorem nz:bD P w K mg base eQ 2 R0 Sv ["some"] (gN K):=by
 have tD:=pY (P:=P) (w:=w) (base:=base) T
 have Aa:=xU (P:=P) (w:=w) (base:=base) T
 refine T.F10.fn.ok bH (λvs H Q E h=>lY h) (λ_ _ _ _ H vs Q E hr h=>?_)
 refine let Z8:TS:=_;let Z7:TS:=_;let Z6:TS:=_;let Z5:TS:=_;let Z4:TS:=_;let Z3:TS:=_;let Z2:TS:=_;let Z1:TS:=_;let Z0:TS:=_;⟨_,(aa (aA (i:=1) bH.nd (ak tD T.F8 hr (ag (pv 0))))
   (ah Z0 (aa (aA (i:=2) bH.nd (dN bW))
   (ah Z1 (aa (aA (i:=3) bH.nd aq)
   (ah Z2 (aa (cN PassesOwn.never rfl (gc K rfl (aY (ub rfl) rfl T.z_sorted boot_sorted (ag (pv 1)))) (aV (i:=4) bH.nd rfl (Or.inl rfl)) (ah Z3 (aj (c_ (bf AO (qc (lh hr) (pv 1) (pv 4) (λ_ _=>rfl)) (pv 4) (aZ _)) (ah Z4 (aj (d_ (cJ K rfl Qbn Qdn Qdm hV (pv 2) (ag (pv 4)))))) (ah Z5 (aa (aA (i:=5) bH.nd (ak Aa T.F9 hr (ai (pv 2) (ag (qc (lh hr) (pv 1) (pv 4) (λ_ _=>rfl))))))
   (ah Z6 (aa (d_ (cJ K rfl Qbn Qeo Qem qH (pv 2) (ag (pv 5))))
   (ah Z7 (aj (lQ (i:=3) bH.nd rfl (Or.inl rfl) (aD eh (i5 K T.z_len (pv 2)) (pv 5)) wc)))))))))))
   (ah Z8 (aj (aM (pv 3))))))))))),?_⟩
 obtain ⟨a,qs,rfl,ha,hq,hn,nd,q⟩:=h
 have hs:=Zs1
 refine ⟨_,rfl,a,qs,rfl,ha,hq,by omega,nd,λd H1 nd1 hd s1=>?_⟩
 have hcs:(qs.map Q4.v:)<=24:=by rw[Wh];exact hn
 generalize qs.map Q4.v=cs at nd hd q hcs
 have kl:=zF cs
 have cl':(eM cs:)=2*(cs:):=by
  have:=congrArg List.length (iB cs)
  rw[Wh,Wh]at this
  omega
 walk_at "wk"
 intro b nb
 have hbd:d≠b:=ao hd nb
 have hd2:L2.upd H1 b (.lst []) d=some (.dK (gC cs)):=by rw[au hbd];exact hd
 have sb:=az.upd (o:= .lst []) nb
 refine ⟨_,rfl,d,_,(eM cs).map λn:Nat=>(n:Int),rfl,hd2,by rw[iB,Qbh];rfl,by rw[Wh];omega,λp2 ms n2 A6 NS=>?_⟩
 obtain ⟨P,eP,pP,uP⟩:=BB nd A6 NS
 rw[eP]
 have ch:=Qk nd pP uP
 have lP:P.length<=2000:=by rw[pP.length_eq];omega
 have h2b:p2≠b:=λz=>by rw[z,ae]at n2;cases n2
 have s2:=sb.trans (az.upd (o:= .lst (ins P)) n2)
 refine ⟨p2,rfl,⟨_,bL.of ae⟩,?_⟩
 refine let j9:Nat->L2.St->Hp->Prop:=(λk σ H'=>∃(m:Nat) (pv nv:Option V),σ=[some (.ref a),some (.ref d),some (.ref b),some (.int m),pv,nv]/\H' b=some (.lst (ins (qp (cQ cs) (P.take k) (P.drop k))))/\m+Ka (cQ cs) (P.take k) (P.drop k)=Ka (cQ cs) [] P/\bE b (L2.upd (L2.upd H1 b (.lst [])) p2 (.lst (ins P))) H');ju (K:=K) (a:=p2) (xs:=ins P) j9
  ⟨0,none,none,rfl,by rw[au (Ne.symm h2b),ae];rfl,by rw[Qcq];rfl,bE.refl _ _⟩ (λk σ H' _ ⟨_,_,_,_,_,_,h⟩=>bL.of (h _ _ ae h2b)) ?_ ?_
 ·rintro k x σ H3 hx ⟨m,pv,nv,rfl,hb,hm,s3⟩
  obtain ⟨p,hp,rfl⟩:∃p,P[k]? =some p/\x=V.int (p:Nat):=by
   unfold ins at hx
   rw[Qar]at hx
   cases e:P[k]? with
   | none=>rw[e]at hx;cases hx
   | some p=>rw[e]at hx;cases hx;exact ⟨p,rfl,rfl⟩
  have hk:k<P.length:=(OC.mp hp).1
  have X9:p∈eM cs:=pP.mem_iff.mp (Qas hp)
  have hsv:=Qm nd X9
  have hd3:H3 d=some (.dK (gC cs)):=s3 _ _ (s2 _ _ hd) hbd
  have eP2:P=P.take k++p::P.drop (k+1):=by
   have:=Qag k P
   rw[Qbz hk,(OC.mp hp).2]at this
   exact this.symm
  have Zj:P.drop k=p::P.drop (k+1):=by rw[Qbz hk,(OC.mp hp).2]
  have VN:P.take (k+1)=P.take k++[p]:=(take_snoc hp).symm
  have bl:(qp (cQ cs) (P.take k) (P.drop k):)<=2000:=Qa7 L5 (by rw[Qad];omega)
  have zq:=IS (st:=cQ cs) hp
  refine ⟨_,rfl,_,rfl,d,_,rfl,by rw[<-hsv];exact qZ.k (k:=Sum.inl (p:Int)) hd3,?_⟩
  walk_at "rd"
  walk_at"j"
  ·have z1:cQ cs p=p:=by have:=of_decide_eq_true z;omega
   refine ⟨_,rfl,.inl ⟨rfl,_,bL.of hb⟩,_,rfl,b,_,_,rfl,rfl,hb,by rw[m7];omega,?_⟩
   refine ⟨m,_,_,rfl,?_,?_,s3.trans (bE.upd _ _ _)⟩
   ·rw[ae,IK,VN,IG ch eP2 z1, <-Zj]
   ·have e0:ET (cQ cs) (P.take k) (P.drop (k+1)) p=0:=by unfold ET;rw[if_pos z1]
    omega
  ·have z1:cQ cs p≠p:=λw=>z (decide_eq_true (by rw[w]))
   obtain ⟨en,em⟩:=Qh ch eP2 z1
   rw[<-Zj]at en em
   have up:=Ql (st:=cQ cs) uP (Qag k P).symm (P.drop k)
   have AG:=Qak em
   refine ⟨_,rfl,_,rfl,_,rfl,d,_,rfl,by rw[<-hsv];exact qZ.k (k:=Sum.inl (p:Int)) hd3,b,_,cQ cs p,rfl,hb,up,em,by omega,?_⟩
   refine ⟨_,rfl,.inl ⟨rfl,_,bL.of hb⟩,_,rfl,b,_,_,_,_,rfl,rfl,hb,by omega,by omega,?_,IL (OD AG),?_⟩
   ·rw[m7]
    exact IT AG
   have ee:(ins (qp (cQ cs) (P.take k) (P.drop k))).eraseIdx ((qp (cQ cs) (P.take k) (P.drop k)).idxOf (cQ cs p))=ins (qp (cQ cs) (P.take (k+1)) (P.drop (k+1))):=by
    rw[VN,en, <-IQ em]
    exact vJ _ _
   rw[ee]
   refine ⟨_,rfl,_,rfl,b,_,rfl,.inl (bL.of ae),?_⟩
   walk_at "rd"
   have bh:=behind up em
   have lb:(qp (cQ cs) (P.take (k+1)) (P.drop (k+1)):)=((qp (cQ cs) (P.take k) (P.drop k)).erase (cQ cs p):):=by rw[VN,en]
   have le:((qp (cQ cs) (P.take k) (P.drop k)).erase (cQ cs p):)+1=(qp (cQ cs) (P.take k) (P.drop k):):=by rw[List.length_erase_of_mem em];omega
   have ec:ET (cQ cs) (P.take k) (P.drop (k+1)) p=(((qp (cQ cs) (P.take k) (P.drop k)).filter λx=>decide (cQ cs p<x)):):=by unfold ET;rw[if_neg z1,Zj]
   have ei:(m:Int)+(((ins (qp (cQ cs) (P.take (k+1)) (P.drop (k+1))):):Nat) - ((qp (cQ cs) (P.take k) (P.drop k)).idxOf (cQ cs p):Nat))=((m+ET (cQ cs) (P.take k) (P.drop (k+1)) p:Nat):Int):=by rw[m7];omega
   exact ⟨m+ET (cQ cs) (P.take k) (P.drop (k+1)) p,some (.int p),some (.int ((qp (cQ cs) (P.take k) (P.drop k)).idxOf (cQ cs p):Nat)),by rw[<-ei];rfl,ae,by omega,s3.trans (bE.upd _ _ _)⟩
 ·rintro σ H3 ⟨m,pv,nv,rfl,hb,hm,s3⟩
  rw[m7,List.drop_length,Qbv]at hm
  have A0:m=Ka (cQ cs) [] P:=hm
  refine ⟨_,rfl,?_⟩
  rw[A0,Vp ch]
  exact q H3 λc o e=>s3 c o (s2 c o (s1 c o e)) (ao e (az.free s1 nb))
theorem Ab:bD P w K mg base eQ 1 f2 d2 ["yard"] (zl K):=by
 refine T.F2.fn.ok JI (λvs H Q E h=>EG h) (λ_ _ _ _ H vs Q E hr h=>?_)
 refine ⟨_,(aj (aM (cJ K rfl Qbd Qen Qel (mE K rfl) (pA [] ⋯) (ag (aY (wK K rfl) rfl T.z_sorted boot_sorted (ag (eF ["letter"] [none] (qU (pv 0)) trivial (λ_ _ _ _=>(aV (i:=0) (by decide+kernel:List.Nodup (["letter"]:List Str)) rfl (Or.inl rfl))) (λ_ _ _ _=>(wA (js (fj K rfl Qbd Qfg Qff lS (pv 0))))) (λ_ _ _ _=>(pv 0))))))))),?_⟩
 obtain ⟨l,rfl,hl,hz,q⟩:=h
 have hs:(1000:Nat)<sizeLine:=by decide
 refine ⟨rfl,_,rfl,l,rfl,?_⟩
 refine let j9:Nat->List V->Hp->Prop:=(λi acc H'=>az H H'/\acc=eR ((l.take i).filter aC));mC (xs:=eR l) j9 (by rw[b_];lia) ⟨az.refl H,rfl⟩ ?_ ?_
 ·rintro i x acc H1 Nx hi hx BY ⟨s1,rfl⟩ nx
  obtain ⟨c,hc,rfl⟩:=kh hx
  have e:=zm (p:=aC) hc
  refine ⟨trivial,?_⟩
  refine ⟨_,rfl,rfl,c,rfl,rfl,hl c (Qas hc),_,rfl,?_⟩
  walk_at"j"
  ·rw[if_pos z]at e
   exact ⟨_,rfl,nx _ _ (by simpa using BY) ⟨s1,by rw[e, <-gi]⟩⟩
  ·rw[if_neg z,Qa4]at e
   exact nx _ _ (Nat.le_succ_of_le BY) ⟨s1,by rw[e]⟩
 ·rintro acc H1 D BY ⟨s1,rfl⟩ hD
  rw[zc,kA]
  have hfl:(l.filter aC:)<=(l:):=Qdd _ _
  refine ⟨D,(l.filter aC).map λc=>[c],rfl,bL.of ae,by rw[Wh];lia,λp ls hp A6 NS=>?_⟩
  obtain ⟨l',rfl,pl⟩:=KQ A6
  have Ac:=pl.length_eq
  refine ⟨p,l'.map λc=>[c],rfl,rfl,bL.of ae,by rw[Hi];lia,?_⟩
  rw[y_]
  exact q l' _ pl (KR NS) ((s1.trans (az.upd hD)).trans (az.upd hp))
theorem uw:bD P w K mg base eQ 2 f4 d4 ["yard","drawing","end"] (lD K):=by
 have xZ:=Ab (P:=P) (w:=w) (base:=base) T
 refine T.F4.fn.ok lL (λvs H Q E h=>rQ h) (λ_ _ _ _ H vs Q E hr h=>?_)
 refine let Z2:TS:=_;let Z1:TS:=_;let Z0:TS:=_;⟨_,(aa (aA (i:=3) lL.nd (dU (tU K rfl) rfl T.z_list boot_list (ag (bj (bJ K rfl) (bj (bJ K rfl) (pv 1) aq (λ_ _=>rfl)) (cJ K rfl Qbd Qfs Qfq nS (ak xZ T.F2 hr (ag (pv 0))) (ag (fj K rfl Qbd Qfr Qfp qN (pv 2)))) (λ_ _=>rfl)))))
   (ah Z0 (aa (c_ (js (fj K rfl Qbd PySem.F.slot_str_isupper PySem.F.type_str_isupper AK (pv 2))) (ah Z1 (aj (d_ (fj K rfl Qbn PySem.F.slot_list_reverse PySem.F.type_list_reverse AD (pv 3))))) b9)
   (ah Z2 (aj (aM (pv 3))))))),?_⟩
 obtain ⟨y,dr,ws,os,e,rfl,hy,hz,he,ho,hd,q⟩:=h
 have hs:=Zs1
 have WV:∀c∈y,c<128:=za hy.lt
 have he8:=WV e he
 obtain ⟨⟨wt,ot,d1,d2,d3⟩,dO⟩:=hd
 obtain ⟨o,o1,o2,o3⟩:=jS hy he ho
 refine ⟨_,rfl,dr,_,1,_,rfl,rfl,di.of d1,rfl,?_⟩
 refine ⟨_,rfl,y,rfl,WV,by omega,λl' H1 Ac RW s1=>?_⟩
 have el:=C5 Ac RW
 subst el
 refine ⟨rfl,_,rfl,rfl,e,rfl,rfl,he8,?_⟩
 refine ⟨fU y,_,rfl,rfl,Io hy he,?_⟩
 refine ⟨ot,_,_,_,rfl,rfl,di.of (s1 _ _ d3),dj (Qc o2),?_⟩
 refine ⟨o.o,_,rfl,.inr (di.of (s1 _ _ (dO o o1).tp)),λp1 n1=>?_⟩
 refine ⟨_,rfl,rfl,e,rfl,rfl,he8,_,rfl,cZ (λz=>?_) (λz=>?_)⟩
 ·refine ⟨_,rfl,.inl ⟨rfl,_,bL.of ae⟩,p1,_,rfl,rfl,ae,?_⟩
  refine ⟨_,rfl,q p1 _ (az.free s1 n1) ?_ ?_⟩
  ·rw[ae,LW]
   unfold qm
   rw[if_pos z,o3]
  ·exact λa u ea=>by rw[au (ao ea (az.free s1 n1)),au (ao ea (az.free s1 n1))];exact s1 a u ea
 ·refine ⟨_,rfl,q p1 _ (az.free s1 n1) ?_ (s1.trans (az.upd n1))⟩
  rw[ae]
  unfold qm
  rw[if_neg z,o3]
theorem Fm:bD P w K mg base eQ 3 f5 d5 ["yard","drawing"] (vF K):=by
 have x3:=uw (P:=P) (w:=w) (base:=base) T
 refine T.F5.fn.ok kP (λvs H Q E h=>Bv h) (λ_ _ _ _ H vs Q E hr h=>?_)
 refine let Z3:TS:=_;let Z2:TS:=_;let Z1:TS:=_;let Z0:TS:=_;⟨_,(aa (aA (i:=2) kP.nd (dN bW))
   (ah Z0 (aa (cN PassesOwn.never rfl (qU (pv 0)) (aV (i:=3) kP.nd rfl (Or.inl rfl)) (ah Z1 (aj (cN PassesOwn.never rfl (gc K rfl (ak x3 T.F4 hr (ai (pv 0) (ai (pv 1) (ag (pv 3)))))) (aV (i:=4) kP.nd rfl (Or.inl rfl)) (ah Z2 (aj (d_ (cJ K rfl Qbn Qdn Qdm hV (pv 2) (ag (dz (ai (bj (bJ K rfl) (pv 4) aq (λ_ _=>rfl)) (ai (bj (bJ K rfl) (pv 4) aq (λ_ _=>rfl)) (ag (pv 3))))))))))))))
   (ah Z3 (aj (aM (pv 2))))))),?_⟩
 obtain ⟨y,dr,ws,os,rfl,hy,hz,ho,hd,q⟩:=h
 have hs:=Zs1
 walk_at "wk"
 intro p1 n1
 refine ⟨_,rfl,y,rfl,?_⟩
 refine let j9:Nat->L2.St->Hp->Prop:=(λi σ H'=>∃(ps:List Pt) (ev sv:Option V),σ=[some (.str (S y)),some (.ref dr),some (.ref p1),ev,sv]/\H' p1=some (.lst (J9 ps))/\(∀p∈ps,ud H' p/\p.t≠p1)/\ps.map Pt.is=(y.take i).flatMap (fN y os)/\(ps:)<=100*i/\bE p1 H H');Cg (xs:=eR y) j9 ⟨[],none,none,rfl,ae,λ_ h=>absurd h Qaj,rfl,Qau _,bE.of (az.upd n1)⟩ ?_ ?_
 ·rintro i x σ H1 hx ⟨ps,ev,sv,rfl,hp,yV,vc,kU,s1⟩
  obtain ⟨e,he,rfl⟩:=kh hx
  have Qd:=Qas he
  have hi:i<(y:):=(OC.mp he).1
  have Q_:az H H1:=λa u ea=>s1 a u ea (ao ea n1)
  refine ⟨_,rfl,_,rfl,_,rfl,y,dr,ws,os,e,rfl,hy,hz,Qd,ho,hd.same Q_,λp2 H2 n2 wL s2=>?_⟩
  have Ve:=LZ (H:=H) hy Qd ho hd.od
  refine ⟨p2,rfl,⟨_,bL.of wL⟩,?_⟩
  have h12:p2≠p1:=λz=>by rw[z,hp]at n2;cases n2
  refine let z8:Nat->L2.St->Hp->Prop:=(λj σ H'=>∃(us:List Pt) (sv:Option V),σ=[some (.str (S y)),some (.ref dr),some (.ref p1),some (.str (S [e])),sv]/\H' p1=some (.lst (J9 us))/\H' p2=some (.lst (vE (qm y os e)))/\(∀p∈us,ud H' p/\p.t≠p1)/\us.map Pt.is=ps.map Pt.is++((qm y os e).take j).map (λp=>(p.c,p.i,e))/\(us:)<=100*i+j/\bE p1 H1 H');ju (K:=K) (a:=p2) (xs:=vE (qm y os e)) z8
   ⟨ps,sv,rfl,s2 _ _ hp,wL,λp tZ=>⟨(yV p tZ).1.same s2,(yV p tZ).2⟩,by simp,by omega,bE.of s2⟩ (λj σ H' _ ⟨_,_,_,_,h,_⟩=>bL.of h) ?_ ?_
  ·rintro j x σ H3 Zk ⟨us,sv3,rfl,Fj,VO,VP,Fi,S8,s3⟩
   obtain ⟨p,Zl,rfl⟩:=Iq Zk
   obtain ⟨o,oo,po⟩:=LY hy Qd ho (Qas Zl)
   have hj:j<(qm y os e:):=(OC.mp Zl).1
   have WW:az H H3:=λa u ea=>s3 a u (Q_ a u ea) (ao ea n1)
   have pk:=(hd.od o oo).pr p po
   have tp:=WW _ _ pk.tp
   refine ⟨_,rfl,.inl ⟨rfl,_,bL.of Fj⟩,?_⟩
   refine ⟨_,rfl,p.t,_,0,_,rfl,rfl,di.of tp,rfl,_,rfl,p.t,_,1,_,rfl,rfl,di.of tp,rfl,?_⟩
   walk_at "wk"
   intro t nt
   have Ra:t≠p1:=λz=>by rw[z,Fj]at nt;cases nt
   refine ⟨p1,_,_,rfl,rfl,(az.upd nt) _ _ Fj,by rw[C6];omega,?_⟩
   refine ⟨us++[⟨t,p.c,p.i,e⟩],_,rfl,by rw[ae];exact congrArg (λx=>some (HO.lst x)) (Iu us ⟨t,p.c,p.i,e⟩),by rw[au h12];exact (az.upd nt) _ _ VO,λr hr=>?_,?_,by rw[T6];show (us:)+1<=_;omega,λa u ea z=>by rw[au z];exact (az.upd nt) _ _ (s3 a u ea z)⟩
   ·rcases Qap.mp hr with z | z
    ·exact ⟨((VP r z).1.same (az.upd nt)).upd (VP r z).2,(VP r z).2⟩
    ·have e2:=Wi.mp z
     subst e2
     exact ⟨ud.upd ⟨ae,pk.cz,pk.iz,(hy.lt e Qd).lt⟩ Ra,Ra⟩
   ·rw[Qaq,Fi, <-take_snoc Zl,Qaq,RI]
    rfl
  ·rintro σ H3 ⟨us,sv3,rfl,Fj,VO,VP,Fi,S8,s3⟩
   rw[xx]at S8 Fi
   refine ⟨us,_,_,rfl,Fj,VP,?_,by omega,λa u ea z=>s3 a u (s1 a u ea z) z⟩
   rw[Fi,vc, <-take_snoc he,Qcd,Qbv,Qbw,Qgv,Qa4]
   rfl
 ·rintro σ H1 ⟨ps,ev,sv,rfl,hp,yV,vc,kU,s1⟩
  rw[b_]at kU vc
  rw[Qbv]at vc
  exact ⟨_,rfl,q p1 ps H1 n1 hp yV vc (by omega) (λa u ea=>s1 a u ea (ao ea n1))⟩
theorem oQ:bD P w K mg base eQ 2 f6 d6 ["word","cord","place"] (iA K):=by
 walk_at"x"
 refine T.F6.fn.ok iG (λvs H Q E h=>mZ h) (λ_ _ _ _ H vs Q E hr h=>?_)
 refine let Z0:TS:=_;⟨_,(aa (aA (i:=3) iG.nd (aD eV (aD eh (pv 2) aq) (aY bM rfl T.z_len Qce (ag (pv 0)))))
   (ah Z0 (aj (aM (dz (ai (dz (ai (pv 1) (ai (pv 3) (ag (ak bZ T.F0 hr (ag (bj qK (pv 0) (pv 3) (λ_ _=>rfl)))))))) (ag (dz (ai (pv 1) (ai (pv 2) (ag (bj qK (pv 0) (pv 2) (λ_ _=>rfl))))))))))))),?_⟩
 obtain ⟨w,c,i,rfl,Zm,hi,hz,q⟩:=h
 have hs:=Zs1
 have hp:(0:Int)<((w:):Int):=by omega
 have hpr:=C7 hi
 have kU:=Bx hi
 have e1:w.getD (Ai (w:) i) 0=w[Ai (w:) i]:=by rw[Qao,OD kU];rfl
 have e2:w.getD i 0=w[i]:=by rw[Qao,OD hi];rfl
 rw[e1,e2]at q
 refine ⟨_,rfl,_,_,rfl,rfl,_,rfl,w,rfl,by omega,_,_,rfl,rfl,hp,?_⟩
 show uC 3 (V.int (((i:Int) - 1)%((w:):Int))) _ _ _
 rw[hpr]
 refine ⟨_,rfl,_,rfl,_,rfl,_,rfl,w,_,_,rfl,rfl,by omega,dj (OD kU),_,rfl,Zm _ (Qb3 kU),by show 3<=sizeLine;decide,λt1 n1=>?_⟩
 refine ⟨_,rfl,_,rfl,_,rfl,_,rfl,w,_,_,rfl,rfl,by omega,dj (OD hi),by show 3<=sizeLine;decide,λt2 n2=>?_⟩
 refine ⟨by show 2<=sizeLine;decide,λt nt=>?_⟩
 have Zn:=(az.upd (o:= .tup [.ref t1,.ref t2]) nt)
 refine q t t1 t2 _ ae (Zn _ _ ((az.upd n2) _ _ ae)) (Zn _ _ ae) ((az.upd n1).trans ((az.upd n2).trans Zn))
theorem BZ:bD P w K mg base eQ 4 f7 d7 ["yard","drawing"] (rS K):=by
 have JN:=Fm (P:=P) (w:=w) (base:=base) T
 have p5:=oQ (P:=P) (w:=w) (base:=base) T
 refine T.F7.fn.ok cR (λvs H Q E h=>zC h) (λ_ _ _ _ H vs Q E hr h=>?_)
 refine ⟨_,(aa (aA (i:=2) cR.nd GO)
   (aa (cN PassesOwn.never rfl (GG K rfl rfl T.z_enumerate (ag (ak JN T.F5 hr (ai (pv 0) (ag (pv 1)))))) (qb (n:=2) K rfl rfl (fq (aV (i:=3) cR.nd rfl (Or.inl rfl)) (fq (aV (i:=4) cR.nd rfl (Or.inl rfl)) p7))) (aj (kj (lh hr) (pv 2) (pv 4) (pv 3) rfl)))
   (aa (aA (i:=5) cR.nd (dN bW))
   (aa (cN PassesOwn.never rfl (yM K rfl rfl T.z_enumerate (ag (bj (bJ K rfl) (pv 1) aq (λ_ _=>rfl)))) (qb (n:=2) K rfl rfl (fq (aV (i:=6) cR.nd rfl (Or.inl rfl)) (fq (aV (i:=7) cR.nd rfl (Or.inl rfl)) p7))) (aj (cN PassesOwn.never rfl (eU rfl T.z_range (ag (aY bM rfl T.z_len Qce (ag (pv 7))))) (aV (i:=8) cR.nd rfl (Or.inl rfl)) (aa (aA (i:=9) cR.nd (ak p5 T.F6 hr (ai (pv 7) (ai (pv 6) (ag (pv 8))))))
   (aj (d_ (cJ K rfl Qbn Qdn Qdm hV (pv 5) (ag (dz (ai (pv 6) (ai (pv 8) (ai (qc (lh hr) (pv 2) (bj (bJ K rfl) (pv 9) aq (λ_ _=>rfl)) (λ_ _=>rfl)) (ag (qc (lh hr) (pv 2) (bj (bJ K rfl) (pv 9) aq (λ_ _=>rfl)) (λ_ _=>rfl)))))))))))))))
   (aj (aM (pv 5))))))),?_⟩
 obtain ⟨y,dr,ws,os,rfl,hy,hz,uo,WX,hd,q⟩:=h
 have hs:=Zs1
 have S_:=Iy hy WX
 have hbl:=jR hy
 have K5:=WX.1
 have hwf:=uo.tH
 obtain ⟨⟨wt,ot,d1,d2,d3⟩,dO⟩:=id hd
 walk_at "wk"
 intro d nd
 refine ⟨_,rfl,_,rfl,y,dr,ws,os,rfl,hy,hz,by omega,hd.same (az.upd nd),λp1 ps H1 n1 J_ yV vc YO s1=>?_⟩
 have Vu:=s1 _ _ (ae (H:=H) (a:=d) (o:=HO.dT []))
 have Q_:az H H1:=(az.upd nd).trans s1
 have kU:(ps:)=(ml y os:):=by rw[<-vc,Wh]
 refine ⟨p1,rfl,⟨_,bL.of J_⟩,?_⟩
 have h1d:p1≠d:=λz=>by rw[z,ae]at n1;cases n1
 refine let j9:Nat->L2.St->Hp->Prop:=(λi σ H'=>∃(aI:List (List Key×V)) (nv pv:Option V),σ=[some (.str (S y)),some (.ref dr),some (.ref d),nv,pv,none,none,none,none,none]/\H' d=some (.dT aI)/\Nums (ml y os) aI i/\(aI:)<=i/\bE d H1 H');D7 (K:=K) (a:=p1) (xs:=J9 ps) j9
  ⟨[],none,none,rfl,Vu,λp hp=>absurd hp (by simp),Qau _,bE.refl _ _⟩ (λi σ H' _ ⟨_,_,_,_,_,_,_,h⟩=>bL.of (h _ _ J_ h1d)) ?_ ?_
 ·rintro i x σ H2 T hx ⟨aI,nv,pv,rfl,hd2,Mz,hkl,s2⟩ nT
  obtain ⟨p,hp,rfl⟩:∃p,ps[i]? =some p/\x=V.ref p.t:=by
   unfold J9 at hx
   rw[Qar]at hx
   cases e:ps[i]? with
   | none=>rw[e]at hx;cases hx
   | some p=>rw[e]at hx;cases hx;exact ⟨p,rfl,rfl⟩
  have hi:i<(ps:):=(OC.mp hp).1
  have pk:=(yV p (Qas hp)).1.tp
  have UK:p.t≠d:=λz=>by rw[z,Vu]at pk;cases pk
  have hTd:d≠T:=ao hd2 nT
  refine ⟨T,_,rfl,di.of ae,rfl,_,_,rfl,_,_,rfl,rfl,?_⟩
  refine ⟨_,rfl,_,rfl,_,rfl,d,_,rfl,pH.t (k:=xA p.is) (by rw[au hTd];exact hd2) ((az.upd nT) _ _ (s2 _ _ pk UK)) (by omega),?_⟩
  exact ⟨_,_,_,rfl,ae,Mz.put S_ (Vo vc hp),Qa7 (gH _ _ _) (by omega),λa o ea z=>by rw[au z];exact (az.upd nT) _ _ (s2 a o ea z)⟩
 ·rintro σ H2 ⟨aI,nv,pv,rfl,hd2,Mz,hkl,s2⟩
  rw[C6,kU]at Mz
  have NU:∀p∈ml y os,dF aI (xA p)=some (.int ((ml y os).idxOf p:Nat)):=λp hp=>Mz p (by rw[Qbv];exact hp)
  have JL:az H H2:=λa o ea=>s2 a o (Q_ a o ea) (ao ea nd)
  walk_at "wk"
  intro p2 n2
  have Zo:=az.upd (o:= .lst []) n2
  have n20:H p2=none:=az.free JL n2
  refine ⟨_,rfl,dr,_,0,_,rfl,rfl,di.of (Zo _ _ (JL _ _ d1)),rfl,?_⟩
  refine ⟨wt,rfl,⟨_,di.of (Zo _ _ (JL _ _ d2))⟩,?_⟩
  refine let z8:Nat->L2.St->Hp->Prop:=(λj σ H'=>∃(qs:List Q4) (cv wv iv av:Option V),σ=[some (.str (S y)),some (.ref dr),some (.ref d),nv,pv,some (.ref p2),cv,wv,iv,av]/\H' p2=some (.lst (ER qs))/\(∀x∈qs,ue H' x)/\qs.map Q4.v=gL (ml y os) ws j/\(qs:)<=12*j/\az H2 H');u9 (K:=K) (a:=wt) (xs:=dD ws) z8
   ⟨[],none,none,none,none,rfl,ae,λ_ h=>absurd h Qaj,rfl,Qau _,Zo⟩ (λj σ H' _ ⟨_,_,_,_,_,_,_,_,_,_,h⟩=>di.of (h _ _ (JL _ _ d2))) ?_ ?_
  ·rintro j x σ H3 T hx ⟨qs,cv,wv,iv,av,rfl,Fj,VQ,NV,Zp,s3⟩ nT
   have hj:j<(ws:):=by
    have:=(OC.mp hx).1
    rwa [cy]at this
   rw[rz hj]at hx
   cases hx
   have J3:ws[j]? =some ws[j]:=OD hj
   obtain ⟨WY,NR⟩:=uo.all _ (Qb3 hj)
   generalize ws[j]=w at J3 WY NR ⊢
   have Zm:∀l∈w,l<128:=λl hl=>(hy.lt l (WY l hl)).lt
   have sT:=az.upd (o:= .tup [.int j,.str (S w)]) nT
   refine ⟨T,_,rfl,di.of ae,rfl,_,_,rfl,_,_,rfl,rfl,?_⟩
   refine ⟨_,rfl,w,rfl,by omega,_,rfl,by omega,by omega,?_⟩
   rw[Qan]
   refine let Zq:Nat->L2.St->Hp->Prop:=(λi σ H'=>∃(us:List Q4) (iv av:Option V),σ=[some (.str (S y)),some (.ref dr),some (.ref d),nv,pv,some (.ref p2),some (.int j),some (.str (S w)),iv,av]/\H' p2=some (.lst (ER us))/\(∀x∈us,ue H' x)/\us.map Q4.v=gL (ml y os) ws j++oq (ml y os) j w i/\(us:)<=12*j+i/\az H2 H');dR Zq
    ⟨qs,iv,av,rfl,sT _ _ Fj,λx hx=>(VQ x hx).ts (fL.of sT),by rw[NV];show _=_++[];rw[Qa4],by omega,s3.trans sT⟩ ?_ ?_
   ·rintro i σ H4 hi ⟨us,iv4,av4,rfl,WZ,Fs,Fi,S8,s4⟩
    show N8 _ _ _ _ _
    refine Nl λDx Zc=>?_
    have e1:w[Ai (w:) i]? =some (w.getD (Ai (w:) i) 0):=by rw[Qao,OD (Bx hi)];rfl
    have e2:w[i]? =some (w.getD i 0):=by rw[Qao,OD hi];rfl
    have m1:=NU _ (Iz hy WX J3 e1 (WY _ (Qas e1)) (.inr rfl))
    have m2:=NU _ (Iz hy WX J3 e2 (WY _ (Qas e2)) (.inl rfl))
    refine ⟨_,rfl,_,rfl,_,rfl,w,j,i,by rw[Qd8];rfl,Zm,hi,by omega,λt t1 t2 H5 ht Ra VR s5=>?_⟩
    have hp5:=s5 _ _ WZ
    have VS:=s5 _ _ (s4 _ _ hd2)
    refine ⟨_,rfl,.inl ⟨rfl,_,bL.of hp5⟩,_,rfl,_,rfl,?_⟩
    refine ⟨_,rfl,_,rfl,t,_,0,_,rfl,rfl,di.of ht,rfl,d,_,rfl,by rw[<-m1];exact qZ.t VS Ra,?_⟩
    refine ⟨_,rfl,_,rfl,t,_,1,_,rfl,rfl,di.of ht,rfl,d,_,rfl,by rw[<-m2];exact qZ.t VS VR,?_⟩
    rw[Qd8]
    refine ⟨by show 4<=sizeLine;decide,λtq ntq=>?_⟩
    have s6:=s5.trans (az.upd (o:= .tup [.int j,.int i,.int ((ml y os).idxOf (j,Ai (w:) i,ay (w.getD (Ai (w:) i) 0)):Nat),.int ((ml y os).idxOf (j,i,w.getD i 0):Nat)]) ntq)
    have Zr:=s6 _ _ WZ
    refine ⟨p2,_,_,rfl,rfl,Zr,by rw[C8];omega,?_⟩
    refine Zc _ _ ⟨us++[⟨tq,lE (ml y os) j w i⟩],_,_,rfl,by rw[ae];exact congrArg (λx=>some (HO.lst x)) (IC us ⟨tq,lE (ml y os) j w i⟩),λx hx=>?_,by rw[Qaq,Fi,zB,RI];rfl,by rw[T6];show (us:)+1<=_;omega,λa o ea=>by rw[au (ao ea n2)];exact s6 _ _ (s4 a o ea)⟩
    rcases Qap.mp hx with g | g
    ·exact (Fs x g).ts ((fL.of s6).trans (fL.KS Zr))
    ·have e3:=Wi.mp g
     subst e3
     exact (fL.KS Zr) _ _ ae
   ·rintro σ H4 ⟨us,iv4,av4,rfl,WZ,Fs,Fi,S8,s4⟩
    exact ⟨us,_,_,_,_,rfl,WZ,Fs,by rw[Fi,xB J3],by omega,s4⟩
  ·rintro σ H3 ⟨qs,cv,wv,iv,av,rfl,Fj,VQ,NV,Zp,s3⟩
   rw[cy]at NV
   exact ⟨_,rfl,q p2 qs H3 n20 Fj VQ NV (JL.trans s3)⟩
theorem MA:bD P w K mg base eQ 5 R8 SE ["word"] (CK K):=by
 have mf:=xW (P:=P) (w:=w) (base:=base) T
 refine T.WL.fn.ok qw (λvs H Q E h=>Hv h) (λ_ _ _ _ H vs Q E hr h=>?_)
 refine let Z4:TS:=_;let Z3:TS:=_;let Z2:TS:=_;let Z1:TS:=_;let Z0:TS:=_;⟨_,(aa (aA (i:=1) qw.nd (ak mf T.Kd hr (ag (pv 0))))
   (ah Z0 (aa (cN PassesOwn.never rfl (uD rfl T.z_range (ai aq (ag (aD bo (aY bM rfl T.z_len Qce (ag (pv 1))) aq)))) (aV (i:=2) qw.nd rfl (Or.inl rfl)) (ah Z1 (aa (aA (i:=3) qw.nd (aD ft (aY bM rfl T.z_len Qce (ag (pv 1))) (pv 2)))
   (ah Z2 (aj (c_ (bf jy (aD wG (cI qL (pv 1) fQ (ck (pv 2))) (pv 3)) (pv 1) (aZ _)) (ah Z3 (aj (aM (dz (ai (cI qL (pv 1) fQ (ck (pv 2))) (ag (pv 3))))))) b9))))))
   (ah Z4 (aj (aM (dz (ai (pA [] ⋯) (ag aq))))))))),?_⟩
 obtain ⟨l,rfl,hl,hz,q⟩:=h
 have hs:=Zs1
 walk_at "wk"
 intro H1 s1
 have hw:(aP l:)<=1000:=Qa7 (nZ l) hz
 generalize aP l=c at hw q ⊢
 have hcz:(c:)<=sizeLine:=by lia
 walk_at "wk"
 refine ⟨_,_,rfl,⟨∅,∅,(),()⟩,?_⟩
 refine let j9:Nat->L2.St->Hp->Prop:=(λi σ H'=>H'=H1/\(∀j,1<=j->j<=i-> ¬fM c j)/\∃sv tv,σ=[some (.str (S l)),some (.str (S c)),sv,tv]);dR j9 ⟨rfl,λj h1 h2=>by lia,none,none,rfl⟩ ?_ ?_
 ·rintro i σ H2 hi ⟨rfl,W0,sv,tv,rfl⟩
  have e1:(1:Int)+(i:Int)=((i+1:Nat):Int):=by lia
  rw[e1]
  have e2:((c:):Int) / ((i+1:Nat):Int)=(((c:) / (i+1):Nat):Int):=(Qfn _ _).symm
  have hd:=Nat.div_le_self (c:) (i+1)
  have hmul:(c.take (i+1):)*((c:) / (i+1))<=sizeLine:=by
   have h1:(c.take (i+1):)<=i+1:=by rw[Qad];lia
   have h2:=Nat.mul_div_le (c:) (i+1)
   have h3:=Nat.mul_le_mul_right ((c:) / (i+1)) h1
   lia
  walk_at "wk"
  refine ⟨⟨by rw[e2];exact Qgh _,by rw[e2];exact Int.ofNat_le.mpr (Qa7 hd (by lia:(c:)<=1000000))⟩,by rw[e2,jG,Qan];exact hmul,?_⟩
  walk_at "wk"
  walk_at"j"
  ·have z1:fM c (i+1):=by
    have:=of_decide_eq_true z
    rw[e2,jG,Qan]at this
    exact this
   walk_at "wk"
   intro p np
   refine q p (i+1) _ (az.free s1 np) ?_ (.inr ⟨(),(),z1,λj j1 j2=>W0 j j1 ()⟩) (s1.trans (az.upd np))
   rw[ae]
   unfold Np
   rw[<-jG, <-e2]
  ·have z1: ¬fM c (i+1):=λy=>z (decide_eq_true (by
    rw[e2,jG,Qan]
    exact y))
   refine ⟨rfl,λj j1 j2=>?_,_,_,rfl⟩
   by_cases y:j=i+1
   ·rw[y];exact z1
   ·exact W0 j j1 ()
 ·rintro σ H2 ⟨rfl,W0,sv,tv,rfl⟩
  have hc:c=[]:=by
   by_cases z:c=[]
   ·exact z
   ·have hl:0<(c:):=Qab.mpr z
    exact absurd (ED c z) (W0 _ hl ())
  subst hc
  walk_at "wk"
  intro p np
  exact q p 0 _ (az.free s1 np) (by rw[ae];rfl) (.inl ⟨rfl,rfl⟩) (s1.trans (az.upd np))
theorem JO:bD P w K mg base eQ 6 lK zY ["self","yard","word","longest"] (zG K aW):=by
 have Rb:=MA (P:=P) (w:=w) (base:=base) T
 have mf:=xW (P:=P) (w:=w) (base:=base) T
 have ka:=oP (P:=P) (w:=w) (base:=base) T
 have tE:=pZ (P:=P) (w:=w) (base:=base) T
 refine T.VD.ok sZ (λvs H Q E h=>EY h) (λ_ _ _ _ H vs Q E hr h=>?_)
 refine let Z5:TS:=_;let Z4:TS:=_;let Z3:TS:=_;let Z2:TS:=_;let Z1:TS:=_;let Z0:TS:=_;⟨_,(aa (jv (pv 0) (aY bM rfl T.z_len Qce (ai (pv 2) bW)) rfl)
   (ah Z0 (aa (jv (pv 0) (aY bM rfl T.z_len Qce (ai (bj (bJ K rfl) (kf Rb (hr.mono ∅) rfl T.WL.mg T.WL.fn.kp T.WL.bd .nil gG (ai (pv 2) bW)) aq (λ_ _=>rfl)) bW)) rfl)
   (ah Z1 (aa (jv (pv 0) (eA wD (kf mf (hr.mono ∅) rfl T.Kd.mg T.Kd.fn.kp T.Kd.bd .nil gG (ai (pv 2) bW)) (kf mf (hr.mono ∅) rfl T.Kd.mg T.Kd.fn.kp T.Kd.bd .nil gG (ai (kf ka (hr.mono ∅) rfl T.F1.mg T.F1.fn.kp T.F1.bd .nil gG (ai (pv 2) bW)) bW)) (aZ _)) rfl)
   (ah Z2 (aa (An (i:=4) sZ.nd rfl (Or.inl rfl) (cJ K rfl Qbd Qen Qel (mE K rfl) (pA [] ⋯) (ai (eF ["place","yard","word"] [none,some 1,some 2] (eU rfl T.z_range (ai (aY bM rfl T.z_len Qce (ai (pv 2) bW)) bW)) ⟨⟨rfl,rfl,by first | exact .inl rfl | exact .inr rfl⟩,⟨⟨rfl,rfl,by first | exact .inl rfl | exact .inr rfl⟩,trivial⟩⟩ (λ_ _ _ _=>(aV (i:=0) (by decide+kernel:List.Nodup (["place","yard","word"]:List Str)) rfl (Or.inl rfl))) (λ_ _ _ _=>nQ) (λ_ _ _ _=>(dU Ec rfl T.z_str boot_str (ai (kf tE (hr.mono ∅) rfl T.WM.mg T.WM.fn.kp T.WM.bd .nil gG (ai (pv 1) (ai (pv 2) (ai (pv 0) bW)))) bW)))) bW)))
   (ah Z3 (aa (An (i:=5) sZ.nd rfl (Or.inl rfl) (aD bo aq (aD ft (pv 3) (aY (DR rfl) rfl T.z_max boot_max (ai (aY bM rfl T.z_len Qce (ai (pv 2) bW)) (ai aq bW))))))
   (ah Z4 (aa (jv (pv 0) (aD wG (pv 4) (pv 5)) rfl)
   (ah Z5 (aj (jv (pv 0) (aD wG (K8 (pv 4) (ck (yp qD aq))) (pv 5)) rfl)))))))))))))),?_⟩
 obtain ⟨x,dx,y,w',lg,rfl,hx,hy,hz,hw,x9,W2,q⟩:=h
 have hs:=Zs1
 have cU:∀c∈w',Lt c:=λc hc=>hy.lt c (hw.bO c hc)
 have h8:∀c∈w',c<128:=λc hc=>(cU c hc).lt
 have ht:=hw.bC hy
 have htl:∀c∈bC w',Lt c:=λc hc=>hy.lt c (ht.bO c hc)
 have h1:1<=(w':):=Qab.mpr hw.ne
 have rl:=m_ (lg:=lg) h1
 obtain ⟨rt,W3⟩:=CO hw.ne
 refine ⟨_,rfl,w',rfl,(),_,rfl,x,aW,dx,_,rfl,hx,T.gQ,T.n_Way_size,by show 0<1000;decide,?_⟩
 refine ⟨_,rfl,w',rfl,cU,(),λp1 s1 H1 n1 J_ Ng VI=>?_⟩
 obtain ⟨er,el⟩:=EI hy hw Ng W3
 subst er
 have et:((aP w').take s1:)=s1:=by
  rw[Qad,el]
  rcases W3 with ⟨z,_⟩ | ⟨_,h2,_⟩
  ·exact absurd z hw.ne
  ·lia
 have aat:s1<=(w':):=by
  rcases W3 with ⟨z,_⟩ | ⟨_,h2,_⟩
  ·exact absurd z hw.ne
  ·exact h2
 have hx1:=VI _ _ (ae (H:=H) (a:=x))
 refine ⟨p1,_,0,_,rfl,rfl,di.of J_,rfl,_,rfl,by rw[et];lia,_,rfl,x,aW,dx,_,rfl,hx1,T.gQ,T.n_Way_root_size,Qbm (de _ _ _) (by show 0+1<1000;decide),?_⟩
 rw[et]
 refine ⟨_,rfl,w',rfl,cU,(),λH2 s2=>⟨_,rfl,w',rfl,h8,(),λH3 s3=>⟨bC w',rfl,htl,by rw[bA];lia,λH4 s4=>?_⟩⟩⟩
 have s24:=s2.trans (s3.trans s4)
 have hx4:=s24 _ _ (ae (a:=x))
 refine ⟨_,_,rfl,rfl,_,rfl,x,aW,dx,_,rfl,hx4,T.gQ,T.n_Way_leads,Qbm (de _ _ _) (Qbm (Qc9 (de _ _ _)) (by show 0+1+1<1000;decide)),?_⟩
 have eld:decide (aP w'<aP (bC w'))=leads w':=by
  unfold leads
  rw[hw.aP hy,ht.aP hy]
 refine ⟨rfl,_,rfl,w',rfl,(),_,rfl,(),(),?_⟩
 rw[Qan]
 refine let j9:Nat->List V->Hp->Prop:=(λi acc H'=>az _ H'/\acc=eR ((stx y w').take i));Gs j9 () ⟨az.refl _,rfl⟩ ?_ ?_
 ·rintro i acc H5 Nx hi hl ⟨s5,rfl⟩ nx
  refine ⟨⟨rfl,rfl,trivial⟩,kB ⟨_,rfl,_,rfl,_,rfl,y,w',i,by rw[Qd8];rfl,hy,hz,hw,(),hi,λn H6 hn h8' s6=>⟨n,rfl,(),nx _ _ (by simpa using hl) ⟨s5.trans s6,?_⟩⟩⟩⟩
  have eg:(stx y w')[i]? =some (48+n):=by
   unfold stx
   rw[Qar,List.getElem?_range hi]
   show some (Aj (cst y w' i))=_
   rw[hn]
   unfold Aj
   congr 1
  rw[Qn n (),gi,take_snoc eg]
 ·rintro acc H5 D hl ⟨s5,rfl⟩ hD
  have VN:(stx y w').take (w':)=stx y w':=Qai (by rw[dq];exact Qaa _)
  rw[VN]at hl ⊢
  refine ⟨D,(stx y w').map λc=>[c],rfl,rfl,bL.of (by rw[ae, <-kA]),by rw[Hi,dq];lia,?_⟩
  rw[y_]
  have s5':=s5.trans (az.upd (o:= .lst (eR (stx y w'))) hD)
  have Zs:=s5' _ _ (ae (a:=x))
  have Zt:(if (1:Int)>((w':):Int) then (1:Int) else ((w':):Int))=(max (w':) 1:Nat):=by split<;>lia
  have Rc:(3:Int)+(lg:Int) / (if (1:Int)>((w':):Int) then (1:Int) else ((w':):Int))=(jU lg (w':):Nat):=by
   rw[Zt]
   unfold jU
   rw[Qbl,Qfn]
   rfl
  have rb:jU lg (w':)<=1003:=by unfold jU;have:=Nat.div_le_self lg (max (w':) 1);lia
  refine ⟨_,rfl,_,rfl,w',rfl,(),_,_,rfl,_,_,rfl,rfl,⟨by rw[Zt];lia,by rw[Zt];lia⟩,_,_,rfl,rfl,?_⟩
  have l3:∀(a b c:V),(eB "leads" a (eB "root_size" b (eB "size" c [])):)<=3:=λa b c=>Qa7 (de _ _ _) (Qc9 (Qa7 (de _ _ _) (Qc9 (de _ _ _))))
  refine ⟨_,rfl,_,rfl,stx y w',_,rfl,rfl,⟨by rw[Rc];lia,by rw[Rc];lia⟩,by rw[Rc,Qan,dq];lia,_,rfl,x,aW,dx,_,rfl,Zs,T.gQ,T.n_Way_onward,Qbm (l3 _ _ _) ∅,?_⟩
  refine ⟨_,rfl,1,rfl,_,rfl,rfl,stx y w',rfl,by rw[dq];lia,_,rfl,(stx y w').reverse,_,rfl,rfl,⟨by rw[Rc];lia,by rw[Rc];lia⟩,by rw[Rc,Qan,Qa0,dq];lia,_,rfl,x,aW,dx,_,rfl,ae,T.gQ,T.n_Way_backward,Qbm (de _ _ _) (Qbm (Qc9 (l3 _ _ _)) ∅),?_⟩
  refine q s1 _ W3 ?_ λb o eb zb=>?_
  ·rw[ae]
   unfold oA
   rw[<-eld,Rc,Qan]
  ·rw[au zb,au zb]
   refine s5' _ _ ?_
   rw[au zb]
   refine s24 _ _ ?_
   rw[au zb]
   refine VI _ _ ?_
   rw[au zb]
   exact eb
theorem MB:bD P w K mg base eQ 8 Sg SQ ["yard","words"] (Dp K):=by
 have ka:=oP (P:=P) (w:=w) (base:=base) T
 have xZ:=Ab (P:=P) (w:=w) (base:=base) T
 have x4:=uk (P:=P) (w:=w) (base:=base) T
 have DD:=JO (P:=P) (w:=w) (base:=base) T
 refine T.F27.fn.ok xS (λvs H Q E h=>Jd h) (λ_ _ _ _ H vs Q E hr h=>?_)
 refine let Z1:TS:=_;let Z0:TS:=_;⟨_,(aa (aA (i:=2) xS.nd (Lc K rfl rfl rfl T.z_max (ag (eF ["word"] [none] (wF K rfl (pv 1)) trivial (λ_ _ _ _=>(aV (i:=0) (by decide+kernel:List.Nodup (["word"]:List Str)) rfl (Or.inl rfl))) (λ_ _ _ _=>nQ) (λ_ _ _ _=>(aY bM rfl T.z_len Qce (ag (pv 0))))))))
   (ah Z0 (aa (aA (i:=3) xS.nd (eF ["word","yard","longest"] [none,some 0,some 2] (wF K rfl (pv 1)) ⟨⟨rfl,rfl,by first | exact .inl rfl | exact .inr rfl⟩,⟨⟨rfl,rfl,by first | exact .inl rfl | exact .inr rfl⟩,trivial⟩⟩ (λ_ _ _ _=>(aV (i:=0) (by decide+kernel:List.Nodup (["word","yard","longest"]:List Str)) rfl (Or.inl rfl))) (λ_ _ _ _=>nQ) (λ_ _ _ _=>(dz (ai (p8 T.NP DD (hr.mono ∅) rfl T.NO T.NQ .nil gG (ai (pv 1) (ai (pv 0) (ag (pv 2))))) (ag (p8 T.NP DD (hr.mono ∅) rfl T.NO T.NQ .nil gG (ai (pv 1) (ai (ak ka T.F1 hr (ag (pv 0))) (ag (pv 2)))))))))))
   (ah Z1 (aj (aM (dz (ai (dU (gh K rfl) rfl T.z_tuple boot_tuple (ag (pv 1))) (ag (dU (gh K rfl) rfl T.z_tuple boot_tuple (ag (eF ["band","words","ways"] [none,some 1,some 3] (qU (ak xZ T.F2 hr (ag (pv 0)))) ⟨⟨rfl,rfl,by first | exact .inl rfl | exact .inr rfl⟩,⟨⟨rfl,rfl,by first | exact .inl rfl | exact .inr rfl⟩,trivial⟩⟩ (λ_ _ _ _=>(aV (i:=0) (by decide+kernel:List.Nodup (["band","words","ways"]:List Str)) rfl (Or.inl rfl))) (λ_ _ _ _=>nQ) (λ_ _ _ _=>(ak x4 T.F26 hr (ai (pv 1) (ai (pv 2) (ag (pv 0)))))))))))))))))),?_⟩
 obtain ⟨y,wt,ws,rfl,hy,hz,vW,Zb,uo,q⟩:=h
 have hs:=Zs1
 have WV:∀c∈y,c<128:=za hy.lt
 have hbl:=jR hy
 obtain ⟨lg,elg,aau,W2⟩:=BH λw hw=>(uo w hw).2
 refine ⟨_,rfl,wt,rfl,⟨_,di.of vW⟩,?_⟩
 refine let j9:Nat->List V->Hp->Prop:=(λi acc H'=>H'=H/\acc=(L_ (ws.take i)).map V.int);qY (K:=K) (a:=wt) (xs:=dD ws) j9 (by rw[cy];omega) (λi acc H' h=>by rw[h.1];exact di.of vW) ⟨rfl,rfl⟩ ?_ ?_
 ·rintro i x acc H1 Nx hi hx hl ⟨rfl,rfl⟩ nx
  rw[cy]at hi
  rw[rz hi]at hx
  cases hx
  have Rf:=uo ws[i] (Qb3 hi)
  refine ⟨trivial,kB ⟨_,rfl,ws[i],rfl,by omega,nx _ _ (by simpa using hl) ⟨rfl,?_⟩⟩⟩
  rw[<-take_snoc (OD hi)]
  unfold L_
  rw[Qaq,Qaq]
  rfl
 ·rintro acc H1 D hl ⟨rfl,rfl⟩ hD
  rw[cy,Qbv]
  refine ⟨D,L_ ws,rfl,bL.of ae,?_⟩
  rw[elg]
  have sD:=az.upd (o:= .lst ((L_ ws).map V.int)) hD
  refine ⟨_,rfl,wt,rfl,⟨_,di.of (sD _ _ vW)⟩,?_⟩
  refine let z8:Nat->List V->Hp->Prop:=(λi acc H'=>az H1 H'/\∃nE:List Wp,acc=Kb nE/\(nE:)=i/\∀(c:Nat) (w:c7) (p:Wp),ws[c]? =some w->nE[c]? =some p->xE H' aW y lg w p);qY (K:=K) (a:=wt) (xs:=dD ws) z8 (by rw[cy];omega) (λi acc H' h=>di.of (h.1 _ _ vW)) ⟨sD,[],rfl,rfl,λc w p _ h=>by simp at h⟩ ?_ ?_
  ·rintro i x acc H2 Nx hi hx RG ⟨s2,nE,rfl,x9,VL⟩ nx
   rw[cy]at hi
   rw[rz hi]at hx
   cases hx
   have Rf:=uo ws[i] (Qb3 hi)
   have PD:ws[i]? =some ws[i]:=OD hi
   have Mx:=W2 ws[i] (Qb3 hi)
   generalize ws[i]=w' at Rf PD Mx ⊢
   have h8:∀c∈w',c<128:=λc hc=>(hy.lt c (Rf.1.bO c hc)).lt
   refine ⟨⟨rfl,rfl,trivial⟩,kB ?_⟩
   refine ⟨_,rfl,_,rfl,_,rfl,λx1 dx1 nx1 Zu ne1=>⟨x1,dx1,y,w',lg,rfl,ae,hy,hz,Rf.1,Mx,by omega,λr H3 hr Zk sm3=>⟨rfl,?_⟩⟩⟩
   have s23:=vO nx1 Zu sm3
   refine ⟨_,rfl,_,rfl,w',rfl,h8,by omega,λH4 s34=>⟨_,rfl,λx2 dx2 nx2 Zv ne2=>⟨x2,dx2,y,bC w',lg,rfl,ae,hy,hz,Rf.1.bC hy,by rw[bA];exact Mx,by omega,λr2 H5 RN Zs sm5=>⟨rfl,?_⟩⟩⟩⟩
   have s45:=vO nx2 Zv sm5
   refine ⟨by show 2<=sizeLine;decide,λt nt=>?_⟩
   have s5t:=az.upd (o:= .tup [.ref x1,.ref x2]) nt
   have s35:=s34.trans (s45.trans s5t)
   have all:=s23.trans s35
   refine nx _ _ (by simpa using RG) ⟨s2.trans all,nE++[⟨t,x1,x2,r,r2⟩],Jb nE ⟨t,x1,x2,r,r2⟩,by rw[T6,x9];rfl,Mb x9 (λc w p a b=>(VL c w p a b).same all) PD ⟨ae,⟨⟨dx1,s35 _ _ Zk⟩,Rf.1,Mx,by omega,hr⟩,⟨⟨dx2,s5t _ _ Zs⟩,Rf.1.bC hy,by rw[bA];exact Mx,by omega,RN⟩⟩⟩
  ·rintro acc H2 D2 RG ⟨s2,nE,rfl,x9,VL⟩ hD2
   rw[cy]at x9
   have sD2:=az.upd (o:= .lst (Kb nE)) hD2
   have JL:=s2.trans sD2
   refine ⟨_,rfl,wt,_,rfl,.inr ⟨di.of (JL _ _ vW),?_⟩⟩
   refine ⟨_,rfl,y,rfl,WV,by omega,λl' H3 Ac RW s3=>?_⟩
   have el:=C5 Ac RW
   subst el
   refine ⟨_,rfl,?_⟩
   have WW:=JL.trans s3
   have hv3:=s3 _ _ (ae (H:=H2) (a:=D2) (o:=HO.lst (Kb nE)))
   refine let Zq:Nat->List V->Hp->Prop:=(λi acc H'=>az H3 H'/\∃os:List Od,acc=LX os/\(∀o∈os,EO H' o)/\(os:)=i/\(∀(j:Nat) (o:Od) (b:Nat),os[j]? =some o->(fU y)[j]? =some b->(o.ps.map Pr.pair).Perm (dc b ws (ws:)))/\∀o∈os,E1 y ws (2*lg) (o.ps.map Pr.pair));mC (xs:=eR (fU y)) Zq (by rw[b_];omega) ⟨az.refl _,[],rfl,λ_ h=>absurd h Qaj,rfl,λj o b h=>by simp at h,λ_ h=>absurd h Qaj⟩ ?_ ?_
   ·rintro i x acc H4 Nx hi hx BY ⟨s4,os,rfl,UD,K5,Zw,Zx⟩ nx
    obtain ⟨b,hb,rfl⟩:=kh hx
    have hbs:=zJ hy (Qas hb)
    refine ⟨⟨rfl,rfl,trivial⟩,kB ?_⟩
    refine ⟨_,rfl,_,rfl,_,rfl,y,lg,wt,D2,ws,nE,b,rfl,hy,hz,s4 _ _ (WW _ _ vW),Zb,uo,hbs,s4 _ _ hv3,x9,λc w p a1 a2=>(VL c w p a1 a2).same (sD2.trans (s3.trans s4)),λt ps H5 nt ht yV A6 S9 s5=>?_⟩
    have hlz:(ps:)<=100:=by
     have h1:=A6.length_eq
     have h2:=j5 b (λw hw=>(uo w hw).2) (ws:) (Qaa _)
     rw[Wh]at h1
     omega
    refine nx _ _ (by simpa using BY) ⟨s4.trans s5,os++[⟨t,ps⟩],Ir os ⟨t,ps⟩,λo ho=>?_,by rw[T6,K5];rfl,λj o b' ho G_=>?_,λo ho=>?_⟩
    ·rcases Qap.mp ho with g | g
     ·exact (UD o g).same s5
     ·rw[Wi.mp g]
      exact ⟨ht,yV,hlz⟩
    ·by_cases z:j<(os:)
     ·rw[Qbc z]at ho
      exact Zw j o b' ho G_
     ·rw[Qaw (by omega)]at ho
      have:j=i:=by
       have:=(OC.mp ho).1
       simp at this
       omega
      subst this
      rw[K5,Qdj]at ho
      cases ho
      rw[hb]at G_
      cases G_
      exact A6
    ·rcases Qap.mp ho with g | g
     ·exact Zx o g
     ·rw[Wi.mp g]
      exact S9
   ·rintro acc H4 D3 BY ⟨s4,os,rfl,UD,K5,Zw,Zx⟩ hD3
    rw[b_]at K5
    refine ⟨D3,_,rfl,.inl ⟨bL.of ae,λt nt=>?_⟩⟩
    refine ⟨by show 2<=sizeLine;decide,λdr Zy=>?_⟩
    have sA:=(az.upd (o:= .lst (LX os)) hD3).trans ((az.upd (o:= .tup (LX os)) nt).trans (az.upd (o:= .tup [.ref wt,.ref t]) Zy))
    have htd:t≠dr:=λz=>by rw[<-z,ae]at Zy;cases Zy
    have s04:=WW.trans s4
    exact q dr os _ ⟨⟨wt,t,ae,sA _ _ (s04 _ _ vW),by rw[au htd,ae]⟩,λo ho=>(UD o ho).same sA⟩ ⟨2*lg,λw hw v hv=>by have:=W2 w hw;have:=W2 v hv;omega,⟨K5,Zw⟩,Zx⟩ (s04.trans sA)
theorem JP:bD P w K mg base eQ 9 Sh SR ["yard","words"] (zM K):=by
 have oR:=nz (P:=P) (w:=w) (base:=base) T
 have Fn:=BZ (P:=P) (w:=w) (base:=base) T
 have Rg:=MB (P:=P) (w:=w) (base:=base) T
 refine T.F28.fn.ok JJ (λvs H Q E h=>E4 h) (λ_ _ _ _ H vs Q E hr h=>?_)
 refine ⟨_,(aj (aM (ak oR T.F10 hr (ag (ak Fn T.F7 hr (ai (pv 0) (ag (ak Rg T.F27 hr (ai (pv 0) (ag (pv 1))))))))))),?_⟩
 obtain ⟨y,wt,ws,rfl,hy,hz,hk,vW,q⟩:=h
 refine ⟨_,rfl,_,rfl,_,rfl,y,wt,ws,rfl,hy,hz,vW,hk.tH,hk.sw,λdr os H1 Pn ht s1=>?_⟩
 obtain ⟨nd,e⟩:=E2 hy (λw hw=>(hk.sw w hw).1) ht
 obtain ⟨M,_,ok,_⟩:=id ht
 refine ⟨y,dr,ws,os,rfl,hy,hz,hk.ok,ok,Pn,λp qs H2 np hp VQ NV s2=>?_⟩
 have hl:=E3 (os:=os) hk
 have Zp:(qs:)<=24:=by rw[<-NV,Wh]at hl;omega
 refine ⟨p,qs,rfl,hp,VQ,Zp,by rw[NV];exact nd,λH3 s3=>?_⟩
 rw[NV]
 exact q _ H3 (s1.trans (s2.trans s3)) e
theorem Rh:bD P w K mg base eQ 10 Si SU ["yard","word"] (Jm K):=by
 have MC:=JP (P:=P) (w:=w) (base:=base) T
 refine T.F29.fn.ok Q7 (λvs H Q E h=>len_own h) (λ_ _ _ _ H vs Q E hr h=>?_)
 refine ⟨_,(aj (aM (ak MC T.F28 hr (ai (pv 0) (ag (dz (ag (pv 1)))))))),?_⟩
 obtain ⟨y,w',rfl,hy,hz,hw,NR,q⟩:=h
 refine ⟨_,rfl,_,rfl,by show 1<=sizeLine;decide,λt nt=>?_⟩
 refine ⟨y,t,[w'],rfl,hy,hz,Mf hw NR,ae,λn H1 s1 e=>?_⟩
 exact q n H1 ((az.upd nt).trans s1) (e.trans (Jl y w'))
theorem B2:bD P w K mg base eQ 11 Sj SV ["yard","word"] (se K):=by
 have me:=o9 (P:=P) (w:=w) (base:=base) T
 have VT:=Rh (P:=P) (w:=w) (base:=base) T
 refine T.F30.fn.ok sU (λvs H Q E h=>zP h) (λ_ _ _ _ H vs Q E hr h=>?_)
 refine let Z0:TS:=_;⟨_,(aa (aA (i:=2) sU.nd (ak me T.Y5 hr (ag (pv 1))))
   (ah Z0 (aj (aM (FL (eA Gx (pv 2) (pA [] ⋯) (aZ _)) (Am (eA AO (ak VT T.F29 hr (ai (pv 0) (ag (pv 2)))) aq (aZ _)))))))),?_⟩
 obtain ⟨y,w',c,rfl,hy,hz,hc,q⟩:=h
 have hs:=Zs1
 have tH:=hc.tH
 refine ⟨_,rfl,w',rfl,hc.lt,by omega,λH1 s1=>?_⟩
 rw[hc.is]
 refine ⟨_,rfl,_,_,rfl,rfl,_,rfl,?_⟩
 rcases hc.sw with e | M0
 ·refine Hl (by rw[decide_eq_true e];rfl) ?_
  have:=q H1 s1 (λz=>absurd e z.ne)
  unfold RX at this
  rw[decide_eq_true e]at this
  exact this
 ·have hn:=M0.ne
  refine Vd (by rw[decide_eq_false (show ¬c=[] from hn)];rfl) ?_
  refine ⟨_,rfl,_,rfl,y,c,rfl,hy,hz,M0,hc.len,λn H2 s2 e=>?_⟩
  refine ⟨_,_,rfl,rfl,?_⟩
  have ed:decide ((n:Int)=0)=RX y c:=by
   unfold RX zO
   rw[decide_eq_false (show ¬c=[] from hn)]
   exact decide_eq_decide.mpr ⟨λz=>by omega,λz=>by omega⟩
  show Q (.bl (decide ((n:Int)=0))) H2
  rw[ed]
  exact q H2 (s1.trans s2) (λ_=>⟨n,e⟩)
theorem ux:bD P w K mg base eQ 12 Sm S0 ["yard","length"] (lJ K):=by
 have x5:=uv (P:=P) (w:=w) (base:=base) T
 have kc:=xY (P:=P) (w:=w) (base:=base) T
 have Fo:=B2 (P:=P) (w:=w) (base:=base) T
 refine T.WN.fn.ok dI (λvs H Q E h=>sr h) (λ_ _ _ _ H vs Q E hr h=>?_)
 refine let Z4:TS:=_;let Z3:TS:=_;let Z2:TS:=_;let Z1:TS:=_;let Z0:TS:=_;⟨_,(aa (aA (i:=2) dI.nd (dN bW))
   (ah Z0 (aa (aA (i:=3) dI.nd (dN (ag (pA [] ⋯))))
   (ah Z1 (aa (cN PassesOwn.never rfl (eU rfl T.z_range (ag (pv 1))) (aV (i:=4) dI.nd rfl (Or.inl rfl)) (ah Z2 (aa (aA (i:=3) dI.nd (ak x5 T.F32 hr (ai (pv 0) (ag (pv 3)))))
   (ah Z3 (aj (d_ (cJ K rfl Qbn PySem.F.slot_list_extend PySem.F.type_list_extend uQ (pv 2) (ag (aY (ua K rfl) rfl T.z_sorted boot_sorted (ag (eF ["word","yard"] [none,some 0] (gc K rfl (pv 3)) ⟨⟨rfl,rfl,by first | exact .inl rfl | exact .inr rfl⟩,trivial⟩ (λ_ _ _ _=>(aV (i:=0) (by decide+kernel:List.Nodup (["word","yard"]:List Str)) rfl (Or.inl rfl))) (λ_ _ _ _=>(wA (PW.pt (wa (bf jy (ak kc T.Q3 hr (ag (pv 0))) (pv 0) (aZ _)) (p6 (js (ak Fo T.F30 hr (ai (pv 1) (ag (pv 0)))))))))) (λ_ _ _ _=>(pv 0)))))))))))))
   (ah Z4 (aj (aM (pv 2))))))))),?_⟩
 obtain ⟨y,m,rfl,hy,eG,hz,hm,NS,q⟩:=h
 have hs:=Zs1
 have hy1:1<=(y:):=Qab.mpr eG
 refine ⟨by show 0<=sizeLine;decide,λp n=>?_⟩
 have s0:=az.upd (o:= .lst []) n
 have hp0:upd H p (.lst []) p=some (.lst (dD [])):=ae
 generalize upd H p (.lst [])=H0 at s0 hp0 ⊢
 refine ⟨by show 1<=sizeLine;decide,λp2 n2=>?_⟩
 have s1:=az.upd (o:= .lst [.str (S [])]) n2
 have wL:upd H0 p2 (.lst [.str (S [])]) p2=some (.lst (dD [[]])):=ae
 generalize upd H0 p2 (.lst [.str (S [])])=H1 at s1 wL ⊢
 have J_:=s1 _ _ hp0
 refine ⟨_,rfl,_,rfl,by omega,by omega,?_⟩
 rw[Qan]
 refine let j9:Nat->L2.St->Hp->Prop:=(λi σ H'=>∃(wt:Addr) (ws ls:List c7) (iv:Option V),σ=[some (.str (S y)),some (.int m),some (.ref p),some (.ref wt),iv]/\H' p=some (.lst (dD ls))/\H' wt=some (.lst (dD ws))/\E6 fB y i ws/\(ws:)<=(y:) ^ i/\BI y i ls/\(ls:)<=4096*i/\az H H');dR j9
  ⟨p2,[[]],[],none,rfl,J_,wL,YT _ _,Qaa _,rfl,Qau _,s0.trans s1⟩ ?_ ?_
 ·rintro i σ H2 hi ⟨wt,ws,ls,iv,rfl,kU,vW,uo,x9,Zz,VE,s2⟩
  have h1:(y:) ^ i<=4096:=Ds hy1 (by omega) NS
  have h2:(y:) ^ (i+1)<=4096:=Ds hy1 (by omega) NS
  refine ⟨_,rfl,_,rfl,y,wt,ws,rfl,za hy.lt,hy.nd,hz,vW,λl hl=>⟨((uo.mem l).mp hl).1,by have:=((uo.mem l).mp hl).2.1;omega⟩,by omega,λt ms H3 nt ht hg s3=>?_⟩
  have WR:=uo.next hg
  have QI:(ms:)<=(y:) ^ (i+1):=by
   refine Qa7 hg.tH ?_
   rw[Nat.pow_succ,Qc8]
   exact Nat.mul_le_mul_right _ x9
  have pt:p≠t:=ao kU nt
  have Ri:=s3 _ _ kU
  refine ⟨_,rfl,.inl ⟨rfl,_,bL.of Ri⟩,_,rfl,t,rfl,⟨_,bL.of ht⟩,?_⟩
  refine let z8:Nat->List V->Hp->Prop:=(λj acc H'=>az H3 H'/\acc=dD ((ms.take j).filter λw=>xI w&&zO y w));uY (K:=K) (a:=t) (xs:=dD ms) z8 (by rw[cy];omega) (λj acc H' h=>bL.of (h.1 _ _ ht)) ⟨az.refl _,rfl⟩ ?_ ?_
  ·rintro j x acc H4 Nx hj hx BY ⟨s4,rfl⟩ nx
   obtain ⟨v,hv,rfl⟩:=xH hx
   obtain ⟨hvy,hvl,_⟩:=(WR.mem v).mp (Qas hv)
   have ZA:v≠[]:=λz=>by rw[z]at hvl;simp at hvl
   have out:∀H',az H3 H'-> ¬(xI v&&zO y v)=true->Nx (dD ((ms.take j).filter λw=>xI w&&zO y w)) H':=λH' s' no=>nx _ _ (by omega) ⟨s',by
    rw[<-take_snoc hv,Qcc,NK _ v no,Qa4]⟩
   refine ⟨⟨rfl,trivial⟩,?_⟩
   refine ⟨_,rfl,v,rfl,λd hd=>hy.lt d (hvy d hd),by omega,λH5 s5=>?_⟩
   walk_at"T"
   ·have z':xI v=true:=z
    have sw:=NI hy ZA hvy z'
    refine ⟨_,rfl,_,rfl,y,v,v,rfl,hy,hz,QA hy sw (by omega),λH6 s6 _=>⟨_,rfl,cZ (λz2=>?_) (λz2=>?_)⟩⟩
    ·rw[Jq ZA]at z2
     refine ⟨_,rfl,nx _ _ (by simpa using BY) ⟨s4.trans (s5.trans s6),?_⟩⟩
     rw[rq, <-take_snoc hv,Qcc,NJ _ v (by rw[z',z2];rfl)]
    ·rw[Jq ZA]at z2
     exact out H6 (s4.trans (s5.trans s6)) (by rw[z'];exact z2)
   ·exact out H5 (s4.trans s5) λh=>z (by
     have:=(Qb4 _ _▸h:xI v=true/\zO y v=true).1
     exact this)
  ·rintro acc H4 D BY ⟨s4,rfl⟩ hD
   rw[cy,Qbv]
   have hnl:((ms.filter λw=>xI w&&zO y w):)<=(ms:):=Qdd _ _
   have s5:=s4.trans (az.upd (o:= .lst (dD (ms.filter λw=>xI w&&zO y w))) hD)
   have U8:upd H4 D (.lst (dD (ms.filter λw=>xI w&&zO y w))) D=some (.lst (dD (ms.filter λw=>xI w&&zO y w))):=ae
   generalize upd H4 D (.lst (dD (ms.filter λw=>xI w&&zO y w)))=H5 at s5 U8 ⊢
   refine ⟨D,_,rfl,.inl (bL.of U8),by omega,λr Ta nr pr asc=>?_⟩
   have hb:YS y (i+1) Ta:=QD hy WR (λw=>QC hy) (λw _=>by rw[Qb4]) pr asc
   have s6:=s5.trans (az.upd (o:= .lst (dD Ta)) nr)
   have hpr:p≠r:=ao (s5 _ _ Ri) nr
   have pl:=pr.length_eq
   refine ⟨p,r,_,_,rfl,rfl,s6 _ _ Ri,ae,by rw[cy];show _+(dD Ta:)<=_;rw[cy];omega,?_⟩
   exact ⟨t,ms,ls++Ta,_,rfl,by rw[ae];exact congrArg (λx=>some (HO.lst x)) (Dr ls Ta),by rw[au (Ne.symm pt)];exact s6 _ _ ht,WR,QI,⟨ls,Ta,rfl,Zz,hb⟩,by rw[T6];omega,az.up2 ((s2.trans s3).trans s6) n⟩
 ·rintro σ H2 ⟨wt,ws,ls,iv,rfl,kU,vW,uo,x9,Zz,VE,s2⟩
  exact ⟨_,rfl,q p ls H2 n kU Zz VE s2⟩
theorem B3:bD P w K mg base eQ 1 Ss S6 ["_law_p","_law_q"] (sF K):=by
 refine T.F37.fn.ok sW (λvs H Q E h=>zU h) (λ_ _ _ _ H vs Q E hr h=>?_)
 refine let Z1:TS:=_;let Z0:TS:=_;⟨_,(aa (fV PassesOwn.never (bf uF (pv 1) aq (aZ _)) (ah Z0 (aj (FQ (i:=0) (j:=1) rfl sW.nd rfl rfl ∅ rfl rfl (ai (pv 1) (ag (aD eV (pv 0) (pv 1)))) rfl))))
   (ah Z1 (aj (aM (pv 0))))),?_⟩
 obtain ⟨p,q',rfl,hp,hq,q⟩:=h
 refine ⟨λb σ H'=>∃(a:Nat),σ=[some (.int a),some (.int b)]/\Nat.gcd a b=Nat.gcd p q'/\H'=H,⟨_,p,rfl,rfl,rfl⟩,?_⟩
 rintro b σ H1 ⟨a,rfl,hg,rfl⟩
 walk_at"T"
 ·have z1:(0:Int)<(b:Int):=of_decide_eq_true z
  have z2:0<b:=by omega
  refine ⟨_,rfl,_,rfl,_,rfl,_,_,rfl,rfl,z1,_,_,rfl,?_⟩
  refine ⟨a%b,Qd4 _ z2,b,?_,?_,rfl⟩
  ·rw[Qdt]
   rfl
  ·rw[<-hg,Nat.gcd_comm b, <-Nat.gcd_rec,Nat.gcd_comm]
 ·have z1: ¬(0:Int)<(b:Int):=λg=>z (decide_eq_true g)
  have z2:b=0:=by omega
  refine ⟨_,rfl,?_⟩
  rw[z2,Nat.gcd_zero_right]at hg
  rw[hg]
  exact q
theorem JQ:bD P w K mg base eQ 1 Su S7 ["_law_x","_law_y","_law_p","_law_q"] (zV K):=by
 refine T.Y8.fn.ok iH (λvs H Q E h=>Fc h) (λ_ _ _ _ H vs Q E hr h=>?_)
 refine let Z4:TS:=_;let Z3:TS:=_;let Z2:TS:=_;let Z1:TS:=_;let Z0:TS:=_;⟨_,(aa (aA (i:=4) iH.nd (pA [] ⋯))
   (ah Z0 (aa (aA (i:=5) iH.nd aq)
   (ah Z1 (aa (cN PassesOwn.never rfl (eU rfl T.z_range (ag (aD bo (pv 2) (pv 3)))) (aV (i:=6) iH.nd rfl (Or.inl rfl)) (ah Z2 (aa (aA (i:=5) iH.nd (aD eV (aD bo (pv 5) (pv 3)) (aD bo (pv 2) (pv 3))))
   (ah Z3 (aj (aA (i:=4) iH.nd (aD cF (pv 4) (bj (b8 K rfl) (dN (ai (pv 0) (ag (pv 1)))) (dU uG rfl T.z_int boot_int (ag (eA uE (pv 5) (pv 3) (aZ _)))) (λ_ _=>rfl)))))))))
   (ah Z4 (aj (aM (pv 4))))))))),?_⟩
 obtain ⟨x,u,p,n,rfl,p3,p4,q⟩:=h
 have hs:=Zs1
 refine ⟨_,rfl,_,rfl,_,_,rfl,rfl,_,rfl,(),(),?_⟩
 rw[show ((p:Int)+(n:Int)).toNat=p+n by lia]
 refine let j9:Nat->L2.St->Hp->Prop:=(λi σ H'=>∃v8:Option V,σ=[some (.str (S [x])),some (.str (S [u])),some (.int (p:Nat)),some (.int (n:Nat)),some (.str (S ((List.range i).map λk=>if Nat.blt ((k+1)*n%(p+n)) n then u else x))),some (.int ((i*n%(p+n):Nat):Int)),v8]/\az H H');dR j9 ⟨none,?_,az.refl H⟩ ?_ ?_
 ·rw[Qgi,Nat.zero_mod]
  rfl
 ·rintro i σ H2 hi ⟨v8,rfl,s2⟩
  refine ⟨_,rfl,_,rfl,_,_,rfl,rfl,_,rfl,_,rfl,_,_,rfl,rfl,_,_,rfl,rfl,(),?_⟩
  have em:(((i*n%(p+n):Nat):Int)+(n:Int))%((p:Int)+n)=(((i+1)*n%(p+n):Nat):Int):=by
   rw[<-Qbl, <-Qbl, <-Qdt,Nat.mod_add_mod,Qey]
  have ll:(((List.range i).map λk=>if Nat.blt ((k+1)*n%(p+n)) n then u else x):)=i:=by rw[Wh,Qd2]
  refine ⟨_,rfl,_,rfl,_,rfl,by show 2<=sizeLine;decide,λl2 nl2=>?_⟩
  refine ⟨_,rfl,_,rfl,_,_,rfl,rfl,.inr ⟨_,rfl,?_⟩⟩
  have ex:tF [V.str (S [x]),.str (S [u])] (if decide ((((i*n%(p+n):Nat):Int)+(n:Int))%((p:Int)+n)<(n:Int))=true then 1 else 0)=some (.str (S [if Nat.blt ((i+1)*n%(p+n)) n then u else x])):=by
   rw[em]
   by_cases z:(i+1)*n%(p+n)<n
   ·rw[if_pos (decide_eq_true ()),if_pos (Nat.blt_eq.mpr z)]
    rfl
   ·rw[if_neg (λg=>z (by have:=of_decide_eq_true g;lia)),if_neg (λg=>z (Nat.blt_eq.mp g))]
    rfl
  refine ⟨l2,_,_,_,rfl,rfl,bL.of ae,ex,_,_,rfl,rfl,by rw[ll];show _+1<=_;lia,some (.int (0+(i:Int))),Eq.trans (b:=[some (.str (S [x])),some (.str (S [u])),some (.int (p:Nat)),some (.int (n:Nat)),some (.str (S (((List.range i).map λk=>if Nat.blt ((k+1)*n%(p+n)) n then u else x)++[if Nat.blt ((i+1)*n%(p+n)) n then u else x]))),some (.int ((((i*n%(p+n):Nat):Int)+(n:Int))%((p:Int)+n))),some (.int (0+(i:Int)))]) rfl ?_,s2.trans (az.upd nl2)⟩
  rw[em,Qco,Qaq]
  rfl
 ·rintro σ H2 ⟨v8,rfl,s2⟩
  exact ⟨_,rfl,q H2 s2⟩
theorem MD:bD P w K mg base eQ 6 QX QZ ["_law_x","_law_y","_law_length"] (Dv K):=by
 have Fp:=B3 (P:=P) (w:=w) (base:=base) T
 have kc:=xY (P:=P) (w:=w) (base:=base) T
 have DE:=JQ (P:=P) (w:=w) (base:=base) T
 have dh:=vZ (P:=P) (w:=w) (base:=base) T
 refine T.L39.ok qx (λvs H Q E h=>Jv h) (λcY A outer s H vs Q E hh hr h=>?_)
 refine let Z7:TS:=_;let Z6:TS:=_;let Z5:TS:=_;let Z4:TS:=_;let Z3:TS:=_;let Z2:TS:=_;let Z1:TS:=_;let Z0:TS:=_;⟨_,(aa (aA (i:=3) qx.nd yQ)
   (ah Z0 (aa (cN PassesOwn.never rfl (eU rfl T.z_range (ag (aD bo (pv 2) aq))) (aV (i:=4) qx.nd rfl (Or.inl rfl)) (ah Z1 (aj (cN PassesOwn.never rfl (eU rfl T.z_range (ag (aD eh (aD bo (pv 2) aq) (pv 4)))) (aV (i:=5) qx.nd rfl (Or.inl rfl)) (ah Z2 (aj (c_ (bf AO (ak Fp T.F37 hr (ai (pv 4) (ag (pv 5)))) aq (aZ _)) (ah Z3 (aa (kj (lh hr) (pv 3) (ak kc T.Q3 hr (ag (ak DE T.Y8 hr (ai (pv 0) (ai (pv 1) (ai (pv 4) (ag (pv 5)))))))) qA rfl)
   (ah Z4 (aj (kj (lh hr) (pv 3) (ak kc T.Q3 hr (ag (ak DE T.Y8 hr (ai (pv 0) (ai (ak dh T.JE hr (ag (pv 1))) (ai (pv 4) (ag (pv 5)))))))) qA rfl))))) b9)))))))
   (ah Z5 (aa (c_ (bf uF (pv 2) aq (aZ _)) (ah Z6 (aj (kj (lh hr) (pv 3) (ak kc T.Q3 hr (ag (aD cF (aD cF (aD cF (pv 0) (pv 1)) (ak dh T.JE hr (ag (pv 0)))) (ak dh T.JE hr (ag (pv 1)))))) qA rfl))) b9)
   (ah Z7 (aj (aM (y6 (x:="_law_word") K rfl rfl rfl T.z_sorted boot_sorted (ag (pv 3)) (Hb rfl hh (Cw.bm (base:=base) (mg:=mg)) rfl rfl rfl) (y7 T.z_len ⟨rfl,rfl,rfl,⋯,rfl,⋯,⋯⟩ rfl rfl ∅ ∅ (λ_ _ _ us hl=>match us,hl with | [_],_=>rfl)) (cH.in1 (cH.in1 (hr.mono ∅)))))))))))),?_⟩
 obtain ⟨x,z,n,rfl,lx,lz,hn,hT,q⟩:=h
 have hs:=Zs1
 walk_at "wk"
 intro d nd
 refine ⟨_,rfl,_,_,rfl,rfl,_,rfl,(),(),?_⟩
 rw[show ((n:Int)+1).toNat=n+1 by lia]
 have lz':Lt (ay z):=lz.ay
 have evl:∀u,Lt u->∀p r,∀c∈ev p r x u,Lt c:=λu hu p r c hc=>(Vw hc).elim (λe=>e▸lx) λe=>e▸hu
 refine let j9:Nat->L2.St->Hp->Prop:=(λi σ H'=>∃(aI:List (Key×V)) (ws:List c7) (pv qv:Option V),σ=[some (.str (S [x])),some (.str (S [z])),some (.int (n:Nat)),some (.ref d),pv,qv]/\H' d=some (.dK aI)/\Kc x z n i (λ_=>False) aI ws/\(ws:)<=14*i/\az H H');dR j9
  ⟨[],[],none,none,rfl,ae,⟨rfl,Qds,λw=>⟨λg=>absurd g Qaj,λg=>g.elim (λ⟨p,_,g,_⟩=>absurd g (Qdx _)) λg=>g.elim⟩⟩,Qaa _,az.upd nd⟩ ?_ ?_
 ·rintro i σ H1 hi ⟨aI,ws,pv,qv,rfl,hd,hW,hl,s1⟩
  rw[show (0:Int)+(i:Int)=(i:Int) by lia]
  refine ⟨_,rfl,_,_,rfl,rfl,_,rfl,_,_,rfl,rfl,_,rfl,(),(),?_⟩
  rw[show ((n:Int)+1 - (i:Int)).toNat=n+1 - i by lia]
  refine let z8:Nat->L2.St->Hp->Prop:=(λj σ H'=>∃(aI:List (Key×V)) (ws:List c7) (qv:Option V),σ=[some (.str (S [x])),some (.str (S [z])),some (.int (n:Nat)),some (.ref d),some (.int (i:Nat)),qv]/\H' d=some (.dK aI)/\Kc x z n i (λw=>∃r,r<j/\Nat.gcd i r=1/\(w=aG (ev i r x z)\/w=aG (ev i r x (ay z)))) aI ws/\(ws:)<=14*i+2*j/\az H H');dR z8
   ⟨aI,ws,qv,rfl,hd,hW.congr λw=>⟨λg=>g.elim,λ⟨r,g,_⟩=>absurd g (Qdx _)⟩,(),s1⟩ ?_ ?_
  ·rintro j σ H2 hj ⟨aI,ws,qv,rfl,hd,hW,hl,s2⟩
   rw[show (0:Int)+(j:Int)=(j:Int) by lia]
   have Fq:i+j<=n:=by lia
   refine ⟨_,rfl,_,rfl,i,j,rfl,(),(),_,_,rfl,rfl,_,rfl,cZ (λg=>?_) (λg=>?_)⟩
   ·have g1:Nat.gcd i j=1:=by exact_mod_cast of_decide_eq_true g
    have hp:0<i+j:=Qe2 λe=>by
     rw[show i=0 by lia,show j=0 by lia]at g1;cases g1
    refine ⟨_,rfl,_,rfl,_,rfl,_,rfl,_,rfl,x,z,i,j,rfl,hp,(),λH3 s3=>?_⟩
    refine ⟨_,rfl,evl z lz i j,by rw[xK];lia,λH4 s4=>?_⟩
    have hd4:=s4 _ _ (s3 _ _ hd)
    obtain ⟨i_,Tb,Ac⟩:=hW.put (aG (ev i j x z)) (.bl true)
    refine ⟨d,_,rfl,pH.k (k:=Sum.inr (S (aG (ev i j x z)))) hd4 (by rw[hW.len];lia),?_⟩
    have s5:az H (upd H4 d (.dK (putK aI (Sum.inr (S (aG (ev i j x z))):Key) (.bl true)))):=λa o ea=>by rw[au (ao ea nd)];exact s4 _ _ (s3 _ _ (s2 a o ea))
    have VS:upd H4 d (.dK (putK aI (Sum.inr (S (aG (ev i j x z))):Key) (.bl true))) d=some (.dK (putK aI (Sum.inr (S (aG (ev i j x z))):Key) (.bl true))):=ae
    generalize upd H4 d (.dK (putK aI (Sum.inr (S (aG (ev i j x z))):Key) (.bl true)))=H5 at s5 VS ⊢
    refine ⟨_,rfl,_,rfl,_,rfl,z,rfl,lz,_,rfl,_,rfl,x,ay z,i,j,rfl,hp,(),λH6 s6=>?_⟩
    refine ⟨_,rfl,evl (ay z) lz' i j,by rw[xK];lia,λH7 s7=>?_⟩
    have hd7:=s7 _ _ (s6 _ _ VS)
    obtain ⟨ZC,ZD,aav⟩:=Tb.put (aG (ev i j x (ay z))) (.bl true)
    refine ⟨d,_,rfl,pH.k (k:=Sum.inr (S (aG (ev i j x (ay z))))) hd7 (by rw[Tb.len];lia),?_⟩
    refine ⟨_,ZC,_,rfl,ae,ZD.congr λw=>⟨?_,?_⟩,(),λa o ea=>by rw[au (ao ea nd)];exact s7 _ _ (s6 _ _ (s5 a o ea))⟩
    ·rintro ((⟨r,a,b⟩ | a) | a)
     ·exact ⟨r,(),b⟩
     ·exact ⟨j,(),g1,.inl a⟩
     ·exact ⟨j,(),g1,.inr a⟩
    ·rintro ⟨r,a,b,c⟩
     by_cases e:r=j
     ·subst e
      exact c.elim (λc=> .inl (.inr c)) .inr
     ·exact .inl (.inl ⟨r,(),b,c⟩)
   ·have g1: ¬Nat.gcd i j=1:=λe=>g (decide_eq_true (by rw[e];rfl))
    exact ⟨aI,ws,_,rfl,hd,hW.congr λw=>⟨λ⟨r,a,b⟩=>⟨r,(),b⟩,λ⟨r,a,b⟩=>by
     by_cases e:r=j
     ·subst e;exact absurd b.1 g1
     ·exact ⟨r,(),b⟩⟩,(),s2⟩
  ·rintro σ H2 ⟨aI,ws,qv,rfl,hd,hW,hl,s2⟩
   refine ⟨aI,ws,_,_,rfl,hd,⟨hW.key,hW.nd,λw=>?_⟩,(),s2⟩
   rw[hW.mem]
   constructor
   ·rintro (⟨p,r,a,b,c⟩ | ⟨r,a,b,c⟩)
    ·exact .inl ⟨p,r,(),b,c⟩
    ·exact .inl ⟨i,r,(),(),b,c⟩
   ·rintro (⟨p,r,a,b,c⟩ | g)
    ·by_cases e:p=i
     ·subst e;exact .inr ⟨r,(),c⟩
     ·exact .inl ⟨p,r,(),b,c⟩
    ·exact g.elim
 ·rintro σ H1 ⟨aI,ws,pv,qv,rfl,hd,hW,hl,s1⟩
  have fin:∀(H8:Hp) (aI:List (Key×V)) (ws:List c7) (pv qv:Option V),H8 d=some (.dK aI)->(aI.map (·.1)=ws.map λl=>Sum.inr (S l))->ws.Nodup->(ws:)<=200->(∀w,w∈ws↔Fb x z n w)->az H H8->Z7 { nx:=λ_ H'=>Q .gz H',rt:=Q } [some (.str (S [x])),some (.str (S [z])),some (.int (n:Nat)),some (.ref d),pv,qv] H8:=by
   intro H8 aI ws pv qv hd hk S_ hl hm s8
   refine ⟨_,rfl,d,ws,rfl, .M9 aI hd hk,(),λw hw=>?_,(hT.same s8).at_ T.sQ,λt H9 i_ sT hT9 nt ht pw ord=>?_⟩
   ·rcases (hm w).mp hw with ⟨p,r,a,b,rfl | rfl⟩ | ⟨_,rfl⟩
    ·exact Qa7 (fZ _) (by rw[xK];lia)
    ·exact Qa7 (fZ _) (by rw[xK];lia)
    ·exact Qa7 (fZ _) (by show 4<=10000;decide)
   ·exact q t i_ H9 ((cW.of s8).trans (sT.imp λb e=>by rw[e];exact T.sQ)) (.mk T.sQ hT9) (az.free s8 nt) ht (by rw[pw.length_eq];lia) (λw=>by rw[pw.mem_iff,hm]) (pw.nodup_iff.mpr S_) ord
  refine ⟨_,rfl,_,_,rfl,rfl,_,rfl,cZ (λg=>?_) (λg=>?_)⟩
  ·have g1:(3:Int)<n:=of_decide_eq_true g
   refine ⟨_,rfl,_,rfl,_,rfl,_,_,rfl,rfl,by show 2<=sizeLine;decide,_,rfl,x,rfl,lx,_,_,rfl,rfl,by show 3<=sizeLine;decide,_,rfl,z,rfl,lz,_,_,rfl,rfl,by show 4<=sizeLine;decide,?_⟩
   refine ⟨[x,z,ay x,ay z],rfl,λc hc=>?_,by show 4<=1000;decide,λH6 s6=>?_⟩
   ·simp only[Qaf,Qaj,or_false]at hc
    rcases hc with rfl | rfl | rfl | rfl
    ·exact lx
    ·exact lz
    ·exact lx.ay
    ·exact lz'
   have hd6:=s6 _ _ hd
   obtain ⟨i_,Tb,Ac⟩:=hW.put (aG [x,z,ay x,ay z]) (.bl true)
   refine ⟨d,_,rfl,pH.k (k:=Sum.inr (S (aG [x,z,ay x,ay z]))) hd6 (by rw[hW.len];lia),?_⟩
   refine fin _ _ i_ pv qv ae Tb.key Tb.nd () (λw=>?_) λa o ea=>by rw[au (ao ea nd)];exact s6 _ _ (s1 a o ea)
   rw[Tb.mem]
   unfold Fb
   constructor
   ·rintro (⟨p,r,a,b,c⟩ | a | a)
    ·exact .inl ⟨p,r,b,c⟩
    ·exact a.elim
    ·exact .inr ⟨(),a⟩
   ·rintro (⟨p,r,b,c⟩ | ⟨_,a⟩)
    ·exact .inl ⟨p,r,(),b,c⟩
    ·exact .inr (.inr a)
  ·have g1: ¬(3:Int)<n:=λe=>g (decide_eq_true e)
   refine fin _ _ ws pv qv hd hW.key hW.nd () (λw=>?_) s1
   rw[hW.mem]
   unfold Fb
   constructor
   ·rintro (⟨p,r,a,b,c⟩ | a)
    ·exact .inl ⟨p,r,b,c⟩
    ·exact a.elim
   ·rintro (⟨p,r,b,c⟩ | ⟨a,_⟩)
    ·exact .inl ⟨p,r,(),b,c⟩
    ·exact absurd (show (3:Int)<n by lia) g1
theorem Rj:bD P w K mg base eQ 13 QY Q0 ["_law_script"] (nM K):=by
 have Rk:=Mw (P:=P) (w:=w) (base:=base) T
 have kR:=JM (P:=P) (w:=w) (base:=base) T
 have dh:=vZ (P:=P) (w:=w) (base:=base) T
 have i8:=ux (P:=P) (w:=w) (base:=base) T
 have Rl:=MD (P:=P) (w:=w) (base:=base) T
 have kc:=xY (P:=P) (w:=w) (base:=base) T
 refine T.L40.ok eO (λvs H Q E h=>Lo h) (λcY A outer s H vs Q E hh hr h=>?_)
 refine let Z19:TS:=_;let Z18:TS:=_;let Z17:TS:=_;let Z16:TS:=_;let Z15:TS:=_;let Z14:TS:=_;let Z13:TS:=_;let Z12:TS:=_;let Z11:TS:=_;let Z10:TS:=_;let Z9:TS:=_;let Z8:TS:=_;let Z7:TS:=_;let Z6:TS:=_;let Z5:TS:=_;let Z4:TS:=_;let Z3:TS:=_;let Z2:TS:=_;let Z1:TS:=_;let Z0:TS:=_;⟨_,(aa (cN PassesOwn.never rfl (eU rfl T.z_range (ag (aD bo aq (i5 K T.z_len (cI (yG K rfl) (pv 0) (ck aq) (ck aq)))))) (aV (i:=1) eO.nd rfl (Or.inl rfl)) (ah Z0 (aa (aA (i:=2) eO.nd (ak Rk T.F34 hr (ai (pv 0) (ag (pv 1)))))
   (ah Z1 (aa (aA (i:=3) eO.nd (ak kR T.Q5 hr (ai (pv 2) (ag aq))))
   (ah Z2 (aa (c_ (bf uF (pv 1) aq (aZ _)) (ah Z3 (aj (aA (i:=3) eO.nd (aY (ke rfl) rfl T.z_min boot_min (ai (pv 3) (ag aq)))))) b9)
   (ah Z4 (aa (aA (i:=4) eO.nd (dU (AJ rfl) rfl T.z_list boot_list (ag (pA [97,98,99,100,101,102,103,104,105,106,107,108,109,110,111,112,113,114,115,116,117,118,119,120,121,122] ⋯))))
   (ah Z5 (aa (aA (i:=5) eO.nd (cJ K rfl Qbn Qeo Qem qH (pv 4) (ag (ak kR T.Q5 hr (ai (pv 2) (ag aq))))))
   (ah Z6 (aa (aA (i:=6) eO.nd (cJ K rfl Qbn Qeo Qem qH (pv 4) (ag (ak kR T.Q5 hr (ai (pv 2) (ag aq))))))
   (ah Z7 (aa (FQ (i:=5) (j:=6) rfl eO.nd rfl rfl ∅ rfl rfl (ai (bj (b8 K rfl) (dN (ai (pv 5) (ag (ak dh T.JE hr (ag (pv 5)))))) (ak kR T.Q5 hr (ai (pv 2) (ag aq))) (λ_ _=>rfl)) (ag (bj (b8 K rfl) (dN (ai (pv 6) (ag (ak dh T.JE hr (ag (pv 6)))))) (ak kR T.Q5 hr (ai (pv 2) (ag aq))) (λ_ _=>rfl)))) rfl)
   (ah Z8 (aa (aA (i:=7) eO.nd (ak kR T.Q5 hr (ai (pv 2) (ag aq))))
   (ah Z9 (aa (aA (i:=8) eO.nd (aD cF (aD cF (aD cF (pv 5) (pv 6)) (ak dh T.JE hr (ag (pv 5)))) (ak dh T.JE hr (ag (pv 6)))))
   (ah Z10 (aa (c_ (bf (AQ K rfl hr) (ak i8 T.WN hr (ai (aD cF (cI qL (pv 8) (ck (pv 7)) fQ) (cI qL (pv 8) fQ (ck (pv 7)))) (ag (pv 3)))) (ak Rl T.F39 hr (ai (pv 5) (ai (pv 6) (ag (pv 3))))) (aZ _)) (ah Z11 (aj (aM qA))) b9)
   (ah Z12 (aa (aA (i:=8) eO.nd (aD cF (aD cF (aD cF (pv 5) (ak dh T.JE hr (ag (pv 5)))) (pv 6)) (ak dh T.JE hr (ag (pv 6)))))
   (ah Z13 (aa (aA (i:=3) eO.nd (aY (ke rfl) rfl T.z_min boot_min (ai (pv 3) (ag aq))))
   (ah Z14 (aa (Gu (i:=9) ["_law_word","_law_length"] [none,some 3] eO.nd rfl (Or.inl rfl) (wF K rfl (dz (ai (pv 5) (ai (pv 6) (ag (aD cF (pv 5) (pv 6))))))) ⟨⟨rfl,rfl,by first | exact .inl rfl | exact .inr rfl⟩,trivial⟩ (λ_ _ _ _=>(aV (i:=0) (by decide+kernel:List.Nodup (["_law_word","_law_length"]:List Str)) rfl (Or.inl rfl))) (λ_ _ _ _=>(wA (bf MV (aY bM rfl T.z_len Qce (ag (pv 0))) (pv 1) (aZ _)))) (λ_ _ _ _=>(ak kc T.Q3 hr (ag (pv 0)))))
   (ah Z15 (aa (c_ (bf (AQ K rfl hr) (ak i8 T.WN hr (ai (aD cF (cI qL (pv 8) (ck (pv 7)) fQ) (cI qL (pv 8) fQ (ck (pv 7)))) (ag (pv 3)))) (y6 (x:="_law_word") K rfl rfl rfl T.z_sorted boot_sorted (ag (pv 9)) (Hb rfl hh (Cw.bm (base:=base) (mg:=mg)) rfl rfl rfl) (y7 T.z_len ⟨rfl,rfl,rfl,⋯,rfl,⋯,⋯⟩ rfl rfl ∅ ∅ (λ_ _ _ us hl=>match us,hl with | [_],_=>rfl)) (cH.in1 (cH.in1 (hr.mono ∅)))) (aZ _)) (ah Z16 (aj (aM qA))) b9)
   (ah Z17 (aj (c_ (bf (AQ K rfl hr) (ak i8 T.WN hr (ai (aD cF (pv 5) (ak dh T.JE hr (ag (pv 5)))) (ag (pv 3)))) (cI (yG K rfl) (dN (ag (ak kc T.Q3 hr (ag (pv 5))))) fQ (ck (pv 3))) (aZ _)) (ah Z18 (aj (aM qA))) b9))))))))))))))))))))))))))))))))
   (ah Z19 (aj (aM qA)))),?_⟩
 obtain ⟨a,ns,rfl,hS,hl,hX,q⟩:=h
 have hs:=Zs1
 have ZE:qf K H:=hX _ (by unfold kz;exact Qac) _ _
 have ZF:A7 K H:=hX _ (by unfold kz;exact Qae _ Qac) _ _
 have tne:nu≠i6:=λe=>(Qb5.mp T.tn).1 (by rw[e];exact Qac)
 have h26:(aR:)=26:=rfl
 refine ⟨_,rfl,_,rfl,_,rfl,a,_,rfl,hS,λp1 n1=>?_⟩
 have YR:(nK (ns.map V.int) (some 1) (some 4):)<=3:=by unfold nK;rw[Qad];exact Qa7 (Nat.min_le_left _ _) (by have e1:∀n d:Nat,HT.kg n d (some ((1:Nat):Int))=min 1 n:=λn d=>HT.gE _ _ _;have e2:∀n d:Nat,HT.kg n d (some ((4:Nat):Int))=min 4 n:=λn d=>HT.gE _ _ _;show HT.kg _ _ (some ((4:Nat):Int)) - HT.kg _ _ (some ((1:Nat):Int))<=3;rw[e1,e2];lia)
 have s1:=az.upd (o:= .lst (nK (ns.map V.int) (some 1) (some 4))) n1
 refine ⟨p1,_,rfl,.inl (bL.of ae),_,_,rfl,rfl,?_⟩
 generalize (nK (ns.map V.int) (some 1) (some 4):)=m at YR ⊢
 generalize upd H p1 (.lst (nK (ns.map V.int) (some 1) (some 4)))=H1 at s1 ⊢
 refine ⟨_,rfl,(),(),?_⟩
 rw[show ((1:Int)+(m:Int)).toNat=1+m by lia]
 refine let j9:Nat->L2.St->Hp->Prop:=(λi σ H'=>∃v1 v2 v3 v4 v5 v6 v7 v8 v9:Option V,σ=[some (.ref a),v1,v2,v3,v4,v5,v6,v7,v8,v9]/\bL K H' a (ns.map V.int)/\qf K H'/\A7 K H');dR j9 ⟨none,none,none,none,none,none,none,none,none,rfl,s1.seq hS,ZE.same s1,ZF.same s1⟩ ?_ ?_
 ·rintro i σ H2 hi ⟨v1,v2,v3,v4,v5,v6,v7,v8,v9,rfl,O2,Rm,Rn⟩
  rw[show (0:Int)+(i:Int)=(i:Int) by lia]
  refine ⟨_,rfl,_,rfl,a,ns,i,rfl,O2,(),λb H3 nb bx s3=>?_⟩
  refine ⟨_,rfl,b,7,rfl,bx,∅,∅,λL0 H4 hL0 ZG s4=>?_⟩
  refine (λ{P:Nat->Prop} {G:Prop} (f:(∀L,L<=6->P L)->G) (x:∀L,L<=6->P L)=>f x) (P:=λL=>Z4 { nx:=j9 (i+1),rt:=Q,bk:=Z19 { nx:=λx H'=>Q V.gz H',rt:=Q },ct:=j9 (i+1) } [some (.ref a),some (.int (i:Nat)),some (.ref b),some (.int (L:Nat)),v4,v5,v6,v7,v8,v9] H4) (λkey=>?_) λL hL=>?_
  ·refine ⟨_,rfl,_,_,rfl,rfl,_,rfl,cZ (λg=>?_) (λg=>?_)⟩
   ·refine ⟨_,rfl,_,_,rfl,?_⟩
    by_cases g4:(4:Int)<(L0:Int)
    ·rw[if_pos g4];exact key 4 ∅
    ·rw[if_neg g4];exact key L0 ()
   ·exact key L0 ()
  clear hL0
  refine ⟨aR,rfl,by rw[h26];lia,λLA nL=>?_⟩
  have Lb:=ZG.ne nL
  have nLA:H2 LA=none:=(bE.same nb s3 s4).free nL
  have En:=ZG.Hk (o:= .lst (eR aR)) Lb
  have W4:upd H4 LA (.lst (eR aR)) LA=some (.lst (eR aR)):=ae
  have s1:az H2 (upd H4 LA (.lst (eR aR))):=(bE.same nb s3 s4).trans (az.upd nL)
  generalize upd H4 LA (.lst (eR aR))=H5 at En W4 s1 ⊢
  refine ⟨_,rfl,.inl ⟨rfl,_,bL.of W4⟩,_,rfl,b,26,rfl,En,∅,∅,λr H6 hr AU s2=>?_⟩
  have VU:r<(aR:):=by lia
  have hL2:=s2 _ _ W4 Lb
  refine ⟨LA,_,_,r,_,rfl,rfl,hL2,(),(),IT (by rw[b_];exact VU),Hj VU,?_⟩
  rw[Ew]
  have x1:aR[r]∈aR:=Qb3 VU
  have el:(aR.eraseIdx r:)=25:=by rw[List.length_eraseIdx_of_lt VU];rfl
  have es:∀d∈aR.eraseIdx r,d∈aR/\d≠aR[r]:=λd hd=>by
   refine ⟨List.mem_of_mem_eraseIdx hd,λq=>?_⟩
   rw[<-List.erase_eq_eraseIdx_of_idxOf (vg.idxOf_getElem r VU)]at hd
   exact absurd q ((vg.mem_erase_iff.mp hd).1)
  generalize aR[r]=x at x1 es ⊢
  generalize aR.eraseIdx r=LL at el es ⊢
  have W5:upd H6 LA (.lst (eR LL)) LA=some (.lst (eR LL)):=ae
  have ZH:=AU.Hk (o:= .lst (eR LL)) Lb
  have ZI:az H2 (upd H6 LA (.lst (eR LL))):=λc o e=>by rw[au (ao e nLA)];exact s2 c o (s1 c o e) (ao e nb)
  generalize upd H6 LA (.lst (eR LL))=H7 at W5 ZH ZI ⊢
  refine ⟨_,rfl,.inl ⟨rfl,_,bL.of W5⟩,_,rfl,b,25,rfl,ZH,∅,∅,λr2 H8 RN hb4 ZJ=>?_⟩
  have Ro:r2<LL.length:=by lia
  have hL4:=ZJ _ _ W5 Lb
  refine ⟨LA,_,_,r2,_,rfl,rfl,hL4,(),(),IT (by rw[b_];exact Ro),Hj Ro,?_⟩
  obtain ⟨y1,yx⟩:=es _ (Qb3 Ro)
  generalize LL[r2]=y at y1 yx ⊢
  generalize (eR LL).eraseIdx r2=ZK
  have ME:=hb4.Hk (o:= .lst ZK) Lb
  have s5:az H2 (upd H8 LA (.lst ZK)):=λc o e=>by rw[au (ao e nLA)];exact ZJ c o (ZI c o e) (ao e nb)
  generalize upd H8 LA (.lst ZK)=H9 at ME s5 ⊢
  clear W4 hL2 W5 hL4 s1 s2 ZI ZJ En AU ZH hb4 es el bx ZG s3 s4 nL Lb
  have lx:Lt x:= .inl x1
  have ly:Lt y:= .inl y1
  have sc:∀a∈aR,ay a∉aR:=by decide+kernel
  have W6:x≠y:=Ne.symm yx
  have n2':x≠ay y:=λg=>sc y y1 (by rw[<-g];exact x1)
  have pick:∀{c d:Nat} {g:Nat},(g:Int)<2->∃e,(e=c\/e=d)/\tF [V.str (S [c]),.str (S [d])] (g:Int)=some (.str (S [e])):=λ{c d g} hg=>by
   rcases (show g=0\/g=1 by lia) with rfl | rfl
   ·exact ⟨c,.inl rfl,rfl⟩
   ·exact ⟨d,.inr rfl,rfl⟩
  refine ⟨_,rfl,_,rfl,x,rfl,lx,by show 2<=sizeLine;decide,λt nt=>?_⟩
  have tb:=ME.ne nt
  have ht:upd H9 t (.lst [.str (S [x]),.str (S [ay x])]) t=some (.lst [.str (S [x]),.str (S [ay x])]):=ae
  have ZL:=ME.Hk (o:= .lst [.str (S [x]),.str (S [ay x])]) tb
  have s6:=s5.trans (az.upd (o:= .lst [.str (S [x]),.str (S [ay x])]) nt)
  generalize upd H9 t (.lst [.str (S [x]),.str (S [ay x])])=HA at ht ZL s6 ⊢
  refine ⟨_,rfl,b,2,rfl,ZL,∅,∅,λg HB hg Rp s7=>?_⟩
  obtain ⟨x',DM,ex⟩:=pick (c:=x) (d:=ay x) hg
  refine ⟨t,_,_,_,rfl,rfl,bL.of (s7 _ _ ht tb),ex,?_⟩
  refine ⟨_,rfl,_,rfl,y,rfl,ly,by show 2<=sizeLine;decide,λt2 nt2=>?_⟩
  have t2b:=Rp.ne nt2
  have VR:upd HB t2 (.lst [.str (S [y]),.str (S [ay y])]) t2=some (.lst [.str (S [y]),.str (S [ay y])]):=ae
  have ZM:=Rp.Hk (o:= .lst [.str (S [y]),.str (S [ay y])]) t2b
  have s8:=(bE.same nb s6 s7).trans (az.upd (o:= .lst [.str (S [y]),.str (S [ay y])]) nt2)
  generalize upd HB t2 (.lst [.str (S [y]),.str (S [ay y])])=HC at VR ZM s8 ⊢
  refine ⟨_,rfl,b,2,rfl,ZM,∅,∅,λg2 HD hg2 hb9 s9=>?_⟩
  obtain ⟨y',RH,ey⟩:=pick (c:=y) (d:=ay y) hg2
  refine ⟨t2,_,_,_,rfl,rfl,bL.of (s9 _ _ VR t2b),ey,_,_,rfl,?_⟩
  have s9':=bE.same nb s8 s9
  clear s5 s6 s7 s8 s9 ME ZL Rp ZM ht VR
  have NW:Lt x':=DM.elim (λg=>by rw[g];exact lx) λg=>by rw[g];exact lx.ay
  have Tc:Lt y':=RH.elim (λg=>by rw[g];exact ly) λg=>by rw[g];exact ly.ay
  have m1:x'≠y':=λg=>by
   rcases DM with a | a<;>rcases RH with c | c<;>rw[a,c]at g
   ·exact W6 g
   ·exact n2' g
   ·exact sc x x1 (by rw[g];exact y1)
   ·exact W6 (dk lx ly g)
  have m2:x'≠ay y':=λg=>by
   rcases DM with a | a<;>rcases RH with c | c<;>rw[a,c]at g
   ·exact n2' g
   ·rw[aF ly]at g;exact W6 g
   ·exact W6 (dk lx ly g)
   ·rw[aF ly]at g;exact sc x x1 (by rw[g];exact y1)
  have T2:DA x' y':=⟨NW,Tc,m1,m2⟩
  refine ⟨_,rfl,b,4,rfl,hb9,∅,∅,λk HE hk _ s10=>?_⟩
  have sE:=bE.same nb s9' s10
  have hSE:=sE.seq O2
  have VV:=Rm.same sE
  have VW:=Rn.same sE
  clear hb9 s9' s10 sE DM RH ex ey
  refine ⟨_,rfl,_,rfl,_,_,rfl,rfl,by show 1+1<=sizeLine;decide,_,rfl,x',rfl,NW,_,_,rfl,rfl,by show 2+1<=sizeLine;decide,_,rfl,y',rfl,Tc,_,_,rfl,rfl,by show 3+1<=sizeLine;decide,?_⟩
  have pw:∀M,M<=6->4 ^ M<=4096:=λM hM=>Qa7 (Qet ∅ hM) ∅
  have VX:∀z:c7,(z:)=4->(cut z (some (k:Int)) none:)+(cut z none (some (k:Int)):)<=sizeLine/\cut z (some (k:Int)) none++cut z none (some (k:Int))=z.drop k++z.take k/\(z.drop k++z.take k:)=4:=λz hz=>by
   rw[jG,rD]
   refine ⟨?_,rfl,?_⟩
   ·rw[Qat,Qad];lia
   ·rw[T6,Qat,Qad];lia
  have yz:∀z:c7,z.Perm [x',y',ay x',ay y']->Yd (z.drop k++z.take k):=λz hp=>T2.yd ((Qby.trans (Qgz (Qag k z))).trans hp)
  obtain ⟨r1,VY,r3⟩:=VX [x',y',ay x',ay y'] rfl
  have zX:=yz [x',y',ay x',ay y'] (Qej _)
  refine ⟨_,rfl,_,rfl,_,rfl,[x',y',ay x',ay y'],rfl,by show 4<=_;lia,_,rfl,_,rfl,_,rfl,[x',y',ay x',ay y'],rfl,by show 4<=_;lia,_,_,rfl,rfl,r1,?_⟩
  rw[VY]
  refine ⟨_,rfl,_,L,rfl,zX,(λe=>by rw[e]at r3;cases r3),(),hL,by rw[r3];exact pw L hL,λt1 ls HF nt1 Ra En Zh W7=>?_⟩
  refine ⟨_,rfl,_,rfl,_,rfl,x',y',L,rfl,NW,Tc,hL,VV.same W7,λt3 ws HG sT ZN nt3 ht3 hl3 hm S_ VZ=>?_⟩
  obtain rfl:ls=ws:=BP T2 rfl hL En S_ VZ hm
  have V0:=sT.get Ra
  have hSG:=sT.seq (W7.seq hSE)
  have ZO:=(VW.same W7).off T.zZ T.sQ tne sT
  refine ⟨_,_,.lst (bL.of V0) (gk _),.lst (bL.of ht3) (gk _),⟨oH zX En,oH zX En⟩,BK _,_,rfl,Hl (by rw[BL];rfl) ?_⟩
  clear En zX r1 VY r3 hm S_ VZ Ra V0 ht3 sT W7 Zh hl3 hSE VV VW O2 Rm Rn nt1 nt3
  refine ⟨_,rfl,_,rfl,x',rfl,NW,_,_,rfl,rfl,by show 1+1<=sizeLine;decide,_,rfl,_,_,rfl,rfl,by show 2+1<=sizeLine;decide,_,rfl,y',rfl,Tc,_,_,rfl,rfl,by show 3+1<=sizeLine;decide,?_⟩
  refine ⟨_,rfl,_,_,rfl,?_⟩
  have ZP:(if (4:Int)<(L:Int) then (4:Int) else (L:Int))=((min L 4:Nat):Int):=by split<;>lia
  rw[ZP]
  have ZQ:min L 4<=4:=Nat.min_le_right _ _
  generalize min L 4=M at ZQ ⊢
  refine ⟨_,rfl,_,rfl,_,rfl,_,rfl,_,_,rfl,rfl,by show 1+1<=sizeLine;decide,by show 3<=sizeLine;decide,λt4 nt4=>?_⟩
  have ZR:upd HG t4 (.tup [.str (S [x']),.str (S [y']),.str (S ([x']++[y']))]) t4=some (.tup (dD [[x'],[y'],[x',y']])):=ae
  have ZS:=az.upd (o:= .tup [.str (S [x']),.str (S [y']),.str (S ([x']++[y']))]) nt4
  have hSH:=ZS.seq hSG
  have V1:=ZN.same ZS
  have V2:=ZO.same ZS
  generalize upd HG t4 (.tup [.str (S [x']),.str (S [y']),.str (S ([x']++[y']))])=HH at ZR hSH V1 V2 ⊢
  refine ⟨t4,rfl,⟨_,di.of ZR⟩,?_⟩
  have al:∀w∈[[x'],[y'],[x',y']],AllLt w/\(w:)<=2:=λw hw=>by
   simp only[Qaf,Qaj,or_false]at hw
   rcases hw with rfl | rfl | rfl
   ·exact ⟨λc hc=>by rw[Wi.mp hc];exact NW,by simp⟩
   ·exact ⟨λc hc=>by rw[Wi.mp hc];exact Tc,by simp⟩
   ·exact ⟨λc hc=>by
     simp only[Qaf,Qaj,or_false]at hc
     rcases hc with rfl | rfl
     ·exact NW
     ·exact Tc,by simp⟩
  refine let z8:Nat->List V->Hp->Prop:=(λj acc H'=>az HH H'/\acc=dD ((([[x'],[y'],[x',y']].take j).filter λw=>decide ((w:)<=M)).map aG));qY (K:=K) (a:=t4) (xs:=dD [[x'],[y'],[x',y']]) z8 (by show 3<sizeLine;decide) (λn acc H' h=>di.of (h.1 _ _ ZR)) ⟨az.refl _,rfl⟩ ?_ ?_
  ·rintro j u acc H5 Nx hj hu BY ⟨s5,rfl⟩ nx
   obtain ⟨w,hw,rfl⟩:=xH hu
   obtain ⟨aw,lw⟩:=al w (Qas hw)
   refine ⟨⟨rfl,trivial⟩,_,rfl,w,rfl,(),_,rfl,_,_,rfl,rfl,_,rfl,cZ (λg=>?_) (λg=>?_)⟩
   ·have g1:(w:)<=M:=by have:=of_decide_eq_true g;lia
    refine ⟨_,rfl,w,rfl,aw,(),λH6 s6=>nx _ _ (by simpa using BY) ⟨s5.trans s6,?_⟩⟩
    rw[<-take_snoc hw,Qcc,Qaq,show [w].filter (λw=>decide ((w:)<=M))=[w] by simp[g1]]
    exact rq _ _
   ·have g1: ¬(w:)<=M:=λe=>g (decide_eq_true ())
    refine nx _ _ () ⟨s5,?_⟩
    rw[<-take_snoc hw,Qcc,show [w].filter (λw=>decide ((w:)<=M))=[] by simp[g1],Qa4]
  rintro acc H5 D BY ⟨s5,rfl⟩ hD
  have ZT:upd H5 D (.lst (dD (List.map aG (List.filter (λw=>decide ((w:)<=M)) (List.take (dD [[x'],[y'],[x',y']]:) [[x'],[y'],[x',y']]))))) D=some (.lst (dD (ug x' y' M))):=ae
  have ZU:=s5.trans (az.upd (o:= .lst (dD (List.map aG (List.filter (λw=>decide ((w:)<=M)) (List.take (dD [[x'],[y'],[x',y']]:) [[x'],[y'],[x',y']]))))) hD)
  have hSI:=ZU.seq hSH
  have V3:=V1.same ZU
  have V4:=V2.same ZU
  generalize upd H5 D (.lst (dD (List.map aG (List.filter (λw=>decide ((w:)<=M)) (List.take (dD [[x'],[y'],[x',y']]:) [[x'],[y'],[x',y']])))))=HI at ZT hSI V3 V4 ⊢
  obtain ⟨dn,dm⟩:=Mu T2 M
  have dl:(ug x' y' M:)<=3:=by
   unfold ug
   rw[Wh]
   exact Qdd _ _
  have dw:∀w∈ug x' y' M,(w:)<=10000:=λw hw=>by
   rcases (dm w).mp hw with ⟨_,rfl | rfl⟩ | ⟨_,rfl⟩
   ·exact Qa7 (fZ _) (by show 1<=10000;decide)
   ·exact Qa7 (fZ _) (by show 1<=10000;decide)
   ·exact Qa7 (fZ _) (by show 2<=10000;decide)
  obtain ⟨r1,VY,r3⟩:=VX [x',ay x',y',ay y'] rfl
  have zX:=yz [x',ay x',y',ay y'] (.cons _ (.swap _ _ _))
  refine ⟨_,rfl,_,rfl,_,rfl,[x',ay x',y',ay y'],rfl,by show 4<=_;lia,_,rfl,_,rfl,_,rfl,[x',ay x',y',ay y'],rfl,by show 4<=_;lia,_,_,rfl,rfl,r1,?_⟩
  rw[VY]
  refine ⟨_,rfl,_,M,rfl,zX,(λe=>by rw[e]at r3;cases r3),(),(),by rw[r3];exact pw M (),λt5 ls HJ nt5 ht5 ME hl5 V5=>?_⟩
  refine ⟨_,rfl,D,ug x' y' M,rfl,.lst (bL.of (V5 _ _ ZT)),(),dw,(V4.same V5).at_ T.zZ,λt6 HK i_ sT V6 nt6 ht6 pw' ord=>?_⟩
  obtain rfl:ls=i_:=Fe T2 rfl ZQ ME (pw'.nodup_iff.mpr dn) ord (λw=>by rw[pw'.mem_iff,dm])
  have sK:=sT.imp (q:=TabAt K "law") λb e=>by rw[e];exact T.zZ
  have hSK:=sT.seq (V5.seq hSI)
  have ZV:=(V3.same V5).off T.sQ T.zZ (Ne.symm tne) sK
  refine ⟨_,_,.lst (bL.of (sT.get ht5)) (gk _),.lst (bL.of ht6) (gk _),⟨oH zX ME,oH zX ME⟩,BK _,_,rfl,Hl (by rw[BL];rfl) ?_⟩
  have V7:A7 K HK:= .mk T.zZ V6
  clear ME zX r1 VY r3 ht5 ht6 sT sK V5 V6 ZT
  have Rq:Yd [x',ay x']:=(T2.to QV.yd QV.lt).zd
  refine ⟨_,rfl,_,rfl,x',rfl,NW,_,_,rfl,rfl,by show 1+1<=sizeLine;decide,_,rfl,[x',ay x'],M,rfl,Rq,by simp,by show 2<=8;decide,(),by show 2 ^ M<=4096;exact Qa7 (Qet ∅ (show M<=6 by lia)) ∅,λt7 ls HL nt7 ht7 Rp hl7 s15=>?_⟩
  obtain rfl:ls=[aG [x']].take M:=Ff T2 ZQ Rp
  refine ⟨_,rfl,[x'],rfl,λc hc=>by rw[Wi.mp hc];exact NW,by show 1<=1000;decide,λHM s16=>?_⟩
  refine ⟨by show 1<=sizeLine;decide,λt8 nt8=>?_⟩
  refine ⟨_,rfl,_,rfl,t8,_,rfl,bL.of ae,λt9 nt9=>?_⟩
  have ec:nK (dD [aG [x']]) none (some (M:Int))=dD ([aG [x']].take M):=by
   show cut (dD [aG [x']]) none (some (M:Int))=_
   rw[jG]
   unfold dD
   rw[Qgd]
  have ZW:=((s15.trans s16).trans (az.upd (o:= .lst (dD [aG [x']])) nt8)).trans (az.upd (o:= .lst (nK (dD [aG [x']]) none (some (M:Int)))) nt9)
  have ZX:=((s16.trans (az.upd (o:= .lst (dD [aG [x']])) nt8)).trans (az.upd (o:= .lst (nK (dD [aG [x']]) none (some (M:Int)))) nt9)) _ _ ht7
  have ht9:upd (upd HM t8 (.lst (dD [aG [x']]))) t9 (.lst (nK (dD [aG [x']]) none (some (M:Int)))) t9=some (.lst (dD ([aG [x']].take M))):=by rw[ae,ec]
  refine ⟨_,_,.lst (bL.of ZX) (gk _),.lst (bL.of ht9) (gk _),⟨oH Rq Rp,oH Rq Rp⟩,BK _,_,rfl,Hl (by rw[BL];rfl) ?_⟩
  exact ⟨_,_,_,_,_,_,_,_,_,rfl,ZW.seq hSK,ZV.same ZW,V7.same ZW⟩
 ·rintro σ H2 ⟨v1,v2,v3,v4,v5,v6,v7,v8,v9,rfl,O2,Rm,Rn⟩
  exact q H2
end
theorem cB{M:List Value->Prop}(h:M []):∀us:List Value,(us:)=0->M us
 | [],_=>h
theorem aU{M:List Value->Prop}(h:∀(a:Value) (us:List Value),(us:)=n->M (a::us)):∀us:List Value,(us:)=n+1->M us
 | a::us,e=>h a us (Nat.succ.inj e)
def Dn(K:c8)(x:Str)(st:Stmt)(f:Addr)(fd:FuncData):Prop:=PySem.W.nsIn K mainGlobals x=some (some (.ref f))/\Kx K x x st f fd
variable{oc doc pm ct:Value}{od an:Option Addr}{x8:Array (Option Value)}
theorem dn{x:Str}{st:Stmt}{f:Addr}{kV cY:Value}(a:PySem.W.nsIn K mainGlobals x=some (some (.ref f)))(l:K.lookup f=some ⟨oc,od,.func (PySem.W.fnOf x x (da st) (cE st) (aB st) .none kV doc pm an cY ct),x8⟩)(c:PySem.W.codeIn K cY x=true)(k:PySem.W.keepIn K (.ref f)=true):Dn K x st f (PySem.W.fnOf x x (da st) (cE st) (aB st) .none kV doc pm an cY ct):=⟨a,wx l c k⟩
theorem iI{h:Heap}{x:Str}{st:Stmt}{f:Addr}{fd:FuncData}{ps:List Str}(X:K.In h)(G:h.Ns mainGlobals mg)(a:Dn K x st f fd)(b:∀(kV doc pm:Value) (an:Option Addr) (cY ct:Value) (us:List Value),(us:)=(ps:)->bindArgs (PySem.W.fnOf x x (da st) (cE st) (aB st) .none kV doc pm an cY ct) ⟨us,[]⟩=pure (ps.zip us)):bB K mg x st ps f fd:=⟨a.2,Qgb X G a.1,a.2.binds b⟩
def ZY(K:c8)(x:Str)(st:Stmt)(f:Addr)(fd:FuncData)(t:Addr):Prop:=Dn K x st f fd/\Es K x x st f fd t/\∃c,PySem.W.tabIn K x=some (c,t)
theorem dnL{x:Str}{st:Stmt}{f c t:Addr}{cc:Value}{oo:Option Addr}{ss:Array (Option Value)}{kV:Value}{vs:Array Value}(a:PySem.W.nsIn K mainGlobals x=some (some (.ref f)))(l:K.lookup f=some ⟨oc,od,.func (PySem.W.fnOf x x (da st) (cE st) (aB st) .none kV doc pm an (.ref c) ct),x8⟩)(b:PySem.W.codeIn K (.ref c) x=true)(k:PySem.W.keepIn K (.ref f)=true)(v:K.lookup c=some ⟨cc,oo,.fields vs,ss⟩)(e:(vs[11]?: Option Value)=some (.ref t))(h:PySem.W.codeHdIn K c t=true):ZY K x st f (PySem.W.fnOf x x (da st) (cE st) (aB st) .none kV doc pm an (.ref c) ct) t:=
 ⟨⟨a,wx l b k⟩,Lj l b k h,c,by unfold PySem.W.tabIn;rw[a];dsimp only;rw[l];dsimp only;rw[v];dsimp only;rw[e]⟩
theorem all_mk{l:PySem.W.OpenLaw}{w:World}{h:Heap}{f0 f1 f2 f3 f4 f5 f6 f7 f8 f9 R0 R1 R3 R4 R5 R6 R7 R8 R9 JC JD R_ Sa Sb Sd Se Sf Sg Sh Si Sj Sk Sl Sm So Sq Sr Ss Su QX QY aN aW lK g8 i6 nu:Addr}(X:K.In h)(G:h.Ns mainGlobals mg)(WA:mg "law"=some (.ref fa))
  {d0 d1 d2 d3 d4 d5 d6 d7 d8 d9 Sv Sw Sx Sy Sz SA SD SE SF SG SH SI SJ SK SM SN SO SQ SR SU SV SX SY S0 S3 S4 S5 S6 S7 QZ Q0:FuncData}
  {Rr Rt MF MG:Option Addr} {Ru MH:Array (Option Value)} {Rv Rw Rx Ry JR Rz MI MJ MK ML DF MM:Value}
  (a0:Dn K "contrary" lZ f0 d0)
  (a1:Dn K "turned" sM f1 d1)
  (a2:Dn K "bands" xN f2 d2)
  (a3:Dn K "steps_round" gW f3 d3)
  (a4:Dn K "strands_at" iW f4 d4)
  (a5:Dn K "points" sN f5 d5)
  (a6:Dn K "corner_points" fK f6 d6)
  (a7:Dn K "corners" oI f7 d7)
  (a8:Dn K "chord_starts" gs f8 d8)
  (a9:Dn K "number_in" j6 f9 d9)
  (a10:Dn K "count_meetings" fi R0 Sv)
  (a11:Dn K "strands_in" iX R1 Sw)
  (a12:Dn K "corner_ends" gX R3 Sx)
  (a13:Dn K "shortened" j7 R4 Sy)
  (a14:Dn K "shortest" l_ R5 Sz)
  (a15:Dn K "ring" BQ R6 SA)
  (a16:Dn K "loop" BR R7 SD)
  (a17:Dn K "root" BS R8 SE)
  (a18:Dn K "corner_steps" gu R9 SF)
  (a19:Dn K "steps_ahead" gY JC SG)
  (a20:Dn K "steps_back" iY JD SH)
  (a21:Dn K "parting" oJ R_ SI)
  (a22:Dn K "side_of" oK Sa SJ)
  (a23:Dn K "comes_ahead" gZ Sb SK)
  (a24:Dn K "number_among" gv Sd SM)
  (a25:Dn K "seen_strand" g7 Se SN)
  (a26:Dn K "taut_order" iZ Sf SO)
  (a27:Dn K "taut" BU Sg SQ)
  (a28:Dn K "least" xO Sh SR)
  (a29:Dn K "own" JB Si SU)
  (a30:Dn K "is_lone" oM Sj SV)
  (a31:Dn K "may_follow" i0 Sk SX)
  (a32:Dn K "one_longer" i3 Sl SY)
  (a33:Dn K "lone_loops" i4 Sm S0)
  (a34:Dn K "_law_box" BV So S3)
  (a35:Dn K "_law_take" xP Sq S4)
  (a36:Dn K "_law_other" sO Sr S5)
  (a37:Dn K "_law_common" oN Ss S6)
  (a38:Dn K "_law_even" xQ Su S7)
  (a39:ZY K "_law_due" xR QX QZ i6)
  (a40:ZY K "law" DC QY Q0 nu)
  (q_Seen:PySem.W.nsIn K mainGlobals "Seen"=some (some (.ref aN)))
  (pg_Seen:PySem.W.plainGet K aN Str.empty=true)
  (hd_Seen:PySem.W.hasDictIn K aN=true)
  (po_Seen:PySem.W.plainOver K aN=true)
  (sa_Seen:PySem.W.findIn K (.ref aN) "__setattr__"=some (some (.builtin "object.__setattr__")))
  (n_Seen_strand:PySem.W.findIn K (.ref aN) "strand"=some none)
  (n_Seen_way:PySem.W.findIn K (.ref aN) "way"=some none)
  (n_Seen_place:PySem.W.findIn K (.ref aN) "place"=some none)
  (q_Way:PySem.W.nsIn K mainGlobals "Way"=some (some (.ref aW)))
  (pg_Way:PySem.W.plainGet K aW Str.empty=true)
  (hd_Way:PySem.W.hasDictIn K aW=true)
  (po_Way:PySem.W.plainOver K aW=true)
  (sa_Way:PySem.W.findIn K (.ref aW) "__setattr__"=some (some (.builtin "object.__setattr__")))
  (n_Way_size:PySem.W.findIn K (.ref aW) "size"=some none)
  (n_Way_root_size:PySem.W.findIn K (.ref aW) "root_size"=some none)
  (n_Way_leads:PySem.W.findIn K (.ref aW) "leads"=some none)
  (n_Way_onward:PySem.W.findIn K (.ref aW) "onward"=some none)
  (n_Way_backward:PySem.W.findIn K (.ref aW) "backward"=some none)
  (mk_Way:PySem.W.makesIn K aW=true)
  (qi_Way:PySem.W.findIn K (.ref aW) "__init__"=some (some (.ref lK)))
  (fi_Way:PySem.W.isFn K (.ref lK)=true)
  (kc_Way:PySem.W.keepIn K (.ref aW)=true)
  (li_Way:K.lookup lK=some ⟨Rv,Rr,.func (PySem.W.fnOf "__init__" "Way.__init__" (da kO) (cE kO) (aB kO) .none Rw Rx Ry Rt JR Rz),Ru⟩)
  (ci_Way:PySem.W.codeIn K JR "Way.__init__"=true)
  (ki_Way:PySem.W.keepIn K (.ref lK)=true)
  (mk_Seen:PySem.W.makesIn K aN=true)
  (qi_Seen:PySem.W.findIn K (.ref aN) "__init__"=some (some (.ref g8)))
  (fi_Seen:PySem.W.isFn K (.ref g8)=true)
  (kc_Seen:PySem.W.keepIn K (.ref aN)=true)
  (li_Seen:K.lookup g8=some ⟨MI,MF,.func (PySem.W.fnOf "__init__" "Seen.__init__" (da iF) (cE iF) (aB iF) .none MJ MK ML MG DF MM),MH⟩)
  (ci_Seen:PySem.W.codeIn K DF "Seen.__init__"=true)
  (ki_Seen:PySem.W.keepIn K (.ref g8)=true)
  (z_enumerate:PySem.W.nsIn K mainGlobals "enumerate"=some none)
  (z_int:PySem.W.nsIn K mainGlobals "int"=some none)
  (z_len:PySem.W.nsIn K mainGlobals "len"=some none)
  (z_list:PySem.W.nsIn K mainGlobals "list"=some none)
  (z_max:PySem.W.nsIn K mainGlobals "max"=some none)
  (z_min:PySem.W.nsIn K mainGlobals "min"=some none)
  (z_range:PySem.W.nsIn K mainGlobals "range"=some none)
  (z_reversed:PySem.W.nsIn K mainGlobals "reversed"=some none)
  (z_sorted:PySem.W.nsIn K mainGlobals "sorted"=some none)
  (z_str:PySem.W.nsIn K mainGlobals "str"=some none)
  (z_tuple:PySem.W.nsIn K mainGlobals "tuple"=some none)
  (tn:([i6,nu]:List Addr).Nodup):
  ∃fd:FuncData,(∀(s:Shared) (v:Value),BindsTo s fd ⟨[v],[]⟩ [("_law_script",v)])/\∀base:Heap,K.In base->base.Ns mainGlobals mg->yY base mg->bD l.prog w K mg base eQ 13 fa fd ["_law_script"] (nM K):=by
 have e:=WA.symm.trans (Qgb X G a40.1.1)
 cases e
 obtain ⟨_,_,_,_,_,_,_,_,_,rfl,_⟩:=a40.1.2.ex
 have JS:=wx (st:=kO) li_Way ci_Way ki_Way
 have RA:=JS.binds (ps:=["self","yard","word","longest"]) λ_ _ _ _ _ _=>aU λ_=>aU λ_=>aU λ_=>aU λ_=>cB rfl
 have DG:=wx (st:=iF) li_Seen ci_Seen ki_Seen
 have MN:=DG.binds (ps:=["self","strand","way","place"]) λ_ _ _ _ _ _=>aU λ_=>aU λ_=>aU λ_=>aU λ_=>cB rfl
 have T:Txt K mg _ _ _ _ _ _ _ _ _ _ _ _ _ _ _ _ _ _ _ _ _ _ _ _ _ _ _ _ _ _ _ _ _ _ _ _ _ _ _ _ _ _ _ _ _ _ _ _ _ _ _ _ _ _ _ _ _ _ _ _ _ _ _ _ _ _ _ _ _ _ _ _ _ _ _ _ _ _ _ _ _ _ _ _ _ _ _ _ _ _:=⟨iI X G a0 λ_ _ _ _ _ _=>aU λ_=>cB rfl,iI X G a1 λ_ _ _ _ _ _=>aU λ_=>cB rfl,iI X G a2 λ_ _ _ _ _ _=>aU λ_=>cB rfl,iI X G a3 λ_ _ _ _ _ _=>aU λ_=>aU λ_=>aU λ_=>cB rfl,iI X G a4 λ_ _ _ _ _ _=>aU λ_=>aU λ_=>aU λ_=>cB rfl,iI X G a5 λ_ _ _ _ _ _=>aU λ_=>aU λ_=>cB rfl,iI X G a6 λ_ _ _ _ _ _=>aU λ_=>aU λ_=>aU λ_=>cB rfl,iI X G a7 λ_ _ _ _ _ _=>aU λ_=>aU λ_=>cB rfl,iI X G a8 λ_ _ _ _ _ _=>aU λ_=>cB rfl,iI X G a9 λ_ _ _ _ _ _=>aU λ_=>aU λ_=>cB rfl,iI X G a10 λ_ _ _ _ _ _=>aU λ_=>cB rfl,iI X G a11 λ_ _ _ _ _ _=>aU λ_=>aU λ_=>cB rfl,iI X G a12 λ_ _ _ _ _ _=>aU λ_=>aU λ_=>cB rfl,iI X G a13 λ_ _ _ _ _ _=>aU λ_=>cB rfl,iI X G a14 λ_ _ _ _ _ _=>aU λ_=>cB rfl,iI X G a15 λ_ _ _ _ _ _=>aU λ_=>cB rfl,iI X G a16 λ_ _ _ _ _ _=>aU λ_=>cB rfl,iI X G a17 λ_ _ _ _ _ _=>aU λ_=>cB rfl,iI X G a18 λ_ _ _ _ _ _=>aU λ_=>aU λ_=>aU λ_=>cB rfl,iI X G a19 λ_ _ _ _ _ _=>aU λ_=>aU λ_=>aU λ_=>cB rfl,iI X G a20 λ_ _ _ _ _ _=>aU λ_=>aU λ_=>aU λ_=>cB rfl,iI X G a21 λ_ _ _ _ _ _=>aU λ_=>aU λ_=>aU λ_=>aU λ_=>cB rfl,iI X G a22 λ_ _ _ _ _ _=>aU λ_=>cB rfl,iI X G a23 λ_ _ _ _ _ _=>aU λ_=>aU λ_=>cB rfl,iI X G a24 λ_ _ _ _ _ _=>aU λ_=>aU λ_=>cB rfl,iI X G a25 λ_ _ _ _ _ _=>aU λ_=>aU λ_=>aU λ_=>cB rfl,iI X G a26 λ_ _ _ _ _ _=>aU λ_=>aU λ_=>aU λ_=>cB rfl,iI X G a27 λ_ _ _ _ _ _=>aU λ_=>aU λ_=>cB rfl,iI X G a28 λ_ _ _ _ _ _=>aU λ_=>aU λ_=>cB rfl,iI X G a29 λ_ _ _ _ _ _=>aU λ_=>aU λ_=>cB rfl,iI X G a30 λ_ _ _ _ _ _=>aU λ_=>aU λ_=>cB rfl,iI X G a31 λ_ _ _ _ _ _=>aU λ_=>aU λ_=>cB rfl,iI X G a32 λ_ _ _ _ _ _=>aU λ_=>aU λ_=>cB rfl,iI X G a33 λ_ _ _ _ _ _=>aU λ_=>aU λ_=>cB rfl,iI X G a34 λ_ _ _ _ _ _=>aU λ_=>aU λ_=>cB rfl,iI X G a35 λ_ _ _ _ _ _=>aU λ_=>aU λ_=>cB rfl,iI X G a36 λ_ _ _ _ _ _=>aU λ_=>cB rfl,iI X G a37 λ_ _ _ _ _ _=>aU λ_=>aU λ_=>cB rfl,iI X G a38 λ_ _ _ _ _ _=>aU λ_=>aU λ_=>aU λ_=>aU λ_=>cB rfl,iI X G a39.1 λ_ _ _ _ _ _=>aU λ_=>aU λ_=>aU λ_=>cB rfl,iI X G a40.1 λ_ _ _ _ _ _=>aU λ_=>cB rfl,a39.2.1,a39.2.2,a40.2.1,a40.2.2,tn,Qgb X G q_Seen,⟨pg_Seen,hd_Seen,po_Seen,sa_Seen⟩,n_Seen_strand,n_Seen_way,n_Seen_place,Qgb X G q_Way,⟨pg_Way,hd_Way,po_Way,sa_Way⟩,n_Way_size,n_Way_root_size,n_Way_leads,n_Way_onward,n_Way_backward,⟨mk_Way,qi_Way,fi_Way,kc_Way⟩,JS,RA,⟨mk_Seen,qi_Seen,fi_Seen,kc_Seen⟩,DG,MN,Qci X G z_enumerate,Qci X G z_int,Qci X G z_len,Qci X G z_list,Qci X G z_max,Qci X G z_min,Qci X G z_range,Qci X G z_reversed,Qci X G z_sorted,Qci X G z_str,Qci X G z_tuple⟩
 exact ⟨_,λs v=> .of_eq rfl,λbase _ _ bb=>haveI:Cw base mg:=⟨bb⟩;Rj T⟩
theorem walk{l:PySem.W.OpenLaw}{q:Program}{loose:List Str}{XP:(Str->Option Value)->Heap->Prop}{YP:World->Heap->Prop}{d:DefRec}{K:Params->c8}{ts:List Addr}(hn:l.most=some 63)(T8:d.params.defaults=[])
  (hY:∀(w:World) (h:Heap),YP w h->(K w.params).In h/\∀r∈ts,h.get? r=some (PySem.W.tabObj #[])) (Va:∀w:World,PySem.W.noTabs (K w.params)=true) (hC:∀w:World,ts.all (Hf (K w.params))=true) (hX:∀w:World,kz.all (tabOf (K w.params) ts)=true)
  (F:∀(w:World) (mg:Str->Option Value) (fa:Addr) (h:Heap),(K w.params).In h->h.Ns mainGlobals mg->mg d.name=some (.ref fa)->
   ∃fd:FuncData,(∀(s:Shared) (u:Value),BindsTo s fd ⟨[u],[]⟩ [("_law_script",u)])/\∀base:Heap,(K w.params).In base->base.Ns mainGlobals mg->yY base mg->bD l.prog w (K w.params) mg base eQ 13 fa fd ["_law_script"] (nM (K w.params))):
  PySem.W.WalkO q loose XP YP l.row.toRowW d [] (λf vs=>PySem.call f vs):=
 L2.Hg (n:=63) (k:=13) (x:="_law_script") (CX:=eQ) (sp:=nM) hn ∅ T8 ⟨rfl,∅,∅,rfl⟩ hY Va hC hX F (λ_ _ a ns hl hX hS=>⟨a,ns,rfl,hS,hl,hX,λ_=>rfl⟩) λ_ _ _ _ z=>z
end My
structure PySem.W.Fast:Prop where (tw10055747350029105236 tw10080190746001190974 tw10095265371759455059 tw10413872201836493299 tw10457347509934198811 tw10630315531029452627 tw109172249269504189 tw1097706353847225085 tw10988443827765454802 tw11001999983378861781 tw11012743868848755130 tw11027009937988315098 tw11060798181481116479 tw11062260057037218048 tw1114261054860521602 tw11210466256003062353 tw11309771700818082650 tw11573786314566716096 tw11613504988779038026 tw11630438209505293317 tw11650188362142861733 tw11667399720147699469 tw11715281639792502709 tw11811079003714931419 tw12067928428780521592 tw12093851166249849277 tw12137206157299511118 tw12260189548362227279 tw1238999687851378643 tw12489603248440929229 tw12612245737872505736 tw12653557072578849371 tw1266236684438990208 tw1279679264156916636 tw12820520648031307408 tw12929293000553747649 tw1292992925676966681 tw12946725944932759998 tw13133262085435304629 tw13169953204583388162 tw1334201469271750724 tw13382925188223883180 tw13554865831596743137 tw13559149233269712764 tw13747949212511561398 tw13780893471526909358 tw13893243057195364648 tw1405989671966336719 tw14061436532153795604 tw14111642867059504795 tw14194761717639343718 tw14213901059717457146 tw14390119535251854643 tw14467781485670521741 tw1453122747149957010 tw14560795758577584452 tw14606097922022408800 tw14697621567022168065 tw14700028577863783682 tw14707859740933867321 tw14749477612532076644 tw14799946766234919147 tw14827091428944165636 tw14979750423037553073 tw1519386168888317824 tw15379652639886425733 tw15495195491121416672 tw15750334786893197966 tw15756473451005445773 tw1580826913054764851 tw1595852864532392458 tw15971410563529257723 tw16022528327213700306 tw1614063468274795109 tw16287866244348525446 tw1634510022676110309 tw16602491506980468285 tw16622142282409197593 tw16655132123991226514 tw16818603305771997697 tw16848535103299978643 tw16876655102462583158 tw16972040875703465004 tw16974556209494032730 tw17132117229452195007 tw171856778208787659 tw17281565907108399682 tw17492219023378767790 tw17522605266190855743 tw17571253627022952834 tw17699233629732748214 tw17741729631528467110 tw17838026232886830197 tw1788240045314743980 tw18011587717503133102 tw18147172429908383496 tw18370478496178972087 tw1857944271639628369 tw1864283972325745488 tw1961393785920870083 tw1980589513355830270 tw2015561452136155563 tw2112292479743330810 tw2254948121551894515 tw2527857001613919184 tw2539226233778255457 tw2624859938054108472 tw2696270211801588920 tw2910802841463522913 tw3022281386740643127 tw3092876757954034762 tw3106255963795372114 tw3163580038123335718 tw326922129088335287 tw3459662873169010913 tw3540860518951149826 tw3553316173428058291 tw3639024792717870325 tw3900867833873365232 tw3917282920119508402 tw3924781661154313256 tw4050195036758651578 tw4057776572539961537 tw4094772450864626817 tw4175997623662734373 tw4207781745841143934 tw4213103659064154092 tw4277189601008168197 tw4372757322021242314 tw4525454940710930893 tw4597991802331183720 tw4732969849902389062 tw4741871289803329557 tw4798447948549800921 tw488603108745525259 tw4966334751711928070 tw4999117514765769770 tw5022239365650201462 tw5036013033894015876 tw5150468242613337944 tw5244880459876645641 tw5269976292037722596 tw5291859348069442163 tw5364379770365915918 tw5473251599696545559 tw5494157194305385378 tw553152636419993649 tw5553784539037185538 tw5620403795813395156 tw5751469748331522667 tw5789368398093809436 tw58731070250465052 tw5910453652087227477 tw595669314124315054 tw5964270242008234946 tw6019944007356480467 tw6116656557996768515 tw6472378739030716244 tw6530375352066836907 tw6696761831795412862 tw6921858566237181468 tw6932789572609225317 tw6984315028462913484 tw7011477098529204154 tw7086039071369634066 tw7156276029077003103 tw7235146136734219779 tw7258407397143206496 tw7464211850035421601 tw75461631571516099 tw7981457861272833799 tw7986366388201940 tw7989384519285175345 tw801145883963910090 tw8032629097429524401 tw8185194984506867174 tw8266789686155879412 tw8303258202787426402 tw8311926113892814624 tw8366901000285384747 tw8422297933518945294 tw8432719902384579149 tw8536053614233910238 tw8568455099274996514 tw8717228993120535238 tw8926100593799134898 tw8952653890468115190 tw9134695355996061810 tw913735255486575547 tw9151455202125677347 tw9273693950518362075 tw941002002350716372 tw9668897849728807501 tw9685830697743100259 tw9692958689184074367 tw9761267162745744671 tw9780196117495692802 tw980715544169833765 tw9911672554667138208 tw9944184471689611322:True)
open PySem PySem.W PyProof.Rows
set_option maxRecDepth 100000 in
set_option maxHeartbeats 0 in
theorem PySem.Challenge.cw_mustmeet_k80_whole_lone_loops_of_crossed_holds : PySem.Challenge.rw_mustmeet_k80_whole_lone_loops_of_crossed.Holds := by
 w_on;o_law;k_head;(case hw=>w_witness2)
 k_fill
 refine My.walk (l:=PySem.Challenge.rw_mustmeet_k80_whole_lone_loops_of_crossed) rfl rfl (fun w h Y=>⟨PySem.W.km_in_of Y,PySem.W.km_tabs_of Y⟩) ?KT ?KC ?KX ?F
 (case KT=>intro w;kernel_rfl)
 (case KC=>intro w;kernel_rfl)
 (case KX=>intro w;kernel_rfl)
 case F=>
  intro w mg fa h KX G hmg
  refine' My.all_mk KX G hmg (My.dn ?a0 ?l0 ?c0 ?k0) (My.dn ?a1 ?l1 ?c1 ?k1) (My.dn ?a2 ?l2 ?c2 ?k2) (My.dn ?a3 ?l3 ?c3 ?k3) (My.dn ?a4 ?l4 ?c4 ?k4) (My.dn ?a5 ?l5 ?c5 ?k5) (My.dn ?a6 ?l6 ?c6 ?k6) (My.dn ?a7 ?l7 ?c7 ?k7) (My.dn ?a8 ?l8 ?c8 ?k8) (My.dn ?a9 ?l9 ?c9 ?k9) (My.dn ?a10 ?l10 ?c10 ?k10) (My.dn ?a11 ?l11 ?c11 ?k11) (My.dn ?a12 ?l12 ?c12 ?k12) (My.dn ?a13 ?l13 ?c13 ?k13) (My.dn ?a14 ?l14 ?c14 ?k14) (My.dn ?a15 ?l15 ?c15 ?k15) (My.dn ?a16 ?l16 ?c16 ?k16) (My.dn ?a17 ?l17 ?c17 ?k17) (My.dn ?a18 ?l18 ?c18 ?k18) (My.dn ?a19 ?l19 ?c19 ?k19) (My.dn ?a20 ?l20 ?c20 ?k20) (My.dn ?a21 ?l21 ?c21 ?k21) (My.dn ?a22 ?l22 ?c22 ?k22) (My.dn ?a23 ?l23 ?c23 ?k23) (My.dn ?a24 ?l24 ?c24 ?k24) (My.dn ?a25 ?l25 ?c25 ?k25) (My.dn ?a26 ?l26 ?c26 ?k26) (My.dn ?a27 ?l27 ?c27 ?k27) (My.dn ?a28 ?l28 ?c28 ?k28) (My.dn ?a29 ?l29 ?c29 ?k29) (My.dn ?a30 ?l30 ?c30 ?k30) (My.dn ?a31 ?l31 ?c31 ?k31) (My.dn ?a32 ?l32 ?c32 ?k32) (My.dn ?a33 ?l33 ?c33 ?k33) (My.dn ?a34 ?l34 ?c34 ?k34) (My.dn ?a35 ?l35 ?c35 ?k35) (My.dn ?a36 ?l36 ?c36 ?k36) (My.dn ?a37 ?l37 ?c37 ?k37) (My.dn ?a38 ?l38 ?c38 ?k38) (My.dnL ?a39 ?l39 ?c39 ?k39 ?v39 ?e39 ?h39) (My.dnL ?a40 ?l40 ?c40 ?k40 ?v40 ?e40 ?h40) ?q_Seen ?pg_Seen ?hd_Seen ?po_Seen ?sa_Seen ?n_Seen_strand ?n_Seen_way ?n_Seen_place ?q_Way ?pg_Way ?hd_Way ?po_Way ?sa_Way ?n_Way_size ?n_Way_root_size ?n_Way_leads ?n_Way_onward ?n_Way_backward ?mk_Way ?qi_Way ?fi_Way ?kc_Way ?li_Way ?ci_Way ?ki_Way ?mk_Seen ?qi_Seen ?fi_Seen ?kc_Seen ?li_Seen ?ci_Seen ?ki_Seen ?z_enumerate ?z_int ?z_len ?z_list ?z_max ?z_min ?z_range ?z_reversed ?z_sorted ?z_str ?z_tuple ?tn
  case a0|l0|c0|k0|a1|l1|c1|k1|a2|l2|c2|k2|a3|l3|c3|k3|a4|l4|c4|k4|a5|l5|c5|k5|a6|l6|c6|k6|a7|l7|c7|k7|a8|l8|c8|k8|a9|l9|c9|k9|a10|l10|c10|k10|a11|l11|c11|k11|a12|l12|c12|k12|a13|l13|c13|k13|a14|l14|c14|k14|a15|l15|c15|k15|a16|l16|c16|k16|a17|l17|c17|k17|a18|l18|c18|k18|a19|l19|c19|k19|a20|l20|c20|k20|a21|l21|c21|k21|a22|l22|c22|k22|a23|l23|c23|k23|a24|l24|c24|k24|a25|l25|c25|k25|a26|l26|c26|k26|a27|l27|c27|k27|a28|l28|c28|k28|a29|l29|c29|k29|a30|l30|c30|k30|a31|l31|c31|k31|a32|l32|c32|k32|a33|l33|c33|k33|a34|l34|c34|k34|a35|l35|c35|k35|a36|l36|c36|k36|a37|l37|c37|k37|a38|l38|c38|k38|a39|l39|c39|k39|v39=>k_is
  (case e39=>rfl)
  (case h39=>kernel_rfl)
  case a40|l40|c40|k40|v40=>k_is
  (case e40=>rfl)
  (case h40=>kernel_rfl)
  case q_Seen|pg_Seen|hd_Seen|po_Seen|sa_Seen|n_Seen_strand|n_Seen_way|n_Seen_place|q_Way|pg_Way|hd_Way|po_Way|sa_Way|n_Way_size|n_Way_root_size|n_Way_leads|n_Way_onward|n_Way_backward|mk_Way|qi_Way|fi_Way|kc_Way|li_Way|ci_Way|ki_Way|mk_Seen|qi_Seen|fi_Seen|kc_Seen|li_Seen|ci_Seen|ki_Seen|z_enumerate|z_int|z_len|z_list|z_max|z_min|z_range|z_reversed|z_sorted|z_str|z_tuple=>k_is
  (case tn=>decide)
