import PyProof.Rows.All
import Wide.All
import OpenK.AllK
import Wide.FinOn
import Lean
import PyProof.EqAt
import PyProof.EqKinds
import PyProof.TupleCall
import PySem.Challenge.RW_mustmeet_k73_whole_yards_within_one_by_o
set_option maxHeartbeats 4000000
set_option Elab.async false
set_option linter.all false
set_option maxRecDepth 100000
set_option hygiene false
open PySem.W renaming Frag→c6
abbrev c5:=List Nat
local macro_rules|`(term|($x :))=>`(($x).length)
local macro_rules|`(term|())=>`(by lia)
local macro_rules|`(term|$a|||$b)=>`(List.getD $a $b [])
local macro_rules|`(term|∅)=>`(by decide)
local macro_rules|`(term|⋯)=>`(by decide +kernel)
local macro_rules|`(tactic|walk_at"a")=>`(tactic|intro pins s σ H x y v u Q I rx ry h)
local macro_rules|`(tactic|walk_at"b")=>`(tactic|intro X hP hw hK hc i pins s σ H E I hf st hg)
local macro_rules|`(tactic|walk_at"c")=>`(tactic|have s0:∀(w:c5) (i:Int),sq w i 0=rd w i:=λw i=>by unfold sq;rw[show i+0=i by lia])
local macro_rules|`(tactic|walk_at"d")=>`(tactic|obtain ⟨f0,f1,f2,f3,f4,f5⟩:=hf it (by simp))
local macro_rules|`(tactic|walk_at"e")=>`(tactic|intro pins s σ H Q I h)
local macro_rules|`(tactic|walk_at"f")=>`(tactic|obtain ⟨t,rfl⟩:=rx)
local macro_rules|`(tactic|walk_at"g")=>`(tactic|refine eN (λz=>?_) (λz=>?_))
local macro_rules|`(tactic|walk_at"h")=>`(tactic|intro pins s σ H xs us Q I r h)
local macro_rules|`(tactic|walk_at"i")=>`(tactic|have hs:(1000:Nat)<sizeLine:=by decide)
local macro_rules|`(tactic|walk_at"j")=>`(tactic|refine ⟨λi m σ H=>m=(xs:) - i/\i<=(xs:)/\Pv i σ H,⟨(xs:),by simp,Qat _,h0⟩,?_⟩)
local macro_rules|`(tactic|walk_at"k")=>`(tactic|have b0:∀(w:c5) (i:Int),bq w i 0=aC (rd w i):=λw i=>by unfold bq;rw[show i - 0=i by lia])
local macro_rules|`(tactic|walk_at"l")=>`(tactic|refine wpAny_bind (wpAny_callSpecial?_slot (name:=Str.ofString "__next__") hi.typeIs F.slot_tuple_iterator_next (wpAny_call_entry F.slot_tuple_iterator_next hi.typeIs F.entry_tuple_iterator_next ?_ (F.args_tuple_iterator_next_1 _))))
local macro_rules|`(tactic|walk_at"m")=>`(tactic|refine Call_ (il I hg hm boot_enumerate (Qck (cE (ha pos pins s σ H _ I h) λus s1 ⟨vs,H1,I1,r1,q1⟩=>?_) hs rfl)))
local macro_rules|`(tactic|walk_at"n")=>`(tactic|have Se:∀y∈scope.names,y.2= .free->∃c,X.env.cells.lookup y.1=some c:=λy hy e=>I.ok.has y.1 (Hm y hy e))
local macro_rules|`(tactic|walk_at"o")=>`(tactic|have W:=WalksT.enumerateD D e Dw (by simp;exact ⟨Dw,Ne.symm Vm⟩) (by simp))
local macro_rules|`(tactic|walk_at"p")=>`(tactic|have bU:=dX (P:=P) (w:=w) (base:=base) T)
local macro_rules|`(tactic|walk_at"q")=>`(tactic|intro pins s σ H x xs v us Q I rx rv h)
local macro_rules|`(tactic|walk_at"r")=>`(tactic|exact λp2 n2=>q p2 _ (ay.free (ay.upd n1) n2) ⟨_,_,aa⟩ ((ay.upd n1).trans (ay.upd n2)))
local macro_rules|`(tactic|walk_at"s")=>`(tactic|intro pins s σ H D I h)
local macro_rules|`(tactic|walk_at"t")=>`(tactic|have fI:=jc (P:=P) (w:=w) (base:=base) T)
local macro_rules|`(tactic|walk_at"u")=>`(tactic|have nH:∀{x:Str} {c:Addr},(jQ X.env scope.names []).lookup x=some c->X.env.cells.lookup x=some c:=λ{x c} e=>pQ scope.names [] (λy d q=>by simp at q) e)
local macro_rules|`(tactic|walk_at"v")=>`(tactic|have e1:=h.OM (a:=(aC (f (-1)),a)) (b:=(aC (g (-1)),a')) (c:=(f 0,b)) (by simp) (by simp) (by simp) (by show aC _=aC _;rw[z1]) (cG ya (hf.aY 0) (Ne.symm r1)))
local macro_rules|`(tactic|walk_at"x")=>`(tactic|obtain ⟨t',rfl⟩:=ry)
local macro_rules|`(tactic|walk_at"y")=>`(tactic|rw[show fj f v ((k,x)::r)=(if k=f then (k,v)::r else (k,x)::fj f v r) from rfl])
local macro_rules|`(tactic|walk_at"z")=>`(tactic|refine W.go elts k pos i T { s with heap:=h',toks:=tk } _ _ zQ λh2 zR Dy=>?_)
local macro_rules|`(tactic|walk_at"A")=>`(tactic|have zl:∀c∈y,c<128:=mq hy.lt)
local macro_rules|`(tactic|walk_at"B")=>`(tactic|rw[show (0:Int)=b_ (w:) (v:) (λ_ _=>0) by unfold b_;rw[show (λ_:Int=>sm (v:) λ_=>0)=λ_=>0 from funext λ_=>eB _,eB]])
local macro_rules|`(tactic|walk_at"C")=>`(tactic|intro value slice pins s σ H x y v u Q I rx ry h hs)
local macro_rules|`(tactic|walk_at"D")=>`(tactic|have hz:=hy.within st.eE)
local macro_rules|`(tactic|walk_at"E")=>`(tactic|obtain ⟨z,aN,n,r,hl,e⟩:=I.By hH)
local macro_rules|`(tactic|walk_at"F")=>`(tactic|exact I1.sM (Qaa _) (I1.bX.fresh (Qaa _)))
local macro_rules|`(tactic|walk_at"G")=>`(tactic|have e2:=h.same (a:=(aC (f (-1)),a)) (b:=(g 0,b')) (c:=(f 0,b)) (by simp) (by simp) (by simp) z0.symm (cG ya (hf.aY 0) (Ne.symm r1)))
local macro_rules|`(tactic|walk_at"H")=>`(tactic|intro pins s σ H x vs v us Q I rx rv h)
local macro_rules|`(tactic|walk_at"I")=>`(tactic|have jA:(10000:Nat)<sizeLine:=by decide)
local macro_rules|`(tactic|walk_at"J")=>`(tactic|refine wpAny_bind (wpAny_rule ?_))
local macro_rules|`(tactic|walk_at"K")=>`(tactic|show jQ env r (if (k==NameKind.free)=true then (match env.cells.lookup n with | some a=>(n,a)::acc | none=>acc) else acc)=_)
local macro_rules|`(tactic|walk_at"L")=>`(tactic|refine W.done s _ _ ?_ λh' tk hk=>⟨rfl,I.xS (t':=tk) hk hf⟩)
local macro_rules|`(tactic|walk_at"M")=>`(tactic|have e1:nm.take 1=[a]:=by have:=take_snoc ha;simpa using this.symm)
local macro_rules|`(tactic|walk_at"N")=>`(tactic|have I1:Inv X pins σ H { s with heap:=h',toks:=tk }:=I.turned (λb o hb e=>kk b o (by simpa using hb) e) f0 f1 f3 f4 f5)
local macro_rules|`(tactic|walk_at"O")=>`(tactic|have e1:(1:Int)+(i:Int)=((i+1:Nat):Int):=by lia)
local macro_rules|`(tactic|walk_at"P")=>`(tactic|refine cE (hl pins s σ H _ I h) λv s1 ⟨x,H1,I1,r1,q1⟩=>?_)
local macro_rules|`(tactic|walk_at"Q")=>`(tactic|obtain ⟨t,rfl⟩:=r1)
local macro_rules|`(tactic|walk_at"R")=>`(tactic|have I1:Inv X pins σ H { s with heap:=h' }:=I.turned (t':=s.toks) (λb o hb e=>(sb.2 b hb).trans e) f0 f1 f3 f4 f5)
local macro_rules|`(tactic|walk_at"S")=>`(tactic|exact ⟨o,e,λv z=>by rw[d]at z;cases z⟩)
local macro_rules|`(tactic|walk_at"T")=>`(tactic|intro pins s σ H R I h)
open List renaming getElem?_eq_getElem→P4,getElem?_eq_some_iff→P5,mem_cons_of_mem→Sd,mem_singleton→U0,mem_cons_self→Xh,length_map→Xi,length_append→kb,mem_cons→Qab,length_take→Qad,idxOf_lt_length_of_mem→Qae,mem_of_getElem?→Qaf,mem_filter→Qag,length_pos_iff→Qah,mem_append→Qai,size_toArray→Qaj,getD_eq_getElem?_getD→Qak,mem_append_right→Qal,append_assoc→Qam,not_mem_nil→Qan,map_append→Qao,mem_map→Qar,length_reverse→Qas,getElem?_map→Qau,length_drop→Qav,take_append_drop→Qaw,getElem?_append_right→Qa1,map_cons→Qa2,length_cons→Qa4,nodup_cons→Qa5,take_of_length_le→Qa7,append_nil→Qa9,filter_cons_of_neg→Qba,pairwise_append→Qbd,nodup_append→Qbe,getElem_idxOf→Qbf,getElem?_append_left→Qbg,mem_of_mem_take→Qbi,mem_append_left→Qbj,getElem_mem→Qbk,mem_reverse→Qbn,filter_cons_of_pos→Qbo,getElem?_take_of_lt→Qbq,take_length→Qbs,pairwise_singleton→Qbt,flatMap_cons→Qbu,pairwise_cons→Qbw,mem_flatMap→Qby,lookup_cons→Qbz,drop_eq_getElem_cons→Qb0,pairwise_map→Qb1,filter_append→Qb3,flatMap_append→Qb4,perm_ext_iff_of_nodup→Qb6,mem_range→Qb7,all_eq_true→Qb8,eq_nil_of_length_eq_zero→Qcb,pairwise_iff_getElem→Qcc,map_map→Qcd,getElem?_drop→Qce,drop_of_length_le→Qcf,perm_append_comm→Qcj,length_eq_zero_iff→Qcl,nodup_nil→Qcm,append_of_mem→Qcq,dropLast_concat→Qcv,range_succ→Qcy,length_filter_le→Qcz,getElem?_eq_none→Qc0,mem_of_mem_drop→Qc2,flatten_cons→Qc3,foldl_cons→Qc4,filter_eq_self→Qc5,lt_irrefl→Qc6,find?_cons→Qc7,sum_cons→Qda,take_append_of_le_length→Qdb,any_cons→Qdh,getElem?_reverse→Qdk,filter_congr→Qdl,cons_append→Qdo,map_congr_left→Qdt,getElem_of_mem→Qdu,eraseIdx_cons_succ→Qdw,length_pos_of_mem→Qd5,flatMap_singleton→Qd6,ext_getElem?→Qd7,drop_eq_nil_of_le→Qd8,cons_lt_cons_iff→Qed,map_reverse→Qef,not_lt→Qeg,getElem?_of_mem→Qeh,nil_append→Qel,length_nil→Qem,forIn_cons→Qen,ne_nil_of_mem→Qer,getElem?_take→Qes,rel_of_pairwise_cons→Qeu,take_add_one→Qew,reverse_perm→Qex,reverse_cons→Qey,map_id→Qez,length_range→Qe0,foldl_append→Qe1,getElem_map→Qfa,filter_cons→Qfb,any_eq_true→Qfc,of_mem_zip→Qfm,take_take→Qfp,filterMap_cons→Qfq,map_take→Qft,lt_trans→Qfu,filter_filter→Qfz,take_sublist→Qf4,any_eq_false→Qf5,perm_middle→Qgb,le_antisymm→Qgc,flatMap_nil→Qgd
open Nat renaming le_refl→Qaa,zero_le→Qat,ne_of_lt→Qa0,lt_of_lt_of_le→Qa3,min_eq_left→Qa8,le_trans→Qbb,lt_of_le_of_lt→Qbl,le_of_lt→Qbp,lt_irrefl→Qbx,min_eq_right→Qco,mod_eq_of_lt→Qct,lt_succ_self→Qcu,le_succ→Qcx,succ_le_succ→Qc1,mul_comm→Qc8,lt_succ_of_lt→Qc9,mod_lt→Qdc,lt_or_gt_of_ne→Qdd,max_eq_left→Qdf,max_eq_right→Qdm,lt_trans→Qdn,zero_add→Qd2,ne_of_gt→Qd3,dvd_of_mod_eq_zero→Qd4,succ_ne_zero→Qee,le_antisymm→Qej,div_add_mod→Qek,sub_self→Qeo,lt_asymm→Qep,le_succ_of_le→Qev,succ_ne_self→Qe9,mod_self→Qfi,not_lt_zero→Qfk,mod_add_div→Qfl,div_lt_iff_lt_mul→Qfn,le_of_dvd→Qfs,succ_mul→Qf1,le_of_eq→Qf2,add_zero→Qf3
open PySem.Heap renaming get?_push_of_some→Qac,get?_push_size→Qaq,lt_size→Qay,get?_update_other→Qbc,get?_update_self→Qcs,size_push→Qdg
open Int renaming toNat_natCast→Qap,emod_eq_of_lt→Qbm,natCast_add→Qb5,emod_lt_of_pos→Qcn,emod_nonneg→Qcp,add_emod_right→Qde,zero_add→Qdp,emod_eq_emod_iff_emod_sub_eq_zero→Qdq,dvd_of_emod_eq_zero→Qdx,sub_zero→Qd9,add_zero→Qea,emod_emod_of_dvd→Qei,emod_add_emod→Qe2,add_assoc→Qe7,natCast_emod→Qfd,natCast_ediv→Qfe,emod_eq_zero_of_dvd→Qff,emod_add_mul_ediv→Qfo,emod_self→Qfw,natCast_nonneg→Qf0,zero_sub→Qf7,sub_emod→Qf8,dvd_refl→Qf9
open Bool renaming false_ne_true→Qax,and_eq_true→Qb9,false_eq_true→Qcr,eq_iff_iff→Qdv,false_or→Qe8,or_false→Qfx,not_true→Qfy,or_true→Qga,decide_and→Qgf
open Option.some renaming inj→Qaz
open PySem.F renaming plainAttrs_str→Qa6,plainAttrs_list→Qbh,type_list_append→Qcg,slot_list_append→Qch,plain_max_loop→Qcw,type_str_join→Qdi,slot_str_join→Qdj,type_str_lower→Qdy,type_str_index→Qdz,slot_str_lower→Qd0,slot_str_index→Qd1,type_list_pop→Qeb,slot_list_pop→Qec,type_str_islower→Qe3,slot_str_islower→Qe4,entry_max_loop→Qfh
open PySem renaming boot_len→Qbr,mem_of_lookup→Qds
open Array renaming getElem?_toList→Qbv,perm_iff_toList_perm→Qca,length_toList→Qci,toList_inj→Qdr
open PySem.W renaming mg_none_of→Qb2,callWith_K→Qeq,cellsFrom_some→Qfg,mg_of→Qfr
open PyProof.Rows renaming callWith_type1→Qck
open List.Perm renaming refl→Qet,eq_of_pairwise→Qe5
open List.Pairwise renaming imp_of_mem→Qe6,imp→Qf6
open Option renaming map_some→Qfj
open Int.ofNat renaming inj→Qfv
open PySem.Heap.SameBut renaming update→Qge
namespace L2
open PySem PySem.Spec PyProof.Rows
abbrev Key:=Sum Int Str
noncomputable def vW:Key->Value->Bool
 | .inl k,v=>Value.isInt k v
 | .inr x,v=>Value.isStrOf x v
noncomputable def XZ(w:World):Key->Int
 | .inl k=>hashInt k
 | .inr x=>hashStr w x
theorem cI:∀{k:Key} {v:Value},vW k v=true->(∃i t,k=Sum.inl i/\v=Value.int i t)\/(∃x t,k=Sum.inr x/\v=Value.str x t)
 | .inl i,v,h=>by
  obtain ⟨t,e⟩:=Value.isInt_shape (k:=i) (v:=v) h
  exact .inl ⟨i,t,rfl,e⟩
 | .inr x,v,h=>by
  obtain ⟨t,e⟩:=Value.isStrOf_shape (x:=x) (v:=v) h
  exact .inr ⟨x,t,rfl,e⟩
theorem EJ(i:Int)(t:Tok):vW (.inl i) (.int i t)=true:=by simp[vW,Value.isInt]
theorem EK(x:Str)(t:Tok):vW (.inr x) (.str x t)=true:=by simp[vW,Value.isStrOf]
theorem O_(a b:Int):decide ((Sum.inl a:Key)=Sum.inl b)=(a==b):=by
 by_cases e:a=b
 ·subst e;simp
 ·have h: ¬(Sum.inl a:Key)=Sum.inl b:=λq=>e (Sum.inl.inj q)
  rw[decide_eq_false h]
  exact (beq_eq_false_iff_ne.mpr e).symm
theorem Pa(a b:Str):decide ((Sum.inr a:Key)=Sum.inr b)=decide (a=b):=by
 by_cases e:a=b
 ·subst e;simp
 ·have h: ¬(Sum.inr a:Key)=Sum.inr b:=λq=>e (Sum.inr.inj q)
  rw[decide_eq_false h,decide_eq_false e]
theorem Pb(a:Int)(b:Str):decide ((Sum.inl a:Key)=Sum.inr b)=false:=decide_eq_false (λq=>nomatch q)
theorem Pc(a:Str)(b:Int):decide ((Sum.inr a:Key)=Sum.inl b)=false:=decide_eq_false (λq=>nomatch q)
noncomputable def dc(prog:Program)(w:World):PySem.KeyKind prog w Key where
 is:=vW
 hash:=XZ w
 inj:=λv a b ha hb=>by
  rcases cI ha with ⟨i,t,rfl,rfl⟩ | ⟨x,t,rfl,rfl⟩
  ·rcases cI hb with ⟨j,u,rfl,e⟩ | ⟨y,u,rfl,e⟩
   ·injection e with e1 _;rw[e1]
   ·exact nomatch e
  ·rcases cI hb with ⟨j,u,rfl,e⟩ | ⟨y,u,rfl,e⟩
   ·exact nomatch e
   ·injection e with e1 _;rw[e1]
 byValue:=λk v h=>by
  rcases cI h with ⟨i,t,rfl,rfl⟩ | ⟨x,t,rfl,rfl⟩<;>rfl
 pyHash:=λhv h=>by
  rcases cI hv with ⟨i,t,rfl,rfl⟩ | ⟨x,t,rfl,rfl⟩
  ·exact wpAny_pyHash_int h
  ·exact wpAny_pyHash_str h
 eqBool:=λhu hv h=>by
  rcases cI hu with ⟨i,t,rfl,rfl⟩ | ⟨x,t,rfl,rfl⟩
  ·rcases cI hv with ⟨j,u,rfl,rfl⟩ | ⟨y,u,rfl,rfl⟩
   ·rw[O_]at h;exact wpAny_eqBool_int h
   ·rw[Pb]at h;exact SeqAt.EqAt.int_str i t y u _ _ _ _ h
  ·rcases cI hv with ⟨j,u,rfl,rfl⟩ | ⟨y,u,rfl,rfl⟩
   ·rw[Pc]at h;exact SeqAt.EqAt.str_int x t j u _ _ _ _ h
   ·rw[Pa]at h;exact wpAny_eqBool_str h
 «strs» :=λk x t v h=>by
  rcases cI h with ⟨i,u,rfl,e⟩ | ⟨y,u,rfl,e⟩
  ·exact nomatch e
  ·injection e with e1 _
   subst e1
   cases v<;>rfl
theorem zm(prog:Program)(w:World)(i:Int)(t:Tok):(dc prog w).is (.inl i) (.int i t)=true:=EJ i t
theorem zo(prog:Program)(w:World)(x:Str)(t:Tok):(dc prog w).is (.inr x) (.str x t)=true:=EK x t
inductive V where
 | gk | bl (b:Bool) | int (i:Int) | str (x:Str) | Dd (b:Array UInt8) | W7 (b:UInt64) | ref (a:Addr) | ty (n:String)
 deriving DecidableEq
def RelV:V->Value->Prop
 | .gk,u=>u=Value.none
 | .bl b,u=>u=Value.bool b
 | .int i,u=>∃t,u=Value.int i t
 | .str x,u=>∃t,u=Value.str x t
 | .Dd b,u=>∃t,u=Value.bytes b t
 | .W7 b,u=>∃t,u=Value.float b t
 | .ref a,u=>u=Value.ref a
 | .ty n,u=>u=Value.type n
abbrev Vals:List V->List Value->Prop:=Paired RelV
variable{xs:List V}{us:List Value}
theorem Vals.length(r:Vals xs us):(xs:)=(us:):=Paired.length r
theorem Vals.get:∀{xs:List V} {us:List Value} {i:Nat} {x:V},Vals xs us->xs[i]? =some x->∃u,us[i]? =some u/\RelV x u
 | _,_,_,_,.nil,e=>by simp at e
 | _,_,0,_,.cons r _,e=>by simp at e;subst e;exact ⟨_,rfl,r⟩
 | _,_,i+1,x,.cons _ t,e=>by
  obtain ⟨u,h1,h2⟩:=Vals.get (i:=i) (x:=x) t (by simpa using e)
  exact ⟨u,by simpa using h1,h2⟩
variable{u:Value}
theorem Vals.set{x:V}(r:RelV x u):∀{xs:List V} {us:List Value} (i:Nat),Vals xs us->Vals (xs.set i x) (us.set i u)
 | _,_,_,.nil=> .nil
 | _,_,0,.cons _ t=> .cons r t
 | _,_,i+1,.cons q t=> .cons q (Vals.set r i t)
theorem Vals.append:∀{xs ys:List V} {us ws:List Value},Vals xs us->Vals ys ws->Vals (xs++ys) (us++ws)
 | _,_,_,_,.nil,s=>s
 | _,_,_,_,.cons r t,s=> .cons r (Vals.append t s)
theorem Vals.take:∀{xs:List V} {us:List Value} (n:Nat),Vals xs us->Vals (xs.take n) (us.take n)
 | _,_,0,_=> .nil
 | _,_,_+1,.nil=> .nil
 | _,_,n+1,.cons r t=> .cons r (Vals.take n t)
theorem Vals.drop:∀{xs:List V} {us:List Value} (n:Nat),Vals xs us->Vals (xs.drop n) (us.drop n)
 | _,_,0,r=>r
 | _,_,_+1,.nil=> .nil
 | _,_,n+1,.cons _ t=>Vals.drop n t
def pj:Option V->Option Value->Prop
 | some v,some u=>RelV v u
 | none,none=>True
 | _,_=>False
def KV{κ:Type}:List (κ×V)->List (κ×Value)->Prop:=Paired λ(p:κ×V) (q:κ×Value)=>p.1=q.1/\RelV p.2 q.2
noncomputable def kV:Key->V
 | .inl i=> .int i
 | .inr x=> .str x
inductive HO where
  | lst (xs:List V)
  | tup (xs:List V)
  | dK (aJ:List (Key×V)) | dT (aJ:List (List Key×V))
  | set (S:Int->Bool) (n:Nat)
  | ins (C dx:Addr) (fs:List (Str×V))
  | own (x:Addr)
  | xd (fs:List (Str×V))
  | met (f x:Addr)
  | X0 (lo hi:Int)
  | EL (o:Obj) (u:HO)
  | o7 (ps:Array Value)
  | ext (φ:Heap->Prop)
abbrev Hp:=Addr->Option HO
noncomputable def upd(H:Hp)(a:Addr)(o:HO):Hp:=λb=>if b=a then some o else H b
variable{H:Hp}{a:Addr}{o:HO}
theorem aa:upd H a o a=some o:=by unfold upd;rw[if_pos rfl]
variable{b:Addr}
theorem aq(h:b≠a):upd H a o b=H b:=by unfold upd;rw[if_neg h]
theorem Ul{u:HO}(h:H a=some o)(h':H b=some u)(d:o≠u):a≠b:=by
 intro e;subst e;rw[h]at h';exact d (Qaz h')
theorem az(h:H a=some o)(h':H b=none):a≠b:=by
 intro e;subst e;rw[h]at h';cases h'
section
variable(P:Program)(w:World)
def cP(H:Hp)(h:Heap)(a:Addr):HO->Prop
 | .lst xs=>(xs:)<=sizeLine/\∃(aN:List Value) (n:Nat),Vals xs aN/\h.get? a=some { cls:= .type "list",data:= .seq aN.toArray n }
 | .tup xs=>(xs:)<=sizeLine/\∃aN:List Value,Vals xs aN/\IsTup h a aN.toArray
 | .dK aJ=>(aJ:)<=sizeLine/\(a==sysModules)=false/\∃vs,KV aJ vs/\h.DictOf (dc P w) a vs
 | .dT aJ=>(aJ:)<=sizeLine/\(a==sysModules)=false/\∃xs:List (List Key×Addr×Value),
   Paired (λ(p:List Key×V) (q:List Key×Addr×Value)=>p.1=q.1/\H q.2.1=some (.tup (p.1.map kV))/\RelV p.2 q.2.2) aJ xs/\
   ∃o es ep,h.get? a=some o/\o.ExactDict/\o.data= .dict es ep/\es.toList=xs.map (entryOfKey (tupleKind (dc P w)))/\(xs.map (·.1)).Nodup
 | .set S n=>h.SetOf (intKind P w) a S n
 | .ins C dx fs=>H dx=some (.own a)/\(fs:)<=1000/\dx≠a/\h.get? a=some (PySem.W.instObj C dx)/\
   ∃mA,h.Ns1 dx mA/\(∀f,pj (fs.lookup f) (mA f))/\PySem.Within mA (fs.map (·.1))
 | .own _=>∃o,h.get? a=some o
 | .xd fs=>∃mA,h.Ns1 a mA/\∀f,pj (fs.lookup f) (mA f)
 | .X0 lo hi=>∃t u v,h.get? a=some { cls:= .type "range",data:= .fields #[.int lo t,.int hi u,.int 1 v] }
 | .EL o u=>h.get? a=some o/\cP H h a u
 | .o7 ps=>h.get? a=some { cls:= .none,data:= .fields ps }
 | .met f x=>h.get? a=some (PySem.W.methodObj (.ref f) (.ref x))
 | .ext φ=>φ h/\(∃o,h.get? a=some o)/\∀h1 h2:Heap,φ h1->(∀o,h1.get? a=some o->h2.get? a=some o)->φ h2
def mP(H:Hp)(h:Heap):Prop:=∀a o,H a=some o->cP P w H h a o
end
section
variable{P:Program}{w:World}{H H':Hp}{h h':Heap}{a:Addr}{o:HO}
theorem cP.lt(x:cP P w H h a o):a<h.objs.size:=by
 cases o with
 | lst xs=>obtain ⟨_,_,_,_,e⟩:=x;exact Qay e
 | tup xs=>obtain ⟨_,_,_,p⟩:=x;exact p.lt
 | dK aJ=>obtain ⟨_,_,_,_,o,_,_,e,_⟩:=x;exact Qay e
 | dT aJ=>obtain ⟨_,_,_,_,o,_,_,e,_⟩:=x;exact Qay e
 | set S n=>obtain ⟨o,_,_,_,e,_⟩:=x;exact Qay e
 | ins C dx fs=>obtain ⟨_,_,_,e,_⟩:=x;exact Qay e
 | own y=>obtain ⟨_,e⟩:=x;exact Qay e
 | xd fs=>obtain ⟨_,⟨_,_,_,e,_⟩,_⟩:=x;exact Qay e
 | X0 lo hi=>obtain ⟨_,_,_,e⟩:=x;exact Qay e
 | EL ob u=>obtain ⟨e,_⟩:=x;exact Qay e
 | o7 ps=>exact Qay (show h.get? a=some _ from x)
 | met f y=>exact Qay (show h.get? a=some _ from x)
 | ext φ=>obtain ⟨_,⟨_,e⟩,_⟩:=x;exact Qay e
theorem Paired.Pd{α β:Type}{F G:α->β->Prop}:∀{l₁:List α} {l₂:List β},Paired F l₁ l₂->(∀a b,F a b->G a b)->Paired G l₁ l₂
 | _,_,.nil,_=> .nil
 | _,_,.cons r t,f=> .cons (f _ _ r) (Paired.Pd t f)
theorem cP.pA(x:cP P w H h a o)(k:∀b u,(b=a\/H b=some (.own a))->h.get? b=some u->h'.get? b=some u)
  (ho:∀b,H b=some (.own a)->H' b=some (.own a)) (ht:∀b xs,H b=some (.tup xs)->H' b=some (.tup xs)):cP P w H' h' a o:=by
 induction o with
 | lst xs=>obtain ⟨z,aN,n,r,e⟩:=x;exact ⟨z,aN,n,r,k _ _ (.inl rfl) e⟩
 | tup xs=>obtain ⟨z,aN,r,ob,e,c⟩:=x;exact ⟨z,aN,r,ob,k _ _ (.inl rfl) e,c⟩
 | dK aJ=>obtain ⟨z,y,vs,r,ob,es,ep,e,c⟩:=x;exact ⟨z,y,vs,r,ob,es,ep,k _ _ (.inl rfl) e,c⟩
 | dT aJ=>
  obtain ⟨z,y,xs,r,ob,es,ep,e,c⟩:=x
  exact ⟨z,y,xs,Paired.Pd r λp q z=>⟨z.1,ht _ _ z.2.1,z.2.2⟩,ob,es,ep,k _ _ (.inl rfl) e,c⟩
 | set S n=>obtain ⟨ob,es,ep,t,e,c⟩:=x;exact ⟨ob,es,ep,t,k _ _ (.inl rfl) e,c⟩
 | ins C dx fs=>
  obtain ⟨d,z,ne,e,mA,⟨od,es,ep,e2,c⟩,r⟩:=x
  exact ⟨ho _ d,z,ne,k _ _ (.inl rfl) e,mA,⟨od,es,ep,k _ _ (.inr d) e2,c⟩,r⟩
 | own y=>obtain ⟨ob,e⟩:=x;exact ⟨ob,k _ _ (.inl rfl) e⟩
 | xd fs=>obtain ⟨mA,⟨od,es,ep,e,c⟩,r⟩:=x;exact ⟨mA,⟨od,es,ep,k _ _ (.inl rfl) e,c⟩,r⟩
 | X0 lo hi=>obtain ⟨t,u,v,e⟩:=x;exact ⟨t,u,v,k _ _ (.inl rfl) e⟩
 | EL ob u ih=>obtain ⟨e,q⟩:=x;exact ⟨k _ _ (.inl rfl) e,ih q⟩
 | o7 ps=>
  have e:h.get? a=some { cls:= .none,data:= .fields ps }:=x
  show h'.get? a=some { cls:= .none,data:= .fields ps }
  exact k a _ (.inl rfl) e
 | met f y=>
  have e:h.get? a=some (PySem.W.methodObj (.ref f) (.ref y)):=x
  show h'.get? a=some (PySem.W.methodObj (.ref f) (.ref y))
  exact k a _ (.inl rfl) e
 | ext φ=>obtain ⟨p,⟨o,e⟩,st⟩:=x;exact ⟨st _ _ p λo q=>k _ _ (.inl rfl) q,⟨o,k _ _ (.inl rfl) e⟩,st⟩
theorem mP.lt(x:mP P w H h)(e:H a=some o):a<h.objs.size:=(x a o e).lt
theorem mP.fresh(x:mP P w H h)(e:h.objs.size<=a):H a=none:=by
 cases q:H a with
 | none=>rfl
 | some u=>exact absurd (Qa3 (x.lt q) e) (Qbx _)
theorem mP.kept(x:mP P w H h)(k:∀b u,h.get? b=some u->h'.get? b=some u):mP P w H h':=λa o e=>
 (x a o e).pA (λb u _ q=>k b u q) (λ_ q=>q) λ_ _ q=>q
theorem mP.laid(x:mP P w H h)(k:∀b u,h.get? b=some u->h'.get? b=some u)(hp:h.objs.size<=a)(new:cP P w (upd H a o) h' a o):mP P w (upd H a o) h':=λb u e=>by
 have hn:=x.fresh hp
 by_cases hb:b=a
 ·subst hb;rw[aa]at e;cases e;exact new
 ·rw[aq hb]at e
  exact (x b u e).pA (λc v _ q=>k c v q) (λc q=>by rw[aq (az q hn)];exact q) λc xs q=>by rw[aq (az q hn)];exact q
end
def Rd(H:Hp)(a:Addr)(u:HO):Prop:=H a=some u\/∃o,H a=some (.EL o u)
variable{h:Heap}
theorem Rd.ok{P:Program}{w:World}{u:HO}(r:Rd H a u)(x:mP P w H h):cP P w H h a u:=by
 rcases r with r | ⟨o,r⟩
 ·exact x a u r
 ·obtain ⟨_,q⟩:=x a _ r
  exact q
def Um:Option HO->Prop
 | some (.lst _)=>True
 | some (.dK _)=>True
 | some (.dT _)=>True
 | some (.set _ _)=>True
 | some (.ins _ _ _)=>True
 | some (.ext _)=>True
 | _=>False
section
variable{P:Program}{w:World}{H:Hp}{h h':Heap}{x e:Addr}{o':HO}
theorem mP.write(ok:mP P w H h)(mu:Um (H x))(he:e=x\/H e=some (.own x))(k:∀b u,b≠e->h.get? b=some u->h'.get? b=some u)(R9:∃u,h'.get? e=some u)
  (new:cP P w (upd H x o') h' x o'):mP P w (upd H x o') h':=λb u q=>by
 have Uo:∀c y,H c=some (.own y)->c≠x:=λc y r z=>by subst z;rw[r]at mu;exact mu
 have X1:∀c xs,H c=some (.tup xs)->c≠x:=λc xs r z=>by subst z;rw[r]at mu;exact mu
 by_cases hb:b=x
 ·subst hb;rw[aa]at q;cases q;exact new
 ·rw[aq hb]at q
  by_cases Lc:b=e
  ·have q':H b=some (.own x):=by
    rcases he with z | z
    ·exact absurd (Lc.trans z) hb
    ·rw[Lc];exact z
   rw[q]at q';cases q'
   obtain ⟨v,hv⟩:=R9
   exact ⟨v,by rw[Lc];exact hv⟩
  ·refine (ok b u q).pA (λc v hc r=>k c v ?_ r) (λc r=>by rw[aq (Uo c b r)];exact r) λc xs r=>by rw[aq (X1 c xs r)];exact r
   rcases hc with rfl | hc
   ·exact Lc
   ·rintro rfl
    rcases he with z | z
    ·exact Uo c b hc z
    ·rw[hc]at z;cases z;exact hb rfl
end
structure Un(fs ex:List Addr)(H H':Hp)(h h':Heap):Prop where
 keep:∀b o,h.get? b=some o->H b=none->b∉fs->b∉ex->h'.get? b=some o
 slot:∀b o,h.get? b=some o->H b=none->b∈fs->b∉ex->∃sl,h'.get? b=some { o with slots:=sl }
 free:∀b o,h.get? b=some o->H b=none->b∉ex->H' b=none
 there:∀b o,h.get? b=some o->b∉ex->∃o',h'.get? b=some o'
 pB:∀b xs,H b=some (.tup xs)->H' b=some (.tup xs)
 sG:∀b o u,H b=some (.EL o u)->H' b=some (.EL o u)
 vh:∀b ps,H b=some (.o7 ps)->∃more,H' b=some (.o7 (ps++more))
section
variable{fs fs' ex ex':List Addr}{H H1 H2:Hp}{h h1 h2 h':Heap}{a x e:Addr}{o:HO}
theorem Un.any(u:Un fs ex H H1 h h1){ob:Obj}(q:h.get? b=some ob)(n:H b=none)(hx:b∉ex):∃sl,h1.get? b=some { ob with slots:=sl }:=by
 by_cases hb:b∈fs
 ·exact u.slot b ob q n hb hx
 ·exact ⟨ob.slots,u.keep b ob q n hb hx⟩
theorem Un.kept(k:∀b u,h.get? b=some u->h'.get? b=some u):Un fs ex H H h h':=
 ⟨λb ob q _ _ _=>k b ob q,λb ob q _ _ _=>⟨ob.slots,k b ob q⟩,λ_ _ _ n _=>n,λb ob q _=>⟨ob,k b ob q⟩,λ_ _ q=>q,λ_ _ _ q=>q,λ_ ps q=>⟨#[],by rw[q];simp⟩⟩
theorem Un.refl:Un fs ex H H h h:=Un.kept λ_ _ q=>q
theorem Un.laid(k:∀b u,h.get? b=some u->h'.get? b=some u)(hp:h.objs.size<=a)(hn:H a=none):Un fs ex H (upd H a o) h h' where
 keep:=λb u q _ _ _=>k b u q
 slot:=λb u q _ _ _=>⟨u.slots,k b u q⟩
 free:=λb u q n _=>by rw[aq (Qa0 (Qa3 (Qay q) hp))];exact n
 there:=λb u q _=>⟨u,k b u q⟩
 pB:=λb xs q=>by rw[aq (az q hn)];exact q
 sG:=λb u xs q=>by rw[aq (az q hn)];exact q
 vh:=λb ps q=>⟨#[],by rw[aq (az q hn),q];simp⟩
theorem Un.write(mu:Um (H x))(he:e=x\/H e=some (.own x))(k:∀b u,b≠e->h.get? b=some u->h'.get? b=some u)(R9:∃u,h'.get? e=some u):Un fs ex H (upd H x o) h h':=by
 have hx:∀b,H b=none->b≠x:=λb n z=>by subst z;rw[n]at mu;exact mu
 have hb:∀b,H b=none->b≠e:=λb n z=>by
  subst z
  rcases he with r | r
  ·exact hx b n r
  ·rw[n]at r;cases r
 have hm:∀b u,H b=some u-> ¬Um (some u)->b≠x:=λb u q nm z=>by subst z;rw[q]at mu;exact nm mu
 refine ⟨λb u q n _ _=>k b u (hb b n) q,λb u q n _ _=>⟨u.slots,k b u (hb b n) q⟩,λb u q n _=>by rw[aq (hx b n)];exact n,λb u q _=>?_,
  λb xs q=>by rw[aq (hm b _ q λz=>z)];exact q,λb u xs q=>by rw[aq (hm b _ q λz=>z)];exact q,λb ps q=>⟨#[],by rw[aq (hm b _ q λz=>z),q];simp⟩⟩
 by_cases Lc:b=e
 ·subst Lc;exact R9
 ·exact ⟨u,k b u Lc q⟩
end
noncomputable def W8(h:Heap)(H:Hp):List Addr:=(List.range h.objs.size).filter λa=>(H a).isSome
noncomputable def vm(h:Heap)(H:Hp):Heap:=PySem.W.hideAll h (W8 h H)
theorem EM(h:Heap)(H:Hp):(vm h H).objs.size=h.objs.size:=PySem.W.hideAll_size _ _
theorem GX{o:Obj}(e:h.get? b=some o)(n:H b=none):(vm h H).get? b=some o:=
 PySem.W.hideAll_get _ e λhm=>by
  have q:(H b).isSome=true:=(Qag.mp hm).2
  rw[n]at q;simp at q
theorem LD{o:Obj}(e:(vm h H).get? b=some o):h.get? b=some o/\H b=none:=by
 have e':h.get? b=some o:=PySem.W.of_hideAll (W8 h H) e
 refine ⟨e',?_⟩
 cases q:H b with
 | none=>rfl
 | some x=>
  have hm:b∈W8 h H:=Qag.mpr ⟨Qb7.mpr (Qay e'),by simp[q]⟩
  have z:(vm h H).get? b=none:=PySem.W.hideAll_none (W8 h H) hm
  rw[z]at e;cases e
structure Mod(K:c6)(mg:Str->Option Value)(base:Heap):Prop where
 R_:K.In base
 glob:base.Ns mainGlobals mg
 blt:∃mb,base.Ns builtinsNs mb/\∀x:Str,x≠"__name__"->mb x=bootBuiltins x
 nolimit:base.NoLimit
structure Cx where
 prog:Program
 w:World
 K:c6
 mg:Str->Option Value
 base:Heap
 A:Around
 N:List Str
 s₀:Shared
 H₀:Hp
 env:Env
 outer:List Env
 stack:List Env
 ex:List Addr
 fn:Str->Bool
 calm:Bool
 pn:List (Addr×Obj)
 xe:Value->Shared->Prop
noncomputable def De(l:List Env):List Addr:=l.filterMap (·.frame)
noncomputable abbrev Cx.fs(X:Cx):List Addr:=De X.outer
def Up(sc:Scope)(x:Str):Prop:=sc.names.lookup x=some .local\/sc.names.lookup x=some .cell\/sc.names.lookup x=some .free
def Loc(sc:Scope)(x:Str):Prop:=sc.names.lookup x=some .local\/sc.names.lookup x=some .cell
def Look(env:Env)(h:Heap)(m:Str->Option Value)(x:Str)(u:Value):Prop:=
 (env.kindOf x=some .local/\m x=some u)\/((env.kindOf x=some .cell\/env.kindOf x=some .free)/\∃c,env.cells.lookup x=some c/\h.IsCell c (some u))
structure Cx.Ok(X:Cx):Prop where
 mod:Mod X.K X.mg X.base
 kind:X.env.scope.kind= .function
 glob:X.env.globals=mainGlobals
 blt:X.env.builtins=builtinsNs
 above:X.s₀.heap.objs.size<=X.env.locals
 inj:∀x y c,X.env.cells.lookup x=some c->X.env.cells.lookup y=some c->x=y
 has:∀x,(X.env.kindOf x=some .cell\/X.env.kindOf x=some .free)->∃c,X.env.cells.lookup x=some c
 Uq:∀x c,X.fn x=true->X.env.cells.lookup x=some c->X.s₀.heap.objs.size<=c
 hd:X.calm=true->X.A.handled=none
 frames:X.A.frames=some X.stack
 W9:X.stack=X.outer\/(X.stack=X.env::X.outer/\X.env.frame=some X.env.locals)
 exf:∀b∈X.ex,b≠X.env.locals/\∀x c,X.env.cells.lookup x=some c->c≠b
 bs:∀b o,X.base.get? b=some o->X.s₀.heap.get? b=some o/\X.H₀ b=none
 Ld:X.base.objs.size<=X.s₀.heap.objs.size
 GY:∀b o,X.base.get? b=some o->b∉X.ex
 LF:∀b∈X.ex,b∉X.fs
 pE:X.s₀.heap.FunFrames X.base X.outer
 N4:∀b∈X.fs,X.H₀ b=none
structure Inv(X:Cx)(pins:List (Addr×Obj))(σ:List (Option V))(H:Hp)(s:Shared):Prop where
 ok:X.Ok
 os:s.os=X.s₀.os
 bare:AllBare s.gens
 base:Un X.fs X.ex X.H₀ H X.s₀.heap s.heap
 loc:∃m,s.heap.Ns X.env.locals m/\∀(i:Nat) (x:Str) (v:V),X.N[i]? =some x->σ[i]? =some (some v)->Up X.env.scope x->∃u,RelV v u/\Look X.env s.heap m x u
 cell:∀x c,X.env.cells.lookup x=some c->∃v,s.heap.IsCell c v
 free:H X.env.locals=none
 jU:∀x c,X.env.cells.lookup x=some c->H c=none
 pin:∀p∈X.pn++pins,s.heap.get? p.1=some p.2/\H p.1=none/\p.1≠X.env.locals/\p.1∉X.fs/\∀v,p.2.data≠ .cell v
 bX:mP X.prog X.w H s.heap
 len:σ.length=X.N.length
variable{x:Str}{g':Array GenState}{t' i j:Nat}{d':Drawn}{ch:List Addr}{it:Addr}{N:List Str}{M:Model}{A:Around}{E:Value->Shared->Prop}{v:V}{s':Shared}
section
variable{X:Cx}{pins:List (Addr×Obj)}{σ:List (Option V)}{H H':Hp}{s:Shared}{h':Heap}
theorem Cx.Ok.X2(ok:X.Ok){o:Obj}(e:X.base.get? b=some o):b∉X.fs:=λhb=>by
 have:=(ok.pE.mem hb).1
 rw[e]at this;cases this
theorem Inv.bs(I:Inv X pins σ H s):∀b o,X.base.get? b=some o->s.heap.get? b=some o/\H b=none:=λb o e=>
 ⟨I.base.keep b o (I.ok.bs b o e).1 (I.ok.bs b o e).2 (I.ok.X2 e) (I.ok.GY b o e),I.base.free b o (I.ok.bs b o e).1 (I.ok.bs b o e).2 (I.ok.GY b o e)⟩
theorem Inv.bk(I:Inv X pins σ H s):∀b o,X.base.get? b=some o->s.heap.get? b=some o:=λb o e=>(I.bs b o e).1
theorem Inv.mod(I:Inv X pins σ H s):Mod X.K X.mg X.base:=I.ok.mod
theorem Inv.Bg(I:Inv X pins σ H s):X.K.In s.heap:=I.ok.mod.R_.keeps I.bk
theorem Inv.lt(I:Inv X pins σ H s):X.env.locals<s.heap.objs.size:=let ⟨_,hn,_⟩:=I.loc;hn.lt
theorem Inv.sz(I:Inv X pins σ H s):X.s₀.heap.objs.size<=s.heap.objs.size:=Qbb I.ok.above (Qbp I.lt)
theorem Inv.LG(I:Inv X pins σ H s)(h:s.heap.objs.size<=a):a∉X.fs:=λhb=>by
 obtain ⟨_,o,ho,_⟩:=I.ok.pE.mem hb
 exact absurd (Qa3 (Qay ho) (Qbb I.sz h)) (Qbx _)
theorem Inv.Pe(I:Inv X pins σ H s):∀x c,X.env.cells.lookup x=some c->c≠X.env.locals:=λx c e z=>by
 obtain ⟨v,o,ho,hd⟩:=I.cell x c e
 obtain ⟨m,⟨o',es,ep,GZ,X3,_⟩,_⟩:=I.loc
 rw[z,GZ]at ho;cases ho;rw[X3]at hd;cases hd
theorem Inv.pE(I:Inv X pins σ H s):s.heap.FunFrames X.base X.outer:=by
 have all:∀(l:List Env),(∀b∈De l,b∈X.fs)->X.s₀.heap.FunFrames X.base l->s.heap.FunFrames X.base l:=by
  intro l
  induction l with
  | nil=>intro _ _;trivial
  | cons env r ih=>
   intro hs hl
   obtain ⟨hk,⟨L,o,hf,hn,ho,hd⟩,hr⟩:=hl
   have hL:L∈X.fs:=hs L (by unfold De;rw[Qfq,hf];exact Xh)
   obtain ⟨sl,e⟩:=I.base.slot L o ho (I.ok.N4 L hL) hL λz=>I.ok.LF L z hL
   exact ⟨hk,⟨L,_,hf,hn,e,hd⟩,ih (λb hb=>hs b (by unfold De;rw[Qfq,hf];exact Sd _ hb)) hr⟩
 exact all X.outer (λ_ hb=>hb) I.ok.pE
theorem Inv.stack(I:Inv X pins σ H s):s.heap.FunFrames X.base X.stack:=by
 rcases I.ok.W9 with e | ⟨e,hf⟩
 ·rw[e];exact I.pE
 ·rw[e]
  obtain ⟨m,hn,_⟩:=I.loc
  refine .cons (by rw[I.ok.kind];decide) hf hn ?_ I.pE
  exact Heap.get?_none_of_le (Qbb I.ok.Ld I.ok.above)
theorem Inv.sH(I:Inv X pins σ H s):∀b∈De X.stack,b∈X.env.locals::X.fs:=λb hb=>by
 rcases I.ok.W9 with e | ⟨e,hf⟩
 ·rw[e]at hb;exact Sd _ hb
 ·rw[e]at hb
  unfold De at hb
  rw[Qfq,hf]at hb
  exact hb
theorem Inv.Df(I:Inv X pins σ H s):∀b∈De X.stack,H b=none:=λb hb=>by
 rcases Qab.mp (I.sH b hb) with e | hb
 ·rw[e];exact I.free
 ·obtain ⟨_,o,ho,_⟩:=I.ok.pE.mem hb
  exact I.base.free b o ho (I.ok.N4 b hb) λz=>I.ok.LF b z hb
theorem Inv.step(I:Inv X pins σ H s)
  (Le:∀b∈ch,(b∈X.ex\/X.s₀.heap.objs.size<=b)/\b≠X.env.locals/\(∀x c,X.env.cells.lookup x=some c->c≠b)/\∀p∈X.pn++pins,p.1≠b)
  (keep:∀b o,b≠X.env.locals->b∉X.fs->b∉ch->s.heap.get? b=some o->H b=none->h'.get? b=some o)
  (slot:∀b o,b≠X.env.locals->b∈X.fs->b∉ch->s.heap.get? b=some o->H b=none->∃sl,h'.get? b=some { o with slots:=sl }) (free:∀b o,b∉ch->s.heap.get? b=some o->H b=none->H' b=none)
  (there:∀b o,b∉ch->s.heap.get? b=some o->∃o',h'.get? b=some o')
  (pB:∀b xs,H b=some (.tup xs)->H' b=some (.tup xs)) (sG:∀b o u,H b=some (.EL o u)->H' b=some (.EL o u)) (vh:∀b ps,H b=some (.o7 ps)->∃more,H' b=some (.o7 (ps++more)))
  (ns:∀m,s.heap.Ns X.env.locals m->h'.Ns X.env.locals m) (bX:mP X.prog X.w H' h') (hg:AllBare g'):
  Inv X pins σ H' { s with heap:=h',gens:=g',drawn:=d',toks:=t' }:=by
 have neL:∀b o,X.s₀.heap.get? b=some o->b≠X.env.locals:=λb o e=>Qa0 (Qa3 (Qay e) I.ok.above)
 have Ph:∀b o,X.s₀.heap.get? b=some o->b∉X.ex->b∉ch:=λb o e hx hb=>by
  rcases (Le b hb).1 with z | z
  ·exact hx z
  ·exact absurd (Qa3 (Qay e) z) (Qbx _)
 have cellK:∀x c,X.env.cells.lookup x=some c->∀v,s.heap.IsCell c v->h'.IsCell c v:=λx c e v ⟨o,ho,hd⟩=>by
  have Ur:c∉ch:=λz=>(Le c z).2.2.1 x c e rfl
  by_cases hc:c∈X.fs
  ·obtain ⟨sl,q⟩:=slot c o (I.Pe x c e) hc Ur ho (I.jU x c e)
   exact ⟨_,q,hd⟩
  ·exact ⟨o,keep c o (I.Pe x c e) hc Ur ho (I.jU x c e),hd⟩
 refine ⟨I.ok,I.os,hg,⟨λb o e n hb hx=>?_,λb o e n hb hx=>?_,λb o e n hx=>?_,λb o e hx=>?_,λb xs e=>pB b xs (I.base.pB b xs e),λb o xs e=>sG b o xs (I.base.sG b o xs e),λb ps e=>?_⟩,?_,λx c e=>?_,?_,λx c e=>?_,λp hp=>?_,bX,I.len⟩
 ·exact keep b o (neL b o e) hb (Ph b o e hx) (I.base.keep b o e n hb hx) (I.base.free b o e n hx)
 ·obtain ⟨sl,e1⟩:=I.base.slot b o e n hb hx
  obtain ⟨sl',e2⟩:=slot b _ (neL b o e) hb (Ph b o e hx) e1 (I.base.free b o e n hx)
  exact ⟨sl',e2⟩
 ·obtain ⟨o',e1⟩:=I.base.there b o e hx
  exact free b o' (Ph b o e hx) e1 (I.base.free b o e n hx)
 ·obtain ⟨o',e1⟩:=I.base.there b o e hx
  exact there b o' (Ph b o e hx) e1
 ·obtain ⟨m1,e1⟩:=I.base.vh b ps e
  obtain ⟨m2,e2⟩:=vh b _ e1
  exact ⟨m1++m2,by rw[e2,Array.append_assoc]⟩
 ·obtain ⟨m,hn,hl⟩:=I.loc
  refine ⟨m,ns m hn,λi x v e1 e2 e3=>?_⟩
  obtain ⟨u,r,l⟩:=hl i x v e1 e2 e3
  refine ⟨u,r,?_⟩
  rcases l with l | ⟨k,c,e,z⟩
  ·exact .inl l
  ·exact .inr ⟨k,c,e,cellK x c e _ z⟩
 ·obtain ⟨v,z⟩:=I.cell x c e
  exact ⟨v,cellK x c e v z⟩
 ·obtain ⟨m,⟨o,_,_,ho,_⟩,_⟩:=I.loc
  exact free _ o (λz=>(Le _ z).2.1 rfl) ho I.free
 ·obtain ⟨v,o,ho,hd⟩:=I.cell x c e
  exact free c o (λz=>(Le c z).2.2.1 x c e rfl) ho (I.jU x c e)
 ·obtain ⟨e,n,ne,nf,d⟩:=I.pin p hp
  have Ur:p.1∉ch:=λz=>(Le p.1 z).2.2.2 p hp rfl
  exact ⟨keep p.1 p.2 ne nf Ur e n,free p.1 p.2 Ur e n,ne,nf,d⟩
theorem Inv.un(I:Inv X pins σ H s)(u:Un X.fs [] H H' s.heap h')(bX:mP X.prog X.w H' h'):Inv X pins σ H' { s with heap:=h',toks:=t' }:=by
 obtain ⟨m,⟨o,es,ep,ho,r⟩,_⟩:=id I.loc
 obtain ⟨sl,hL⟩:=u.any ho I.free (by simp)
 exact I.step (g':=s.gens) (d':=s.drawn) (ch:=[]) (λ_ z=>nomatch z) (λb o _ hb _ e n=>u.keep b o e n hb (by simp)) (λb o _ hb _ e n=>u.slot b o e n hb (by simp)) (λb o _ e n=>u.free b o e n (by simp)) (λb o _ e=>u.there b o e (by simp)) u.pB u.sG u.vh (λm' hm=>by
  obtain ⟨o',X4,Pj,GZ,r'⟩:=hm
  rw[ho]at GZ;cases GZ
  exact ⟨_,X4,Pj,hL,r'⟩) bX I.bare
theorem Inv.call(I:Inv X pins σ H s)(u:Un (De X.stack) ch H H' s.heap h')(bX:mP X.prog X.w H' h')(hg:AllBare g')
  (Le:∀b∈ch,(b∈X.ex\/X.s₀.heap.objs.size<=b)/\b≠X.env.locals/\(∀x c,X.env.cells.lookup x=some c->c≠b)/\∀p∈X.pn++pins,p.1≠b):
  Inv X pins σ H' { s with heap:=h',gens:=g',drawn:=d',toks:=t' }:=by
 obtain ⟨m,⟨o,es,ep,ho,r⟩,_⟩:=id I.loc
 obtain ⟨sl,hL⟩:=u.any ho I.free λz=>(Le _ z).2.1 rfl
 exact I.step (ch:=ch) Le (λb o hL hb hc e n=>u.keep b o e n (λz=>(Qab.mp (I.sH b z)).elim hL hb) hc) (λb o _ _ hc e n=>u.any e n hc) (λb o hc e n=>u.free b o e n hc) (λb o hc e=>u.there b o e hc) u.pB u.sG u.vh (λm' hm=>by
  obtain ⟨o',X4,Pj,GZ,r'⟩:=hm
  rw[ho]at GZ;cases GZ
  exact ⟨_,X4,Pj,hL,r'⟩) bX hg
theorem Inv.turned(I:Inv X pins σ H s)(k:∀b o,b≠it->s.heap.get? b=some o->h'.get? b=some o)(hn:H it=none)(hL:it≠X.env.locals)
  (h1:it∈X.ex\/X.s₀.heap.objs.size<=it) (h2:∀x c,X.env.cells.lookup x=some c->c≠it) (h3:∀p∈X.pn++pins,p.1≠it):Inv X pins σ H { s with heap:=h',toks:=t' }:=by
 have N5:∀b u,H b=some u->b≠it:=λb u e z=>by rw[z,hn]at e;cases e
 refine I.step (g':=s.gens) (d':=s.drawn) (ch:=[it]) (λb hb=>?_) (λb o _ _ hc e _=>k b o (λz=>hc (by simp[z])) e) (λb o _ _ hc e _=>⟨o.slots,k b o (λz=>hc (by simp[z])) e⟩) (λ_ _ _ _ n=>n)
  (λb o hc e=>⟨o,k b o (λz=>hc (by simp[z])) e⟩) (λ_ _ e=>e) (λ_ _ _ e=>e) (λb ps e=>⟨#[],by rw[e];simp⟩) (λm hm=>?_) (λb u e=>?_) I.bare
 ·have e:b=it:=by simpa using hb
  subst e
  exact ⟨h1,hL,h2,h3⟩
 ·obtain ⟨o,es,ep,ho,r⟩:=hm
  exact ⟨o,es,ep,k _ o (Ne.symm hL) ho,r⟩
 ·refine (I.bX b u e).pA (λc v hc q=>k c v ?_ q) (λ_ q=>q) λ_ _ q=>q
  rcases hc with z | z
  ·rw[z];exact N5 b u e
  ·exact N5 c _ z
theorem Inv.tok(I:Inv X pins σ H s)(t:Nat):Inv X pins σ H { s with toks:=t }:=I.un (h':=s.heap) (t':=t) Un.refl I.bX
theorem Inv.kept(I:Inv X pins σ H s)(k:∀b u,s.heap.get? b=some u->h'.get? b=some u):Inv X pins σ H { s with heap:=h',toks:=t' }:=I.un (Un.kept k) (I.bX.kept k)
theorem Inv.laid(I:Inv X pins σ H s)(k:∀b u,s.heap.get? b=some u->h'.get? b=some u)(hp:s.heap.objs.size<=a)(new:cP X.prog X.w (upd H a o) h' a o):
  Inv X pins σ (upd H a o) { s with heap:=h',toks:=t' }:=I.un (Un.laid k hp (I.bX.fresh hp)) (I.bX.laid k hp new)
theorem Inv.write{x e:Addr}(I:Inv X pins σ H s)(mu:Um (H x))(he:e=x\/H e=some (.own x))(k:∀b u,b≠e->s.heap.get? b=some u->h'.get? b=some u)(R9:∃u,h'.get? e=some u)
  (new:cP X.prog X.w (upd H x o) h' x o):Inv X pins σ (upd H x o) { s with heap:=h',toks:=t' }:=I.un (Un.write mu he k R9) (I.bX.write mu he k R9 new)
theorem Inv.weak{σ':List (Option V)}(I:Inv X pins σ H s)(hl:σ'.length=σ.length)(w:∀(i:Nat) v,σ'[i]? =some (some v)->σ[i]? =some (some v)):Inv X pins σ' H s:=
 ⟨I.ok,I.os,I.bare,I.base,let ⟨m,hn,xq⟩:=I.loc;⟨m,hn,λi x v e1 e2 e3=>xq i x v e1 (w i v e2) e3⟩,I.cell,I.free,I.jU,I.pin,I.bX,hl.trans I.len⟩
theorem Inv.gC{Dg:List (Addr×Obj)}(I:Inv X pins σ H s)(h:∀p∈Dg,s.heap.get? p.1=some p.2/\H p.1=none/\p.1≠X.env.locals/\p.1∉X.fs/\∀v,p.2.data≠ .cell v):Inv X Dg σ H s:=
 ⟨I.ok,I.os,I.bare,I.base,I.loc,I.cell,I.free,I.jU,λp hp=>(Qai.mp hp).elim (λz=>I.pin p (Qbj _ z)) (h p),I.bX,I.len⟩
theorem zp(hN:N.Nodup)(a:N[i]? =some x)(b:N[j]? =some x):i=j:=by
 obtain ⟨h1,e1⟩:=P5.mp a
 obtain ⟨h2,e2⟩:=P5.mp b
 exact (List.getElem_inj hN).mp (e1.trans e2.symm)
theorem EN{Q:Unit->Shared->Prop}(I:Inv X pins σ H s)(hN:X.N.Nodup)(hi:X.N[i]? =some x)(hx:Loc X.env.scope x)(r:RelV v u)
  (h:∀s',Inv X pins (σ.set i (some v)) H s'->(∃a,Heap.SameBut a s.heap s'.heap/\(a=X.env.locals\/X.env.cells.lookup x=some a))->Q Unit.unit s') (hf:X.fn x=true\/X.env.scope.names.lookup x=some .local:=by first | exact .inl rfl | exact .inr rfl | assumption):wpAny M A (storeName X.env x u) Q E s:=by
 obtain ⟨m,hn,hl⟩:=id I.loc
 have X5:(X.env.scope.kind== .class||(X.env.scope.kind== .module&&X.env.locals != X.env.globals))=false:=by rw[I.ok.kind];rfl
 have hiσ:i<σ.length:=by rw[I.len];exact (P5.mp hi).1
 have Pe:=I.Pe
 have tracked:∀{a:Addr} {h':Heap},(∃o,s.heap.get? a=some o/\H a=none)->Heap.SameBut a s.heap h'->mP X.prog X.w H h':=λ{a h'} ha hs b ob e=>by
  obtain ⟨_,_,N6⟩:=ha
  refine (I.bX b ob e).pA (λc w' hc q=>(hs.2 c ?_).trans q) (λ_ q=>q) λ_ _ q=>q
  rintro rfl
  rcases hc with rfl | hc
  ·rw[N6]at e;cases e
  ·rw[N6]at hc;cases hc
 rcases hx with hk | hk
 ·refine wpAny_storeName_local hk hn (λh' W_ hs=>?_) X5
  obtain ⟨oL,_,_,Pk,_⟩:=id hn
  refine h _ ⟨I.ok,I.os,I.bare,⟨λb o e n hb hx=>?_,λb o e n hb hx=>?_,I.base.free,λb o e hx=>?_,I.base.pB,I.base.sG,I.base.vh⟩,⟨_,W_,λj y v' e1 e2 e3=>?_⟩,λy c e=>?_,I.free,I.jU,λp hp=>?_,tracked ⟨oL,Pk,I.free⟩ hs,by simpa using I.len⟩ ⟨_,hs,.inl rfl⟩
  ·exact (hs.2 b (Qa0 (Qa3 (Qay e) I.ok.above))).trans (I.base.keep b o e n hb hx)
  ·obtain ⟨sl,e1⟩:=I.base.slot b o e n hb hx
   exact ⟨sl,(hs.2 b (Qa0 (Qa3 (Qay e) I.ok.above))).trans e1⟩
  ·obtain ⟨o',e1⟩:=I.base.there b o e hx
   exact ⟨o',(hs.2 b (Qa0 (Qa3 (Qay e) I.ok.above))).trans e1⟩
  ·by_cases hj:j=i
   ·subst hj
    rw[hi]at e1;cases e1
    rw[List.getElem?_set_self hiσ]at e2
    cases e2
    exact ⟨u,r,.inl ⟨hk,by simp⟩⟩
   ·rw[List.getElem?_set_ne (Ne.symm hj)]at e2
    obtain ⟨u',r',q⟩:=hl j y v' e1 e2 e3
    refine ⟨u',r',?_⟩
    rcases q with ⟨k,e⟩ | ⟨k,c,e,z⟩
    ·refine .inl ⟨k,?_⟩
     have:y≠x:=λe=>hj (zp hN e1 (e▸hi))
     simp[this,e]
    ·exact .inr ⟨k,c,e,z.sameBut hs (Pe y c e)⟩
  ·obtain ⟨w',z⟩:=I.cell y c e
   exact ⟨w',z.sameBut hs (Pe y c e)⟩
  ·obtain ⟨e,n,ne,nf,d⟩:=I.pin p hp
   exact ⟨(hs.2 p.1 ne).trans e,n,ne,nf,d⟩
 ·have X6:X.fn x=true:=by
   rcases hf with z | z
   ·exact z
   ·rw[z]at hk;cases hk
  obtain ⟨c,hc⟩:=I.ok.has x (.inl hk)
  obtain ⟨w',z⟩:=I.cell x c hc
  refine wpAny_storeName_cell I.ok.kind hk hc z (λh' vn hs=>?_)
  obtain ⟨oc,Xa,X7⟩:=id z
  refine h { s with heap:=h' } ⟨I.ok,I.os,I.bare,⟨λb o e n hb hx=>?_,λb o e n hb hx=>?_,I.base.free,λb o e hx=>?_,I.base.pB,I.base.sG,I.base.vh⟩,⟨m,hn.sameBut hs (Ne.symm (Pe x c hc)),λj y v' e1 e2 e3=>?_⟩,λy c' e=>?_,I.free,I.jU,λp hp=>?_,tracked ⟨oc,Xa,I.jU x c hc⟩ hs,by simpa using I.len⟩ ⟨c,hs,.inr hc⟩
  ·exact (hs.2 b (Qa0 (Qa3 (Qay e) (I.ok.Uq x c X6 hc)))).trans (I.base.keep b o e n hb hx)
  ·obtain ⟨sl,e1⟩:=I.base.slot b o e n hb hx
   exact ⟨sl,(hs.2 b (Qa0 (Qa3 (Qay e) (I.ok.Uq x c X6 hc)))).trans e1⟩
  ·obtain ⟨o',e1⟩:=I.base.there b o e hx
   exact ⟨o',(hs.2 b (Qa0 (Qa3 (Qay e) (I.ok.Uq x c X6 hc)))).trans e1⟩
  ·by_cases hj:j=i
   ·subst hj
    rw[hi]at e1;cases e1
    rw[List.getElem?_set_self hiσ]at e2
    cases e2
    exact ⟨u,r,.inr ⟨.inl hk,c,hc,vn⟩⟩
   ·rw[List.getElem?_set_ne (Ne.symm hj)]at e2
    obtain ⟨u',r',q⟩:=hl j y v' e1 e2 e3
    refine ⟨u',r',?_⟩
    rcases q with q | ⟨k,c',e,z'⟩
    ·exact .inl q
    ·refine .inr ⟨k,c',e,z'.sameBut hs ?_⟩
     rintro rfl
     exact hj (zp hN e1 (I.ok.inj _ _ _ e hc▸hi))
  ·by_cases EO:c'=c
   ·subst EO;exact ⟨_,vn⟩
   ·obtain ⟨w2,z2⟩:=I.cell y c' e
    exact ⟨w2,z2.sameBut hs EO⟩
  ·obtain ⟨e,n,ne,nf,d⟩:=I.pin p hp
   refine ⟨(hs.2 p.1 ?_).trans e,n,ne,nf,d⟩
   intro q
   rw[q,Xa]at e
   have q':oc=p.2:=Qaz e
   exact d w' (by rw[<-q'];exact X7)
theorem nB{Q:Unit->Shared->Prop}(I:Inv X pins σ H s)(hN:X.N.Nodup)(hi:X.N[i]? =some x)(hx:Loc X.env.scope x)(r:RelV v u)
  (h:∀s',Inv X pins (σ.set i (some v)) H s'->Q Unit.unit s') (hf:X.fn x=true\/X.env.scope.names.lookup x=some .local:=by first | exact .inl rfl | exact .inr rfl | assumption):wpAny M A (storeName X.env x u) Q E s:=
 EN I hN hi hx r (λs' I' _=>h s' I') hf
theorem Inv.Us(I:Inv X pins σ H s)(ho:s'.os=s.os)(u:Un (De X.stack) ch H H' s.heap s'.heap)(bX:mP X.prog X.w H' s'.heap)(hg:AllBare s'.gens)
  (Le:∀b∈ch,(b∈X.ex\/X.s₀.heap.objs.size<=b)/\b≠X.env.locals/\(∀x c,X.env.cells.lookup x=some c->c≠b)/\∀p∈X.pn++pins,p.1≠b):Inv X pins σ H' s':=by
 obtain ⟨h',g',d',t',o'⟩:=s'
 have e:o'=s.os:=ho
 subst e
 exact I.call (g':=g') (t':=t') (d':=d') u bX hg Le
end
abbrev XK:=Value->Option Addr->Hp->Prop
abbrev St:=List (Option V)
abbrev VK:=V->Hp->Prop
abbrev TE:=St->Hp->VK->Prop
abbrev TT:=St->Hp->(Bool->Hp->Prop)->Prop
abbrev TA:=St->Hp->(List V->Hp->Prop)->Prop
structure Ends where
 nx:St->Hp->Prop
 rt:VK
 bk:St->Hp->Prop:=λ_ _=>False
 ct:St->Hp->Prop:=λ_ _=>False
abbrev TS:=Ends->St->Hp->Prop
def EP(X:Cx)(pins:List (Addr×Obj))(σ:St)(Q:VK)(u:Value)(s':Shared):Prop:=∃v H',Inv X pins σ H' s'/\RelV v u/\Q v H'
def TP(X:Cx)(pins:List (Addr×Obj))(σ:St)(Q:Bool->Hp->Prop)(b:Bool)(s':Shared):Prop:=∃H',Inv X pins σ H' s'/\Q b H'
def AP(X:Cx)(pins:List (Addr×Obj))(σ:St)(Q:List V->Hp->Prop)(us:List Value)(s':Shared):Prop:=∃vs H',Inv X pins σ H' s'/\Vals vs us/\Q vs H'
def SP(X:Cx)(pins:List (Addr×Obj))(D:Ends)(f:Flow)(s':Shared):Prop:=
 match f with
 | .next=>∃σ' H',Inv X pins σ' H' s'/\D.nx σ' H'
 | .brk=>∃σ' H',Inv X pins σ' H' s'/\D.bk σ' H'
 | .cont=>∃σ' H',Inv X pins σ' H' s'/\D.ct σ' H'
 | .ret u=>∃v σ' H',Inv X pins σ' H' s'/\RelV v u/\D.rt v H'
def PE(X:Cx)(e:Expr)(t:TE):Prop:=
 ∀(pins:List (Addr×Obj)) (s:Shared) (σ:St) (H:Hp) (Q:VK),Inv X pins σ H s->t σ H Q->wpAny (model X.prog X.w) X.A (eval e X.env) (EP X pins σ Q) X.xe s
def PT(X:Cx)(e:Expr)(t:TT):Prop:=
 ∀(pins:List (Addr×Obj)) (s:Shared) (σ:St) (H:Hp) (Q:Bool->Hp->Prop),Inv X pins σ H s->t σ H Q->wpAny (model X.prog X.w) X.A (isTrue e X.env (eval e X.env)) (TP X pins σ Q) X.xe s
def PW(X:Cx)(e:Expr)(t:TT):Prop:=
 ∀(whole:Sem Value) (pins:List (Addr×Obj)) (s:Shared) (σ:St) (H:Hp) (Q:Bool->Hp->Prop),Inv X pins σ H s->t σ H Q->wpAny (model X.prog X.w) X.A (isTrue e X.env whole) (TP X pins σ Q) X.xe s
variable{X:Cx}{e:Expr}
theorem PW.pt{t:TT}(h:PW X e t):PT X e t:=h _
def PA(X:Cx)(es:List Expr)(t:TA):Prop:=
 ∀(pos:Pos) (pins:List (Addr×Obj)) (s:Shared) (σ:St) (H:Hp) (Q:List V->Hp->Prop),Inv X pins σ H s->t σ H Q->wpAny (model X.prog X.w) X.A (spliced (backTo pos (starEach es X.env))) (AP X pins σ Q) X.xe s
def PS(X:Cx)(st:Stmt)(t:TS):Prop:=
 ∀(pins:List (Addr×Obj)) (s:Shared) (σ:St) (H:Hp) (D:Ends),Inv X pins σ H s->t D σ H->wpAny (model X.prog X.w) X.A (exec st X.env) (SP X pins D) X.xe s
def zf(X:Cx)(st:List Stmt)(t:TS):Prop:=
 ∀(pins:List (Addr×Obj)) (s:Shared) (σ:St) (H:Hp) (D:Ends),Inv X pins σ H s->t D σ H->wpAny (model X.prog X.w) X.A (execs st X.env) (SP X pins D) X.xe s
variable{s:Shared}
theorem cE{α:Type}{t:Sem α}{Q Q':α->Shared->Prop}(h:wpAny M A t Q E s)(hQ:∀a s,Q a s->Q' a s):wpAny M A t Q' E s:=wpAny_mono h hQ λ_ _ x=>x
variable{Q:Value->Shared->Prop}{pins:List (Addr×Obj)}{σ:St}{op:CmpOp}
section
variable{X:Cx}
inductive G0(i:Nat)(σ:St)(H:Hp)(Q:VK):Prop
 | mk (v:V) (_:σ[i]? =some (some v)) (_:Q v H):G0 i σ H Q
def Pl(i:Nat):TE:=G0 i
def tC(v:V):TE:=λ_ H Q=>Q v H
theorem Bh{pos:Pos}(hN:X.N[i]? =some x)(hv:Up X.env.scope x)(hd:(x==("__debug__":Str))=false:=by decide)(lX:(x==("__classdict__":Str))=false:=by decide):PE X (.Name x pos) (Pl i):=by
 walk_at"e"
 obtain ⟨v,e,h⟩:=h
 obtain ⟨m,hn,hl⟩:=I.loc
 obtain ⟨u,r,l⟩:=hl i x v hN e hv
 have fin:EP X pins σ Q u s:=⟨v,H,I,r,h⟩
 rcases l with ⟨hk,hm⟩ | ⟨hk,c,hc,iJ⟩
 ·exact wpAny_Name (wpAny_loadName_local I.ok.kind hk hn hm fin) hd
 ·rcases hk with hk | hk
  ·exact wpAny_Name (wpAny_loadName_cell I.ok.kind hk hc iJ fin) hd
  ·exact wpAny_Name (wpAny_loadName_free I.ok.kind hk hc iJ fin lX) hd
theorem ao{i j pos}:PE X (.Constant (.int i) j pos) (tC (.int i)):=λ_ _ _ H _ I h=>wpAny_Constant_int ⟨.int i,H,I.tok _,⟨_,rfl⟩,h⟩
theorem jV{b j pos}:PE X (.Constant (.bool b) j pos) (tC (.bl b)):=λ_ _ _ H _ I h=>Constant_bool ⟨.bl b,H,I,rfl,h⟩
theorem Pm{x j pos}:PE X (.Constant (.str x) j pos) (tC (.str x)):=λ_ _ _ H _ I h=>Calls.Constant_str ⟨.str x,H,I.tok _,⟨_,rfl⟩,h⟩
def Gl(X:Cx)(x:Str):Prop:=X.env.kindOf x=some .globalImplicit
theorem xr{pos:Pos}(I:Inv X pins σ H s)(hg:Gl X x)(hm:X.mg x=some u)(h:Q u s)
  (hd:(x==("__debug__":Str))=false:=by decide):wpAny (model X.prog X.w) X.A (eval (.Name x pos) X.env) Q E s:=
 Calls.Name_function_global I.ok.kind hg (Calls.loadGlobal_global (by rw[I.ok.glob];exact I.mod.glob.keeps I.bk) hm h) hd
theorem il{pos:Pos}(I:Inv X pins σ H s)(hg:Gl X x)(hm:X.mg x=none)(hv:bootBuiltins x=some u)(h:Q u s)
  (hn:x≠"__name__":=by decide) (hd:(x==("__debug__":Str))=false:=by decide):wpAny (model X.prog X.w) X.A (eval (.Name x pos) X.env) Q E s:=by
 obtain ⟨mb,h1,h2⟩:=I.mod.blt
 exact Calls.Name_function_global I.ok.kind hg (Calls.loadGlobal_builtin (by rw[I.ok.glob];exact I.mod.glob.keeps I.bk) hm (by rw[I.ok.blt];exact h1.keeps I.bk) ((h2 x hn).trans hv) h) hd
theorem Dh{pos:Pos}(hg:Gl X x)(hm:X.mg x=some u)(r:RelV v u)(hd:(x==("__debug__":Str))=false:=by decide):PE X (.Name x pos) (tC v):=
 λ_ _ _ H _ I h=>xr I hg hm ⟨v,H,I,r,h⟩ hd
inductive I2(x y:V)(H:Hp)(k:Int->Int->Hp->Prop):Prop
 | mk (i j:Int) (_:x= .int i) (_:y= .int j) (_:k i j H):I2 x y H k
inductive IB(x:V)(H:Hp)(Q:Bool->Hp->Prop):Prop
 | mk (c:Bool) (_:x= .bl c) (_:Q c H):IB x H Q
variable{a b:Expr}{ta tb:TE}{pos:Pos}
def PC(X:Cx)(op:CmpOp)(a b:Expr)(t:TE):Prop:=
 ∀(pins:List (Addr×Obj)) (s:Shared) (σ:St) (H:Hp) (Q:VK),Inv X pins σ H s->t σ H Q->
  wpAny (model X.prog X.w) X.A (eval a X.env) (λv s₁=>wpAny (model X.prog X.w) X.A (eval b X.env) (λu s₂=>wpAny (model X.prog X.w) X.A (compareOp op v u) (EP X pins σ Q) X.xe s₂) X.xe s₁) X.xe s
def tB(t:TE):TT:=λσ H Q=>t σ H λx H1=>IB x H1 Q
theorem Pn{t:TE}(h:PC X op a b t)(h1:behindInMarks op b=false:=by first | exact Ut _ ∅ ∅ | rfl):PT X (.Compare a [op] [b] pos) (tB t):=by
 intro pins s σ H Q I hw
 refine wpAny_isTrue_Compare1 (cE (h pins s σ H _ I hw) λv s1 h1=>cE h1 λu s2 h2=>cE h2 λc s3 ⟨x,H1,I1,r1,q1⟩=>?_) h1
 obtain ⟨d,rfl,q⟩:=q1
 cases r1
 exact wpAny_truthy_bool ⟨H1,I1,q⟩
theorem je{t:TE}(h:PE X e t)(he:∀whole,isTrue e X.env whole=(do let v <-whole;standAt e.pos;holding [v] (truthy v)):=by intro _;rfl):PT X e (tB t):=by
 intro pins s σ H Q I hw
 refine isTrue_plain (cE (h pins s σ H _ I hw) λv s1 ⟨x,H1,I1,r1,q1⟩=>?_) (he _)
 obtain ⟨d,rfl,q⟩:=q1
 cases r1
 exact wpAny_truthy_bool ⟨H1,I1,q⟩
variable{tA Xb:TT}{rest:List Expr}
def X8(t u:TT):TT:=λσ H Q=>t σ H λc H1=>if c=true then u σ H1 Q else Q false H1
def tOr(t u:TT):TT:=λσ H Q=>t σ H λc H1=>if c=true then Q true H1 else u σ H1 Q
def X9(t:TT):TT:=λσ H Q=>t σ H λc H1=>Q (!c) H1
theorem nC(ha:PT X a tA):PW X (.BoolOp .And [a] pos) tA:=by
 intro wh pins s σ H Q I h
 refine isTrue_and (cE (ha pins s σ H Q I h) λc s1 e=>?_)
 cases c with
 | true=>exact isTrue_and_nil e
 | false=>exact e
theorem sI(ha:PT X a tA):PW X (.BoolOp .Or [a] pos) tA:=by
 intro wh pins s σ H Q I h
 refine isTrue_or (cE (ha pins s σ H Q I h) λc s1 e=>?_)
 cases c with
 | false=>exact isTrue_or_nil e
 | true=>exact e
theorem sJ(ha:PT X a tA)(hb:PW X (.BoolOp .And (b::rest) pos) Xb):PW X (.BoolOp .And (a::b::rest) pos) (X8 tA Xb):=by
 intro wh pins s σ H Q I h
 refine isTrue_and (cE (ha pins s σ H _ I h) λc s1 ⟨H1,I1,q1⟩=>?_)
 cases c with
 | true=>exact hb wh pins s1 σ H1 Q I1 q1
 | false=>exact ⟨H1,I1,q1⟩
theorem zq(ha:PT X a tA)(hb:PW X (.BoolOp .Or (b::rest) pos) Xb):PW X (.BoolOp .Or (a::b::rest) pos) (tOr tA Xb):=by
 intro wh pins s σ H Q I h
 refine isTrue_or (cE (ha pins s σ H _ I h) λc s1 ⟨H1,I1,q1⟩=>?_)
 cases c with
 | true=>exact ⟨H1,I1,q1⟩
 | false=>exact hb wh pins s1 σ H1 Q I1 q1
theorem Bi(ha:PT X a tA):PT X (.UnaryOp .Not a pos) (X9 tA):=by
 walk_at"e"
 exact isTrue_not (ha pins s σ H (λc H1=>Q (!c) H1) I h)
def Uu(ta tb:TE):TE:=λσ H Q=>ta σ H λx H1=>∃c,x= .bl c/\if c=true then tb σ H1 Q else Q (.bl false) H1
def X_(ta tb:TE):TE:=λσ H Q=>ta σ H λx H1=>∃c,x= .bl c/\if c=true then Q (.bl true) H1 else tb σ H1 Q
theorem Bj{op}{t:TE}(h:PE X a t):PE X (.BoolOp op [a] pos) t:=λpins s σ H Q I hw=>BoolOp_one (h pins s σ H Q I hw)
theorem G1(ha:PE X a ta)(hb:PE X (.BoolOp .And (b::rest) pos) tb):PE X (.BoolOp .And (a::b::rest) pos) (Uu ta tb):=by
 walk_at"e"
 refine BoolOp_and (cE (ha pins s σ H _ I h) λv s1 ⟨x,H1,I1,r1,q1⟩=>?_)
 obtain ⟨c,rfl,q1⟩:=q1
 cases r1
 refine wpAny_truthy_bool ?_
 cases c with
 | true=>exact hb pins s1 σ H1 Q I1 q1
 | false=>exact ⟨.bl false,H1,I1,rfl,q1⟩
theorem Uv(ha:PE X a ta)(hb:PE X (.BoolOp .Or (b::rest) pos) tb):PE X (.BoolOp .Or (a::b::rest) pos) (X_ ta tb):=by
 walk_at"e"
 refine BoolOp_or (cE (ha pins s σ H _ I h) λv s1 ⟨x,H1,I1,r1,q1⟩=>?_)
 obtain ⟨c,rfl,q1⟩:=q1
 cases r1
 refine wpAny_truthy_bool ?_
 cases c with
 | false=>exact hb pins s1 σ H1 Q I1 q1
 | true=>exact ⟨.bl true,H1,I1,rfl,q1⟩
end
def bu(K:c6)(H:Hp)(a:Addr)(xs:List V):Prop:=
 Rd H a (.lst xs)\/
  ∃(o:Obj) (aN:Array Value) (n:Nat),K.lookup a=some o/\o.cls= .type "list"/\o.dict=none/\o.data= .seq aN n/\aN.size<=sizeLine/\Vals xs aN.toList
def dH(K:c6)(H:Hp)(a:Addr)(xs:List V):Prop:=
 Rd H a (.tup xs)\/
  ∃(o:Obj) (aN:Array Value) (n:Nat),K.lookup a=some o/\o.cls= .type "tuple"/\o.data= .seq aN n/\aN.size<=sizeLine/\Vals xs aN.toList
noncomputable def Ya:Value->Option V
 | .none=>some .gk
 | .bool b=>some (.bl b)
 | .int i _=>some (.int i)
 | .str x _=>some (.str x)
 | .bytes b _=>some (.Dd b)
 | .float b _=>some (.W7 b)
 | .ref a=>some (.ref a)
 | .type n=>some (.ty n)
 | _=>none
theorem RelV.abs{x:V}(r:RelV x u):Ya u=some x:=by
 cases x with
 | gk=>cases r;rfl
 | bl _=>cases r;rfl
 | int _=>obtain ⟨t,rfl⟩:=r;rfl
 | str _=>obtain ⟨t,rfl⟩:=r;rfl
 | Dd _=>obtain ⟨t,rfl⟩:=r;rfl
 | W7 _=>obtain ⟨t,rfl⟩:=r;rfl
 | ref _=>cases r;rfl
 | ty _=>cases r;rfl
variable{y:V}
theorem RelV.inj{x:V}(r:RelV x u)(q:RelV y u):x=y:=Qaz (r.abs.symm.trans q.abs)
theorem Vals.inj:∀{xs ys:List V} {us:List Value},Vals xs us->Vals ys us->xs=ys
 | _,_,_,.nil,.nil=>rfl
 | _,_,_,.cons r t,.cons r' t'=>by rw[r.inj r',Vals.inj t t']
variable{K:c6}
section
variable{X:Cx}{pins:List (Addr×Obj)}{σ:St}{H:Hp}{s:Shared}{a:Addr}{xs ys:List V}
theorem bu.of(h:H a=some (.lst xs)):bu K H a xs:= .inl (.inl h)
theorem dH.of(h:H a=some (.tup xs)):dH K H a xs:= .inl (.inl h)
theorem Inv.list(I:Inv X pins σ H s)(h:bu X.K H a xs):∃aN:List Value,Vals xs aN/\PlainL s.heap a aN.toArray/\(xs:)<=sizeLine:=by
 rcases h with h | ⟨o,aN,n,hk,hc,hd,hs,hz,r⟩
 ·obtain ⟨z,aN,n,r,e⟩:=h.ok I.bX
  exact ⟨aN,r,⟨_,n,e,rfl,rfl,rfl⟩,z⟩
 ·refine ⟨aN.toList,r,⟨o,n,I.Bg a o hk,hc,hd,by simpa using hs⟩,?_⟩
  have e:=(r:)
  simp only[Qci]at e
  lia
theorem Inv.tuple(I:Inv X pins σ H s)(h:dH X.K H a xs):∃aN:List Value,Vals xs aN/\IsTup s.heap a aN.toArray/\(xs:)<=sizeLine:=by
 rcases h with h | ⟨o,aN,n,hk,hc,hs,hz,r⟩
 ·obtain ⟨z,aN,r,p⟩:=h.ok I.bX
  exact ⟨aN,r,p,z⟩
 ·refine ⟨aN.toList,r,⟨o,I.Bg a o hk,hc,n,by simpa using hs⟩,?_⟩
  have e:=(r:)
  simp only[Qci]at e
  lia
theorem Inv.zr(I:Inv X pins σ H s)(h:bu X.K H a xs)(h':bu X.K H a ys):xs=ys:=by
 obtain ⟨aN,r,⟨o,n,e,_,_,d⟩,_⟩:=I.list h
 obtain ⟨its',r',⟨o',n',e',_,_,d'⟩,_⟩:=I.list h'
 rw[e]at e';cases e'
 rw[d]at d'
 injection d' with d1 _
 have:aN=its':=by simpa using congrArg Array.toList d1
 subst this
 exact r.inj r'
theorem Inv.vX(I:Inv X pins σ H s)(h:dH X.K H a xs)(h':dH X.K H a ys):xs=ys:=by
 obtain ⟨aN,r,⟨o,e,_,n,d⟩,_⟩:=I.tuple h
 obtain ⟨its',r',⟨o',e',_,n',d'⟩,_⟩:=I.tuple h'
 rw[e]at e';cases e'
 rw[d]at d'
 injection d' with d1 _
 have:aN=its':=by simpa using congrArg Array.toList d1
 subst this
 exact r.inj r'
end
noncomputable abbrev Cx.sL(X:Cx)(E:Value->Shared->Prop):Cx:={ X with xe:=E }
noncomputable abbrev Cx.Lf(X:Cx):Cx:=X.sL λ_ _=>False
theorem Cx.Ok.sL(ok:X.Ok)(E:Value->Shared->Prop):(X.sL E).Ok:=
 ⟨ok.mod,ok.kind,ok.glob,ok.blt,ok.above,ok.inj,ok.has,ok.Uq,ok.hd,ok.frames,ok.W9,ok.exf,ok.bs,ok.Ld,ok.GY,ok.LF,ok.pE,ok.N4⟩
theorem Cx.Ok.jf(ok:(X.sL E).Ok):X.Ok:=
 ⟨ok.mod,ok.kind,ok.glob,ok.blt,ok.above,ok.inj,ok.has,ok.Uq,ok.hd,ok.frames,ok.W9,ok.exf,ok.bs,ok.Ld,ok.GY,ok.LF,ok.pE,ok.N4⟩
variable{D:Ends}
section
variable{X:Cx}{pins:List (Addr×Obj)}{σ:St}{H:Hp}{s:Shared}{E:Value->Shared->Prop}
theorem Inv.sL(I:Inv X pins σ H s)(E:Value->Shared->Prop):Inv (X.sL E) pins σ H s:=⟨I.ok.sL E,I.os,I.bare,I.base,I.loc,I.cell,I.free,I.jU,I.pin,I.bX,I.len⟩
theorem Inv.jf(I:Inv (X.sL E) pins σ H s):Inv X pins σ H s:=⟨I.ok.jf,I.os,I.bare,I.base,I.loc,I.cell,I.free,I.jU,I.pin,I.bX,I.len⟩
theorem SP.jf{f:Flow}(h:SP (X.sL E) pins D f s'):SP X pins D f s':=by
 cases f with
 | next=>obtain ⟨σ',H',I,q⟩:=h;exact ⟨σ',H',I.jf,q⟩
 | brk=>obtain ⟨σ',H',I,q⟩:=h;exact ⟨σ',H',I.jf,q⟩
 | cont=>obtain ⟨σ',H',I,q⟩:=h;exact ⟨σ',H',I.jf,q⟩
 | ret u=>obtain ⟨v,σ',H',I,r,q⟩:=h;exact ⟨v,σ',H',I.jf,r,q⟩
theorem PE.Lf{t:TE}(h:PE X.Lf e t):PE X e t:=λpins s σ H Q I hw=>
 wpAny_mono (h pins s σ H Q (I.sL _) hw) (λ_ _ ⟨v,H',I',r,q⟩=>⟨v,H',I'.jf,r,q⟩) λ_ _ z=>False.elim z
theorem zf.Lf{st:List Stmt}{t:TS}(h:zf X.Lf st t):zf X st t:=λpins s σ H D I hw=>
 wpAny_mono (h pins s σ H D (I.sL _) hw) (λ_ _ q=>q.jf) λ_ _ z=>False.elim z
end
section
variable{X:Cx}{st:Stmt}{rest:List Stmt}{t u:TS}{e:Expr}{te:TE}{pos:Pos}
def Uw:TS:=λD σ H=>D.nx σ H
def LH(t u:TS):TS:=λD σ H=>t { D with nx:=u D } σ H
theorem bO:zf X [] Uw:=λ_ _ σ H _ I h=>wpAny_execs_nil ⟨σ,H,I,h⟩
theorem ag(h1:PS X st t)(h2:zf X rest u):zf X (st::rest) (LH t u):=by
 walk_at"s"
 refine wpAny_execs_cons (cE (h1 pins s σ H { D with nx:=u D } I h) λf s1 q=>?_)
 cases f with
 | next=>
  obtain ⟨σ',H',I',q⟩:=q
  exact h2 pins s1 σ' H' D I' q
 | ret v=>exact q
 | brk=>exact q
 | cont=>exact q
theorem aj(h1:PS X st t):zf X [st] t:=by
 walk_at"s"
 refine wpAny_execs_cons (cE (h1 pins s σ H D I h) λf s1 q=>?_)
 cases f with
 | next=>exact wpAny_execs_nil q
 | ret v=>exact q
 | brk=>exact q
 | cont=>exact q
theorem Inv.quiet(I:Inv X pins σ H s):interactive X.env=false:=by simp[interactive,I.ok.kind]
def Ux(te:TE):TS:=λD σ H=>te σ H λ_ H1=>D.nx σ H1
theorem eT(he:PE X e te)(hs:swapsWith e none pos.line X.env=pure false:=by rfl):PS X (.Expr e pos) (Ux te):=by
 walk_at"s"
 exact wpAny_Expr_any (cE (he pins s σ H _ I h) λv s1 ⟨x,H1,I1,r1,q1⟩=>⟨σ,H1,I1,q1⟩) I.quiet hs
def Yb(te:TE):TS:=λD σ H=>te σ H D.rt
theorem aI(he:PE X e te):PS X (.Return (some e) pos) (Yb te):=by
 walk_at"s"
 exact wpAny_Return_some (cE (he pins s σ H _ I h) λv s1 ⟨x,H1,I1,r1,q1⟩=>⟨x,σ,H1,I1,r1,q1⟩)
def Yc(c:TT)(t u:TS):TS:=λD σ H=>c σ H λb H1=>if b=true then t D σ H1 else u D σ H1
theorem cV{c:Expr}{a b:List Stmt}{tc:TT}(hc:PT X c tc)(ha:zf X a t)(hb:zf X b u):PS X (.If c a b pos) (Yc tc t u):=by
 walk_at"s"
 refine wpAny_If (cE (hc pins s σ H _ I h) λd s1 ⟨H1,I1,q1⟩=>?_)
 cases d with
 | true=>exact ha pins s1 σ H1 D I1 q1
 | false=>exact hb pins s1 σ H1 D I1 q1
end
abbrev TG:=V->St->Hp->(St->Hp->Prop)->Prop
abbrev N7:=List V->St->Hp->(St->Hp->Prop)->Prop
def PG(X:Cx)(target:Expr)(t:TG):Prop:=
 ∀(pins:List (Addr×Obj)) (s:Shared) (σ:St) (H:Hp) (v:V) (u:Value) (Q:St->Hp->Prop),Inv X pins σ H s->RelV v u->t v σ H Q->
  wpAny (model X.prog X.w) X.A (assign target X.env u) (λ_ s'=>∃σ' H',Inv X pins σ' H' s'/\Q σ' H') X.xe s
def Uy(X:Cx)(ts:List Expr)(t:N7):Prop:=
 ∀(pins:List (Addr×Obj)) (s:Shared) (σ:St) (H:Hp) (vs:List V) (us:List Value) (Q:St->Hp->Prop),Inv X pins σ H s->Vals vs us->t vs σ H Q->
  wpAny (model X.prog X.w) X.A (assignInOrder ((assignEach ts X.env).map (·.2)) us) (λ_ s'=>∃σ' H',Inv X pins σ' H' s'/\Q σ' H') X.xe s
abbrev Po:=V->V->V->Hp->(Hp->Prop)->Prop
def Uz(X:Cx)(t:Po):Prop:=
 ∀(pins:List (Addr×Obj)) (s:Shared) (σ:St) (H:Hp) (o i v:V) (ov iv u:Value) (Q:Hp->Prop),Inv X pins σ H s->RelV o ov->RelV i iv->RelV v u->t o i v H Q->
  wpAny (model X.prog X.w) X.A (setItem ov iv u) (λ_ s'=>∃H',Inv X pins σ H' s'/\Q H') X.xe s
abbrev Xc:=V->V->Hp->VK->Prop
def Sa(X:Cx)(op:Operator)(t:Xc):Prop:=
 ∀(pins:List (Addr×Obj)) (s:Shared) (σ:St) (H:Hp) (x y:V) (v u:Value) (Q:VK),Inv X pins σ H s->RelV x v->RelV y u->t x y H Q->
  wpAny (model X.prog X.w) X.A (inplaceOp op v u) (EP X pins σ Q) X.xe s
variable{es:List Expr}{n:Nat}{tg:Expr}{te:TE}
section
variable{X:Cx}{pos:Pos}
def vY(i:Nat):TG:=λv σ H Q=>Q (σ.set i (some v)) H
theorem aL(hN:X.N.Nodup)(hi:X.N[i]? =some x)(hx:Loc X.env.scope x)(hf:X.fn x=true\/X.env.scope.names.lookup x=some .local:=by first | exact .inl rfl | exact .inr rfl | assumption):PG X (.Name x pos) (vY i):=by
 intro pins s σ H v u Q I r h
 exact wpAny_assign_Name (nB I hN hi hx r (λs' I'=>⟨_,H,I',h⟩) hf)
def Ye:N7:=λvs σ H Q=>vs=[]/\Q σ H
def UA(t:TG)(u:N7):N7:=λvs σ H Q=>∃v r,vs=v::r/\t v σ H λσ' H'=>u r σ' H' Q
theorem jg:Uy X [] Ye:=by
 intro pins s σ H vs us Q I r h
 obtain ⟨e,h⟩:=h
 subst e
 cases r
 exact assignInOrder_nil ⟨σ,H,I,h⟩
theorem cJ{t:TG}{u:N7}(h1:PG X e t)(h2:Uy X es u)
  (hs:(assignEach (e::es) X.env).map (·.2)=assign e X.env::(assignEach es X.env).map (·.2):=by rfl):Uy X (e::es) (UA t u):=by
 intro pins s σ H vs us Q I r h
 obtain ⟨v,vr,e1,h⟩:=h
 subst e1
 cases r with
 | cons r rr=>
  rw[hs]
  refine assignInOrder_cons (cE (h1 pins s σ H _ _ _ I r h) λ_ s1 ⟨σ1,H1,I1,q1⟩=>?_)
  exact h2 pins s1 σ1 H1 _ _ Q I1 rr q1
def UB(K:c6)(n:Nat)(t:N7):TG:=λv σ H Q=>∃a xs,v= .ref a/\dH K H a xs/\(xs:)=n/\t xs σ H Q
theorem Pp{k:Nat}{t:N7}(hc:X.calm=true)(h:Uy X es t)
  (hn:(assignEach es X.env:)=n:=by rfl) (qJ:(assignEach es X.env).findIdx? (·.1)=none:=by rfl):PG X (.Tuple es k pos) (UB X.K n t):=by
 intro pins s σ H v u Q I r hw
 obtain ⟨a,xs,e1,hq,hl,hw⟩:=hw
 subst e1
 cases r
 obtain ⟨aN,rv,ht,hz⟩:=I.tuple hq
 refine assign_Tuple_tuple (I.ok.hd hc) ht (by simp[hn, <-hl,(rv:)]) qJ λh' hx=>?_
 have I1:Inv X pins σ H { s with heap:=h' }:=I.kept (t':=s.toks) λb o e=>hx b o (Qa0 (Qay e)) e
 exact h pins _ σ H xs _ Q I1 (by simpa using rv) hw
def Yf(to ti:TE)(t:Po):TG:=λv σ H Q=>to σ H λo H1=>ti σ H1 λi H2=>t o i v H2 λH3=>Q σ H3
theorem G2{o i:Expr}{to ti:TE}{t:Po}(ho:PE X o to)(hi:PE X i ti)(hs:Uz X t)
  (ha:∀v,assign (.Subscript o i pos) X.env v=(do
   let ov <-holding [v] (eval o X.env)
   let iv <-holding [v,ov] (eval i X.env)
   standAt pos
   holding [v,ov,iv] (setItem ov iv v)
   release [v,ov,iv] []):=by intro _;rfl):PG X (.Subscript o i pos) (Yf to ti t):=by
 intro pins s σ H v u Q I r h
 rw[ha]
 refine wpAny_bind (wpAny_holding (cE (ho pins s σ H _ I h) λov s1 ⟨x,H1,I1,r1,q1⟩=>?_))
 refine wpAny_bind (wpAny_holding (cE (hi pins s1 σ H1 _ I1 q1) λiv s2 ⟨y,H2,I2,r2,q2⟩=>?_))
 refine wpAny_bind (wpAny_standAt (wpAny_bind (wpAny_holding (cE (hs pins s2 σ H2 x y v ov iv u _ I2 r1 r2 r q2) λ_ s3 ⟨H3,I3,q3⟩=>?_))))
 exact wpAny_release ⟨σ,H3,I3,q3⟩
def G3(te:TE)(g:TG):TS:=λD σ H=>te σ H λx H1=>g x σ H1 D.nx
theorem xt{g:TG}(he:PE X e te)(hg:PG X tg g)(hs:swapsWithSole [tg] e pos.line X.env=pure false:=by rfl)(hw:swappedStores [tg] e X.env=pure none:=by rfl)
  (h1:(assignEach [tg] X.env).map (·.2)=[assign tg X.env]:=by rfl):PS X (.Assign [tg] e pos) (G3 te g):=by
 walk_at"s"
 refine wpAny_Assign_stores (cE (he pins s σ H _ I h) λv s1 ⟨x,H1,I1,r1,q1⟩=>?_) hs hw
 rw[h1]
 exact cE (hg pins s1 σ H1 x v _ I1 r1 q1) λ_ s2 q=>q
theorem Bk{pos':Pos}(hN:X.N.Nodup)(hi:X.N[i]? =some x)(hx:Loc X.env.scope x)(he:PE X e te)(hs:swapsWith e (some (.Name x pos')) pos.line X.env=pure false:=by rfl)(hf:X.fn x=true\/X.env.scope.names.lookup x=some .local:=by first | exact .inl rfl | exact .inr rfl | assumption):
  PS X (.Assign [.Name x pos'] e pos) (G3 te (vY i)):=by
 walk_at"s"
 refine wpAny_Assign_Name (cE (he pins s σ H _ I h) λv s1 ⟨y,H1,I1,r1,q1⟩=>?_) hs
 exact nB I1 hN hi hx r1 (λs2 I2=>⟨_,H1,I2,q1⟩) hf
def Yg(i:Nat)(te:TE)(ti:Xc):TS:=λD σ H=>∃x,σ[i]? =some (some x)/\te σ H λy H1=>ti x y H1 λz H2=>D.nx (σ.set i (some z)) H2
theorem jW{op:Operator}{ti:Xc}{pos':Pos}(hN:X.N.Nodup)(hi:X.N[i]? =some x)(hx:Loc X.env.scope x)(he:PE X e te)(ho:Sa X op ti)(hf:X.fn x=true\/X.env.scope.names.lookup x=some .local:=by first | exact .inl rfl | exact .inr rfl | assumption):
  PS X (.AugAssign (.Name x pos') op e pos) (Yg i te ti):=by
 walk_at"s"
 obtain ⟨v,e1,h⟩:=h
 obtain ⟨m,hn,hl⟩:=I.loc
 have vis:Up X.env.scope x:=by rcases hx with k | k;exact .inl k;exact .inr (.inl k)
 obtain ⟨u,r,l⟩:=hl i x v hi e1 vis
 refine wpAny_AugAssign_Name ?_
 have go:wpAny (model X.prog X.w) X.A (eval e X.env) (λw s₂=>wpAny (model X.prog X.w) X.A (inplaceOp op u w) (λr s₃=>wpAny (model X.prog X.w) X.A (storeName X.env x r) (λ_=>SP X pins D .next) X.xe s₃) X.xe s₂) X.xe s:=by
  refine cE (he pins s σ H _ I h) λw s1 ⟨y,H1,I1,r1,q1⟩=>?_
  refine cE (ho pins s1 σ H1 v y u w _ I1 r r1 q1) λz s2 ⟨zv,H2,I2,r2,q2⟩=>?_
  exact nB I2 hN hi hx r2 (λs3 I3=>⟨_,H2,I3,q2⟩) hf
 rcases l with ⟨hk,hm⟩ | ⟨hk,c,hc,iJ⟩
 ·exact wpAny_loadName_local I.ok.kind hk hn hm go
 ·rcases hk with hk | hk
  ·exact wpAny_loadName_cell I.ok.kind hk hc iJ go
  ·rcases hx with k | k
   ·have:X.env.scope.names.lookup x=some .free:=hk
    rw[k]at this;cases this
   ·have:X.env.scope.names.lookup x=some .free:=hk
    rw[k]at this;cases this
def ipI(f:Int->Int->Int):Xc:=λx y H Q=>∃i j,x= .int i/\y= .int j/\Q (.int (f i j)) H
theorem xu:Sa X .Add (ipI λi j=>i+j):=by
 intro pins s σ H x y v u Q I r1 r2 h
 obtain ⟨i,j,e1,e2,q⟩:=h
 subst e1;subst e2
 walk_at"Q"
 obtain ⟨t',rfl⟩:=r2
 exact iadd_int ⟨.int _,H,I.tok _,⟨_,rfl⟩,q⟩
theorem Pq:Sa X .Sub (ipI λi j=>i - j):=by
 intro pins s σ H x y v u Q I r1 r2 h
 obtain ⟨i,j,e1,e2,q⟩:=h
 subst e1;subst e2
 walk_at"Q"
 obtain ⟨t',rfl⟩:=r2
 exact isub_int ⟨.int _,H,I.tok _,⟨_,rfl⟩,q⟩
end
structure It where
 go:Nat->Hp->Prop
 G4:Nat->Hp->V->Hp->Prop
 stop:Nat->Hp->Prop
def q5(X:Cx)(pins:List (Addr×Obj))(H:Hp)(b:Addr):Prop:=
 H b=none/\b≠X.env.locals/\b∉X.fs/\(b∈X.ex\/X.s₀.heap.objs.size<=b)/\(∀x c,X.env.cells.lookup x=some c->c≠b)/\∀p∈X.pn++pins,p.1≠b
theorem Inv.sM{H':Hp}(I:Inv X pins σ H s)(hb:s.heap.objs.size<=b)(hn:H' b=none):q5 X pins H' b:=by
 refine ⟨hn,Qd3 (Qa3 I.lt hb),I.LG hb,.inr (Qbb I.sz hb),λx c e z=>?_,λp hp z=>?_⟩
 ·obtain ⟨v,q⟩:=I.cell x c e
  exact absurd (Qa3 q.lt (by rw[z];exact hb)) (Qbx _)
 ·exact absurd (Qa3 (Qay (I.pin p hp).1) (by rw[z];exact hb)) (Qbx _)
structure Turn(P:Program)(w:World)(K:c6)(tg:Expr)(J:It)(fp:List Addr)(it:Addr)(tn:Nat->Heap->Prop):Prop where
 mem:it∈fp
 obj:∀i h,tn i h->∀b∈fp,∃o,h.get? b=some o/\∀v,o.data≠ .cell v
 keep:∀i h h',tn i h->(∀b∈fp,∀o,h.get? b=some o->h'.get? b=some o)->tn i h'
 item:∀(X:Cx),X.prog=P->X.w=w->X.K=K->X.calm=true->∀(i:Nat) (pins:List (Addr×Obj)) (s:Shared) (σ:St) (H:Hp) (E:Value->Shared->Prop),Inv X pins σ H s->(∀b∈fp,q5 X pins H b)->tn i s.heap->J.go i H->
  wpAny (model P w) X.A (pyNext (.ref it)) (λr s1=>∃u,r=some u/\
   wpAny (model P w) X.A (letOwnedTupleGo tg (.ref it) u) (λ_ s2=>∃x H',Inv X pins σ H' s2/\RelV x u/\J.G4 i H x H'/\tn (i+1) s2.heap/\∀b∈fp,H' b=none) E s1) E s
 done:∀(X:Cx),X.prog=P->X.w=w->X.K=K->X.calm=true->∀(i:Nat) (pins:List (Addr×Obj)) (s:Shared) (σ:St) (H:Hp) (E:Value->Shared->Prop),Inv X pins σ H s->(∀b∈fp,q5 X pins H b)->tn i s.heap->J.stop i H->
  wpAny (model P w) X.A (pyNext (.ref it)) (λr s1=>r=none/\Inv X pins σ H s1) E s
 self:∀(A:Around) (i:Nat) (s:Shared) (Q:Value->Shared->Prop) (E:Value->Shared->Prop),tn i s.heap->Q (.ref it) s->wpAny (model P w) A (pyIter (.ref it)) Q E s
abbrev TI:=St->Hp->(It->Hp->Prop)->Prop
def PIE(X:Cx)(pins:List (Addr×Obj))(σ:St)(tg:Expr)(R:It->Hp->Prop)(Yh:Value)(s2:Shared):Prop:=
 ∃(it:Addr) (fp:List Addr) (tn:Nat->Heap->Prop) (J:It) (H':Hp),Yh= .ref it/\Inv X pins σ H' s2/\Turn X.prog X.w X.K tg J fp it tn/\tn 0 s2.heap/\(∀b∈fp,q5 X pins H' b)/\R J H'
def PI(X:Cx)(tg iter:Expr)(wi:TI):Prop:=
 ∀(pins:List (Addr×Obj)) (s:Shared) (σ:St) (H:Hp) (R:It->Hp->Prop),Inv X pins σ H s->wi σ H R->
  wpAny (model X.prog X.w) X.A (eval iter X.env) (λv s1=>wpAny (model X.prog X.w) X.A (pyIter v) (PIE X pins σ tg R) X.xe s1) X.xe s
theorem zu{o:Obj}{n:String}{vs:Array Value}{Q:Unit->Shared->Prop}(ho:s.heap.get? it=some o)(hc:o.cls= .type n)(hd:o.data= .fields vs)
  (hn:["enumerate","zip","dict_itemiterator","dict_reverseitemiterator","odict_iterator","itertools.zip_longest","itertools.pairwise"].contains n=false) (hQ:Q Unit.unit s):wpAny M A (letOwnedTupleGo tg (.ref it) u) Q E s:=by
 unfold letOwnedTupleGo
 cases tg<;>first
  | exact wpAny_pure hQ
  |(cases u<;>first
    | exact wpAny_pure hQ
    |(refine wpAny_bind (wpAny_load ho ?_)
      rw[hc,hd]
      show wpAny M A (if (["enumerate","zip","dict_itemiterator","dict_reverseitemiterator","odict_iterator","itertools.zip_longest","itertools.pairwise"].contains n&&vs[0]? ==some (rawInt _))=true then _ else _) Q E s
      rw[if_neg (by intro h;rw[hn,Bool.false_and]at h;cases h)]
      exact wpAny_pure hQ))
noncomputable def Sb(K:c6)(a:Addr):It:=
 ⟨λi H=>∃xs x,bu K H a xs/\xs[i]? =some x,λi H x H'=>H'=H/\∀xs,bu K H a xs->xs[i]? =some x,λi H=>∃xs,bu K H a xs/\(xs:)<=i⟩
noncomputable def Yi(K:c6)(a:Addr):It:=
 ⟨λi H=>∃xs x,dH K H a xs/\xs[i]? =some x,λi H x H'=>H'=H/\∀xs,dH K H a xs->xs[i]? =some x,λi H=>∃xs,dH K H a xs/\(xs:)<=i⟩
noncomputable def N8(lo:Int)(n:Nat):It:=⟨λi _=>i<n,λi H x H'=>H'=H/\x= .int (lo+i),λi _=>n<=i⟩
theorem ER{P:Program}{w:World}(a it:Addr):Turn P w K tg (Sb K a) [it] it (λi h=>h.IsListIter it a i) where
 mem:=by simp
 obj:=λi h st b hb=>by
  have e:b=it:=by simpa using hb
  subst e
  obtain ⟨o,e,c,d⟩:=st
  walk_at"S"
 keep:=λi h h' st k=>st.at λo e=>k it (by simp) o e
 item:=by
  walk_at"b"
  subst hP hw hK
  obtain ⟨xs,x,hq,hx⟩:=hg
  obtain ⟨aN,rv,p,hz⟩:=I.list hq
  obtain ⟨u,hu,ru⟩:=rv.get hx
  walk_at"d"
  refine wpAny_pyNext_list_item st p.isList (x:=u) (by simpa using hu) λh' cK sb=>?_
  walk_at"R"
  obtain ⟨o,e,c,d⟩:=id cK
  exact ⟨u,rfl,zu (s:={ s with heap:=h' }) e c d ∅ ⟨x,H,I1,ru,⟨rfl,λys hy=>by rw[I.zr hy hq];exact hx⟩,cK,λb hb=>(hf b hb).1⟩⟩
 done:=by
  walk_at"b"
  subst hP hw hK
  obtain ⟨xs,hq,hx⟩:=hg
  obtain ⟨aN,rv,p,hz⟩:=I.list hq
  walk_at"d"
  have hl:=(rv:)
  exact wpAny_pyNext_list_end (I.ok.hd hc) st p.isList (by simp;lia) λh' eb=>⟨rfl,I.turned (t':=s.toks) (λb o hb e=>eb b o hb e) f0 f1 f3 f4 f5⟩
 self:=λ_ _ _ _ _ st h=>wpAny_pyIter_listiter st h
theorem Bl{P:Program}{w:World}(a it:Addr):Turn P w K tg (Yi K a) [it] it (λi h=>h.IsTupleIter it a i) where
 mem:=by simp
 obj:=λi h st b hb=>by
  have e:b=it:=by simpa using hb
  subst e
  obtain ⟨o,e,c,d⟩:=st
  walk_at"S"
 keep:=λi h h' st k=>st.at λo e=>k it (by simp) o e
 item:=by
  walk_at"b"
  subst hP hw hK
  obtain ⟨xs,x,hq,hx⟩:=hg
  obtain ⟨aN,rv,p,hz⟩:=I.tuple hq
  obtain ⟨u,hu,ru⟩:=rv.get hx
  walk_at"d"
  refine wpAny_pyNext_tuple_item st (show s.heap.IsTuple a aN.toArray from p) (x:=u) (by simpa using hu) λh' cK sb=>?_
  walk_at"R"
  obtain ⟨o,e,c,d⟩:=id cK
  exact ⟨u,rfl,zu (s:={ s with heap:=h' }) e c d ∅ ⟨x,H,I1,ru,⟨rfl,λys hy=>by rw[I.vX hy hq];exact hx⟩,cK,λb hb=>(hf b hb).1⟩⟩
 done:=by
  walk_at"b"
  subst hP hw hK
  obtain ⟨xs,hq,hx⟩:=hg
  obtain ⟨aN,rv,p,hz⟩:=I.tuple hq
  walk_at"d"
  have hl:=(rv:)
  exact wpAny_pyNext_tuple_end (I.ok.hd hc) st (show s.heap.IsTuple a aN.toArray from p) (by simp;lia) λh' eb=>⟨rfl,I.turned (t':=s.toks) (λb o hb e=>eb b o hb e) f0 f1 f3 f4 f5⟩
 self:=λ_ _ _ _ _ st h=>wpAny_pyIter_tupleiter st h
theorem Bm{P:Program}{w:World}(it:Addr)(lo:Int)(n:Nat):Turn P w K tg (N8 lo n) [it] it (λi h=>IsRangeIter h it (lo+(i:Nat)*1) ((n:Int) - (i:Nat)) 1) where
 mem:=by simp
 obj:=λi h st b hb=>by
  have e:b=it:=by simpa using hb
  subst e
  exact ⟨_,st,λv z=>by
   have z':Data.fields _=Data.cell v:=z
   cases z'⟩
 keep:=λi h h' st k=>k it (by simp) _ st
 item:=by
  walk_at"b"
  subst hP hw hK
  walk_at"d"
  have W:=Walks.range (prog:=X.prog) (w:=X.w) (I.ok.hd hc) it lo 1 n
  refine W.item i s _ _ hg st λv h' tk hv cK kk=>?_
  obtain ⟨t,rfl⟩:=hv
  walk_at"N"
  refine ⟨_,rfl,zu (s:={ s with heap:=h',toks:=tk }) (n:="range_iterator") cK rfl rfl ∅ ⟨.int (lo+i),H,I1,⟨t,?_⟩,⟨rfl,rfl⟩,cK,λb hb=>(hf b hb).1⟩⟩
  rw[Int.mul_one]
 done:=by
  walk_at"b"
  subst hP hw hK
  walk_at"d"
  exact wpAny_pyNext_range_end (I.ok.hd hc) st (by have:n<=i:=hg;lia) λh' eb=>⟨rfl,I.turned (t':=s.toks) (λb o hb e=>eb b o hb e) f0 f1 f3 f4 f5⟩
 self:=λ_ _ _ _ _ st h=>wpAny_pyIter_rangeiter st h
variable{l:Expr}{p pos:Pos}{fp:List Addr}{body:List Stmt}{tb:TS}
section
variable{X:Cx}{tg:Expr}
def N9(K:c6)(tl:TE):TI:=λσ H R=>tl σ H λx H1=>∃a,x= .ref a/\(∃xs,bu K H1 a xs)/\R (Sb K a) H1
def UC(K:c6)(tl:TE):TI:=λσ H R=>tl σ H λx H1=>∃a,x= .ref a/\(∃xs,dH K H1 a xs)/\R (Yi K a) H1
theorem LI{tl:TE}(hl:PE X l tl):PI X tg l (N9 X.K tl):=by
 walk_at"T"
 walk_at"P"
 obtain ⟨a,e,⟨xs,hq⟩,q⟩:=q1
 subst e
 cases r1
 obtain ⟨aN,rv,p,hz⟩:=I1.list hq
 refine wpAny_pyIter_list p.isList ?_
 refine ⟨s1.heap.objs.size,[s1.heap.objs.size],_,_,H1,rfl,I1.kept (t':=s1.toks) λb o e=>Qac _ e,ER a _,⟨_,Qaq _ rfl,rfl,rfl⟩,λb hb=>?_,q⟩
 have e:b=s1.heap.objs.size:=by simpa using hb
 subst e
 walk_at"F"
theorem Pu{tl:TE}(hl:PE X l tl):PI X tg l (UC X.K tl):=by
 walk_at"T"
 walk_at"P"
 obtain ⟨a,e,⟨xs,hq⟩,q⟩:=q1
 subst e
 cases r1
 obtain ⟨aN,rv,p,hz⟩:=I1.tuple hq
 refine wpAny_pyIter_tuple (show s1.heap.IsTuple a aN.toArray from p) ?_
 refine ⟨s1.heap.objs.size,[s1.heap.objs.size],_,_,H1,rfl,I1.kept (t':=s1.toks) λb o e=>Qac _ e,Bl a _,⟨_,Qaq _ rfl,rfl,rfl⟩,λb hb=>?_,q⟩
 have e:b=s1.heap.objs.size:=by simpa using hb
 subst e
 walk_at"F"
theorem zw{R:It->Hp->Prop}{lo hi:Int}{t u v:Tok}{tk:Nat}(I:Inv X pins σ H s)(h1: -(2 ^ 62)<=lo)(h2:lo<2 ^ 62)(h3: -(2 ^ 62)<=hi)(h4:hi<2 ^ 62)
  (q:R (N8 lo (hi - lo).toNat) H):wpAny (model X.prog X.w) X.A (pyIter (.ref s.heap.objs.size)) (PIE X pins σ tg R) E { s with heap:=s.heap.push { cls:= .type "range",data:= .fields #[.int lo t,.int hi u,.int 1 v] },toks:=tk }:=by
 refine wpAny_pyIter_range (IsRange.new ..) (small_one h1 h2 h3 h4) ?_
 have I1:Inv X pins σ H { s with heap:=s.heap.push { cls:= .type "range",data:= .fields #[.int lo t,.int hi u,.int 1 v] },toks:=tk }:=I.kept λb o e=>Qac _ e
 refine ⟨(s.heap.push { cls:= .type "range",data:= .fields #[.int lo t,.int hi u,.int 1 v] }).objs.size,[(s.heap.push { cls:= .type "range",data:= .fields #[.int lo t,.int hi u,.int 1 v] }).objs.size],_,_,H,rfl,
  I1.kept (t':=tk) λb o e=>Qac _ e,Bm _ lo (hi - lo).toNat,?_,λb hb=>?_,q⟩
 ·have e1:lo+((0:Nat):Int)*1=lo:=by simp
  have e2:(((hi - lo).toNat:Nat):Int) - ((0:Nat):Int)=Builtin.Range.rangeSize lo hi 1:=by rw[rangeSize_one];split<;>lia
  show IsRangeIter _ _ (lo+((0:Nat):Int)*1) ((((hi - lo).toNat:Nat):Int) - ((0:Nat):Int)) 1
  rw[e1,e2]
  exact Qaq _ rfl
 ·have e:b=(s.heap.push { cls:= .type "range",data:= .fields #[.int lo t,.int hi u,.int 1 v] }).objs.size:=by simpa using hb
  subst e
  walk_at"F"
def UD(ta:TA):TI:=λσ H R=>ta σ H λvs H1=>∃j:Int,vs=[.int j]/\ -(2 ^ 62)<=j/\j<2 ^ 62/\R (N8 0 j.toNat) H1
def UE(ta:TA):TI:=λσ H R=>ta σ H λvs H1=>∃i j:Int,vs=[.int i,.int j]/\(-(2 ^ 62)<=i/\i<2 ^ 62/\ -(2 ^ 62)<=j/\j<2 ^ 62)/\R (N8 i (j - i).toNat) H1
theorem iK{a:Expr}{ta:TA}(hg:Gl X "range")(hm:X.mg "range"=none)(ha:PA X [a] ta)(hs:starEach [a] X.env=[(false,eval a X.env)]:=by rfl):PI X tg (.Call (.Name "range" p) [a] [] pos) (UD ta):=by
 walk_at"T"
 refine Call_ (il I hg hm boot_range (Qck (cE (ha pos pins s σ H _ I h) λus s1 ⟨vs,H1,I1,r1,q1⟩=>?_) hs rfl))
 obtain ⟨j,e,q1,q2,q⟩:=q1
 subst e
 cases r1 with
 | cons r rr=>
  cases rr
  obtain ⟨t,rfl⟩:=r
  exact call_range_1 (zw I1 () () q1 q2 (by simpa using q))
theorem kZ{a b:Expr}{ta:TA}(hg:Gl X "range")(hm:X.mg "range"=none)(ha:PA X [a,b] ta)(hs:starEach [a,b] X.env=[(false,eval a X.env),(false,eval b X.env)]:=by rfl)(UG:starEach [b] X.env=[(false,eval b X.env)]:=by rfl):
  PI X tg (.Call (.Name "range" p) [a,b] [] pos) (UE ta):=by
 walk_at"T"
 refine Call_ (il I hg hm boot_range (Qck (cE (ha pos pins s σ H _ I h) λus s1 ⟨vs,H1,I1,r1,q1⟩=>?_) (by rw[hs,UG]) (by rw[UG];rfl)))
 obtain ⟨i,j,e,⟨q1,q2,q3,q4⟩,q⟩:=q1
 subst e
 cases r1 with
 | cons r rr=>
  cases rr with
  | cons r' rr=>
   cases rr
   obtain ⟨t,rfl⟩:=r
   obtain ⟨t',rfl⟩:=r'
   exact call_range_2 (zw I1 q1 q2 q3 q4 q)
def Yj(wi:TI)(g:TG)(tb:TS):TS:=λD σ H=>wi σ H λJ H1=>∃W:Nat->Nat->St->Hp->Prop,(∃m,W 0 m σ H1)/\∀i m σ H,W i m σ H->(J.stop i H/\D.nx σ H)\/(J.go i H/\∃N:St->Hp->Prop,(∀σ' H',N σ' H'->∃m',m'<m/\W (i+1) m' σ' H')/\∀x H',J.G4 i H x H'->g x σ H' λσ2 H2=>tb { D with nx:=N,ct:=N,bk:=D.nx } σ2 H2)
noncomputable def sN(fp:List Addr)(h:Heap):List (Addr×Obj):=fp.filterMap λb=>(h.get? b).map λo=>(b,o)
theorem jh{o:Obj}(hb:b∈fp)(e:h.get? b=some o):(b,o)∈sN fp h:=List.mem_filterMap.mpr ⟨b,hb,by rw[e];rfl⟩
theorem ES{p:Addr×Obj}(hp:p∈sN fp h):p.1∈fp/\h.get? p.1=some p.2:=by
 obtain ⟨b,hb,e⟩:=List.mem_filterMap.mp hp
 cases q:h.get? b with
 | none=>rw[q]at e;cases e
 | some o=>
  rw[q]at e
  have e':(b,o)=p:=Qaz e
  subst e'
  exact ⟨hb,q⟩
theorem Inv.pinned(I:Inv X pins σ H s)(hf:∀b∈fp,q5 X pins H b)(ho:∀b∈fp,∃o,s.heap.get? b=some o/\∀v,o.data≠ .cell v):Inv X (pins++sN fp s.heap) σ H s:=
 I.gC λp hp=>(Qai.mp hp).elim (λz=>I.pin p (Qal _ z)) λz=>by
  obtain ⟨hb,e⟩:=ES z
  obtain ⟨f0,f1,f2,_⟩:=hf p.1 hb
  obtain ⟨o,e',d⟩:=ho p.1 hb
  rw[e]at e';cases e'
  exact ⟨e,f0,f1,f2,d⟩
theorem Inv.jX{pl:List (Addr×Obj)}(I:Inv X (pins++pl) σ H s):Inv X pins σ H s:=I.gC λp hp=>I.pin p (Qal _ (Qbj _ hp))
theorem cF{iter:Expr}{wi:TI}{g:TG}(hp:PassesOwn (model X.prog X.w) X.A X.env X.xe)(hc:X.calm=true)(hi:PI X tg iter wi)(hg:PG X tg g)(hb:zf X body tb)
  (hs:∀x,foldedSetIterable iter X.env x=pure x:=by intro _;rfl):PS X (.For tg iter body [] pos) (Yj wi g tb):=by
 walk_at"s"
 refine wpAny_For (cE (hi pins s σ H _ I h) λv s1 h1=>cE h1 λYh s2 h2=>?_) hs
 obtain ⟨it,fp,tn,J,H2,e,I2,T,mQ,f2,W,⟨m0,w0⟩,turn⟩:=h2
 subst e
 -- Yk stays true of N_ Pw objects through N_ loop
 have Px:∀{H':Hp},(∀b∈fp,H' b=none)->∀b∈fp,q5 X pins H' b:=λhn b hb=>⟨hn b hb,(f2 b hb).2⟩
 refine codeAny_forLoop_any (λn s'=>∃i σ' H',Inv X pins σ' H' s'/\tn i s'.heap/\(∀b∈fp,H' b=none)/\W i n σ' H') ?_ m0 ⟨0,σ,H2,I2,mQ,λb hb=>(f2 b hb).1,w0⟩
 rintro n s3 ⟨i,σ3,H3,I3,xv,UH,w3⟩
 rcases turn i n σ3 H3 w3 with ⟨stop,qn⟩ | ⟨go,N,hN,step⟩
 ·refine wpAny_passesOwn hp (cE (T.done X rfl rfl rfl hc i pins s3 σ3 H3 X.xe I3 (Px UH) xv stop) λr s4 ⟨hr,I4⟩=>?_)
  subst hr
  exact wpAny_execs_nil ⟨σ3,H3,I4,qn⟩
 ·refine wpAny_passesOwn hp (cE (T.item X rfl rfl rfl hc i pins s3 σ3 H3 X.xe I3 (Px UH) xv go) λr s4 ⟨u,hr,h4⟩=>?_)
  subst hr
  refine wpAny_passesOwn hp (cE h4 λ_ s5 ⟨x,H5,I5,r5,y5,GG,Yl⟩=>?_)
  have Ym:=I5.pinned (Px Yl) (T.obj _ _ GG)
  refine wpAny_passesOwn hp (cE (hg _ s5 σ3 H5 x u _ Ym r5 (step x H5 y5)) λ_ s6 ⟨σ6,H6,I6,q6⟩=>?_)
  refine wpAny_passesOwn hp (cE (hb _ s6 σ6 H6 _ I6 q6) λf s7 q7=>?_)
  have again:∀{σ7:St} {H7:Hp},Inv X (pins++sN fp s5.heap) σ7 H7 s7->N σ7 H7->∃m,m<n/\∃i σ' H',Inv X pins σ' H' s7/\tn i s7.heap/\(∀b∈fp,H' b=none)/\W i m σ' H':=λ{σ7 H7} I7 n7=>by
   obtain ⟨m',hm,w7⟩:=hN σ7 H7 n7
   refine ⟨m',hm,i+1,σ7,H7,I7.jX,T.keep _ _ _ GG λb hb o e=>(I7.pin (b,o) (Qal _ (Qal _ (jh hb e)))).1,λb hb=>?_,w7⟩
   obtain ⟨o,e,d⟩:=T.obj _ _ GG b hb
   exact (I7.pin (b,o) (Qal _ (Qal _ (jh hb e)))).2.1
  cases f with
  | next=>obtain ⟨σ7,H7,I7,n7⟩:=q7;exact again I7 n7
  | cont=>obtain ⟨σ7,H7,I7,n7⟩:=q7;exact again I7 n7
  | brk=>obtain ⟨σ7,H7,I7,q7⟩:=q7;exact ⟨σ7,H7,I7.jX,q7⟩
  | ret v=>obtain ⟨x7,σ7,H7,I7,r7,q7⟩:=q7;exact ⟨x7,σ7,H7,I7.jX,r7,q7⟩
end
theorem iL{g:TG}(Pv:Nat->St->Hp->Prop)(h0:Pv 0 σ H)(hl:∀i σ H,i<=(xs:)->Pv i σ H->bu K H a xs)
  (hs:∀i x σ H,xs[i]? =some x->Pv i σ H->g x σ H λσ2 H2=>tb { D with nx:=Pv (i+1),ct:=Pv (i+1),bk:=D.nx } σ2 H2) (hd:∀σ H,Pv (xs:) σ H->D.nx σ H):
  ∃W:Nat->Nat->St->Hp->Prop,(∃m,W 0 m σ H)/\∀i m σ H,W i m σ H->
   ((Sb K a).stop i H/\D.nx σ H)\/((Sb K a).go i H/\∃N:St->Hp->Prop,(∀σ' H',N σ' H'->∃m',m'<m/\W (i+1) m' σ' H')/\∀x H',(Sb K a).G4 i H x H'->g x σ H' λσ2 H2=>tb { D with nx:=N,ct:=N,bk:=D.nx } σ2 H2):=by
 walk_at"j"
 rintro i m σ H ⟨rfl,hi,p⟩
 have q:=hl i σ H hi p
 by_cases dZ:i<(xs:)
 ·refine .inr ⟨⟨xs,xs[i],q,by simp[dZ]⟩,Pv (i+1),λσ' H' p'=>⟨(xs:) - (i+1),(),rfl,dZ,p'⟩,λx H' y=>?_⟩
  obtain ⟨e,y⟩:=y
  subst e
  exact hs i x σ _ (y xs q) p
 ·have e:i=(xs:):=by lia
  subst e
  exact .inl ⟨⟨xs,q,Qaa _⟩,hd σ H p⟩
theorem eY{lo:Int}{g:TG}(Pv:Nat->St->Hp->Prop)(h0:Pv 0 σ H)
  (hs:∀i σ H,i<n->Pv i σ H->g (.int (lo+i)) σ H λσ2 H2=>tb { D with nx:=Pv (i+1),ct:=Pv (i+1),bk:=D.nx } σ2 H2) (hd:∀σ H,Pv n σ H->D.nx σ H):
  ∃W:Nat->Nat->St->Hp->Prop,(∃m,W 0 m σ H)/\∀i m σ H,W i m σ H->
   ((N8 lo n).stop i H/\D.nx σ H)\/((N8 lo n).go i H/\∃N:St->Hp->Prop,(∀σ' H',N σ' H'->∃m',m'<m/\W (i+1) m' σ' H')/\∀x H',(N8 lo n).G4 i H x H'->g x σ H' λσ2 H2=>tb { D with nx:=N,ct:=N,bk:=D.nx } σ2 H2):=by
 refine ⟨λi m σ H=>m=n - i/\i<=n/\Pv i σ H,⟨n,by simp,Qat _,h0⟩,?_⟩
 rintro i m σ H ⟨rfl,hi,p⟩
 by_cases dZ:i<n
 ·refine .inr ⟨dZ,Pv (i+1),λσ' H' p'=>⟨n - (i+1),(),rfl,dZ,p'⟩,λx H' y=>?_⟩
  obtain ⟨e,y⟩:=y
  subst e y
  exact hs i σ _ dZ p
 ·have e:i=n:=by lia
  subst e
  exact .inl ⟨Qaa _,hd σ H p⟩
abbrev R2:=V->V->Hp->VK->Prop
def iM(X:Cx)(f:Value->Value->Sem Value)(r:R2):Prop:=
 ∀(pins:List (Addr×Obj)) (s:Shared) (σ:St) (H:Hp) (x y:V) (v u:Value) (Q:VK),Inv X pins σ H s->RelV x v->RelV y u->r x y H Q->
  wpAny (model X.prog X.w) X.A (f v u) (EP X pins σ Q) X.xe s
def Yn(X:Cx)(f:Value->Sem Value)(r:V->Hp->VK->Prop):Prop:=
 ∀(pins:List (Addr×Obj)) (s:Shared) (σ:St) (H:Hp) (x:V) (v:Value) (Q:VK),Inv X pins σ H s->RelV x v->r x H Q->
  wpAny (model X.prog X.w) X.A (f v) (EP X pins σ Q) X.xe s
def eL(X:Cx)(f:Value)(r:List V->Hp->VK->Prop):Prop:=
 ∀(pins:List (Addr×Obj)) (s:Shared) (σ:St) (H:Hp) (xs:List V) (us:List Value) (Q:VK),Inv X pins σ H s->Vals xs us->r xs H Q->
  wpAny (model X.prog X.w) X.A (call f us) (EP X pins σ Q) X.xe s
def Yo(X:Cx)(r:V->Hp->(Bool->Hp->Prop)->Prop):Prop:=
 ∀(pins:List (Addr×Obj)) (s:Shared) (σ:St) (H:Hp) (x:V) (v:Value) (Q:Bool->Hp->Prop),Inv X pins σ H s->RelV x v->r x H Q->
  wpAny (model X.prog X.w) X.A (truthy v) (TP X pins σ Q) X.xe s
def Xd(r:R2)(ta tb:TE):TE:=λσ H Q=>ta σ H λx H1=>tb σ H1 λy H2=>r x y H2 Q
def tUn(r:V->Hp->VK->Prop)(ta:TE):TE:=λσ H Q=>ta σ H λx H1=>r x H1 Q
def rI(C:Int->Int->Prop)(g:Int->Int->V):R2:=λx y H Q=>I2 x y H λi j H=>C i j/\Q (g i j) H
def Lg(g:Int->Int->V):R2:=λx y H Q=>I2 x y H λi j H=>Q (g i j) H
def rU(g:Int->V):V->Hp->VK->Prop:=λx H Q=>∃i,x= .int i/\Q (g i) H
variable{g:Int->Int->Int}{r:R2}{f:Value->Value->Sem Value}
section
variable{X:Cx}{a b c:Expr}{ta tb tc:TE}{pos:Pos}
theorem Py(ha:PE X a ta)(hb:PE X b tb){R:V->V->Hp->Prop}(I:Inv X pins σ H s)
  (h:ta σ H λx H1=>tb σ H1 λy H2=>R x y H2) {Q:Value->Shared->Prop} {f:Value->Value->Sem Value}
  (hf:∀v u s2 x y H2,Inv X pins σ H2 s2->RelV x v->RelV y u->R x y H2->wpAny (model X.prog X.w) X.A (f v u) Q X.xe s2):
  wpAny (model X.prog X.w) X.A (eval a X.env) (λv s₁=>wpAny (model X.prog X.w) X.A (eval b X.env) (λu s₂=>wpAny (model X.prog X.w) X.A (f v u) Q X.xe s₂) X.xe s₁) X.xe s:=by
 refine cE (ha pins s σ H _ I h) λv s1 ⟨x,H1,I1,r1,q1⟩=>?_
 refine cE (hb pins s1 σ H1 _ I1 q1) λu s2 ⟨y,H2,I2,r2,q2⟩=>?_
 exact hf v u s2 x y H2 I2 r1 r2 q2
theorem aF{op:Operator}(ho:iM X (binaryOp op) r)(ha:PE X a ta)(hb:PE X b tb):PE X (.BinOp a op b pos) (Xd r ta tb):=by
 walk_at"e"
 exact wpAny_BinOp (Py ha hb I h λv u s2 x y H2 I2 rx ry q=>ho pins s2 σ H2 x y v u Q I2 rx ry q)
theorem vZ{op:UnaryOp}{r:V->Hp->VK->Prop}(ho:Yn X (unaryOp op) r)(ha:PE X a ta):PE X (.UnaryOp op a pos) (tUn r ta):=by
 walk_at"e"
 exact UnaryOp_ (cE (ha pins s σ H _ I h) λv s1 ⟨x,H1,I1,r1,q1⟩=>ho pins s1 σ H1 x v Q I1 r1 q1)
theorem Xe{C:Int->Int->Prop}
  (rule:∀(i j:Int) (t u:Tok) (s:Shared) (Q:Value->Shared->Prop) (E:Value->Shared->Prop),C i j->Q (.int (g i j) s.toks) { s with toks:=s.toks+1 }->wpAny (model X.prog X.w) X.A (f (.int i t) (.int j u)) Q E s):
  iM X f (rI C λi j=> .int (g i j)):=by
 walk_at"a"
 obtain ⟨i,j,rfl,rfl,hc,q⟩:=h
 walk_at"f"
 walk_at"x"
 exact rule i j t t' s _ _ hc ⟨.int (g i j),H,I.tok _,⟨_,rfl⟩,q⟩
theorem UI
  (rule:∀(i j:Int) (t u:Tok) (s:Shared) (Q:Value->Shared->Prop) (E:Value->Shared->Prop),Q (.int (g i j) s.toks) { s with toks:=s.toks+1 }->wpAny (model X.prog X.w) X.A (f (.int i t) (.int j u)) Q E s):
  iM X f (Lg λi j=> .int (g i j)):=by
 walk_at"a"
 obtain ⟨i,j,rfl,rfl,q⟩:=h
 walk_at"f"
 walk_at"x"
 exact rule i j t t' s _ _ ⟨.int (g i j),H,I.tok _,⟨_,rfl⟩,q⟩
theorem LJ{g:Int->Int->Bool}
  (rule:∀(i j:Int) (t u:Tok) (s:Shared) (Q:Value->Shared->Prop) (E:Value->Shared->Prop),Q (.bool (g i j)) s->wpAny (model X.prog X.w) X.A (f (.int i t) (.int j u)) Q E s):
  iM X f (Lg λi j=> .bl (g i j)):=by
 walk_at"a"
 obtain ⟨i,j,rfl,rfl,q⟩:=h
 walk_at"f"
 walk_at"x"
 exact rule i j t t' s _ _ ⟨.bl (g i j),H,I,rfl,q⟩
def Yp(i j:Int):Prop:=0<j/\j<1073741824
def Yq(i j:Int):Prop:=0<=j/\j<=1000000/\i.natAbs<2 ^ 64
def LK(i j:Int):Prop:=(-(2 ^ 64)<i/\i<2 ^ 64)\/(-(2 ^ 64)<j/\j<2 ^ 64)
theorem LK.ok{i j:Int}(h:LK i j):IntMulOk i j:=by
 rcases h with ⟨h1,h2⟩ | ⟨h1,h2⟩
 ·exact .of_left (intBits_le_64 h1 h2)
 ·exact .of_right (intBits_le_64 h1 h2)
theorem br:iM X (binaryOp .Add) (Lg λi j=> .int (i+j)):=UI λ_ _ _ _ _ _ _ q=>add_int q
theorem cq:iM X (binaryOp .Sub) (Lg λi j=> .int (i - j)):=UI λ_ _ _ _ _ _ _ q=>sub_int q
theorem mR:iM X (binaryOp .Mult) (rI LK λi j=> .int (i*j)):=Xe λ_ _ _ _ _ _ _ hc q=>mul_int q hc.ok
theorem gm:iM X (binaryOp .Mod) (rI (λ_ j=>0<j) λi j=> .int (i%j)):=Xe λi j _ _ _ _ _ hc q=>by
 have h1:(0:Int)<j:=hc
 exact mod_int' () (by rw[Int.fmod_eq_emod_of_nonneg i ()];exact q)
theorem G5:iM X (binaryOp .Pow) (rI Yq λi j=> .int (i ^ j.toNat)):=Xe λ_ _ _ _ _ _ _ hc q=>pow_int_small hc.1 hc.2.1 hc.2.2 q
theorem unI{f:Value->Sem Value}{g:Int->Int}
  (rule:∀(i:Int) (t:Tok) (s:Shared) (Q:Value->Shared->Prop) (E:Value->Shared->Prop),Q (.int (g i) s.toks) { s with toks:=s.toks+1 }->wpAny (model X.prog X.w) X.A (f (.int i t)) Q E s):
  Yn X f (rU λi=> .int (g i)):=by
 intro pins s σ H x v Q I rx h
 obtain ⟨i,rfl,q⟩:=h
 walk_at"f"
 exact rule i t s _ _ ⟨.int (g i),H,I.tok _,⟨_,rfl⟩,q⟩
theorem pH:Yn X (unaryOp .USub) (rU λi=> .int (-i)):=unI λ_ _ _ _ _ q=>neg_int q
end
noncomputable def UJ:V->V->Bool
 | .gk,.gk=>true | .gk,.int _=>true | .int _,.gk=>true | .gk,.bl _=>true | .bl _,.gk=>true | .gk,.str _=>true | .str _,.gk=>true
 | .int _,.int _=>true | .bl _,.bl _=>true | .str _,.str _=>true | .Dd _, .Dd _=>true
 | .int _,.str _=>true | .str _,.int _=>true | .bl _,.str _=>true | .str _,.bl _=>true
 | _,_=>false
def rEq:R2:=λx y H Q=>UJ x y=true/\Q (.bl (decide (x=y))) H
def rNe:R2:=λx y H Q=>UJ x y=true/\Q (.bl (!decide (x=y))) H
theorem Di{i j:Int}:decide (V.int i=V.int j)=(i==j):=by
 rw[Qdv]
 simp
theorem G6{i j:Bool}:decide (V.bl i=V.bl j)=(i==j):=by
 rw[Qdv]
 simp
theorem Dj{i j:Str}:decide (V.str i=V.str j)=(i==j):=by
 rw[Qdv]
 simp
theorem Dk{i j:Array UInt8}:decide (V.Dd i=V.Dd j)=(i.toList==j.toList):=by
 rw[Qdv]
 cases i
 cases j
 simp
section
variable{X:Cx}{a b c:Expr}{ta tb tc:TE}{pos:Pos}
theorem bH{Q:VK}{k k':Bool}(I:Inv X pins σ H s)(q:Q (.bl k) H)(e:k=k'):EP X pins σ Q (.bool k') s:=by
 subst e
 exact ⟨.bl k,H,I,rfl,q⟩
theorem Oa:iM X (compareOp .Eq) rEq:=by
 walk_at"a"
 obtain ⟨hs,q⟩:=h
 cases x with
 | gk=>
  cases rx
  cases y with
  | gk=>cases ry;exact PySem.EqNone.eq_none_none (bH I q (by simp))
  | bl j=>cases ry;exact PySem.EqNone.eq_none_bool (bH I q (by simp))
  | int j=>obtain ⟨t',rfl⟩:=ry;exact PySem.EqNone.eq_none_int (bH I q (by simp))
  | str j=>obtain ⟨t',rfl⟩:=ry;exact PySem.EqNone.eq_none_str (bH I q (by simp))
  | _=>exact absurd (show false=true from hs) Qax
 | bl i=>
  cases rx
  cases y with
  | gk=>cases ry;exact PySem.EqNone.eq_bool_none (bH I q (by simp))
  | bl j=>cases ry;exact eq_bool (bH I q G6)
  | str j=>obtain ⟨t',rfl⟩:=ry;exact PySem.EqMixed.eq_bool_str (bH I q (by simp))
  | _=>exact absurd (show false=true from hs) Qax
 | int i=>
  walk_at"f"
  cases y with
  | gk=>cases ry;exact PySem.EqNone.eq_int_none (bH I q (by simp))
  | int j=>obtain ⟨t',rfl⟩:=ry;exact eq_int (bH I q Di)
  | str j=>obtain ⟨t',rfl⟩:=ry;exact PySem.EqMixed.eq_int_str (bH I q (by simp))
  | _=>exact absurd (show false=true from hs) Qax
 | str i=>
  walk_at"f"
  cases y with
  | gk=>cases ry;exact PySem.EqNone.eq_str_none (bH I q (by simp))
  | bl j=>cases ry;exact PySem.EqMixed.eq_str_bool (bH I q (by simp))
  | int j=>obtain ⟨t',rfl⟩:=ry;exact PySem.EqMixed.eq_str_int (bH I q (by simp))
  | str j=>obtain ⟨t',rfl⟩:=ry;exact eq_str (bH I q Dj)
  | _=>exact absurd (show false=true from hs) Qax
 | Dd i=>
  walk_at"f"
  cases y with
  | Dd j=>obtain ⟨t',rfl⟩:=ry;exact PySem.W.eq_bytes (bH I q Dk)
  | _=>exact absurd (show false=true from hs) Qax
 | _=>cases y<;>exact absurd (show false=true from hs) Qax
theorem Ob:iM X (compareOp .NotEq) rNe:=by
 walk_at"a"
 obtain ⟨hs,q⟩:=h
 cases x with
 | gk=>
  cases rx
  cases y with
  | gk=>cases ry;exact PySem.EqNone.ne_none_none (bH I q (by simp))
  | bl j=>cases ry;exact PySem.EqNone.ne_none_bool (bH I q (by simp))
  | int j=>obtain ⟨t',rfl⟩:=ry;exact PySem.EqNone.ne_none_int (bH I q (by simp))
  | str j=>obtain ⟨t',rfl⟩:=ry;exact PySem.EqNone.ne_none_str (bH I q (by simp))
  | _=>exact absurd (show false=true from hs) Qax
 | bl i=>
  cases rx
  cases y with
  | gk=>cases ry;exact PySem.EqNone.ne_bool_none (bH I q (by simp))
  | bl j=>cases ry;exact ne_bool (bH I q (congrArg not G6))
  | str j=>obtain ⟨t',rfl⟩:=ry;exact PySem.EqMixed.ne_bool_str (bH I q (by simp))
  | _=>exact absurd (show false=true from hs) Qax
 | int i=>
  walk_at"f"
  cases y with
  | gk=>cases ry;exact PySem.EqNone.ne_int_none (bH I q (by simp))
  | int j=>obtain ⟨t',rfl⟩:=ry;exact ne_int (bH I q (congrArg not Di))
  | str j=>obtain ⟨t',rfl⟩:=ry;exact PySem.EqMixed.ne_int_str (bH I q (by simp))
  | _=>exact absurd (show false=true from hs) Qax
 | str i=>
  walk_at"f"
  cases y with
  | gk=>cases ry;exact PySem.EqNone.ne_str_none (bH I q (by simp))
  | bl j=>cases ry;exact PySem.EqMixed.ne_str_bool (bH I q (by simp))
  | int j=>obtain ⟨t',rfl⟩:=ry;exact PySem.EqMixed.ne_str_int (bH I q (by simp))
  | str j=>obtain ⟨t',rfl⟩:=ry;exact ne_str (bH I q (congrArg not Dj))
  | _=>exact absurd (show false=true from hs) Qax
 | Dd i=>
  walk_at"f"
  cases y with
  | Dd j=>obtain ⟨t',rfl⟩:=ry;exact PySem.W.ne_bytes (bH I q (congrArg not Dk))
  | _=>exact absurd (show false=true from hs) Qax
 | _=>cases y<;>exact absurd (show false=true from hs) Qax
theorem zx:iM X (compareOp .Lt) (Lg λi j=> .bl (decide (i<j))):=LJ λ_ _ _ _ _ _ _ q=>lt_int q
theorem UK:iM X (compareOp .LtE) (Lg λi j=> .bl (decide (i<=j))):=LJ λ_ _ _ _ _ _ _ q=>le_int q
theorem v5:iM X (compareOp .Gt) (Lg λi j=> .bl (decide (j<i))):=LJ λ_ _ _ _ _ _ _ q=>gt_int q
theorem G7:iM X (compareOp .GtE) (Lg λi j=> .bl (decide (j<=i))):=LJ λ_ _ _ _ _ _ _ q=>ge_int q
theorem ET:iM X (compareOp .Lt) (λx y H Q=>∃i j,x= .str i/\y= .str j/\Q (.bl (decide (i.cps.toList<j.cps.toList))) H):=by
 walk_at"a"
 obtain ⟨i,j,rfl,rfl,q⟩:=h
 walk_at"f"
 walk_at"x"
 exact lt_str (bH I q rfl)
theorem EU:iM X (compareOp .In) (λx y H Q=>∃i j,x= .str i/\y= .str j/\Q (.bl (!(Builtin.Str.occurrences j i 0 (j:) 1).isEmpty)) H):=by
 walk_at"a"
 obtain ⟨i,j,rfl,rfl,q⟩:=h
 walk_at"f"
 walk_at"x"
 exact in_str (bH I q rfl)
theorem aW(b:Expr)(h:op≠ .In:=by decide)(h2:op≠ .NotIn:=by decide):behindInMarks op b=false:=by
 have e1:(op==CmpOp.In)=false:=by cases op<;>first | rfl | exact absurd rfl h
 have e2:(op==CmpOp.NotIn)=false:=by cases op<;>first | rfl | exact absurd rfl h2
 cases b<;>simp[behindInMarks,e1,e2]
theorem de(ho:iM X (compareOp op) r)(ha:PE X a ta)(hb:PE X b tb)(hm:behindInMarks op b=false):PE X (.Compare a [op] [b] pos) (Xd r ta tb):=by
 walk_at"e"
 exact wpAny_Compare1 (Py ha hb I h λv u s2 x y H2 I2 rx ry q=>ho pins s2 σ H2 x y v u Q I2 rx ry q) hm
def Oc(t:TE):TT:=λσ H Q=>t σ H λx H'=>IB x H' Q
theorem aU(ho:iM X (compareOp op) r)(ha:PE X a ta)(hb:PE X b tb)(hm:behindInMarks op b=false):PT X (.Compare a [op] [b] pos) (Oc (Xd r ta tb)):=by
 walk_at"e"
 refine wpAny_isTrue_Compare1 (cE (ha pins s σ H _ I h) λv s1 ⟨x,H1,I1,r1,q1⟩=>cE (hb pins s1 σ H1 _ I1 q1) λu s2 ⟨y,H2,I2,r2,q2⟩=>
  cE (ho pins s2 σ H2 x y v u _ I2 r1 r2 q2) λc s3 ⟨z,H3,I3,r3,k,e,q3⟩=>?_) hm
 subst e
 cases r3
 exact wpAny_truthy_bool ⟨H3,I3,q3⟩
def Yr(K:c6)(x:V)(H:Hp)(k:Bool):Prop:=
 match x with
 | .gk=>k=false
 | .bl b=>k=b
 | .int i=>k=(i != 0)
 | .str y=>(y:)<=sizeLine/\k=(((y:):Int) != 0)
 | .Dd y=>y.size<=sizeLine/\k=((y.size:Int) != 0)
 | .ref p=>(∃xs,bu K H p xs/\k=!xs.isEmpty)\/(∃xs,dH K H p xs/\k=!xs.isEmpty)\/∃aJ,H p=some (.dK aJ)/\k=!aJ.isEmpty
 | _=>False
theorem Bn{κ:Type}{aJ:List (κ×V)}{vs:List (κ×Value)}(r:KV aJ vs):(!vs.isEmpty)=!aJ.isEmpty:=by
 cases r<;>rfl
theorem sO{aN:List Value}(r:Vals xs aN):(!aN.toArray.isEmpty)=!xs.isEmpty:=by
 cases r<;>simp
theorem gL:(sizeLine:Nat)<2 ^ 63:=by rw[sizeLine_eq];decide
theorem Pz:Yo X (λx H Q=>∃k,Yr X.K x H k/\Q k H):=by
 intro pins s σ H x v Q I rx h
 obtain ⟨k,e,q⟩:=h
 have hl:=gL
 have hs:sizeLine=16777216:=sizeLine_eq
 cases x with
 | gk=>
  cases rx
  have e':k=false:=e
  subst e'
  exact truthy_none ⟨H,I,q⟩
 | bl b=>
  cases rx
  have e':k=b:=e
  subst e'
  exact wpAny_truthy_bool ⟨H,I,q⟩
 | int i=>
  walk_at"f"
  have e':k=(i != 0):=e
  subst e'
  exact PySem.P.truthy_int ⟨H,I,q⟩
 | str y=>
  walk_at"f"
  obtain ⟨hy,e'⟩:(y:)<=sizeLine/\k=(((y:):Int) != 0):=e
  subst e'
  exact PySem.P.truthy_str () ⟨H,I.tok _,q⟩
 | Dd y=>
  walk_at"f"
  obtain ⟨hy,e'⟩:y.size<=sizeLine/\k=((y.size:Int) != 0):=e
  subst e'
  exact PySem.W.truthy_bytes () ⟨H,I.tok _,q⟩
 | ref p=>
  cases rx
  have e':(∃xs,bu X.K H p xs/\k=!xs.isEmpty)\/(∃xs,dH X.K H p xs/\k=!xs.isEmpty)\/∃aJ,H p=some (.dK aJ)/\k=!aJ.isEmpty:=e
  rcases e' with ⟨xs,hx,e'⟩ | ⟨xs,hx,e'⟩ | ⟨aJ,hx,e'⟩
  ·subst e'
   obtain ⟨aN,r,pl,hz⟩:=I.list hx
   have hlen:=(r:)
   exact wpAny_truthy_list pl.isList (by simp only[Qaj];lia) ⟨H,I.tok _,by rw[sO r];exact q⟩
  ·subst e'
   obtain ⟨aN,r,pl,hz⟩:=I.tuple hx
   have hlen:=(r:)
   exact truthy_tuple pl (by simp only[Qaj];lia) ⟨H,I.tok _,by rw[sO r];exact q⟩
  ·subst e'
   obtain ⟨hz,hS,vs,r,m⟩:(aJ:)<=sizeLine/\(p==sysModules)=false/\∃vs,KV aJ vs/\s.heap.DictOf (dc X.prog X.w) p vs:=I.bX p _ hx
   have hlen:(aJ:)=(vs:):=Paired.length r
   exact wpAny_truthy_dict hS m () ⟨H,I.tok _,by rw[Bn r];exact q⟩
 | _=>exact (show False from e).elim
theorem Bo:iM X (binaryOp .Add) (λx y H Q=>∃i j,x= .str i/\y= .str j/\(i:)+(j:)<=sizeLine/\Q (.str (i++j)) H):=by
 walk_at"a"
 obtain ⟨i,j,rfl,rfl,hz,q⟩:=h
 walk_at"f"
 walk_at"x"
 exact add_str (λt' tk=>⟨.str (i++j),H,I.tok _,⟨_,rfl⟩,q⟩) hz
theorem zy:iM X (inplaceOp .Add) (λx y H Q=>∃i j,x= .str i/\y= .str j/\(i:)+(j:)<=sizeLine/\Q (.str (i++j)) H):=by
 walk_at"a"
 obtain ⟨i,j,rfl,rfl,hz,q⟩:=h
 walk_at"f"
 walk_at"x"
 exact iadd_str (λt' tk=>⟨.str (i++j),H,I.tok _,⟨_,rfl⟩,q⟩) hz
theorem vals1{x:V}(r:Vals [x] us):∃u,us=[u]/\RelV x u:=by
 cases r with
 | cons r1 r2=>cases r2;exact ⟨_,rfl,r1⟩
theorem vals2{x:V}(r:Vals [x,y] us):∃u w',us=[u,w']/\RelV x u/\RelV y w':=by
 cases r with
 | cons r1 r2=>
  cases r2 with
  | cons r3 r4=>cases r4;exact ⟨_,_,rfl,r1,r3⟩
theorem v7(hc:X.calm=true):eL X (.builtin "max") (λxs H Q=>∃i j,xs=[.int i,.int j]/\Q (.int (if j>i then j else i)) H):=by
 walk_at"h"
 obtain ⟨i,j,rfl,q⟩:=h
 obtain ⟨u,w',rfl,⟨t,rfl⟩,⟨t',rfl⟩⟩:=vals2 r
 refine max_two_ints (I.ok.hd hc) λh' tk k=>⟨_,H,I.kept k,?_,q⟩
 by_cases hj:j>i
 ·rw[if_pos hj,if_pos hj];exact ⟨_,rfl⟩
 ·rw[if_neg hj,if_neg hj];exact ⟨_,rfl⟩
theorem pJ(hc:X.calm=true):eL X (.builtin "min") (λxs H Q=>∃i j,xs=[.int i,.int j]/\Q (.int (if j<i then j else i)) H):=by
 walk_at"h"
 obtain ⟨i,j,rfl,q⟩:=h
 obtain ⟨u,w',rfl,⟨t,rfl⟩,⟨t',rfl⟩⟩:=vals2 r
 refine min_two_ints (I.ok.hd hc) λh' tk k=>⟨_,H,I.kept k,?_,q⟩
 by_cases hj:j<i
 ·rw[if_pos hj,if_pos hj];exact ⟨_,rfl⟩
 ·rw[if_neg hj,if_neg hj];exact ⟨_,rfl⟩
theorem pL:eL X (.type "int") (λxs H Q=>(∃i,xs=[.int i]/\Q (.int i) H)\/∃k,xs=[.bl k]/\Q (.int (if k then 1 else 0)) H):=by
 walk_at"h"
 rcases h with ⟨i,rfl,q⟩ | ⟨k,rfl,q⟩
 ·obtain ⟨u,rfl,t,rfl⟩:=vals1 r
  exact call_int_int ⟨.int i,H,I,⟨_,rfl⟩,q⟩
 ·obtain ⟨u,rfl,r1⟩:=vals1 r
  cases r1
  exact call_int_bool ⟨.int (if k then 1 else 0),H,I.tok _,⟨_,rfl⟩,q⟩
theorem xx:eL X (.type "str") (λxs H Q=>∃i,xs=[.int i]/\i.natAbs.log2<1920/\Q (.str (toString i)) H):=by
 walk_at"h"
 obtain ⟨i,rfl,hz,q⟩:=h
 obtain ⟨u,rfl,t,rfl⟩:=vals1 r
 exact PySem.P.str_of_int hz ⟨.str _,H,I.tok _,⟨_,rfl⟩,q⟩
end
structure EV(h:Heap)(x dx C:Addr)(mA:Str->Option Value):Prop where
 obj:h.get? x=some (PySem.W.instObj C dx)
 ns:h.Ns1 dx mA
 ne:dx≠x
variable{dx:Addr}{mA:Str->Option Value}
theorem EW(n:h.Ns1 dx mA):∃od,h.get? dx=some od/\∀name,PySem.W.lookIn name od=some (mA name):=by
 obtain ⟨o,es,ep,ho,hd,hk,_,hm⟩:=n
 refine ⟨o,ho,λname=>?_⟩
 have e:=hm name
 unfold nsFind findBy at e
 rw[<-Array.find?_toList]at e
 unfold PySem.W.lookIn
 rw[hd]
 dsimp only
 split
 ·rename_i y q
  rw[q]at e
  exact congrArg some e
 ·rename_i q
  rw[q]at e
  have a:es.toList.any (·.refKey)=false:=by
   rw[Qf5]
   intro y hy
   obtain ⟨z,t,Bp⟩:=hk y (Array.mem_toList_iff.mp hy)
   simp[DictEntry.refKey,Bp]
  have a': ¬es.toList.any (·.refKey)=true:=by rw[a];exact Qax
  rw[if_neg a']
  exact congrArg some e
variable{C:Addr}
theorem EV.look{x:Addr}(I:EV h x dx C mA):∃od,PySem.W.InstAt h x (PySem.W.instObj C dx) C (some od)/\∀name,PySem.W.lookIn name od=some (mA name):=
 let ⟨od,ho,hl⟩:=EW I.ns
 ⟨od,⟨I.obj,rfl,rfl,ho⟩,hl⟩
variable{kw:List (Str×Value)}
section
variable{prog:Program}{w:World}{A:Around}{E:Value->Shared->Prop}{s:Shared}{K:c6}{x dx C f:Addr}{mA:Str->Option Value}{name:Str}{v:Value}
theorem get_map{expr:Bool}(X:K.In s.heap)(I:EV s.heap x dx C mA)(hg:PySem.W.plainGet K C name=true)(hh:PySem.W.hasDictIn K C=true)
  (ha:PySem.W.findIn K (.ref C) name=some none) (hv:mA name=some v) (Xf:PySem.W.handedIn v=true) (h:Q v { s with toks:=s.toks+1 }):
  wpAny (model prog w) A (getAttr (.ref x) name expr) Q E s:=by
 obtain ⟨od,J,hl⟩:=I.look
 exact PySem.W.get_value X J (PySem.W.plainGet_of hg).1 (PySem.W.findObj_own hh ha rfl (by rw[hl,hv])) Xf h
theorem LL{ns:List Str}{Q:Unit->Shared->Prop}(X:K.In s.heap)(I:EV s.heap x dx C mA)
  (hs:PySem.W.findIn K (.ref C) "__setattr__"=some (some (.builtin "object.__setattr__"))) (hp:PySem.W.plainOver K C=true) (ht:PySem.W.takerIn K C name=some none) (hh:PySem.W.hasDictIn K C=true)
  (hw:PySem.Within mA ns) (hsz:(ns:)<=sizeLine)
  (h:∀h',EV h' x dx C (λy=>if y=name then some v else mA y)->Heap.SameBut dx s.heap h'->Q Unit.unit { s with heap:=h',toks:=s.toks+2 }):
  wpAny (model prog w) A (setAttr (.ref x) name v) Q E s:=by
 obtain ⟨od,J,hl⟩:=I.look
 refine PySem.W.set_plain X J hs (PySem.W.osa_open (s:={ s with toks:=s.toks+1 }) (r:=none) X J hp ht λb=>?_)
 obtain ⟨cd,hc,X3⟩:=PySem.W.any_some hh
 have hx:s.heap.get? x=some ⟨.ref C,some dx,.plain, #[]⟩:=I.obj
 refine wpAny_bind (wpAny_pure (wpAny_bind (wpAny_bind (wpAny_loadPart hx (wpAny_bind (PySem.W.Looks.here (s:={ s with toks:=s.toks+1 }) (PySem.W.looks_clsIn X hc) ?_))))))
 rw[X3]
 refine wpAny_pure (a:=some dx) (wpAny_bind (wpAny_pure (wpAny_bind ?_)))
 refine wpAny_nsSet1 (s:={ s with toks:=s.toks+1 }) I.ns λh' ve UG=>?_
 obtain ⟨oD,esD,epD,hoD,hdD,hcD⟩:=ve.count (PySem.Within.cons name v hw)
 refine wpAny_bind (wpAny_lookBehind hoD (by rw[hdD];exact pastItsLine_dict (Qbb hcD (by rw[Qa4];lia))) ?_)
 exact wpAny_pure (h _ ⟨(UG.2 _ (Ne.symm I.ne)).trans I.obj,ve,I.ne⟩ UG)
theorem G8{R:Result->Shared->Prop}{vs:List Value}(X:K.In s.heap)(hm:PySem.W.makesIn K C=true)
  (hi:PySem.W.findIn K (.ref C) "__init__"=some (some (.ref f))) (hf:PySem.W.typeIn K (.ref f)=some (.type "function"))
  (h:codeAny (model prog w) (A.under (.builtin "type.__call__" ⟨.ref C::vs,kw⟩)) (.call (.ref f) ⟨.ref (s.heap.objs.size+1)::vs,kw⟩) (PySem.W.InitBack (s.heap.objs.size+1) R)
   { s with heap:=(s.heap.push PySem.W.emptyDict).push (PySem.W.instObj C s.heap.objs.size) }):
  codeAny (model prog w) A (.call (.ref C) ⟨vs,kw⟩) R s:=by
 obtain ⟨hh,g,d,t,os⟩:=s
 exact PySem.W.make_core (PySem.W.makes_of X hm) (PySem.W.looks_findIn X hi) (λself=>PySem.W.bind_fn X self hf) (.inl rfl) h
end
noncomputable def fj(f:Str)(v:V):List (Str×V)->List (Str×V)
 | []=>[(f,v)]
 |(g,x)::r=>if g=f then (g,v)::r else (g,x)::fj f v r
theorem aO(f g:Str)(v:V):∀fs:List (Str×V),(fj f v fs).lookup g=if g=f then some v else fs.lookup g
 | []=>by
  show List.lookup g [(f,v)]=_
  by_cases h:g=f
  ·have hb:(g==f)=true:=beq_iff_eq.mpr h
   simp only[List.lookup,hb,if_pos h]
  ·have hb:(g==f)=false:=beq_eq_false_iff_ne.mpr h
   simp only[List.lookup,hb,if_neg h]
 |(k,x)::r=>by
  have ih:=aO f g v r
  walk_at"y"
  by_cases hk:k=f
  ·rw[if_pos hk]
   by_cases h:g=k
   ·have hb:(g==k)=true:=beq_iff_eq.mpr h
    simp only[List.lookup,hb,if_pos (h.trans hk)]
   ·have hb:(g==k)=false:=beq_eq_false_iff_ne.mpr h
    simp only[List.lookup,hb,if_neg (λe:g=f=>h (e.trans hk.symm))]
  ·rw[if_neg hk]
   by_cases h:g=k
   ·have hb:(g==k)=true:=beq_iff_eq.mpr h
    simp only[List.lookup,hb,if_neg (λe:g=f=>hk (h.symm.trans e))]
   ·have hb:(g==k)=false:=beq_eq_false_iff_ne.mpr h
    simp only[List.lookup,hb]
    exact ih
theorem pM(f:Str)(v:V):∀fs:List (Str×V),f∈(fj f v fs).map (·.1)/\∀g,g∈fs.map (·.1)->g∈(fj f v fs).map (·.1)
 | []=>⟨by simp[fj],λg h=>by simp at h⟩
 |(k,x)::r=>by
  obtain ⟨i1,i2⟩:=pM f v r
  walk_at"y"
  by_cases hk:k=f
  ·rw[if_pos hk]
   subst hk
   exact ⟨by simp,λg h=>by simpa using h⟩
  ·rw[if_neg hk]
   refine ⟨?_,λg h=>?_⟩
   ·rw[Qa2]
    exact Sd _ i1
   ·rw[Qa2]at h ⊢
    rcases Qab.mp h with e | e
    ·exact Qab.mpr (.inl e)
    ·exact Sd _ (i2 g e)
theorem qK(f:Str)(v:V):∀fs:List (Str×V),(fj f v fs:)<=(fs:)+1
 | []=>by simp[fj]
 |(k,x)::r=>by
  have ih:=qK f v r
  walk_at"y"
  by_cases hk:k=f
  ·rw[if_pos hk,Qa4,Qa4];lia
  ·rw[if_neg hk,Qa4,Qa4];lia
theorem pj.some_of{o:Option Value}(r:pj (some v) o):∃u,o=some u/\RelV v u:=by
 cases o with
 | none=>exact (show False from r).elim
 | some u=>exact ⟨u,rfl,r⟩
theorem EX(r:RelV v u):PySem.W.handedIn u=true:=by
 cases v with
 | gk=>cases (show u=Value.none from r);rfl
 | bl b=>cases (show u=Value.bool b from r);rfl
 | int i=>obtain ⟨t,e⟩:=(show ∃t,u=Value.int i t from r);cases e;rfl
 | str x=>obtain ⟨t,e⟩:=(show ∃t,u=Value.str x t from r);cases e;rfl
 | Dd b=>obtain ⟨t,e⟩:=(show ∃t,u=Value.bytes b t from r);cases e;rfl
 | W7 b=>obtain ⟨t,e⟩:=(show ∃t,u=Value.float b t from r);cases e;rfl
 | ref a=>cases (show u=Value.ref a from r);rfl
 | ty n=>cases (show u=Value.type n from r);rfl
section
variable{P:Program}{w:World}{H H':Hp}{h h':Heap}{a C dx:Addr}{fs fs':List (Str×V)}
theorem Dm(bX:mP P w H h)(e:H a=some (.ins C dx fs)):∃mA,EV h a dx C mA/\(∀f,pj (fs.lookup f) (mA f))/\PySem.Within mA (fs.map (·.1))/\(fs:)<=1000/\H dx=some (.own a):=by
 obtain ⟨d,z,ne,ob,mA,n,r,q⟩:=(show cP P w H h a (.ins C dx fs) from bX a _ e)
 exact ⟨mA,⟨ob,n,ne⟩,r,q,z,d⟩
end
structure Oe(K:c6)(C:Addr):Prop where
 pg:PySem.W.plainGet K C Str.empty=true
 hd:PySem.W.hasDictIn K C=true
 po:PySem.W.plainOver K C=true
 sa:PySem.W.findIn K (.ref C) "__setattr__"=some (some (.builtin "object.__setattr__"))
theorem Oe.get(c:Oe K C)(f:Str):PySem.W.plainGet K C f=true:=c.pg
def fk(K:c6)(C:Addr)(f:Str):Prop:=PySem.W.findIn K (.ref C) f=some none
theorem fk.UL{f:Str}(n:fk K C f):PySem.W.takerIn K C f=some none:=by
 unfold PySem.W.takerIn
 rw[show PySem.W.findIn K (.ref C) f=some none from n]
 rfl
section
variable{X:Cx}{pins:List (Addr×Obj)}{σ:St}{H:Hp}{s:Shared}{a C dx:Addr}{fs:List (Str×V)}{f:Str}{v:V}{A:Around}{E:Value->Shared->Prop}
theorem Bq{b:Bool}(I:Inv X pins σ H s)(e:H a=some (.ins C dx fs))(c:Oe X.K C)(n:fk X.K C f)(l:fs.lookup f=some v)
  (h:∀u s',Inv X pins σ H s'->RelV v u->Q u s'):wpAny (model X.prog X.w) A (getAttr (.ref a) f b) Q E s:=by
 obtain ⟨mA,O,r,_,_,_⟩:=Dm I.bX e
 obtain ⟨u,hu,ru⟩:=pj.some_of (v:=v) (o:=mA f) (by rw[<-l];exact r f)
 exact get_map I.Bg O (c.get f) c.hd n hu (EX ru) (h u _ (I.tok _) ru)
theorem Br{Q:Unit->Shared->Prop}(I:Inv X pins σ H s)(e:H a=some (.ins C dx fs))(c:Oe X.K C)(n:fk X.K C f)(hl:(fs:)<1000)(ry:RelV y u)
  (h:∀s',Inv X pins σ (upd H a (.ins C dx (fj f y fs))) s'->Q Unit.unit s'):wpAny (model X.prog X.w) A (setAttr (.ref a) f u) Q E s:=by
 obtain ⟨mA,O,r,wi,_,ho⟩:=Dm I.bX e
 have hz:(fs.map (·.1):)<=sizeLine:=by rw[Xi,sizeLine_eq];lia
 refine LL I.Bg O c.sa c.po n.UL c.hd wi hz λh' O' sb=>h _ ?_
 have hd:∃o,h'.get? dx=some o:=let ⟨o,_,_,e',_⟩:=O'.ns;⟨o,e'⟩
 refine I.write (x:=a) (e:=dx) (by rw[e];exact True.intro) (.inr ho) (λb q hb z=>(sb.2 b hb).trans z) hd ?_
 refine ⟨by rw[aq O.ne];exact ho,?_,O.ne,O'.obj,_,O'.ns,λg=>?_,λg hg=>?_⟩
 ·have:=qK f y fs;lia
 ·show pj ((fj f y fs).lookup g) (if g=f then some u else mA g)
  rw[aO]
  by_cases q:g=f
  ·rw[if_pos q,if_pos q];exact ry
  ·rw[if_neg q,if_neg q];exact r g
 ·by_cases q:g=f
  ·rw[q];exact (pM f y fs).1
  ·refine (pM f y fs).2 g (wi g λz=>hg ?_)
   show (if g=f then some u else mA g)=none
   rw[if_neg q];exact z
theorem Inv.made(I:Inv X pins σ H s):Inv X pins σ (upd (upd H s.heap.objs.size (.own (s.heap.objs.size+1))) (s.heap.objs.size+1) (.ins C s.heap.objs.size []))
  { s with heap:=(s.heap.push PySem.W.emptyDict).push (PySem.W.instObj C s.heap.objs.size) }:=by
 have e1:(s.heap.push PySem.W.emptyDict).get? s.heap.objs.size=some PySem.W.emptyDict:=Qaq s.heap rfl
 have e2:((s.heap.push PySem.W.emptyDict).push (PySem.W.instObj C s.heap.objs.size)).get? (s.heap.objs.size+1)=some (PySem.W.instObj C s.heap.objs.size):=by
  have:=Qaq (s.heap.push PySem.W.emptyDict) (o:=PySem.W.instObj C s.heap.objs.size) rfl
  rwa [Qdg]at this
 have e3:(s.heap.push PySem.W.emptyDict).Ns s.heap.objs.size (λ_=>none):=⟨PySem.W.emptyDict, #[],_,e1,rfl,(λe he=>absurd he (by simp)),λ_=>rfl⟩
 have I1:=I.laid (a:=s.heap.objs.size) (o:= .own (s.heap.objs.size+1)) (h':=s.heap.push PySem.W.emptyDict) (t':=s.toks) (λb u q=>Qac _ q) (Qaa _) ⟨_,e1⟩
 refine I1.laid (a:=s.heap.objs.size+1) (o:= .ins C s.heap.objs.size []) (t':=s.toks) (λb u q=>Qac _ q) (Qf2 (Qdg _ _)) ?_
 have ne:s.heap.objs.size≠s.heap.objs.size+1:=Qa0 (Qcu _)
 refine ⟨by rw[aq ne,aa],Qat _,ne,e2,λ_=>none,(Heap.Ns1.of_empty e3).at λo q=>Qac _ q,λ_=>True.intro,λy hy=>absurd rfl hy⟩
theorem LM{prog:Program}{w:World}{env:Env}{f:Str}{s:Shared}(hb:attributeBase e f env (eval e env)=eval e env)
  (h:wpAny (model prog w) A (eval e env) (λo s₁=>wpAny (model prog w) A (getAttr o f true) Q E s₁) E s):wpAny (model prog w) A (eval (.Attribute e f pos) env) Q E s:=
 Attribute_any_ h (by rw[arm_eval_Attribute,hb])
end
def UM(K:c6)(ta:TE)(f:Str):TE:=λσ H Q=>ta σ H λx H1=>∃a C dx fs v,x= .ref a/\H1 a=some (.ins C dx fs)/\Oe K C/\fk K C f/\fs.lookup f=some v/\Q v H1
def Ys(K:c6)(ta tv:TE)(f:Str):TS:=λD σ H=>tv σ H λy H1=>ta σ H1 λx H2=>∃a C dx fs,x= .ref a/\H2 a=some (.ins C dx fs)/\Oe K C/\fk K C f/\(fs:)<1000/\D.nx σ (upd H2 a (.ins C dx (fj f y fs)))
section
variable{X:Cx}{o e value:Expr}{f:Str}{pos pos' UN:Pos}{ta tv:TE}
theorem PB(he:PE X e ta)(hb:attributeBase e f X.env (eval e X.env)=eval e X.env):PE X (.Attribute e f pos) (UM X.K ta f):=by
 walk_at"e"
 refine LM hb (cE (he pins s σ H _ I h) λu s1 ⟨x,H1,I1,rx,a,C,dx,fs,v,ex,ea,c,n,l,q⟩=>?_)
 subst ex
 obtain rfl:u=Value.ref a:=rx
 exact Bq I1 ea c n l λu' s2 I2 ru=>⟨v,H1,I2,ru,q⟩
theorem jY(ha:PE X o ta)(hv:PE X value tv)(hs:swapsWith value (some (.Attribute o f pos')) pos.line X.env=pure false):PS X (.Assign [.Attribute o f pos'] value pos) (Ys X.K ta tv f):=by
 walk_at"s"
 refine plainObj_wpAny_Assign_Attribute (cE (hv pins s σ H _ I h) λu s1 ⟨y,H1,I1,ry,q⟩=>cE (ha pins s1 σ H1 _ I1 q) λov s2 ⟨x,H2,I2,rx,a,C,dx,fs,ex,ea,c,n,l,q2⟩=>?_) hs
 subst ex
 obtain rfl:ov=Value.ref a:=rx
 exact Br I2 ea c n l ry λs3 I3=>⟨σ,_,I3,q2⟩
end
structure c_(k:Nat)(A:Around):Prop where
 hd:A.handled=none
 dp:A.depth+3*k+5<recursionLimit
 un:A.units+16*k+200<cLine
 gd:A.guards=some []
theorem c_.mono{k:Nat}(r:c_ k A)(h:j<=k):c_ j A:=⟨r.hd,by have:=r.dp;lia,by have:=r.un;lia,r.gd⟩
theorem c_.deeper{k:Nat}(r:c_ (k+1) A)(env:Env):c_ k (A.deeper env):=
 ⟨r.hd,by have:=r.dp;show A.depth+1+3*k+5<_;lia,by have:=r.un;show A.units+3+16*k+200<_;lia,r.gd⟩
theorem c_.in1{k:Nat}(r:c_ (k+1) A):c_ k A.in1:=
 ⟨r.hd,by have:=r.dp;show A.depth+3*k+5<_;lia,by have:=r.un;show A.units+1+16*k+200<_;lia,r.gd⟩
theorem Bs:(A.under (.builtin "type.__call__" ⟨.ref C::us,kw⟩)).depth=A.depth+1:=by
 first | rfl | simp[Around.under,Code.weight,Code.isCreation,Code.isGuard,Code.isCaller,Code.frames,Code.isFrame,guardIds]
theorem Bt:(A.under (.builtin "type.__call__" ⟨.ref C::us,kw⟩)).units=A.units+1:=by
 first | rfl | simp[Around.under,Code.cUnits,Code.frames,Code.isFrame]
theorem c_.make{k:Nat}(r:c_ (k+1) A)(C:Addr)(us:List Value)(kw:List (Str×Value)):c_ k (A.under (.builtin "type.__call__" ⟨.ref C::us,kw⟩)):=
 ⟨r.hd,by have:=r.dp;rw[Bs];lia,by have:=r.un;rw[Bt];lia,by first | exact r.gd | (simpa [Around.under,Code.guards,Code.isGuard,pushGuards,guardIds]using r.gd)⟩
theorem c_.depth{k:Nat}(r:c_ k A):A.depth<recursionLimit:=by have:=r.dp;lia
theorem c_.units{k:Nat}(r:c_ k A):A.units+64<cLine:=by have:=r.un;lia
def PD:TA:=λ_ H Q=>Q [] H
def G9(ta:TE)(tr:TA):TA:=λσ H Q=>ta σ H λx H1=>tr σ H1 λxs H2=>Q (x::xs) H2
section
variable{X:Cx}{e:Expr}{es:List Expr}{te:TE}{t:TA}{pos:Pos}
theorem bL:PA X [] PD:=λ_ _ _ _ H Q I h=>Calls.spliced_nil ⟨[],H,I,.nil,h⟩
theorem ai(ha:PE X e te)(hr:PA X es t)(hs:starEach (e::es) X.env=(false,eval e X.env)::starEach es X.env:=by rfl):PA X (e::es) (G9 te t):=by
 intro pos pins s σ H Q I h
 rw[hs]
 show wpAny _ _ (spliced ((false,eval e X.env)::backTo pos (starEach es X.env))) _ _ s
 refine Calls.spliced_cons (cE (ha pins s σ H _ I h) λu s1 ⟨x,H1,I1,r1,q1⟩=>?_)
 exact cE (hr pos pins s1 σ H1 _ I1 q1) λus s2 ⟨xs,H2,I2,r2,q2⟩=>⟨x::xs,H2,I2,.cons r1 r2,q2⟩
def Yt(t:TA):TE:=λσ H Q=>t σ H λxs H1=>(xs:)<=sizeLine/\∀p,H1 p=none->Q (.ref p) (upd H1 p (.tup xs))
def Yu(t:TA):TE:=λσ H Q=>t σ H λxs H1=>(xs:)<=sizeLine/\∀p,H1 p=none->Q (.ref p) (upd H1 p (.lst xs))
theorem cW{x1}(h:PA X es t):PE X (.Tuple es x1 pos) (Yt t):=by
 intro pins s σ H Q I hq
 refine wpAny_Tuple_spliced (cE (h pos pins s σ H _ I hq) λus s1 ⟨xs,H1,I1,r,z,q⟩=>⟨by rw[<-(r:)];exact z,?_⟩)
 have hf:H1 s1.heap.objs.size=none:=I1.bX.fresh (Qaa _)
 refine ⟨.ref s1.heap.objs.size,upd H1 s1.heap.objs.size (.tup xs),I1.laid (t':=s1.toks) (λb u e=>Qac _ e) (Qaa _) ?_,rfl,q _ hf⟩
 exact ⟨z,us,r,⟨_,Qaq _ rfl,rfl,_,rfl⟩⟩
theorem dP(h:PA X es t):PE X (.List es pos) (Yu t):=by
 intro pins s σ H Q I hq
 refine wpAny_List_spliced (cE (h pos pins s σ H _ I hq) λus s1 ⟨xs,H1,I1,r,z,q⟩=>⟨by rw[<-(r:)];exact z,?_⟩)
 have hf:H1 s1.heap.objs.size=none:=I1.bX.fresh (Qaa _)
 refine ⟨.ref s1.heap.objs.size,upd H1 s1.heap.objs.size (.lst xs),I1.laid (t':=s1.toks) (λb u e=>Qac _ e) (Qaa _) ?_,rfl,q _ hf⟩
 exact ⟨z,us,0,r,Qaq _ rfl⟩
end
abbrev Sp:=List V->Hp->VK->XK->Prop
abbrev EY:=List Env->Hp->Shared->XK->Value->Shared->Prop
structure vp(P:Program)(w:World)(K:c6)(mg:Str->Option Value)(base:Heap)(A:Around)(outer:List Env)(s:Shared)(H:Hp):Prop where
 frames:A.frames=some outer
 mod:Mod K mg base
 bs:∀b o,base.get? b=some o->s.heap.get? b=some o/\H b=none
 Ld:base.objs.size<=s.heap.objs.size
 pE:s.heap.FunFrames base outer
 N4:∀b∈De outer,H b=none
 bX:mP P w H s.heap
 bare:AllBare s.gens
def CE(outer:List Env)(P:Program)(w:World)(H:Hp)(s:Shared)(Q:VK)(u:Value)(s':Shared):Prop:=
 ∃v H',s'.os=s.os/\AllBare s'.gens/\Un (De outer) [] H H' s.heap s'.heap/\mP P w H' s'.heap/\RelV v u/\Q v H'
def CR(CX:EY)(outer:List Env)(P:Program)(w:World)(H:Hp)(s:Shared)(Q:VK)(E:XK)(r:Result)(s':Shared):Prop:=
 match r with
 | .ok (.ret u)=>CE outer P w H s Q u s'
 | .ok _=>False
 | .error e=>CX outer H s E e s'
structure bD(P:Program)(w:World)(K:c6)(mg:Str->Option Value)(base:Heap)(CX:EY)(k:Nat)(f:Addr)(fd:FuncData)(ps:List Str)(sp:Sp):Prop where
 len:∀vs H Q E,sp vs H Q E->(vs:)=(ps:)
 run:∀(A:Around) (outer:List Env) (s:Shared) (H:Hp) (args:Args) (us:List Value) (vs:List V) (Q:VK) (E:XK),c_ k A->vp P w K mg base A outer s H->BindsTo s fd args (ps.zip us)->Vals vs us->sp vs H Q E->
  codeAny (model P w) A (.call (.ref f) args) (CR CX outer P w H s Q E) s
variable{mg:Str->Option Value}{base:Heap}{outer:List Env}
theorem vp.make{P:Program}{w:World}(e:vp P w K mg base A outer s H)(C:Addr)(us:List Value)(kw:List (Str×Value)):
  vp P w K mg base (A.under (.builtin "type.__call__" ⟨.ref C::us,kw⟩)) outer s H:=⟨by first | exact e.frames | (simpa [Around.under,Code.envs,Code.isFrame,pushEnvs]using e.frames),e.mod,e.bs,e.Ld,e.pE,e.N4,e.bX,e.bare⟩
theorem vp.in1{P:Program}{w:World}(e:vp P w K mg base A outer s H):
  vp P w K mg base A.in1 outer s H:=⟨e.frames,e.mod,e.bs,e.Ld,e.pE,e.N4,e.bX,e.bare⟩
section
variable{X:Cx}{pins:List (Addr×Obj)}{σ:St}{H:Hp}{s s':Shared}
theorem Inv.PH(I:Inv X pins σ H s):vp X.prog X.w X.K X.mg X.base X.A X.stack s H:=
 ⟨I.ok.frames,I.ok.mod,I.bs,Qbb I.ok.Ld I.sz,I.stack,I.Df,I.bX,I.bare⟩
theorem Inv.after{Q:VK}(I:Inv X pins σ H s)(h:CE X.stack X.prog X.w H s Q u s'):EP X pins σ Q u s':=by
 obtain ⟨v,H',os,bare,un,bX,r,q⟩:=h
 obtain ⟨hh,g,d,t,os'⟩:=s'
 obtain rfl:os'=s.os:=os
 exact ⟨v,H',I.call (h':=hh) (g':=g) (d':=d) (t':=t) (ch:=[]) un bX bare (λb z=>absurd z (by simp)),r,q⟩
end
def Of(sp:Sp)(dvs:List V)(E:XK)(t:TA):TE:=λσ H Q=>t σ H λvs H1=>sp (vs++dvs) H1 Q E
def UO(C:Addr)(sp:Sp)(dvs:List V)(E:XK)(t:TA):TE:=λσ H Q=>t σ H λvs H1=>∀x dx,H1 x=none->H1 dx=none->dx≠x->sp (.ref x::(vs++dvs)) (upd (upd H1 dx (.own x)) x (.ins C dx [])) (λv H2=>v= .gk/\Q (.ref x) H2) E
def Binds(K:c6)(fd:FuncData)(ps:List Str)(ds:List Value):Prop:=
 ∀(s:Shared) (us:List Value),K.In s.heap->(us++ds:)=(ps:)->BindsTo s fd ⟨us,[]⟩ (ps.zip (us++ds))
variable{ps:List Str}
theorem Binds.all{fd:FuncData}(h:∀us:List Value,(us:)=(ps:)->bindArgs fd ⟨us,[]⟩=pure (ps.zip us)):Binds K fd ps []:=λs us _ hl=>by
 rw[Qa9]at hl ⊢
 exact .of_eq (h us hl)
def Passes(CX:EY)(X:Cx)(E:XK):Prop:=∀(pins:List (Addr×Obj)) (σ:St) (H:Hp) (s:Shared) (e:Value) (s':Shared),Inv X pins σ H s->CX X.stack H s E e s'->X.xe e s'
variable{vs:List V}
section
variable{X:Cx}{CX:EY}{k:Nat}{f C:Addr}{fd:FuncData}{ps:List Str}{sp:Sp}{dvs:List V}{ds:List Value}{E:XK}{x m:Str}{p pos apos:Pos}{e o:Expr}{es:List Expr}{ta:TE}{t:TA}
theorem Bu{Q:VK}(F:bD X.prog X.w X.K X.mg X.base CX k f fd ps sp)(hr:c_ k X.A)(hb:Binds X.K fd ps ds)(hd:Vals dvs ds)(hx:Passes CX X E)
  (I:Inv X pins σ H s) (r:Vals vs us) (h:sp (vs++dvs) H Q E):wpAny (model X.prog X.w) X.A (call (.ref f) us) (EP X pins σ Q) X.xe s:=by
 have r2:Vals (vs++dvs) (us++ds):=r.append hd
 have hl:(us++ds:)=(ps:):=by rw[<-(r2:)];exact F.len _ _ _ _ h
 refine wpAny_call (codeAny_mono (F.run X.A X.stack s H ⟨us,[]⟩ (us++ds) (vs++dvs) Q E hr I.PH (hb s us I.Bg hl) r2 h) λr s' hq=>?_)
 cases r with
 | error e=>exact hx pins σ H s e s' I hq
 | ok fl=>
  cases fl with
  | ret u=>exact I.after hq
  | next=>exact False.elim hq
  | brk=>exact False.elim hq
  | cont=>exact False.elim hq
theorem k_(F:bD X.prog X.w X.K X.mg X.base CX k f fd ps sp)(hr:c_ k X.A)(hg:Gl X x)(hm:X.mg x=some (.ref f))(hk:PySem.W.keepIn X.K (.ref f)=true)(hb:Binds X.K fd ps ds)(hd:Vals dvs ds)(hx:Passes CX X E)
  (ha:PA X (e::es) t) (PJ:(x==("__debug__":Str))=false:=by decide) (he:starEach (e::es) X.env=(false,eval e X.env)::starEach es X.env:=by rfl) (nk:(backTo pos (starEach es X.env)).any (·.1)=false:=by rfl):
  PE X (.Call (.Name x p) (e::es) [] pos) (Of sp dvs E t):=by
 walk_at"e"
 refine wpAny_Call_Name_kw (xr I hg hm ?_ PJ)
 refine Qeq (h₀:=X.base) I.ok.mod.R_ hk (cE (ha pos pins s σ H _ I h) λus s1 ⟨vs,H1,I1,r,q⟩=>⟨I1.Bg,?_⟩) he nk
 exact Bu F hr hb hd hx I1 r q
structure Mk(K:c6)(C f:Addr):Prop where
 makes:PySem.W.makesIn K C=true
 init:PySem.W.findIn K (.ref C) "__init__"=some (some (.ref f))
 fn:PySem.W.isFn K (.ref f)=true
 kp:PySem.W.keepIn K (.ref C)=true
theorem G_{Q:VK}(M:Mk X.K C f)(F:bD X.prog X.w X.K X.mg X.base CX k f fd ps sp)(hr:c_ (k+1) X.A)(hb:Binds X.K fd ps ds)(hd:Vals dvs ds)
  (hx:Passes CX X E) (I:Inv X pins σ H s) (r:Vals vs us)
  (h:∀x dx,H x=none->H dx=none->dx≠x->sp (.ref x::(vs++dvs)) (upd (upd H dx (.own x)) x (.ins C dx [])) (λv H2=>v= .gk/\Q (.ref x) H2) E):
  wpAny (model X.prog X.w) X.A (call (.ref C) us) (EP X pins σ Q) X.xe s:=by
 have hq:=h (s.heap.objs.size+1) s.heap.objs.size (I.bX.fresh (Qcx _)) (I.bX.fresh (Qaa _)) (Qa0 (Qcu _))
 have I2:=Inv.made (C:=C) I
 have r2:Vals (V.ref (s.heap.objs.size+1)::(vs++dvs)) (Value.ref (s.heap.objs.size+1)::(us++ds)):= .cons rfl (r.append hd)
 have hl:((Value.ref (s.heap.objs.size+1)::us++ds):)=(ps:):=by
  have e:=(r2:)
  rw[F.len _ _ _ _ hq]at e
  exact e.symm
 refine wpAny_call (G8 (f:=f) I.Bg M.makes M.init (beq_iff_eq.mp M.fn) (codeAny_mono (F.run _ X.stack _ _ ⟨Value.ref (s.heap.objs.size+1)::us,[]⟩ (Value.ref (s.heap.objs.size+1)::(us++ds)) _ _ E (hr.make C us [])
  (I2.PH.make C us []) (hb _ (Value.ref (s.heap.objs.size+1)::us) I2.Bg hl) r2 hq) λr s' UP=>?_))
 cases r with
 | error e=>exact hx pins σ _ _ e s' I2 UP
 | ok fl=>
  cases fl with
  | ret u=>
   obtain ⟨v,H',I3,rv,ev,q3⟩:=I2.after UP
   subst ev
   exact ⟨rv,⟨V.ref (s.heap.objs.size+1),H',I3,rfl,q3⟩⟩
  | next=>exact False.elim UP
  | brk=>exact False.elim UP
  | cont=>exact False.elim UP
theorem rM(M:Mk X.K C f)(F:bD X.prog X.w X.K X.mg X.base CX k f fd ps sp)(hr:c_ (k+1) X.A)(hg:Gl X x)(hm:X.mg x=some (.ref C))(hb:Binds X.K fd ps ds)(hd:Vals dvs ds)(hx:Passes CX X E)
  (ha:PA X (e::es) t) (PJ:(x==("__debug__":Str))=false:=by decide) (he:starEach (e::es) X.env=(false,eval e X.env)::starEach es X.env:=by rfl) (nk:(backTo pos (starEach es X.env)).any (·.1)=false:=by rfl):
  PE X (.Call (.Name x p) (e::es) [] pos) (UO C sp dvs E t):=by
 walk_at"e"
 refine wpAny_Call_Name_kw (xr I hg hm ?_ PJ)
 refine Qeq (h₀:=X.base) I.ok.mod.R_ M.kp (cE (ha pos pins s σ H _ I h) λus s1 ⟨vs,H1,I1,r,q⟩=>⟨I1.Bg,?_⟩) he nk
 exact G_ M F hr hb hd hx I1 r q
end
structure aG(N P:List Str)(sc:Scope):Prop where
 kind:sc.kind= .function
 co:sc.isCoroutine=false
 gen:sc.isGenerator=false
 nd:N.Nodup
 pre:N.take P.length=P
 par:∀x∈P,sc.names.lookup x=some .local\/sc.names.lookup x=some .cell
 PK:∀y∈sc.names,y.2≠ .free
theorem v8{kindOf:Str->Option NameKind}{x:Str}:∀{binds:List (Str×Value)} {m:Str->Option Value},(∀v,(x,v)∉binds)->bindL kindOf binds m x=m x
 | [],_,_=>rfl
 |(n,v)::r,m,h=>by
  unfold bindL
  rw[v8 λw hw=>h w (Sd _ hw)]
  split
  ·have:x≠n:=by rintro rfl;exact h v Xh
   simp[this]
  ·rfl
theorem v9{kindOf:Str->Option NameKind}{x:Str}:∀{binds:List (Str×Value)} {m:Str->Option Value},(∀v,(x,v)∉binds)->bindC kindOf binds m x=m x
 | [],_,_=>rfl
 |(n,v)::r,m,h=>by
  unfold bindC
  rw[v9 λw hw=>h w (Sd _ hw)]
  split
  ·rfl
  ·have:x≠n:=by rintro rfl;exact h v Xh
   simp[this]
theorem v_{kindOf:Str->Option NameKind}{x:Str}{v:Value}:∀{P:List Str} {vs:List Value} {i:Nat} {m:Str->Option Value},P.Nodup->P[i]? =some x->vs[i]? =some v->kindOf x=some .local->
  bindL kindOf (P.zip vs) m x=some v
 | [],_,_,_,_,h,_,_=>by simp at h
 | _::_,[],_,_,_,_,h,_=>by simp at h
 | p::P,w::vs,0,m,nd,h1,h2,hk=>by
  simp at h1 h2;subst h1;subst h2
  show bindL kindOf ((p,w)::P.zip vs) m p=_
  unfold bindL
  rw[v8 λv hv=>(Qa5.mp nd).1 (Qfm hv).1,if_pos hk]
  simp
 | p::P,w::vs,i+1,m,nd,h1,h2,hk=>by
  show bindL kindOf ((p,w)::P.zip vs) m x=_
  unfold bindL
  exact v_ (i:=i) (Qa5.mp nd).2 (by simpa using h1) (by simpa using h2) hk
theorem wb{kindOf:Str->Option NameKind}{x:Str}{v:Value}:∀{P:List Str} {vs:List Value} {i:Nat} {m:Str->Option Value},P.Nodup->P[i]? =some x->vs[i]? =some v->kindOf x≠some .local->
  bindC kindOf (P.zip vs) m x=some v
 | [],_,_,_,_,h,_,_=>by simp at h
 | _::_,[],_,_,_,_,h,_=>by simp at h
 | p::P,w::vs,0,m,nd,h1,h2,hk=>by
  simp at h1 h2;subst h1;subst h2
  show bindC kindOf ((p,w)::P.zip vs) m p=_
  unfold bindC
  rw[v9 λv hv=>(Qa5.mp nd).1 (Qfm hv).1,if_neg hk]
  simp
 | p::P,w::vs,i+1,m,nd,h1,h2,hk=>by
  show bindC kindOf ((p,w)::P.zip vs) m x=_
  unfold bindC
  exact wb (i:=i) (Qa5.mp nd).2 (by simpa using h1) (by simpa using h2) hk
noncomputable def start(N:List Str)(vs:List V):St:=vs.map some++List.replicate (N.length - (vs:)) none
noncomputable def xA(CX:EY)(P:Program)(w:World)(K:c6)(mg:Str->Option Value)(base:Heap)(N:List Str)(qual:Str)(scope:Scope)(f:Addr)(cd:Value)(A:Around)(outer:List Env)(s:Shared)(H:Hp)(E:XK):Cx where
 prog:=P
 w:=w
 K:=K
 mg:=mg
 base:=base
 A:=A.deeper (envOfC qual scope s.heap.objs.size f cd)
 N:=N
 s₀:=s
 H₀:=H
 env:=envOfC qual scope s.heap.objs.size f cd
 outer:=outer
 stack:=envOfC qual scope s.heap.objs.size f cd::outer
 ex:=[]
 calm:=true
 fn:=λ_=>true
 pn:=[]
 xe:=λe s'=>wpAny (model P w) (A.deeper (envOfC qual scope s.heap.objs.size f cd)) (leaving (envOfC qual scope s.heap.objs.size f cd) e) (λ_ UQ=>CX outer H s E e UQ) (λe' UQ=>CX outer H s E e' UQ) s'
theorem zA{sc:Scope}(h:sc.names.lookup x=some .cell):∃c,(cellsFrom n sc.names []).lookup x=some c:=by
 have q:=Qfg sc.names n [] (.inl h)
 exact Option.isSome_iff_exists.mp q
theorem wc{CX:EY}{P:Program}{w:World}{qual:Str}{scope:Scope}{f:Addr}{cd:Value}{s1:Shared}{E:XK}
  (S:aG N ps scope) (hd:A.handled=none) (e0:vp P w K mg base A outer s H) (hl:(vs:)=(ps:)) (r:Vals vs us)
  (x:InCallC s s.heap.objs.size (bindL (envOfC qual scope s.heap.objs.size f cd).kindOf (ps.zip us) λ_=>none) (cellsFrom (s.heap.objs.size+1) scope.names []) (bindC (envOfC qual scope s.heap.objs.size f cd).kindOf (ps.zip us) λ_=>none) s1):
  Inv (xA CX P w K mg base N qual scope f cd A outer s H E) [] (start N vs) H s1:=by
 have nk:(ps:)<=N.length:=by have:=congrArg List.length S.pre;rw[Qad]at this;lia
 obtain ⟨h1,tk,rfl,hk⟩:=x.done
 have UR:∀b:Addr,b∉(xA CX P w K mg base N qual scope f cd A outer s H E).ex:=λb z=>absurd (show b∈([]:List Addr) from z) (by simp)
 refine ⟨⟨e0.mod,S.kind,rfl,rfl,Qaa _,λy z c h1 h2=>?_,λy hy=>?_,λy c _ h=>?_,λ_=>hd,Around.frames_deeper e0.frames,.inr ⟨rfl,rfl⟩,λb z=>absurd z (UR b),e0.bs,e0.Ld,λb _ _=>UR b,λb z=>absurd z (UR b),e0.pE,e0.N4⟩,
  rfl,e0.bare,Un.kept hk,⟨_,x.toInCall.ns,λi y v h1 h2 h3=>?_⟩,λy c h=>⟨_,x.cell y c h⟩,e0.bX.fresh (Qaa _),λy c h=>?_,λp hp=>absurd (show p∈([]:List (Addr×Obj)) from hp) (by simp),e0.bX.kept hk,?_⟩
 ·exact name_of_addr x.apart (Qds h1) (Qds h2)
 ·have hy:scope.names.lookup y=some .cell\/scope.names.lookup y=some .free:=hy
  rcases hy with hy | hy
  ·exact zA hy
  ·exact absurd rfl (S.PK _ (Qds hy))
 ·exact Qbp (x.above y c (Qds h))
 ·have hi:i<(vs:):=by
   unfold start at h2
   by_cases hi:i<(vs:)
   ·exact hi
   ·rw[Qa1 (by simpa using hi)]at h2
    rw[List.getElem?_replicate]at h2
    split at h2<;>cases h2
  have ha:vs[i]? =some v:=by
   unfold start at h2
   rw[Qbg (by simpa using hi),Qau]at h2
   cases e:vs[i]? with
   | none=>rw[e]at h2;cases h2
   | some a=>rw[e]at h2;cases h2;rfl
  obtain ⟨u,hu,rv⟩:=r.get ha
  have hp:ps[i]? =some y:=by
   rw[<-S.pre,Qbq ()];exact h1
  have ndP:ps.Nodup:=by rw[<-S.pre];exact S.nd.sublist (Qf4 _ _)
  refine ⟨u,rv,?_⟩
  rcases S.par y (Qaf hp) with k | k
  ·exact .inl ⟨k,v_ ndP hp hu k⟩
  ·obtain ⟨c,e⟩:=zA (n:=s.heap.objs.size+1) k
   refine .inr ⟨.inl k,c,e,?_⟩
   have q:=x.cell y c e
   rw[wb ndP hp hu (by show scope.names.lookup y≠_;rw[k];decide)]at q
   exact q
 ·exact e0.bX.fresh (Qbp (x.above y c (Qds h)))
 ·unfold start
  show _=N.length
  rw[kb,Xi,List.length_replicate]
  lia
theorem Og{CX:EY}{P:Program}{w:World}{k:Nat}{f:Addr}{name qual:Str}{params:Arguments}{scope:Scope}{dV kV doc pm cZ ct oc:Value}{an od:Option Addr}
  {zg:Array (Option Value)} {N ps:List Str} {sp:Sp} (lk:K.lookup f=some ⟨oc,od,.func (PySem.W.fnOf name qual params body scope dV kV doc pm an cZ ct),zg⟩) (lX:PySem.W.codeIn K cZ qual=true) (S:aG N ps scope)
  (len:∀vs H Q E,sp vs H Q E->(vs:)=(ps:))
  (sP:∀(A:Around) (outer:List Env) (s:Shared) (H:Hp) (vs:List V) (Q:VK) (E:XK),c_ k (A.deeper (envOfC qual scope s.heap.objs.size f cZ))->sp vs H Q E->
   ∃t,zf (xA CX P w K mg base N qual scope f cZ A outer s H E) body t/\t { nx:=λ_ H'=>Q .gk H',rt:=Q } (start N vs) H):
  bD P w K mg base CX (k+1) f (PySem.W.fnOf name qual params body scope dV kV doc pm an cZ ct) ps sp:=by
 refine ⟨len,λA outer s H args us vs Q E hr e0 hb r zB=>?_⟩
 have hl:=len _ _ _ _ zB
 have KX:K.In s.heap:=e0.mod.R_.keeps λb o e=>(e0.bs b o e).1
 have lim:s.heap.NoLimit:=e0.mod.nolimit.keeps λb o e=>(e0.bs b o e).1
 have g_:∀y∈ps.zip us,scope.names.lookup y.1=some .local\/(scope.names.lookup y.1=some .cell/\((cellsFrom (s.heap.objs.size+1) scope.names []).lookup y.1).isSome=true):=λ⟨n,v⟩ hy=>by
  rcases S.par n (Qfm hy).1 with q | q
  ·exact .inl q
  ·exact .inr ⟨q,Qfg _ _ _ (.inl q)⟩
 refine codeAny_call_function hr.depth (KX _ _ lk) rfl S.co S.gen rfl (PySem.W.codeRec_of KX lX) (hb _ _ _ _ ?_)
 refine wpAny_newFunctionEnv_cells S.kind g_ λenv he s1 x=>?_
 subst he
 refine ⟨lim.keeps x.toInCall.keep,codeAny_func ?_⟩
 obtain ⟨t,ht,hq⟩:=sP A outer s H vs Q E (hr.deeper _) zB
 have I:Inv (xA CX P w K mg base N qual scope f cZ A outer s H E) [] (start N vs) H s1:=wc S hr.hd e0 hl r x
 refine wpAny_mono (ht [] s1 (start N vs) H _ I hq) (λfl s' hs=>?_) λe s' hs=>hs
 have fin:∀{σ':St} {H':Hp} {v:V} {u:Value},Inv (xA CX P w K mg base N qual scope f cZ A outer s H E) [] σ' H' s'->RelV v u->Q v H'->CE outer P w H s Q u s':=
  λ{σ' H' v u} J rv q=>⟨v,H',J.os,J.bare,J.base,J.bX,rv,q⟩
 cases fl with
 | ret u=>
  obtain ⟨v,σ',H',J,rv,q⟩:=hs
  exact fin J rv q
 | next=>
  obtain ⟨σ',H',J,q⟩:=hs
  exact fin (v:=V.gk) (u:=Value.none) J rfl q
 | brk=>
  obtain ⟨_,_,_,q⟩:=hs
  exact False.elim q
 | cont=>
  obtain ⟨_,_,_,q⟩:=hs
  exact False.elim q
section
variable{X:Cx}{x:Str}{p pos:Pos}{e:Expr}{es:List Expr}{t:TA}{id T:String}{r:List V->Hp->VK->Prop}
def Yv(r:List V->Hp->VK->Prop)(t:TA):TE:=λσ H Q=>t σ H λvs H1=>r vs H1 Q
theorem aQ(hc:eL X (.builtin id) r)(hg:Gl X x)(hm:X.mg x=none)(hv:bootBuiltins x=some (.builtin id))(ha:PA X (e::es) t)(hn:x≠"__name__":=by decide)(PJ:(x==("__debug__":Str))=false:=by decide)
  (he:starEach (e::es) X.env=(false,eval e X.env)::starEach es X.env:=by rfl) (nk:(backTo pos (starEach es X.env)).any (·.1)=false:=by rfl):PE X (.Call (.Name x p) (e::es) [] pos) (Yv r t):=by
 walk_at"e"
 refine wpAny_Call_Name_kw (il I hg hm hv ?_ hn PJ)
 exact PyProof.Rows.callWith_builtin1 (cE (ha pos pins s σ H _ I h) λus s1 ⟨vs,H1,I1,r1,q1⟩=>hc pins s1 σ H1 vs us Q I1 r1 q1) he nk
theorem cX(hc:eL X (.type T) r)(hg:Gl X x)(hm:X.mg x=none)(hv:bootBuiltins x=some (.type T))(ha:PA X (e::es) t)(hn:x≠"__name__":=by decide)(PJ:(x==("__debug__":Str))=false:=by decide)
  (he:starEach (e::es) X.env=(false,eval e X.env)::starEach es X.env:=by rfl) (nk:(backTo pos (starEach es X.env)).any (·.1)=false:=by rfl):PE X (.Call (.Name x p) (e::es) [] pos) (Yv r t):=by
 walk_at"e"
 refine wpAny_Call_Name_kw (il I hg hm hv ?_ hn PJ)
 exact Qck (cE (ha pos pins s σ H _ I h) λus s1 ⟨vs,H1,I1,r1,q1⟩=>hc pins s1 σ H1 vs us Q I1 r1 q1) he nk
end
end L2
namespace HT
open PySem PyProof.Rows
section
variable{prog:Program}{w:World}{A:Around}{E:Value->Shared->Prop}{s:Shared}
noncomputable def nq(n d:Nat):Option Int->Nat
 | none=>d
 | some v=>if v<0 then (v+(n:Int)).toNat else min v.toNat n
theorem zC(n d:Nat):nq n d none=d:=rfl
theorem lh(n d k:Nat):nq n d (some (k:Int))=min k n:=by
 show (if (k:Int)<0 then ((k:Int)+(n:Int)).toNat else min (k:Int).toNat n)=min k n
 rw[if_neg (),Qap]
theorem PL(n d:Nat)(hd:d<=n)(o:Option Int):nq n d o<=n:=by
 cases o with
 | none=>exact hd
 | some v=>
  show (if v<0 then (v+(n:Int)).toNat else min v.toNat n)<=n
  by_cases hv:v<0
  ·rw[if_pos hv];lia
  ·rw[if_neg hv];exact Nat.min_le_right _ _
end
end HT
namespace L2
open PySem PySem.Spec PyProof.Rows
abbrev TO:=St->Hp->(Option Int->Hp->Prop)->Prop
def PO(X:Cx)(e:Option Expr)(t:TO):Prop:=
 ∀(pins:List (Addr×Obj)) (s:Shared) (σ:St) (H:Hp) (Q:Option Int->Hp->Prop),Inv X pins σ H s->t σ H Q->
  wpAny (model X.prog X.w) X.A (evalPart e X.env) (λu s'=>∃o H',Inv X pins σ H' s'/\IsPart u o/\Q o H') X.xe s
def LN:TO:=λ_ H Q=>Q none H
def US(t:TE):TO:=λσ H Q=>t σ H λx H1=>∃i,x= .int i/\Q (some i) H1
section
variable{X:Cx}{e:Expr}{te:TE}{lo hi:Option Expr}{tl th:TO}{pos p2:Pos}
theorem d_:PO X none LN:=by
 walk_at"e"
 rw[evalPart_none]
 exact wpAny_pure ⟨none,H,I,.none,h⟩
theorem b9(h:PE X e te):PO X (some e) (US te):=by
 intro pins s σ H Q I hw
 rw[evalPart_some]
 refine cE (h pins s σ H _ I hw) λu s1 ⟨x,H1,I1,r1,q1⟩=>?_
 obtain ⟨i,rfl,q⟩:=q1
 walk_at"Q"
 exact ⟨some i,H1,I1,.int i t,q⟩
def Xg(X:Cx)(r:V->Option Int->Option Int->Hp->VK->Prop):Prop:=
 ∀(pins:List (Addr×Obj)) (s:Shared) (σ:St) (H:Hp) (x:V) (v vl vu:Value) (lo hi:Option Int) (sl:Addr) (Q:VK),Inv X pins σ H s->RelV x v->s.heap.IsSliceOf sl vl vu .none->IsPart vl lo->IsPart vu hi->r x lo hi H Q->
  ∃T id,typeLookup (.type T) "__getitem__"=pure (some (.builtin id))/\s.TypeIs v T/\wpAny (model X.prog X.w) X.A (getItem v (.ref sl)) (EP X pins σ Q) X.xe s
def tSl(r:V->Option Int->Option Int->Hp->VK->Prop)(te:TE)(tl th:TO):TE:=λσ H Q=>te σ H λx H1=>tl σ H1 λl H2=>th σ H2 λu H3=>r x l u H3 Q
theorem cg{r:V->Option Int->Option Int->Hp->VK->Prop}(hr:Xg X r)(he:PE X e te)(hl:PO X lo tl)(hu:PO X hi th):PE X (.Subscript e (.Slice lo hi none p2) pos) (tSl r te tl th):=by
 walk_at"e"
 refine Subscript_ (cE (he pins s σ H _ I h) λv s1 ⟨x,H1,I1,r1,q1⟩=>?_)
 refine wpAny_Slice (cE (hl pins s1 σ H1 _ I1 q1) λvl s2 ⟨l,H2,I2,pl,q2⟩=>cE (hu pins s2 σ H2 _ I2 q2) λvu s3 ⟨u,H3,I3,pu,q3⟩=>?_)
 rw[evalPart_none]
 refine wpAny_pure ?_
 have I4:Inv X pins σ H3 { s3 with heap:=s3.heap.push { cls:= .type "slice",data:= .fields #[vl,vu,.none] } }:=I3.kept (t':=s3.toks) λb ob q=>Qac _ q
 obtain ⟨T,id,hT,ht,hg⟩:=hr pins { s3 with heap:=s3.heap.push { cls:= .type "slice",data:= .fields #[vl,vu,.none] } } σ H3 x v vl vu l u s3.heap.objs.size Q I4 r1 (Heap.IsSliceOf.new ..) pl pu q3
 show wpAny (model X.prog X.w) X.A (subscriptTail e (.Slice lo hi none p2) v (.ref s3.heap.objs.size)) (EP X pins σ Q) X.xe { s3 with heap:=s3.heap.push { cls:= .type "slice",data:= .fields #[vl,vu,.none] } }
 exact tail_any (ops:=[.ref s3.heap.objs.size,v]) ht hT hg (by with_unfolding_all rfl)
noncomputable def zD(xs:List V)(lo hi:Option Int):List V:=(xs.drop (HT.nq (xs:) 0 lo)).take (HT.nq (xs:) (xs:) hi - HT.nq (xs:) 0 lo)
theorem zE(xs:List V)(lo hi:Option Int):(zD xs lo hi:)<=(xs:):=by
 unfold zD
 rw[Qad,Qav]
 lia
end
noncomputable def Lh(n:Nat)(i:Int):Option Nat:=if 0<=i then (if i<n then some i.toNat else none) else if -(n:Int)<=i then some (i+n).toNat else none
noncomputable def q8{α:Type}(xs:List α)(i:Int):Option α:=(Lh (xs:) i).bind λj=>xs[j]?
variable{n j:Nat}{i:Int}
theorem Dp(h:Lh n i=some j):seqIndex? i n=some j/\j<n/\ -(n:Int)<=i/\i<n:=by
 unfold Lh at h
 by_cases h0:0<=i
 ·rw[if_pos h0]at h
  by_cases h1:i<n
  ·rw[if_pos h1]at h
   have e:i.toNat=j:=Qaz h
   exact ⟨by rw[seqIndex_of h0 h1,e],(),(),h1⟩
  ·rw[if_neg h1]at h;cases h
 ·rw[if_neg h0]at h
  by_cases h1: -(n:Int)<=i
  ·rw[if_pos h1]at h
   have e:(i+n).toNat=j:=Qaz h
   exact ⟨by rw[seqIndex_neg () h1,e],(),h1,()⟩
  ·rw[if_neg h1]at h;cases h
theorem xB{α:Type}{xs:List α}{v:α}(h:q8 xs i=some v):∃j,seqIndex? i (xs:)=some j/\xs[j]? =some v/\j<(xs:)/\ -((xs:):Int)<=i/\i<(xs:):=by
 unfold q8 at h
 cases e:Lh (xs:) i with
 | none=>rw[e]at h;cases h
 | some j=>
  rw[e]at h
  obtain ⟨h1,h2,h3,h4⟩:=Dp e
  exact ⟨j,h1,h,h2,h3,h4⟩
theorem cR{α:Type}{xs:List α}{v:α}(h:xs[j]? =some v):q8 xs (j:Int)=some v:=by
 have hj:j<(xs:):=(P5.mp h).1
 have e:Lh (xs:) (j:Int)=some j:=by
  unfold Lh
  rw[if_pos (),if_pos ()];simp
 unfold q8;rw[e];exact h
theorem Ha{α:Type}(xs:List α)(v:α):q8 (xs++[v]) (-1)=some v:=by
 have hl:(xs++[v]:)=(xs:)+1:=by simp
 have e:Lh (xs++[v]:) (-1)=some (xs:):=by
  unfold Lh
  rw[hl,if_neg ∅,if_pos ()]
  congr 1
  lia
 unfold q8
 rw[e]
 show (xs++[v])[(xs:)]? =some v
 simp
def LO(b:Expr):Prop:=∀o i,subscripted b false o i=operate [o,i] (getItem o i)
def PM(X:Cx)(r:R2):Prop:=
 ∀(value slice:Expr) (pins:List (Addr×Obj)) (s:Shared) (σ:St) (H:Hp) (x y:V) (v u:Value) (Q:VK),Inv X pins σ H s->RelV x v->RelV y u->r x y H Q->
  subscripted slice false v u=operate [v,u] (getItem v u)->wpAny (model X.prog X.w) X.A (subscriptTail value slice v u) (EP X pins σ Q) X.xe s
def EZ(X:Cx)(id:String)(r:V->List V->Hp->VK->Prop):Prop:=
 ∀(pins:List (Addr×Obj)) (s:Shared) (σ:St) (H:Hp) (x:V) (xs:List V) (v:Value) (us:List Value) (Q:VK),Inv X pins σ H s->RelV x v->Vals xs us->r x xs H Q->
  wpAny (model X.prog X.w) X.A (call (.builtin id) (v::us)) (EP X pins σ Q) X.xe s
variable{pins:List (Addr×Obj)}{σ:St}{H:Hp}{s:Shared}{p:Addr}{xs:List V}{aN its':List Value}{x:V}{u v:Value}
section
variable{X:Cx}{a b:Expr}{ta tb:TE}{pos:Pos}
theorem ba{r:R2}(hr:PM X r)(ha:PE X a ta)(hb:PE X b tb)(hs:LO b):PE X (.Subscript a b pos) (Xd r ta tb):=by
 walk_at"e"
 exact Subscript_ (Py ha hb I h λv u s2 x y H2 I2 rx ry q=>hr a b pins s2 σ H2 x y v u Q I2 rx ry q (hs _ _))
inductive Hb(K:c6)(x:V)(y:V)(H:Hp)(Q:VK):Prop
 | mk (p:_) (xs:_) (i:_) (v:_) (_:x= .ref p) (_:y= .int i) (_:bu K H p xs) (_:q8 xs i=some v) (_:Q v H):Hb K x y H Q
def UT(K:c6):R2:=Hb K
inductive Hc(K:c6)(x:V)(y:V)(H:Hp)(Q:VK):Prop
 | mk (p:_) (xs:_) (i:_) (v:_) (_:x= .ref p) (_:y= .int i) (_:dH K H p xs) (_:q8 xs i=some v) (_:Q v H):Hc K x y H Q
def UU(K:c6):R2:=Hc K
inductive Hd(x:V)(y:V)(H:Hp)(Q:VK):Prop
 | mk (z:_) (i:_) (c:_) (_:x= .str z) (_:y= .int i) (_:(z:)<=sizeLine) (_:q8 z.cps.toList i=some c) (_:Q (.str ⟨#[c]⟩) H):Hd x y H Q
def Yw:R2:=Hd
theorem LP:PM X (UT X.K):=by
 walk_at"C"
 obtain ⟨p,xs,i,z,rfl,rfl,hq,he,q⟩:=h
 cases rx
 obtain ⟨t,rfl⟩:=ry
 obtain ⟨aN,r,pl,hz⟩:=I.list hq
 obtain ⟨j,h1,h2,h3,h4,h5⟩:=xB he
 obtain ⟨w,ew,zF⟩:=r.get h2
 have hl:=(r:)
 have hn:=gL
 have fin:EP X pins σ Q w s:=⟨z,H,I,zF,q⟩
 by_cases h0:0<=i
 ·have hj:i.toNat=j:=by
   rw[seqIndex_of h0 h5]at h1
   exact Qaz h1
  exact item_listR pl.isList h0 () (by rw[hj];simpa using ew) fin hs
 ·have hj:(i+(aN.toArray.size:Int)).toNat=j:=by
   rw[seqIndex_neg () h4]at h1
   rw[Qaj, <-hl]
   exact Qaz h1
  exact subscriptTail_builtinR (x:=w) pl.isList.typeIs slot_list_getitem.lookup
   (wpAny_getItem_list_neg (Q:=λr s'=>r=w/\EP X pins σ Q r s') pl.isList () (by rw[Qaj]<;>lia) () (by rw[hj];simpa using ew) ⟨rfl,fin⟩) hs
theorem PN:PM X (UU X.K):=by
 walk_at"C"
 obtain ⟨p,xs,i,z,rfl,rfl,hq,he,q⟩:=h
 cases rx
 obtain ⟨t,rfl⟩:=ry
 obtain ⟨aN,r,pl,hz⟩:=I.tuple hq
 obtain ⟨j,h1,h2,h3,h4,h5⟩:=xB he
 obtain ⟨w,ew,zF⟩:=r.get h2
 have hl:=(r:)
 have hn:=gL
 have fin:EP X pins σ Q w s:=⟨z,H,I,zF,q⟩
 exact subscriptTail_builtinR (x:=w) pl.typeIs slot_tuple_getitem.lookup
  (getItem_tuple (j:=j) (Q:=λr s'=>r=w/\EP X pins σ Q r s') pl () () (by rw[Qaj, <-hl];exact h1) (by simpa using ew) ⟨rfl,fin⟩) hs
theorem PQ:PM X Yw:=by
 walk_at"C"
 obtain ⟨z,i,c,rfl,rfl,hz,he,q⟩:=h
 walk_at"f"
 walk_at"x"
 obtain ⟨j,h1,h2,h3,h4,h5⟩:=xB he
 have hl:(z.cps.toList:)=(z:):=by simp[Str.length]
 rw[hl]at h1 h4 h5
 have hn:=gL
 exact tail_any (typeIs_str s z t) slot_str_getitem.lookup (getItem_str (c:=c) (by
  have e1:decide (i< -(2 ^ 63:Int))=false:=decide_eq_false ()
  have e2:decide (i ≥ 2 ^ 63)=false:=decide_eq_false ()
  rw[e1,e2,Qfx]) (by rw[h1];simpa using h2) ⟨.str ⟨#[c]⟩,H,I.tok _,⟨_,rfl⟩,q⟩) hs
theorem Bv(aN:List Value)(n j:Nat)(u:Value):Obj.mapSeq (·.setIfInBounds j u) { cls:= .type "list",data:= .seq aN.toArray n }={ cls:= .type "list",data:= .seq (aN.set j u).toArray n }:=by
 simp[Obj.mapSeq]
theorem Inv.lst(I:Inv X pins σ H s)(h:H p=some (.lst xs)):
  ∃(aN:List Value) (n:Nat),Vals xs aN/\s.heap.get? p=some { cls:= .type "list",data:= .seq aN.toArray n }/\(xs:)<=sizeLine:=by
 obtain ⟨z,aN,n,r,e⟩:=I.bX p _ h
 exact ⟨aN,n,r,e,z⟩
theorem Inv.PR{ys:List V}{n':Nat}{f:Obj->Obj}(I:Inv X pins σ H s)(h:H p=some (.lst xs))
  (ho:s.heap.get? p=some { cls:= .type "list",data:= .seq aN.toArray n }) (hf:f { cls:= .type "list",data:= .seq aN.toArray n }={ cls:= .type "list",data:= .seq its'.toArray n' }) (r:Vals ys its') (hz:(ys:)<=sizeLine) (t:Nat):
  Inv X pins σ (upd H p (.lst ys)) { s with heap:=s.heap.update p f,toks:=t }:=by
 have e:(s.heap.update p f).get? p=some { cls:= .type "list",data:= .seq its'.toArray n' }:=by
  rw[Qcs f ho (by rw[hf]<;>rfl),hf]
 refine I.write (x:=p) (e:=p) (by rw[h];trivial) (.inl rfl) (λb u hb q=>(Qbc _ _ (Ne.symm hb)).trans q) ⟨_,e⟩ ?_
 exact ⟨hz,its',n',r,e⟩
inductive Dq(o:V)(i:V)(v:V)(H:Hp)(Q:(Hp->Prop)):Prop
 | mk (p:_) (xs:_) (k:_) (j:_) (_:o= .ref p) (_:i= .int k) (_:H p=some (.lst xs)) (_:Lh (xs:) k=some j) (_:Q (upd H p (.lst (xs.set j v)))):Dq o i v H Q
def UW:V->V->V->Hp->(Hp->Prop)->Prop:=Dq
theorem set_list:Uz X UW:=by
 intro pins s σ H o i v ov iv u Q I ro ri rv h
 obtain ⟨p,xs,k,j,rfl,rfl,hp,hj,q⟩:=h
 cases ro
 obtain ⟨t,rfl⟩:=ri
 obtain ⟨aN,n,r,ho,hz⟩:=I.lst hp
 obtain ⟨h1,h2,h3,h4⟩:=Dp hj
 have hl:=(r:)
 have hn:=gL
 have I':Inv X pins σ (upd H p (.lst (xs.set j v))) { s with heap:=s.heap.update p (Obj.mapSeq (·.setIfInBounds j u)) }:=
  I.PR hp ho (Bv aN n j u) (r.set rv j) (by rw[List.length_set];exact hz) s.toks
 by_cases h0:0<=k
 ·have hk:k.toNat=j:=by
   rw[seqIndex_of h0 h4]at h1
   exact Qaz h1
  exact PySem.W.ki_setAt ho h0 () (by rw[Qaj, <-hl];exact h4) (by rw[hk];exact ⟨_,I',q⟩)
 ·have hk:(k+(aN.toArray.size:Int)).toNat=j:=by
   rw[seqIndex_neg () h3]at h1
   rw[Qaj, <-hl]
   exact Qaz h1
  exact PySem.W.ki_setBack ho () (by rw[Qaj, <-hl];exact h3) () (by rw[hk];exact ⟨_,I',q⟩)
theorem xC(lo hi:Option Int)(n:Nat):(sliceBounds lo hi none n).1=((HT.nq n 0 lo:Nat):Int)/\(sliceBounds lo hi none n).2.1=((HT.nq n n hi:Nat):Int)/\(sliceBounds lo hi none n).2.2=1:=by
 refine ⟨?_,?_,rfl⟩
 ·cases lo with
  | none=>simp[sliceBounds,HT.nq]
  | some i=>
   simp only[sliceBounds,HT.nq,Option.getD_none,show (1:Int)>0 by decide,if_true]
   by_cases h:i<0
   ·simp only[h,if_true]<;>lia
   ·simp only[h,if_false]<;>lia
 ·cases hi with
  | none=>simp[sliceBounds,HT.nq]
  | some i=>
   simp only[sliceBounds,HT.nq,Option.getD_none,show (1:Int)>0 by decide,if_true]
   by_cases h:i<0
   ·simp only[h,if_true]<;>lia
   ·simp only[h,if_false]<;>lia
theorem vq(aN:List Value)(lo hi:Option Int):slicePick aN.toArray lo hi none=((aN.drop (HT.nq (aN:) 0 lo)).take (HT.nq (aN:) (aN:) hi - HT.nq (aN:) 0 lo)).toArray:=by
 obtain ⟨h1,h2,h3⟩:=xC lo hi aN.toArray.size
 unfold slicePick
 rw[h1,h2,h3]
 simp only[sliceRange_one,pick_run,Qaj]<;>rfl
inductive He(K:c6)(x:V)(lo:Option Int)(hi:Option Int)(H:Hp)(Q:VK):Prop
 | mk (a:_) (xs:_) (_:x= .ref a) (_:bu K H a xs) (_:∀p,H p=none->Q (.ref p) (upd H p (.lst (zD xs lo hi)))):He K x lo hi H Q
def UX(K:c6):V->Option Int->Option Int->Hp->VK->Prop:=He K
theorem LQ:Xg X (UX X.K):=by
 intro pins s σ H x v vl vu lo hi sl Q I rx hs pl pu h
 obtain ⟨a,xs,rfl,hx,q⟩:=h
 cases rx
 obtain ⟨aN,r,ht,hz⟩:=I.list hx
 have hlen:=(r:)
 refine ⟨"list",_,slot_list_getitem.lookup,ht.isList.typeIs,?_⟩
 refine wpAny_getItem_list_slice ht.isList hs pl pu .none (by simp) ?_ (by rw[Qaj]<;>lia)
 rw[vq, <-hlen]
 refine ⟨.ref s.heap.objs.size,_,I.laid (t':=s.toks) (o:= .lst (zD xs lo hi)) (λb ob q=>Qac _ q) (Qaa _) ?_,rfl,q _ (I.bX.fresh (Qaa _))⟩
 exact ⟨Qbb (zE xs lo hi) hz,_,0,(r.drop (HT.nq (xs:) 0 lo)).take (HT.nq (xs:) (xs:) hi - HT.nq (xs:) 0 lo),Qaq _ rfl⟩
noncomputable def md:V->Bool
 | .gk=>true
 | .bl _=>true
 | .int _=>true
 | .str _=>true
 | _=>false
noncomputable def Li:V->V->Bool
 | .gk,.gk=>true
 | .bl a,.bl b=>a==b
 | .bl a,.int b=>(if a then 1 else 0)==b
 | .int a,.bl b=>a==(if b then 1 else 0)
 | .int a,.int b=>a==b
 | .str a,.str b=>a==b
 | _,_=>false
theorem PU{A:Around}{y:V}(ry:RelV y u)(rx:RelV x v)(fy:md y=true)(fx:md x=true):SeqAt.EqAt A s u v (Li y x):=by
 cases y with
 | gk=>
  cases ry
  cases x with
  | gk=>cases rx;exact SeqAt.EqAt.same _
  | bl b=>cases rx;exact SeqAt.EqAt.none_bool b
  | int b=>obtain ⟨t,rfl⟩:=rx;exact SeqAt.EqAt.none_int b t
  | str b=>obtain ⟨t,rfl⟩:=rx;exact SeqAt.EqAt.none_str b t
  | _=>exact absurd (show false=true from fx) Qax
 | bl a=>
  cases ry
  cases x with
  | gk=>cases rx;exact SeqAt.EqAt.bool_none a
  | bl b=>cases rx;exact SeqAt.EqAt.bool_bool a b
  | int b=>obtain ⟨t,rfl⟩:=rx;exact SeqAt.EqAt.bool_int a b t
  | str b=>obtain ⟨t,rfl⟩:=rx;exact SeqAt.EqAt.bool_str a b t
  | _=>exact absurd (show false=true from fx) Qax
 | int a=>
  walk_at"x"
  cases x with
  | gk=>cases rx;exact SeqAt.EqAt.int_none a t'
  | bl b=>cases rx;exact SeqAt.EqAt.int_bool a t' b
  | int b=>obtain ⟨t,rfl⟩:=rx;exact SeqAt.EqAt.int_int a t' b t
  | str b=>obtain ⟨t,rfl⟩:=rx;exact SeqAt.EqAt.int_str a t' b t
  | _=>exact absurd (show false=true from fx) Qax
 | str a=>
  walk_at"x"
  cases x with
  | gk=>cases rx;exact SeqAt.EqAt.str_none a t'
  | bl b=>cases rx;exact SeqAt.EqAt.str_bool a t' b
  | int b=>obtain ⟨t,rfl⟩:=rx;exact SeqAt.EqAt.str_int a t' b t
  | str b=>obtain ⟨t,rfl⟩:=rx;exact SeqAt.EqAt.str_str a t' b t
  | _=>exact absurd (show false=true from fx) Qax
 | _=>exact absurd (show false=true from fy) Qax
noncomputable def LR(x:V)(u:Value):Bool:=match u with
 | .none=>Li .gk x
 | .bool b=>Li (.bl b) x
 | .int i _=>Li (.int i) x
 | .str z _=>Li (.str z) x
 | _=>false
theorem Hf{y:V}(r:RelV y u)(f:md y=true):LR x u=Li y x:=by
 cases y with
 | gk=>cases r;rfl
 | bl b=>cases r;rfl
 | int i=>obtain ⟨t,rfl⟩:=r;rfl
 | str z=>obtain ⟨t,rfl⟩:=r;rfl
 | _=>exact absurd (show false=true from f) Qax
theorem xD{x:V}:∀{xs:List V} {us:List Value},Vals xs us->xs.all md=true->us.any (LR x)=xs.any λy=>Li y x
 | _,_,.nil,_=>rfl
 | y::xs,u::us,.cons r t,f=>by
  rw[List.all_cons,Qb9]at f
  rw[Qdh,Qdh,Hf r f.1,xD t f.2]
theorem sQ{A:Around}{s:Shared}{x:V}{v:Value}(rx:RelV x v)(fx:md x=true):∀{xs:List V} {us:List Value},Vals xs us->xs.all md=true->∀u∈us,SeqAt.EqAt A s u v (LR x u)
 | _,_,.nil,_=>λu hu=>by cases hu
 | y::xs,u::us,.cons r t,f=>λu' hu=>by
  rw[List.all_cons,Qb9]at f
  rcases Qab.mp hu with rfl | hu
  ·rw[Hf r f.1];exact PU r rx f.1 fx
  ·exact sQ rx fx t f.2 u' hu
noncomputable def Lj(x:V)(xs:List V):Bool:=xs.any λy=>Li y x
inductive Oh(K:c6)(neg:Bool)(x:V)(y:V)(H:Hp)(Q:VK):Prop
 | mk (p:_) (xs:_) (_:y= .ref p) (_:(bu K H p xs\/dH K H p xs)) (_:md x=true) (_:xs.all md=true) (_:Q (.bl (if neg then !Lj x xs else Lj x xs)) H):Oh K neg x y H Q
def rIn(K:c6)(neg:Bool):R2:=Oh K neg
theorem xE:iM X (compareOp .NotIn) (rIn X.K true):=by
 walk_at"a"
 obtain ⟨p,xs,rfl,hq,fx,fs,q⟩:=h
 cases ry
 rcases hq with hq | hq
 ·obtain ⟨aN,r,pl,hz⟩:=I.list hq
  refine SeqAt.notIn_listAt (LR x) pl.isList (λw hw=>sQ rx fx r fs w (by simpa using hw)) ⟨.bl _,H,I,rfl,?_⟩
  rw[show aN.toArray.any (LR x)=aN.any (LR x) by simp,xD r fs]
  exact q
 ·obtain ⟨aN,r,pl,hz⟩:=I.tuple hq
  refine SeqAt.notIn_tupleAt (LR x) pl (λw hw=>sQ rx fx r fs w (by simpa using hw)) ⟨.bl _,H,I,rfl,?_⟩
  rw[show aN.toArray.any (LR x)=aN.any (LR x) by simp,xD r fs]
  exact q
theorem xF:iM X (compareOp .NotIn) (λx y H Q=>∃i j,x= .str i/\y= .str j/\Q (.bl (!(!(Builtin.Str.occurrences j i 0 (j:) 1).isEmpty))) H):=by
 walk_at"a"
 obtain ⟨i,j,rfl,rfl,q⟩:=h
 walk_at"f"
 walk_at"x"
 exact notIn_str ⟨.bl _,H,I,rfl,q⟩
theorem xG:eL X (.builtin "len") (λxs H Q=>∃p ys,xs=[.ref p]/\(bu X.K H p ys\/dH X.K H p ys)/\Q (.int (ys:)) H):=by
 walk_at"h"
 obtain ⟨p,ys,rfl,hq,q⟩:=h
 obtain ⟨u,rfl,rx⟩:=vals1 r
 cases rx
 have hn:=gL
 rcases hq with hq | hq
 ·obtain ⟨aN,r',pl,hz⟩:=I.list hq
  have hlen:=(r':)
  exact Calls.call_len_list pl.isList (by simp only[Qaj]<;>lia) ⟨.int (ys:),H,I.tok _,⟨s.toks+1,by rw[Qaj,hlen]⟩,q⟩
 ·obtain ⟨aN,r',pl,hz⟩:=I.tuple hq
  have hlen:=(r':)
  exact len_tuple pl (by simp only[Qaj]<;>lia) ⟨.int (ys:),H,I.tok _,⟨s.toks+1,by rw[Qaj,hlen]⟩,q⟩
theorem xH:eL X (.builtin "len") (λxs H Q=>∃z,xs=[.str z]/\(z:)<=sizeLine/\Q (.int (z:)) H):=by
 walk_at"h"
 obtain ⟨z,rfl,hz,q⟩:=h
 obtain ⟨u,rfl,t,rfl⟩:=vals1 r
 have hn:=gL
 exact len_str () ⟨.int (z:),H,I.tok _,⟨_,rfl⟩,q⟩
theorem xI:eL X (.type "list") (λxs H Q=>∃p ys,xs=[.ref p]/\(bu X.K H p ys\/dH X.K H p ys)/\∀l,H l=none->Q (.ref l) (upd H l (.lst ys))):=by
 walk_at"h"
 obtain ⟨p,ys,rfl,hq,q⟩:=h
 obtain ⟨u,rfl,rx⟩:=vals1 r
 cases rx
 have fin:∀(aN:List Value),Vals ys aN->(ys:)<=sizeLine->∀(h':Heap) (c':Nat),(∀b o',s.heap.get? b=some o'->h'.get? b=some o')->
   h'.get? s.heap.objs.size=some { cls:= .type "list",dict:=none,data:= .seq aN.toArray c',slots:= #[] }->EP X pins σ Q (.ref s.heap.objs.size) { s with heap:=h' }:=λaN r' hz h' c' kp e=>
  ⟨.ref s.heap.objs.size,_,I.laid (t':=s.toks) kp (Qaa _) (show cP X.prog X.w _ h' _ (.lst ys) from ⟨hz,aN,c',r',e⟩),rfl,q _ (I.bX.fresh (Qaa _))⟩
 rcases hq with hq | hq
 ·obtain ⟨aN,r',pl,hz⟩:=I.list hq
  have hlen:=(r':)
  obtain ⟨o,ho,hc,n,hd⟩:=pl.isList
  exact call_list_seq p (.inl rfl) ho hc hd (λh' c' kp e=>fin aN r' hz h' c' kp e) (by simp only[Qaj]<;>lia)
 ·obtain ⟨aN,r',pl,hz⟩:=I.tuple hq
  have hlen:=(r':)
  obtain ⟨o,ho,hc,n,hd⟩:=pl
  exact call_list_seq p (.inr rfl) ho hc hd (λh' c' kp e=>fin aN r' hz h' c' kp e) (by simp only[Qaj]<;>lia)
theorem vv:eL X (.type "tuple") (λxs H Q=>∃p ys,xs=[.ref p]/\((bu X.K H p ys/\∀l,H l=none->Q (.ref l) (upd H l (.tup ys)))\/(dH X.K H p ys/\Q (.ref p) H))):=by
 walk_at"h"
 obtain ⟨p,ys,rfl,h⟩:=h
 obtain ⟨u,rfl,rx⟩:=vals1 r
 cases rx
 rcases h with ⟨hq,q⟩ | ⟨hq,q⟩
 ·obtain ⟨aN,r',pl,hz⟩:=I.list hq
  have hlen:=(r':)
  refine call_tuple_list pl.isList (λh' kp=>?_) (by simp only[Qaj]<;>lia)
  have I1:Inv X pins σ H { s with heap:=h' }:=I.kept (t':=s.toks) kp
  have I2:Inv X pins σ (upd H h'.objs.size (.tup ys)) { s with heap:=h'.push { cls:= .type "tuple",data:= .seq aN.toArray } }:=
   I1.laid (t':=s.toks) (λb o e=>Qac _ e) (Qaa _) (show cP X.prog X.w _ _ _ (.tup ys) from ⟨hz,aN,r',IsTup.new _ _⟩)
  exact ⟨.ref h'.objs.size,_,I2,rfl,q _ (I1.bX.fresh (Qaa _))⟩
 ·obtain ⟨aN,r',pl,hz⟩:=I.tuple hq
  exact call_tuple_same pl ⟨.ref p,H,I,rfl,q⟩
def Yx(K:c6)(T:String)(x:V)(H:Hp):Prop:=match x with
 | .str _=>T="str"
 | .int _=>T="int"
 | .ref p=>(T="list"/\∃xs,bu K H p xs)\/(T="tuple"/\∃o,K.lookup p=some o/\o.cls= .type "tuple"/\o.dict=none)\/
   (T="dict"/\((∃aJ,H p=some (.dK aJ))\/∃aJ,H p=some (.dT aJ)))\/(T="set"/\∃S n,H p=some (.set S n))
 | _=>False
theorem Hg{T:String}(I:Inv X pins σ H s)(r:RelV x v)(ty:Yx X.K T x H):
  s.TypeIs v T/\∀a,v= .ref a->∃ob,s.heap.get? a=some ob/\ob.dict=none:=by
 cases x with
 | str z=>
  obtain ⟨t,rfl⟩:=r
  cases (show T="str" from ty)
  exact ⟨typeIs_str s z t,λ_ e=>nomatch e⟩
 | int i=>
  obtain ⟨t,rfl⟩:=r
  cases (show T="int" from ty)
  exact ⟨typeIs_int s i t,λ_ e=>nomatch e⟩
 | ref p=>
  cases r
  rcases ty with ⟨rfl,xs,hq⟩ | ⟨rfl,o,hk,hc,hd⟩ | ⟨rfl,hk⟩ | ⟨rfl,S,n,hk⟩
  ·obtain ⟨aN,_,pl,_⟩:=I.list hq
   refine ⟨pl.isList.typeIs,λa e=>?_⟩
   cases e
   obtain ⟨o,n,e,c,hd,_⟩:=pl
   exact ⟨o,e,hd⟩
  ·refine ⟨⟨o,I.Bg p o hk,hc⟩,λa e=>?_⟩
   cases e
   exact ⟨o,I.Bg _ o hk,hd⟩
  ·have z:∃o,s.heap.get? p=some o/\o.ExactDict:=by
    rcases hk with ⟨aJ,hk⟩ | ⟨aJ,hk⟩
    ·obtain ⟨_,_,_,_,o,_,_,e,ex,_⟩:=I.bX p _ hk
     exact ⟨o,e,ex⟩
    ·obtain ⟨_,_,_,_,o,_,_,e,ex,_⟩:=I.bX p _ hk
     exact ⟨o,e,ex⟩
   obtain ⟨o,e,ex⟩:=z
   refine ⟨⟨o,e,ex.1⟩,λa e2=>?_⟩
   cases e2
   exact ⟨o,e,ex.2.1⟩
  ·obtain ⟨o,_,_,_,e,ex,_⟩:=I.bX p _ hk
   refine ⟨⟨o,e,ex.1⟩,λa e2=>?_⟩
   cases e2
   exact ⟨o,e,ex.2.1⟩
 | _=>exact False.elim ty
def UY(K:c6)(T:String)(r:V->List V->Hp->VK->Prop)(to:TE):TE:=λσ H Q=>to σ H λx H1=>Yx K T x H1/\r x [] H1 Q
def tBM(K:c6)(T:String)(r:V->List V->Hp->VK->Prop)(to:TE)(t:TA):TE:=λσ H Q=>to σ H λx H1=>Yx K T x H1/\t σ H1 λxs H2=>r x xs H2 Q
variable{o e:Expr}{es:List Expr}{to:TE}{t:TA}{name:Str}{apos jP:Pos}{T id:String}{r:V->List V->Hp->VK->Prop}
theorem PV(pa:PlainAttrs T)(slot:Slot T name id)(PX:typeOf (.builtin id)=pure (.type "method_descriptor"))(hm:EZ X id r)(ho:PE X o to)
  (sR:attributeBase o name X.env (eval o X.env)=eval o X.env:=by rfl) (jA:(apos.endLine==jP.line)=true:=by rfl):PE X (.Call (.Attribute o name apos) [] [] jP) (UY X.K T r to):=by
 walk_at"e"
 refine wpAny_Call_method0_late sR jA (cE (ho pins s σ H _ I h) λv s1 ⟨x,H1,I1,r1,ty,q1⟩=>?_)
 obtain ⟨h1,h2⟩:=Hg I1 r1 ty
 exact ⟨T,id,pa,slot,PX,h1,h2,Calls.callWith_builtin rfl (PySem.evalArgs_none (hm pins s1 σ H1 x [] v [] Q I1 r1 .nil q1))⟩
theorem UZ(pa:PlainAttrs T)(slot:Slot T name id)(PX:typeOf (.builtin id)=pure (.type "method_descriptor"))(hm:EZ X id r)(ho:PE X o to)(ha:PA X (e::es) t)
  (sR:attributeBase o name X.env (eval o X.env)=eval o X.env:=by rfl)
  (Hh:((backTo jP (starEach (e::es) X.env)).all (λx=>!x.1)&&(backToKw jP (keywordEach [] X.env)).all (λx=>x.1.isSome)
   &&decide (((e::es):)+(([]:List Keyword):)+(if ([]:List Keyword).isEmpty then 0 else 1)<30))=true:=by rfl)
  (jA:(apos.endLine==jP.line)=true:=by rfl) (hs:starEach (e::es) X.env=(false,eval e X.env)::starEach es X.env:=by rfl) (Bw:(backTo jP (starEach es X.env)).any (·.1)=false:=by rfl):
  PE X (.Call (.Attribute o name apos) (e::es) [] jP) (tBM X.K T r to t):=by
 walk_at"e"
 refine wpAny_Call_method_late sR Hh jA rfl (cE (ho pins s σ H _ I h) λv s1 ⟨x,H1,I1,r1,ty,q1⟩=>?_)
 obtain ⟨h1,h2⟩:=Hg I1 r1 ty
 refine ⟨T,id,pa,slot,PX,h1,h2,?_⟩
 have hA:=ha jP pins s1 σ H1 _ I1 q1
 rw[hs]at hA ⊢
 refine Calls.callWith_builtin (by show (false||(backTo jP (starEach es X.env)).any (·.1))=false;rw[Bw]<;>rfl) (Calls.evalArgs_plain ?_)
 exact cE hA λus s2 ⟨vs,H2,I2,r2,q2⟩=>hm pins s2 σ H2 x vs v us Q I2 r1 r2 q2
end
def U1(X:Cx)(id:String)(r:V->List V->Hp->VK->Prop):Prop:=
 ∀(pins:List (Addr×Obj)) (s:Shared) (σ:St) (H:Hp) (x:V) (xs:List V) (v:Value) (us:List Value) (Q:VK),Inv X pins σ H s->RelV x v->Vals xs us->r x xs H Q->
  wpAny (model X.prog X.w) X.A (call (.builtin id) (v::us)) (EP X pins σ Q) X.xe s
theorem Vals.one:∀{x:V} {us:List Value},Vals [x] us->∃u,us=[u]/\RelV x u
 | _,_,.cons r .nil=>⟨_,rfl,r⟩
theorem Vals.zero:∀{us:List Value},Vals [] us->us=[]
 | _,.nil=>rfl
variable{us:List Value}
theorem Vals.dropLast(h:Vals xs us):Vals xs.dropLast us.dropLast:=by
 induction h with
 | nil=>exact .nil
 | cons r t ih=>
  cases t with
  | nil=>exact .nil
  | cons q t'=>exact .cons r ih
theorem Vals.eraseIdx:∀{xs:List V} {us:List Value} (i:Nat),Vals xs us->Vals (xs.eraseIdx i) (us.eraseIdx i)
 | _,_,_,.nil=> .nil
 | _,_,0,.cons _ t=>t
 | _,_,i+1,.cons r t=> .cons r (Vals.eraseIdx i t)
theorem Vals.reverse(h:Vals xs us):Vals xs.reverse us.reverse:=by
 induction h with
 | nil=>exact .nil
 | cons r t ih=>rw[Qey,Qey];exact Vals.append ih (.cons r .nil)
theorem Bx{α:Type}(l:List α):l.eraseIdx ((l:) - 1)=l.dropLast:=by
 induction l with
 | nil=>rfl
 | cons a r ih=>
  cases r with
  | nil=>rfl
  | cons b r=>
   have e:((a::b::r):) - 1=(((b::r):) - 1)+1:=by
    have h1:((a::b::r):)=(r:)+2:=rfl
    have h2:((b::r):)=(r:)+1:=rfl
    lia
   rw[e,Qdw,ih]
   all_goals rfl
theorem wd{α:Type}:∀(l:List α) (i:Nat),(l.eraseIdx i:)<=(l:)
 | [],_=>Qaa _
 | _::_,0=>Qcx _
 | _::r,i+1=>Qc1 (wd r i)
section
variable{X:Cx}{pins:List (Addr×Obj)}{σ:St}{H:Hp}{s:Shared}{l b:Addr}{xs ys zs:List V}
theorem Inv.Hi{f:Array Value->Array Value}{t':Nat}(I:Inv X pins σ H s)(hH:H l=some (.lst xs))
  (e:s.heap.get? l=some { cls:= .type "list",data:= .seq aN.toArray n }) (hf:f aN.toArray=its'.toArray) (hv:Vals ys its') (hz:(ys:)<=sizeLine):
  Inv X pins σ (upd H l (.lst ys)) { s with heap:=s.heap.update l (Obj.mapSeq f),toks:=t' }:=by
 have q:=PySem.IsL.update e f
 rw[hf]at q
 refine I.write (x:=l) (e:=l) (by rw[hH];exact trivial) (.inl rfl) (λb' u hb hu=>(Qbc s.heap (Obj.mapSeq f) (Ne.symm hb)).trans hu) ⟨_,q⟩ ?_
 exact ⟨hz,its',_,hv,q⟩
theorem Inv.Yy{t':Nat}(I:Inv X pins σ H s)(hv:Vals ys aN)(hz:(ys:)<=sizeLine):
  Inv X pins σ (upd H s.heap.objs.size (.lst ys)) { s with heap:=s.heap.push { cls:= .type "list",data:= .seq aN.toArray },toks:=t' }:=
 I.laid (λ_ _ q=>Qac _ q) (Qaa _) ⟨hz,aN,0,hv,Qaq _ rfl⟩
theorem Inv.fresh(I:Inv X pins σ H s):H s.heap.objs.size=none:=I.bX.fresh (Qaa _)
theorem Inv.By(I:Inv X pins σ H s)(hH:H l=some (.lst xs)):(xs:)<=sizeLine/\∃(aN:List Value) (n:Nat),Vals xs aN/\(xs:)=(aN:)/\s.heap.get? l=some { cls:= .type "list",data:= .seq aN.toArray n }:=by
 obtain ⟨z,aN,n,r,e⟩:=I.bX l _ hH
 exact ⟨z,aN,n,r,(r:),e⟩
end
section
variable{X:Cx}
inductive we(x:V)(vs:List V)(H:Hp)(Q:VK):Prop
 | mk (l:_) (xs:_) (y:_) (_:x= .ref l) (_:vs=[y]) (_:H l=some (.lst xs)) (_:(xs:)<sizeLine) (_:Q .gk (upd H l (.lst (xs++[y])))):we x vs H Q
def LS:V->List V->Hp->VK->Prop:=we
theorem eZ:U1 X "list.append" LS:=by
 walk_at"H"
 obtain ⟨l,xs,y,rfl,rfl,hH,hz,q⟩:=h
 cases rx
 obtain ⟨u,rfl,ru⟩:=rv.one
 walk_at"E"
 refine call_meets F.slot_list_append ⟨_,e,rfl⟩ F.entry_list_append (F.args_list_append_2 _ _) (PySem.list_append l aN.toArray n u (by rw[Qaj];lia)) ⟨e,?_⟩
 refine ⟨.gk,_,I.Hi (its':=aN++[u]) hH e (by simp) (r.append (.cons ru .nil)) ?_,rfl,q⟩
 rw[kb,List.length_singleton]
 lia
inductive Hj(x:V)(vs:List V)(H:Hp)(Q:VK):Prop
 | mk (l:_) (xs:_) (y:_) (_:x= .ref l) (_:vs=[]) (_:H l=some (.lst xs)) (_:xs[(xs:) - 1]? =some y) (_:Q y (upd H l (.lst xs.dropLast))):Hj x vs H Q
def Yz:V->List V->Hp->VK->Prop:=Hj
theorem PY:U1 X "list.pop" Yz:=by
 walk_at"H"
 obtain ⟨l,xs,y,rfl,rfl,hH,hy,q⟩:=h
 cases rx
 have GH:=rv.zero
 subst GH
 walk_at"E"
 obtain ⟨u,hu,ru⟩:=r.get hy
 have hy':aN.toArray[aN.toArray.size - 1]? =some u:=by
  show aN.toArray[(aN:) - 1]? =some u
  rw[<-Qbv, <-hl]
  exact hu
 refine call_meets F.slot_list_pop ⟨_,e,rfl⟩ F.entry_list_pop (F.args_list_pop_1 _) (MeetsSeq.list_pop_last l aN.toArray n u hy' (by rw[Qaj];lia)) ⟨e,?_⟩
 refine ⟨y,_,I.Hi (its':=aN.dropLast) hH e ?_ r.dropLast ?_,ru,q⟩
 ·show aN.toArray.eraseIdxIfInBounds (aN.toArray.size - 1)=aN.dropLast.toArray
  rw[Qaj,List.eraseIdxIfInBounds_toArray,Bx]
 ·rw[List.length_dropLast]
  lia
inductive zG(x:V)(vs:List V)(H:Hp)(Q:VK):Prop
 | mk (l:_) (xs:_) (i:_) (k:_) (y:_) (_:x= .ref l) (_:vs=[.int i]) (_:H l=some (.lst xs)) (_: -(2 ^ 63)<=i) (_:i<2 ^ 63) (_:seqIndex? i (xs:)=some k) (_:xs[k]? =some y) (_:Q y (upd H l (.lst (xs.eraseIdx k)))):zG x vs H Q
def PZ:V->List V->Hp->VK->Prop:=zG
theorem sS:U1 X "list.pop" PZ:=by
 walk_at"H"
 obtain ⟨l,xs,i,k,y,rfl,rfl,hH,h1,h2,hk,hy,q⟩:=h
 cases rx
 obtain ⟨u,rfl,ru⟩:=rv.one
 obtain ⟨t,rfl⟩:=ru
 walk_at"E"
 obtain ⟨w,hw,zF⟩:=r.get hy
 refine call_meets F.slot_list_pop ⟨_,e,rfl⟩ F.entry_list_pop (F.args_list_pop_2 _ _)
  (MeetsSeq.list_pop_at l aN.toArray n i t k w (fitsIndex_both h1 h2) (by rw[Qaj, <-hl];exact hk) (by rw[<-Qbv];exact hw) (by rw[Qaj];lia)) ⟨e,?_⟩
 refine ⟨y,_,I.Hi (its':=aN.eraseIdx k) hH e ?_ (r.eraseIdx k) ?_,zF,q⟩
 ·show aN.toArray.eraseIdxIfInBounds k=(aN.eraseIdx k).toArray
  rw[List.eraseIdxIfInBounds_toArray]
 ·have:=wd xs k
  lia
inductive sU(x:V)(vs:List V)(H:Hp)(Q:VK):Prop
 | mk (l:_) (xs:_) (_:x= .ref l) (_:vs=[]) (_:H l=some (.lst xs)) (_:Q .gk (upd H l (.lst xs.reverse))):sU x vs H Q
def Hk:V->List V->Hp->VK->Prop:=sU
theorem Bz:U1 X "list.reverse" Hk:=by
 walk_at"H"
 obtain ⟨l,xs,rfl,rfl,hH,q⟩:=h
 cases rx
 have GH:=rv.zero
 subst GH
 walk_at"E"
 refine call_meets F.slot_list_reverse ⟨_,e,rfl⟩ F.entry_list_reverse (F.args_list_reverse_1 _) (AutoSeq1.list_reverse_list_0 l aN.toArray n (by rw[Qaj];lia)) ⟨e,?_⟩
 refine ⟨.gk,_,I.Hi (its':=aN.reverse) hH e (by simp) r.reverse ?_,rfl,q⟩
 rw[Qas]
 lia
inductive Hl(x:V)(y:V)(H:Hp)(Q:VK):Prop
 | mk (l:_) (b:_) (xs:_) (zs:_) (_:x= .ref l) (_:y= .ref b) (_:H l=some (.lst xs)) (_:H b=some (.lst zs)) (_:(xs:)+(zs:)<=sizeLine) (_:∀p,H p=none->Q (.ref p) (upd H p (.lst (xs++zs)))):Hl x y H Q
def YA:R2:=Hl
theorem BA:iM X (binaryOp .Add) YA:=by
 walk_at"a"
 obtain ⟨l,b,xs,zs,rfl,rfl,hH,hB,hz,q⟩:=h
 cases rx
 cases ry
 walk_at"E"
 obtain ⟨z2,U2,n2,r2,Oi,e2⟩:=I.By hB
 refine PySem.P.add_list e e2 ?_ (by rw[Qaj,Qaj];lia)
 have ea:aN.toArray++U2.toArray=(aN++U2).toArray:=by simp
 rw[ea]
 exact ⟨.ref _,_,I.Yy (t':=s.toks) (r.append r2) (by rw[kb];lia),rfl,q _ I.fresh⟩
end
end L2
namespace Att
open PySem PySem.W PySem.Calls PyProof.Rows
variable{h:Heap}
theorem q9{P:Params}:∀(ns:List Int) (vs:List Value),WellAll P h vs (ns.map WData.int)->IntsAre vs ns:=by
 intro ns
 induction ns with
 | nil=>
  intro vs w
  rw[List.map_nil]at w
  cases w
  exact .nil
 | cons n ns ih=>
  intro vs w
  rw[Qa2]at w
  cases w with
  | cons a b=>
   cases a
   exact .cons _ _ (ih _ b)
variable{l:OpenLaw}{n:Nat}
theorem E1(hn:l.most=some n){P:Params}{args:List WData}{vals:List Value}
  (LU:l.row.toRowW.claim.pre args=true) (zh:WellAll P h vals args):
  ∃a vs ns,vals=[Value.ref a]/\args=[WData.list (ns.map WData.int)]/\h.get? a=some { cls:= .type "list",data:= .seq vs.toArray }/\IntsAre vs ns/\(ns:)<=n:=by
 have YB:WShape.hasAll [] args [.list .int]=true:=(pre_splitW LU).1
 have hc:l.pre.holds [] { args:=args }=true:=(pre_splitW LU).2
 obtain ⟨d,r,rfl,h1,h2⟩:=hasAllW_cons YB
 obtain rfl:=hasAllW_nil h2
 obtain ⟨xs,rfl,h3⟩:=hasW_list h1
 obtain ⟨ns,rfl⟩:=items_int h3
 have hlen:(ns:)<=n:=by
  unfold OpenLaw.pre at hc
  have h4:(WTm.not (.lt (.lit (.int (n:Int))) (.len (.arg 0)))).holds [] { args:=[.list (ns.map .int)] }=true:=by
   have h4:=(holds_andW hc).1
   rw[hn]at h4
   exact h4
  have h5:=condW_of h4 (w_not (w_lt w_lit (w_len_list (w_arg rfl))))
  rw[Xi]at h5
  refine Nat.le_of_not_lt λq=>?_
  have q':(n:Int)<(((ns:):Nat):Int):=by lia
  first
   |(rw[decide_eq_true q']at h5;exact absurd h5 ∅)
   |(simp at h5;lia)
 cases zh with
 | cons w1 w2=>
  cases w2
  cases w1 with
  | list ho zH=>exact ⟨_,_,ns,rfl,rfl,ho,q9 ns _ zH,hlen⟩
theorem E2(l:OpenLaw)(args:List WData):l.row.toRowW.claim.post args (.bool true) args=true:=
 postW_of (r:=l.row.toRowW) (X:=(true==true))
  (show WShape.has [] (.bool true) .bool=true by first | rfl | decide | simp[WShape.has,WShape.arms,WShape.armsAll])
  (show (WTm.eq .res (.lit (.bool true))).value [] { args:=args,res:=some (.bool true),after:=args }=some (.bool (true==true)) from w_eq_bool (w_res rfl) w_lit) rfl
theorem zI{q:Program}{loose:List Str}{XP:(Str->Option Value)->Heap->Prop}{YP:World->Heap->Prop}{d:DefRec}
  (hn:l.most=some n) (U3:d.params.defaults=[])
  (call:∀(w:World) (s₀ s₁:Shared) (mg mb:Str->Option Value) (fa:Addr) (o:Obj) (pm cd doc:Value) (a:Addr) (vs:List Value) (ns:List Int),
   Ground q loose [] XP w s₀ mg mb s₁.heap->YP w s₁.heap->
   s₁.heap.get? fa=some o->o.data= .func (docDef d.name d.params d.body d.scope pm cd doc)->s₁.heap.CodeRec cd d.name->mg d.name=some (.ref fa)->
   s₁.heap.get? a=some { cls:= .type "list",data:= .seq vs.toArray }->IntsAre vs ns->(ns:)<=n->s₁.gens= #[]->
   codeAny (model l.prog w) callerA (.call (.ref fa) ⟨[.ref a],[]⟩) (λr s'=>r= .ok (.ret (.bool true))/\OldK s₁.heap s'.heap/\s'.os=s₁.os/\AllBare s'.gens) s₁):
  WalkO q loose XP YP l.row.toRowW d [] (λf vs=>PySem.call f vs):=by
 intro w s₀ s₁ mg mb G Y fa o pm cd doc dV kV ho hd lX hD hmg hg args vals as LU aap hrd zh hlo
 obtain rfl:dV= .none:=Dflts.none hD U3
 obtain rfl:kV= .none:=Dflts.noKw hD
 obtain ⟨a,vs,ns,rfl,rfl,P0,hints,hlen⟩:=E1 hn LU zh
 refine enter_call (codeAny_mono (call w s₀ s₁ mg mb fa o pm cd doc a vs ns G Y ho (fd_plain hd) lX hmg P0 hints hlen hg) λr s' hq=>?_)
 obtain ⟨rfl,h2,h3,h4⟩:=hq
 exact ⟨.inl ⟨.bool true,.bool true,[],rfl,λ_=>rfl,.bool true,E2 l _,λ_=>⟨List.Pairwise.nil,λ_ hm=>(nomatch hm)⟩⟩,h2,h3,h4⟩
end Att
namespace L2
open PySem PySem.Spec PyProof.Rows
theorem wg:∀{vs:List Value} {ns:List Int},IntsAre vs ns->Vals (ns.map V.int) vs
 | _,_,.nil=> .nil
 | _,_,.cons n t h=> .cons ⟨t,rfl⟩ (wg h)
noncomputable def dI(s:Stmt):Arguments:=match s with
 | .FunctionDef _ a _ _ _ _ _ _ _ _=>a
 | _=>{ posonlyargs:=[],args:=[],vararg:=none,kwonlyargs:=[],kw_defaults:=[],kwarg:=none,defaults:=[] }
noncomputable def cS(s:Stmt):List Stmt:=match s with
 | .FunctionDef _ _ b _ _ _ _ _ _ _=>b
 | _=>[]
noncomputable def aA(s:Stmt):Scope:=match s with
 | .FunctionDef _ _ _ _ _ _ sc _ _ _=>sc
 | _=>{ kind:= .function,names:=[],isGenerator:=false,isCoroutine:=false }
abbrev eM:EY:=λ_ _ _ _ _ _=>False
abbrev E0:XK:=λ_ _ _=>False
variable{X:Cx}
theorem hJ:Passes eM X E0:=λ_ _ _ _ _ _ _ h=>h.elim
structure LV(K:c6)(x qual:Str)(st:Stmt)(f:Addr)(fd:FuncData):Prop where
 ex:∃(oc:Value) (od:Option Addr) (kV doc pm:Value) (an:Option Addr) (cZ ct:Value) (zg:Array (Option Value)),
  fd=PySem.W.fnOf x qual (dI st) (cS st) (aA st) .none kV doc pm an cZ ct/\K.lookup f=some ⟨oc,od,.func fd,zg⟩/\PySem.W.codeIn K cZ qual=true
 kp:PySem.W.keepIn K (.ref f)=true
variable{x qual:Str}{st:Stmt}{f:Addr}{ps:List Str}
section
variable{P:Program}{w:World}{K:c6}{mg:Str->Option Value}{base:Heap}
theorem LV.ok{fd:FuncData}{N:List Str}{k:Nat}{sp:Sp}(F:LV K x qual st f fd)(S:aG N ps (aA st))(len:∀vs H Q E,sp vs H Q E->(vs:)=(ps:))
  (sP:∀(cZ:Value) (A:Around) (outer:List Env) (s:Shared) (H:Hp) (vs:List V) (Q:VK) (E:XK),c_ k (A.deeper (envOfC qual (aA st) s.heap.objs.size f cZ))->sp vs H Q E->
   ∃t,zf (xA eM P w K mg base N qual (aA st) f cZ A outer s H E).Lf (cS st) t/\t { nx:=λ_ H'=>Q .gk H',rt:=Q } (start N vs) H):bD P w K mg base eM (k+1) f fd ps sp:=by
 obtain ⟨oc,od,kV,doc,pm,an,cZ,ct,zg,rfl,lk,lX⟩:=F.ex
 refine Og lk lX S len λA outer s H vs Q E hr zB=>?_
 obtain ⟨t,h,q⟩:=sP cZ A outer s H vs Q E hr zB
 exact ⟨t,h.Lf,q⟩
theorem LV.binds{fd:FuncData}(F:LV K x qual st f fd)
  (h:∀(kV doc pm:Value) (an:Option Addr) (cZ ct:Value) (us:List Value),(us:)=(ps:)->bindArgs (PySem.W.fnOf x qual (dI st) (cS st) (aA st) .none kV doc pm an cZ ct) ⟨us,[]⟩=pure (ps.zip us)):Binds K fd ps []:=by
 obtain ⟨oc,od,kV,doc,pm,an,cZ,ct,zg,rfl,lk,lX⟩:=F.ex
 exact .all (h kV doc pm an cZ ct)
theorem xJ{oc:Value}{od an:Option Addr}{zg:Array (Option Value)}{kV doc pm cZ ct:Value}(l:K.lookup f=some ⟨oc,od,.func (PySem.W.fnOf x qual (dI st) (cS st) (aA st) .none kV doc pm an cZ ct),zg⟩)
  (c:PySem.W.codeIn K cZ qual=true) (k:PySem.W.keepIn K (.ref f)=true):LV K x qual st f (PySem.W.fnOf x qual (dI st) (cS st) (aA st) .none kV doc pm an cZ ct):=⟨⟨oc,od,kV,doc,pm,an,cZ,ct,zg,rfl,l,c⟩,k⟩
end
theorem me{A:Around}{k:Nat}(hr:c_ k A):A.units+1<cLine:=Qbl (Nat.add_le_add_left (by decide:1<=64) _) hr.units
variable{pos:Pos}
section
variable{X:Cx}
theorem pv(i:Nat)(hN:X.N[i]? =some x:=by rfl)(hv:Up X.env.scope x:=by first | exact Or.inl rfl | exact Or.inr (Or.inl rfl) | exact Or.inr (Or.inr rfl))(hd:(x==("__debug__":Str))=false:=by decide)
  (lX:(x==("__classdict__":Str))=false:=by decide):PE X (.Name x pos) (Pl i):=Bh hN hv hd lX
end
variable{A B:Prop}
theorem U4(h:B):if false=true then A else B:=by
 rw[if_neg Qax]
 exact h
theorem U5(h:A):if true=true then A else B:=by
 rw[if_pos rfl]
 exact h
theorem eN{c:Prop}[Decidable c](h1:c->A)(h2: ¬c->B):if c then A else B:=by
 by_cases h:c
 ·rw[if_pos h]
  exact h1 h
 ·rw[if_neg h]
  exact h2 h
def ay(H H':Hp):Prop:=∀b o,H b=some o->H' b=some o
theorem ay.refl(H:Hp):ay H H:=λ_ _ h=>h
variable{H:Hp}
theorem ay.trans{H1 H2:Hp}(a:ay H H1)(b:ay H1 H2):ay H H2:=λc o h=>b c o (a c o h)
variable{H':Hp}
theorem ay.free(e:ay H H'){l:Addr}(h:H' l=Option.none):H l=Option.none:=by
 cases q:H l with
 | none=>rfl
 | some o=>
  rw[e l o q]at h
  cases h
theorem ay.seq{K:c6}{a:Addr}{xs:List V}(e:ay H H')(h:bu K H a xs):bu K H' a xs:=by
 rcases h with (h | ⟨o,h⟩) | h
 ·exact .inl (.inl (e _ _ h))
 ·exact .inl (.inr ⟨o,e _ _ h⟩)
 ·exact .inr h
noncomputable def jQ(env:Env):List (Str×NameKind)->List (Str×Addr)->List (Str×Addr)
 | [],acc=>acc
 |(n,k)::r,acc=>jQ env r (if k== .free then (match env.cells.lookup n with | some a=>(n,a)::acc | none=>acc) else acc)
theorem gn{env:Env}:∀(names:List (Str×NameKind)) (acc:List (Str×Addr)),(∀y∈names,y.2= .free->∃c,env.cells.lookup y.1=some c)->
  (forIn names acc λ(x:Str×NameKind) (cs:List (Str×Addr))=>(if (x.2==NameKind.free)=true then do let a <-cellOf env x.1;pure (ForInStep.yield ((x.1,a)::cs)) else pure (ForInStep.yield cs):Sem (ForInStep (List (Str×Addr)))))=pure (jQ env names acc)
 | [],acc,_=>rfl
 |(n,k)::r,acc,h=>by
  rw[Qen]
  have hr:∀y∈r,y.2= .free->∃c,env.cells.lookup y.1=some c:=λy hy=>h y (Sd _ hy)
  cases hk:(k==NameKind.free) with
  | false=>
   have e1:jQ env ((n,k)::r) acc=jQ env r acc:=by
    walk_at"K"
    rw[hk,if_neg Qax]
   rw[e1, <-gn r acc hr]
   simp only[hk,Qcr,if_false,pure_bind]
  | true=>
   obtain ⟨c,hc⟩:=h (n,k) Xh (by simpa using hk)
   have e1:jQ env ((n,k)::r) acc=jQ env r ((n,c)::acc):=by
    have vn:env.cells.lookup n=some c:=hc
    walk_at"K"
    rw[hk,vn,if_pos rfl]
   have e2:cellOf env n=pure c:=by
    have vn:env.cells.lookup n=some c:=hc
    unfold cellOf
    rw[vn]
   rw[e1, <-gn r ((n,c)::acc) hr]
   simp only[hk,if_true,e2,pure_bind]
variable{scope:Scope}
theorem mf{env:Env}(h:∀y∈scope.names,y.2= .free->∃c,env.cells.lookup y.1=some c):closureFor scope env=pure (jQ env scope.names []):=by
 have e:=gn scope.names [] h
 simp only[closureFor]
 rw[e]
 rfl
theorem pQ{env:Env}{x:Str}{c:Addr}:∀(names:List (Str×NameKind)) (acc:List (Str×Addr)),(∀y d,acc.lookup y=some d->env.cells.lookup y=some d)->(jQ env names acc).lookup x=some c->env.cells.lookup x=some c
 | [],acc,ha,h=>ha x c h
 |(n,k)::r,acc,ha,h=>by
  refine pQ r _ (λy d q=>?_) h
  by_cases hk:(k==NameKind.free)=true
  ·rw[if_pos hk]at q
   cases e:env.cells.lookup n with
   | none=>rw[e]at q;exact ha y d q
   | some a=>
    rw[e]at q
    have q':List.lookup y ((n,a)::acc)=some d:=q
    rw[Qbz]at q'
    cases hy:(y==n) with
    | true=>
     rw[hy]at q'
     have:y=n:=by simpa using hy
     subst this
     rw[e];exact q'
    | false=>rw[hy]at q';exact ha y d q'
  ·rw[if_neg hk]at q;exact ha y d q
theorem zJ{env:Env}{x:Str}:∀(names:List (Str×NameKind)) (acc:List (Str×Addr)),(∃c,acc.lookup x=some c)->∃c,(jQ env names acc).lookup x=some c
 | [],acc,h=>h
 |(n,k)::r,acc,⟨c,hc⟩=>by
  refine zJ r _ ?_
  by_cases hk:(k==NameKind.free)=true
  ·rw[if_pos hk]
   cases e:env.cells.lookup n with
   | none=>exact ⟨c,hc⟩
   | some a=>
    show ∃c,List.lookup x ((n,a)::acc)=some c
    rw[Qbz]
    cases hy:(x==n) with
    | true=>exact ⟨a,rfl⟩
    | false=>exact ⟨c,hc⟩
  ·rw[if_neg hk];exact ⟨c,hc⟩
theorem sV{env:Env}{x:Str}:∀(names:List (Str×NameKind)) (acc:List (Str×Addr)),(∀y∈names,y.2= .free->∃c,env.cells.lookup y.1=some c)->names.lookup x=some .free->∃c,(jQ env names acc).lookup x=some c
 | [],acc,_,h=>by simp at h
 |(n,k)::r,acc,hf,h=>by
  have hr:∀y∈r,y.2= .free->∃c,env.cells.lookup y.1=some c:=λy hy=>hf y (Sd _ hy)
  rw[Qbz]at h
  cases hy:(x==n) with
  | true=>
   rw[hy]at h
   have hk:k= .free:=Qaz h
   subst hk
   have hx:x=n:=by simpa using hy
   subst hx
   obtain ⟨c,hc⟩:=hf (x,.free) Xh rfl
   have vn:env.cells.lookup x=some c:=hc
   refine zJ r _ ⟨c,?_⟩
   rw[if_pos (show (NameKind.free==NameKind.free)=true by decide),vn]
   show List.lookup x ((x,c)::acc)=some c
   rw[Qbz]
   simp
  | false=>
   rw[hy]at h
   exact sV r _ hr h
theorem nE{env:Env}:∀{names:List (Str×NameKind)} {x:Str},names.lookup x=some .free->
  ((names.map λ(n,k)=>if (k==NameKind.free&&env.scope.kind== .function&&env.kindOf n==some .cell) then (n,NameKind.cell) else (n,k)).lookup x=some .cell\/
   (names.map λ(n,k)=>if (k==NameKind.free&&env.scope.kind== .function&&env.kindOf n==some .cell) then (n,NameKind.cell) else (n,k)).lookup x=some .free)
 | [],_,h=>by simp at h
 |(n,k)::r,x,h=>by
  have ih:= @nE env r x
  show (List.lookup x ((if (k==NameKind.free&&env.scope.kind== .function&&env.kindOf n==some .cell)=true then (n,NameKind.cell) else (n,k))::_)=_\/List.lookup x ((if (k==NameKind.free&&env.scope.kind== .function&&env.kindOf n==some .cell)=true then (n,NameKind.cell) else (n,k))::_)=_)
  cases hx:x==n with
  | true=>
   simp only[Qbz,hx]at h
   cases h
   by_cases hc:((NameKind.free==NameKind.free)&&env.scope.kind== .function&&env.kindOf n==some .cell)=true
   ·rw[if_pos hc];simp[Qbz,hx]
   ·rw[if_neg hc];simp[Qbz,hx]
  | false=>
   simp only[Qbz,hx]at h
   by_cases hc:(k==NameKind.free&&env.scope.kind== .function&&env.kindOf n==some .cell)=true
   ·rw[if_pos hc];simp only[Qbz,hx];exact ih h
   ·rw[if_neg hc];simp only[Qbz,hx];exact ih h
theorem nF{env:Env}:∀{names:List (Str×NameKind)} {x:Str},(∀y∈names,y.2≠ .cell)->
  ((names.map λ(n,k)=>if (k==NameKind.free&&env.scope.kind== .function&&env.kindOf n==some .cell) then (n,NameKind.cell) else (n,k)).lookup x=some .cell\/
   (names.map λ(n,k)=>if (k==NameKind.free&&env.scope.kind== .function&&env.kindOf n==some .cell) then (n,NameKind.cell) else (n,k)).lookup x=some .free)->names.lookup x=some .free
 | [],_,_,h=>by simp at h
 |(n,k)::r,x,hn,h=>by
  have ih:= @nF env r x (λy hy=>hn y (Sd _ hy))
  have hk:=hn (n,k) Xh
  have h':(List.lookup x ((if (k==NameKind.free&&env.scope.kind== .function&&env.kindOf n==some .cell)=true then (n,NameKind.cell) else (n,k))::(r.map λ(n,k)=>if (k==NameKind.free&&env.scope.kind== .function&&env.kindOf n==some .cell) then (n,NameKind.cell) else (n,k)))=some .cell\/List.lookup x ((if (k==NameKind.free&&env.scope.kind== .function&&env.kindOf n==some .cell)=true then (n,NameKind.cell) else (n,k))::(r.map λ(n,k)=>if (k==NameKind.free&&env.scope.kind== .function&&env.kindOf n==some .cell) then (n,NameKind.cell) else (n,k)))=some .free):=h
  cases hx:x==n with
  | true=>
   rw[Qbz,hx]
   by_cases hc:(k==NameKind.free&&env.scope.kind== .function&&env.kindOf n==some .cell)=true
   ·have:(k==NameKind.free)=true:=by
     rw[Qb9,Qb9]at hc;exact hc.1.1
    have P6:k= .free:=by simpa using this
    rw[P6]
   ·rw[if_neg hc]at h'
    simp only[Qbz,hx]at h'
    rcases h' with h' | h'
    ·exact absurd (Qaz h') hk
    ·exact h'
  | false=>
   rw[Qbz,hx]
   by_cases hc:(k==NameKind.free&&env.scope.kind== .function&&env.kindOf n==some .cell)=true
   ·rw[if_pos hc]at h';simp only[Qbz,hx]at h';exact ih h'
   ·rw[if_neg hc]at h';simp only[Qbz,hx]at h';exact ih h'
abbrev Lk:Value->Shared->Prop:=λ_ _=>False
variable{s:Shared}{elt iter:Expr}{ifs:List Expr}
theorem xK{prog:Program}{w:World}{A:Around}{R:Result->Shared->Prop}{target:Expr}{it acc:Value}{env:Env}(I:Nat->Shared->Prop)
  (turn:∀n s,I n s->wpAny (model prog w) A (pyNext it) (λr s₁=>match r with
   | none=>R (.ok .next) s₁
   | some v=>wpAny (model prog w) A (letOwnedTupleGo target it v) (λ_ s₁'=>wpAny (model prog w) A (assign target env v) (λ_ s₂=>
     wpAny (model prog w) A (forIn ifs true λc r=>if r=true then do let ok <-isTrue c env (eval c env);pure (ForInStep.yield ok) else pure (ForInStep.yield r)) (λok s₃=>
      if ok=true then wpAny (model prog w) A (eval elt env) (λx s₄=>
       wpAny (model prog w) A (call (.builtin "list.append") [acc,x]) (λ_ s₅=>∃m,m<n/\I m s₅) Lk s₄) Lk s₃
      else ∃m,m<n/\I m s₃) Lk s₂) Lk s₁') Lk s₁) Lk s)
  (n:Nat) (h:I n s):codeAny (model prog w) A (.compLoop (.ListComp elt [⟨target,iter,ifs,0⟩] scope pos) 0 it acc env) R s:=by
 refine codeAny_loop rfl I (λn s hI=>?_) n h
 show wpAny _ A ((compTurn (.ListComp elt [⟨target,iter,ifs,0⟩] scope pos) 0 it acc env).onRaise (λx=>do noteFrame x env;theTreesLotGoes x)) _ _ s
 refine wpAny_noted ?_
 rw[compTurn_list]
 have no:∀{F:Value->Shared->Prop} (e:Value) (s':Shared),Lk e s'->F e s':=λ_ _ h=>h.elim
 refine wpAny_bind (wpAny_standAt (wpAny_bind (wpAny_mono (turn n s hI) (λr s₁ h₁=>?_) no)))
 cases r with
 | none=>exact wpAny_pure h₁
 | some v=>
  refine wpAny_bind (wpAny_mono h₁ (λ_ s₁' h₁'=>?_) no)
  refine wpAny_bind (wpAny_mono h₁' (λ_ s₂ h₂=>wpAny_bind (wpAny_mono h₂ (λok s₃ h₃=>?_) no)) no)
  cases ok with
  | false=>exact wpAny_pure ⟨rfl,h₃⟩
  | true=>
   exact wpAny_bind (wpAny_bind (wpAny_mono h₃ (λx s₄ h₄=>wpAny_bind (wpAny_mono h₄ (λ_ s₅ h₅=>wpAny_pure (wpAny_pure ⟨rfl,h₅⟩)) no)) no))
noncomputable def cb(X:Cx)(scope:Scope)(C:Addr)(Nc:List Str)(s:Shared)(H:Hp)(fp:List Addr):Cx where
 prog:=X.prog
 w:=X.w
 K:=X.K
 mg:=X.mg
 base:=X.base
 A:=X.A
 N:=Nc
 s₀:=s
 H₀:=H
 env:=compEnvC scope (jQ X.env scope.names []) C X.env
 outer:=X.stack
 stack:=X.stack
 ex:=fp
 fn:=λ_=>false
 calm:=X.calm
 pn:=[]
 xe:=Lk
def lY(X:Cx)(scope:Scope):List Str->List (Option Nat)->Prop
 | [],[]=>True
 | _::ys,none::os=>lY X scope ys os
 | y::ys,some j::os=>(X.N[j]? =some y/\scope.names.lookup y=some .free/\(X.env.kindOf y=some .cell\/X.env.kindOf y=some .free))/\lY X scope ys os
 | _,_=>False
noncomputable def nG(σ:St)(ix:List (Option Nat)):St:=ix.map λo=>match o with | none=>none | some j=>(σ[j]?).getD none
def Wk:St->St->Prop
 | [],[]=>True
 | none::a,_::b=>Wk a b
 | some v::a,w::b=>w=some v/\Wk a b
 | _,_=>False
theorem Wk.len:∀{a b:St},Wk a b->(a:)=(b:)
 | [],[],_=>rfl
 | none::a,_::b,h=>congrArg (· +1) (Wk.len (a:=a) (b:=b) h)
 | some _::a,_::b,h=>congrArg (· +1) (Wk.len (a:=a) (b:=b) h.2)
theorem Wk.get:∀{a b:St} {i:Nat} {v:V},Wk a b->a[i]? =some (some v)->b[i]? =some (some v)
 | [],[],i,v,_,h=>by simp at h
 | none::a,x::b,0,v,_,h=>by simp at h
 | none::a,x::b,i+1,v,k,h=>by
  have:=Wk.get (a:=a) (b:=b) (i:=i) (v:=v) k (by simpa using h)
  simpa using this
 | some y::a,x::b,0,v,k,h=>by
  have e:y=v:=by simpa using h
  subst e
  simp[k.1]
 | some y::a,x::b,i+1,v,k,h=>by
  have:=Wk.get (a:=a) (b:=b) (i:=i) (v:=v) k.2 (by simpa using h)
  simpa using this
theorem lY.len:∀{N:List Str} {ix:List (Option Nat)},lY X scope N ix->(ix:)=N.length
 | [],[],_=>rfl
 | _::ys,none::os,h=>congrArg (· +1) (lY.len (N:=ys) (ix:=os) h)
 | _::ys,some _::os,h=>congrArg (· +1) (lY.len (N:=ys) (ix:=os) h.2)
theorem lY.get:∀{N:List Str} {ix:List (Option Nat)} {i j:Nat},lY X scope N ix->ix[i]? =some (some j)->∃y,N[i]? =some y/\X.N[j]? =some y/\scope.names.lookup y=some .free/\(X.env.kindOf y=some .cell\/X.env.kindOf y=some .free)
 | [],[],i,j,_,h=>by simp at h
 | y::ys,none::os,0,j,_,h=>by simp at h
 | y::ys,none::os,i+1,j,k,h=>by
  obtain ⟨z,h1,h2⟩:=lY.get (N:=ys) (ix:=os) (i:=i) (j:=j) k (by simpa using h)
  exact ⟨z,by simpa using h1,h2⟩
 | y::ys,some j'::os,0,j,k,h=>by
  have e:j'=j:=by simpa using h
  subst e
  exact ⟨y,by simp,k.1⟩
 | y::ys,some j'::os,i+1,j,k,h=>by
  obtain ⟨z,h1,h2⟩:=lY.get (N:=ys) (ix:=os) (i:=i) (j:=j) k.2 (by simpa using h)
  exact ⟨z,by simpa using h1,h2⟩
variable{σ:St}{ix:List (Option Nat)}{i:Nat}
theorem E3{v:V}(h:(nG σ ix)[i]? =some (some v)):∃j,ix[i]? =some (some j)/\σ[j]? =some (some v):=by
 unfold nG at h
 rw[Qau]at h
 cases e:ix[i]? with
 | none=>rw[e]at h;cases h
 | some o=>
  rw[e]at h
  cases o with
  | none=>cases h
  | some j=>
   refine ⟨j,rfl,?_⟩
   have h':some ((σ[j]?).getD none)=some (some v):=h
   cases q:σ[j]? with
   | none=>rw[q]at h';cases h'
   | some z=>rw[q]at h';cases h';rfl
variable{pins:List (Addr×Obj)}{Nc:List Str}
theorem BB(I:Inv X pins σ H s)(BC:lY X scope Nc ix)(iJ:∀y∈scope.names,y.2≠ .cell)
  (g_:scope.kind= .function) (Hm:∀y∈scope.names,y.2= .free->X.env.kindOf y.1=some .cell\/X.env.kindOf y.1=some .free) {fp:List Addr} (hf:∀b∈fp,q5 X pins H b) (U6:∀b∈fp,∃o,s.heap.get? b=some o)
  {C:Addr} {h':Heap} {t':Nat} {m0:Str->Option Value} (hC:s.heap.objs.size<=C) (Xj:h'.Ns C m0) (k:∀b o,s.heap.get? b=some o->h'.get? b=some o):
  Inv (cb X scope C Nc s H fp) [] (nG σ ix) H { s with heap:=h',toks:=t' }:=by
 walk_at"n"
 walk_at"u"
 refine ⟨⟨I.ok.mod,g_,I.ok.glob,I.ok.blt,hC,λx y c h1 h2=>I.ok.inj x y c (nH h1) (nH h2),λx hx=>?_,λx c h=>?_,I.ok.hd,I.ok.frames,.inl rfl,λb hb=>?_,I.bs,Qbb I.ok.Ld I.sz,λb o e hb=>?_,λb hb hs=>?_,I.stack,I.Df⟩,
  rfl,I.bare,Un.kept k,⟨m0,Xj,λi x v h1 h2 h3=>?_⟩,λx c e=>?_,I.bX.fresh hC,λx c e=>I.jU x c (nH e),λp hp=>absurd (show p∈([]:List (Addr×Obj)) from hp) (by simp),I.bX.kept k,?_⟩
 ·have Sf:scope.names.lookup x=some .free:=nF iJ hx
  exact sV scope.names [] Se Sf
 ·exact absurd (show false=true from h) ∅
 ·refine ⟨?_,λx c e=>(hf b hb).2.2.2.2.1 x c (nH e)⟩
  obtain ⟨o,ho⟩:=U6 b hb
  exact Qa0 (Qa3 (Qay ho) hC)
 ·rcases (hf b hb).2.2.2.1 with z | z
  ·exact I.ok.GY b o e z
  ·exact absurd (Qa3 (Qay e) (Qbb I.ok.Ld z)) (Qbx _)
 ·rcases Qab.mp (I.sH b hs) with z | z
  ·exact (hf b hb).2.1 z
  ·exact (hf b hb).2.2.1 z
 ·obtain ⟨j,e1,e2⟩:=E3 h2
  obtain ⟨y,y1,y2,y3,y4⟩:=BC.get e1
  have h1':Nc[i]? =some x:=h1
  rw[y1]at h1'
  cases h1'
  obtain ⟨m,hn,hl⟩:=I.loc
  have hv:Up X.env.scope x:=by
   rcases y4 with z | z
   ·exact .inr (.inl z)
   ·exact .inr (.inr z)
  obtain ⟨u,r,l⟩:=hl j x v y2 e2 hv
  refine ⟨u,r,.inr ⟨nE y3,?_⟩⟩
  rcases l with ⟨l,_⟩ | ⟨_,c,hc,q⟩
  ·rcases y4 with z | z
   ·rw[z]at l;cases l
   ·rw[z]at l;cases l
  ·obtain ⟨c',vn⟩:=sV scope.names [] Se y3
   have e:=nH vn
   rw[hc]at e
   cases e
   obtain ⟨o,ho,hd⟩:=q
   exact ⟨c,vn,o,k _ _ ho,hd⟩
 ·obtain ⟨v,o,ho,hd⟩:=I.cell x c (nH e)
  exact ⟨v,o,k _ _ ho,hd⟩
 ·show (nG σ ix:)=Nc.length
  unfold nG
  rw[Xi]
  exact BC.len
theorem E4{Dg:List (Addr×Obj)}{σ':St}{s':Shared}(I:Inv X pins σ H s){fp:List Addr}{C D:Addr}(J:Inv (cb X scope C Nc s H fp) Dg σ' H' s')
  (hf:∀b∈fp,q5 X pins H b) (hD:s.heap.objs.size<=D) (hC:s.heap.objs.size<=C) (P7:D≠C) {aN:List Value} {n:Nat} {acc:List V} (eD:s'.heap.get? D=some { cls:= .type "list",data:= .seq aN.toArray n }) (r:Vals acc aN)
  (hz:(acc:)<=sizeLine) (nD:H' D=none) {oC:Obj} (eC:s'.heap.get? C=some oC) (dC:∀v,oC.data≠ .cell v):Inv X (pins++[(C,oC)]) σ (upd H' D (.lst acc)) s':=by
 have lt:∀b o,s.heap.get? b=some o->b≠D:=λb o e=>Qa0 (Qa3 (Qay e) hD)
 have U:Un (De X.stack) fp H H' s.heap s'.heap:=J.base
 have U':Un (De X.stack) fp H (upd H' D (.lst acc)) s.heap s'.heap:=
  ⟨U.keep,U.slot,λb o e n hx=>by rw[aq (lt b o e)];exact U.free b o e n hx,U.there,λb xs e=>by rw[aq (az (U.pB b xs e) nD)];exact U.pB b xs e,
   λb o u e=>by rw[aq (az (U.sG b o u e) nD)];exact U.sG b o u e,λb ps e=>by
    obtain ⟨more,q⟩:=U.vh b ps e
    exact ⟨more,by rw[aq (az q nD)];exact q⟩⟩
 have bX:mP X.prog X.w (upd H' D (.lst acc)) s'.heap:=λb u e=>by
  by_cases hb:b=D
  ·subst hb
   rw[aa]at e;cases e
   exact ⟨hz,aN,n,r,eD⟩
  ·rw[aq hb]at e
   exact (J.bX b u e).pA (λc v _ q=>q) (λc q=>by rw[aq (az q nD)];exact q) λc xs q=>by rw[aq (az q nD)];exact q
 have I':Inv X pins σ (upd H' D (.lst acc)) s':=I.Us (ch:=fp) J.os U' bX J.bare λb hb=>by
  obtain ⟨_,h1,_,h2,h3,h4⟩:=hf b hb
  exact ⟨h2,h1,h3,h4⟩
 refine I'.gC λp hp=>?_
 rcases Qai.mp hp with z | z
 ·exact I'.pin p (Qal _ z)
 ·have e:p=(C,oC):=U0.mp z
  subst e
  refine ⟨eC,?_,Qd3 (Qa3 I.lt hC),I.LG hC,dC⟩
  rw[aq (Ne.symm P7)]
  exact J.free
def PF(Y:Cx)(ifs:List Expr)(tc:TT):Prop:=
 ∀(pins:List (Addr×Obj)) (s:Shared) (σ:St) (H:Hp) (Q:Bool->Hp->Prop),Inv Y pins σ H s->tc σ H Q->
  wpAny (model Y.prog Y.w) Y.A (forIn ifs true λc r=>if r=true then do let ok <-isTrue c Y.env (eval c Y.env);pure (ForInStep.yield ok) else pure (ForInStep.yield r)) (TP Y pins σ Q) Y.xe s
def U7:TT:=λ_ H Q=>Q true H
theorem iq{Y:Cx}:PF Y [] U7:=λ_ _ _ H _ I h=>wpAny_tests_nil ⟨H,I,h⟩
variable{tc:TT}
theorem sW{Y:Cx}{c:Expr}(h:PT Y c tc):PF Y [c] tc:=λpins s σ H Q I hw=>wpAny_tests_one (h pins s σ H Q I hw)
def wj(J:It)(σc:St)(g:TG)(tc:TT)(te:TE)(Q:VK)(H1:Hp):Prop:=
 ∃W:Nat->Nat->List V->Hp->Prop,(∃m,W 0 m [] H1)/\∀i m acc H,W i m acc H->(acc:)<sizeLine/\
 ((J.stop i H/\∀D,H D=none->Q (.ref D) (upd H D (.lst acc)))\/
  (J.go i H/\∀x H',J.G4 i H x H'->g x σc H' λσ2 H2=>Wk σc σ2/\tc σ2 H2 λb H3=>if b=true then te σ2 H3 λv H4=>∃m',m'<m/\W (i+1) m' (acc++[v]) H4 else ∃m',m'<m/\W (i+1) m' acc H3))
def zK(wi:TI)(ix:List (Option Nat))(g:TG)(tc:TT)(te:TE):TE:=λσ H Q=>wi σ H λJ H1=>wj J (nG σ ix) g tc te Q H1
variable{tg:Expr}{wi:TI}{g:TG}{te:TE}
theorem wm(hi:PI X tg iter wi)(mh:X.calm=true)(BC:lY X scope Nc ix)
  (iJ:∀y∈scope.names,y.2≠ .cell) (g_:scope.kind= .function) (Hm:∀y∈scope.names,y.2= .free->X.env.kindOf y.1=some .cell\/X.env.kindOf y.1=some .free)
  (hG:∀C s H fp,PG (cb X scope C Nc s H fp) tg g) (hT:∀C s H fp,PF (cb X scope C Nc s H fp) ifs tc) (hE:∀C s H fp,PE (cb X scope C Nc s H fp) elt te)
  {pins:List (Addr×Obj)} {s:Shared} {σ:St} {H:Hp} {Q:VK} (I:Inv X pins σ H s) (h:zK wi ix g tc te σ H Q) {RR:Value->Addr->Result->Shared->Prop}
  (hRR:∀(D C:Addr) (oC:Obj) (m:Str->Option Value) (H':Hp) (s':Shared),s'.heap.get? C=some oC->s'.heap.Ns C m->q5 X pins H' C->Inv X (pins++[(C,oC)]) σ H' s'->Q (.ref D) H'->RR (.ref D) C (.ok .next) s'):
  wpAny (model X.prog X.w) X.A (eval iter X.env) (λv s1=>wpAny (model X.prog X.w) X.A (pyIter v) (λit s2=>wpAny (model X.prog X.w) X.A (newList []) (λacc s3=>
   wpAny (model X.prog X.w) X.A (newFunctionEnv scope X.env.globals (jQ X.env scope.names []) [] X.env.qual none .none (some X.env)) (λU8 s4=>
    codeAny (model X.prog X.w) X.A (.compStart (.ListComp elt [⟨tg,iter,ifs,0⟩] scope pos) 0 it acc { U8 with scope:=relabel scope X.env }) (RR acc U8.locals) s4) X.xe s3) X.xe s2) X.xe s1) X.xe s:=by
 refine cE (hi pins s σ H _ I h) λv s1 h1=>cE h1 λYh s2 h2=>?_
 obtain ⟨it,fp,tn,J,H2,e,I2,T,mQ,f2,W,⟨m0,w0⟩,turn⟩:=h2
 subst e
 refine wpAny_newObj_type (wpAny_newFunctionEnv iJ (by intro y hy;simp at hy) (λh₁ P8 LW=>?_) g_)
 dsimp only at P8 LW ⊢
 generalize Oj:s2.heap.push { cls:= .type "list",dict:=none,data:= .seq ([]:List Value).toArray }=P2 at P8 LW ⊢
 have hC:P2.objs.size=s2.heap.objs.size+1:=by rw[<-Oj,Qdg]
 have P7:s2.heap.objs.size≠P2.objs.size:=by rw[hC];exact Qa0 (Qcu _)
 have P9:s2.heap.objs.size<=P2.objs.size:=by rw[hC];exact Qcx _
 have Ph:∀b,b<s2.heap.objs.size->b≠P2.objs.size:=λb hb=>by rw[hC];exact Qa0 (Qc9 hb)
 have old:∀b o,s2.heap.get? b=some o->h₁.get? b=some o:=λb o e=>LW.extBut b o (Ph b (Qay e)) (Qac _ (Oj▸Qac _ e))
 have xM:h₁.get? s2.heap.objs.size=some { cls:= .type "list",data:= .seq ([]:List Value).toArray }:=LW.extBut _ _ P7 (Qac _ (Oj▸Qaq _ rfl))
 have st₁:tn 0 h₁:=T.keep 0 _ _ mQ λb _ o e=>old b o e
 have U6:∀b∈fp,∃o,s2.heap.get? b=some o:=λb hb=>let ⟨o,e,_⟩:=T.obj 0 _ mQ b hb;⟨o,e⟩
 have fpD:∀b∈fp,s2.heap.objs.size≠b:=λb hb=>let ⟨o,e⟩:=U6 b hb;Qd3 (Qay e)
 have IY:=BB I2 BC iJ g_ Hm f2 U6 (t':=s2.toks+(([]:List (Str×Value)):)) P9 P8 old
 have YC:∀b,s2.heap.objs.size<=b->b∉De X.stack:=λb hb hs=>by
  rcases Qab.mp (I2.sH b hs) with z | z
  ·exact absurd (Qa3 I2.lt hb) (by rw[z];exact Qbx _)
  ·exact I2.LG hb z
 walk_at"u"
 have U9:∀x c,(jQ X.env scope.names []).lookup x=some c->c≠s2.heap.objs.size:=λx c e z=>by
  obtain ⟨v,q⟩:=I2.cell x c (nH e)
  exact absurd (q.lt) (by rw[z];exact Qbx _)
 have fY:∀{pl:List (Addr×Obj)} {H':Hp},(∀p∈pl,p.1=s2.heap.objs.size)->(∀b∈fp,H' b=none)->∀b∈fp,q5 (cb X scope P2.objs.size Nc s2 H2 fp) pl H' b:=λ{pl H'} nk hn b hb=>by
  refine ⟨hn b hb,?_,?_,.inl hb,λx c e=>(f2 b hb).2.2.2.2.1 x c (nH e),λp hp=>?_⟩
  ·obtain ⟨o,e⟩:=U6 b hb
   exact Ph b (Qay e)
  ·intro hs
   rcases Qab.mp (I2.sH b hs) with z | z
   ·exact (f2 b hb).2.1 z
   ·exact (f2 b hb).2.2.1 z
  ·rw[nk p hp]
   exact fpD b hb
 have loop:∀s₃:Shared,s₃={ s2 with heap:=h₁,toks:=s2.toks+(([]:List (Str×Value)):) }->
   codeAny (model X.prog X.w) X.A (.compLoop (.ListComp elt [⟨tg,iter,ifs,0⟩] scope pos) 0 (.ref it) (.ref s2.heap.objs.size) (compEnvC scope (jQ X.env scope.names []) P2.objs.size X.env)) (RR (.ref s2.heap.objs.size) P2.objs.size) s₃:=by
  rintro s₃ rfl
  refine xK (λn s'=>∃i acc aN nn H',Inv (cb X scope P2.objs.size Nc s2 H2 fp) [] (nG σ ix) H' s'/\tn i s'.heap/\(∀b∈fp,H' b=none)/\
   s'.heap.get? s2.heap.objs.size=some { cls:= .type "list",data:= .seq (aN:List Value).toArray nn }/\Vals acc aN/\H' s2.heap.objs.size=none/\W i n acc H') ?_ m0
   ⟨0,[],[],0,H2,IY,st₁,λb hb=>(f2 b hb).1,xM,.nil,I2.bX.fresh (Qaa _),w0⟩
  rintro n s3 ⟨i,acc,aN,nn,H3,I3,xv,UH,eD,rv,nD,w3⟩
  obtain ⟨hz,alt⟩:=turn i n acc H3 w3
  have IP:Inv (cb X scope P2.objs.size Nc s2 H2 fp) [(s2.heap.objs.size,{ cls:= .type "list",data:= .seq aN.toArray nn })] (nG σ ix) H3 s3:=I3.gC λp hp=>by
   have e:p=(s2.heap.objs.size,_):=U0.mp hp
   subst e
   refine ⟨eD,nD,P7,YC _ (Qaa _),λv z=>?_⟩
   have z':Data.seq aN.toArray nn=Data.cell v:=z
   cases z'
  have nk:∀p∈[(s2.heap.objs.size,({ cls:= .type "list",data:= .seq aN.toArray nn }:Obj))],p.1=s2.heap.objs.size:=λp hp=>by
   have e:p=(s2.heap.objs.size,_):=U0.mp hp
   rw[e]
  rcases alt with ⟨stop,fin⟩ | ⟨go,step⟩
  ·refine cE (T.done (cb X scope P2.objs.size Nc s2 H2 fp) rfl rfl rfl mh i _ s3 _ H3 Lk IP (fY nk UH) xv stop) λr s4 zz=>?_
   obtain ⟨hr,I4⟩:=zz
   subst hr
   obtain ⟨m,hn,_⟩:=id I4.loc
   obtain ⟨oC,es,ep,eC,dC,_⟩:=id hn
   have eD4:=(I4.pin (s2.heap.objs.size,_) (Qal _ (U0.mpr rfl))).1
   have YD:=fin _ nD
   refine hRR _ _ oC m _ s4 eC hn ?_ (E4 I2 I4 f2 (Qaa _) P9 P7 eD4 rv (Qbp hz) nD eC λv z=>?_) YD
   ·refine I2.sM P9 ?_
    rw[aq (Ne.symm P7)]
    exact I4.free
   ·rw[dC]at z;cases z
  ·refine cE (T.item (cb X scope P2.objs.size Nc s2 H2 fp) rfl rfl rfl mh i _ s3 _ H3 Lk IP (fY nk UH) xv go) λr s4 zz=>?_
   obtain ⟨u,hr,h4⟩:=zz
   subst hr
   refine cE h4 λ_ s5 zz=>?_
   obtain ⟨x,H5,I5,r5,y5,GG,Yl⟩:=zz
   have Ym:=I5.pinned (fY nk Yl) (T.obj _ _ GG)
   refine cE (hG _ s2 H2 fp _ s5 _ H5 x u _ Ym r5 (step x H5 y5)) λ_ s6 zz=>?_
   obtain ⟨σ6,H6,I6,wk,q6⟩:=zz
   refine cE (hT _ s2 H2 fp _ s6 σ6 H6 _ I6 q6) λb s7 zz=>?_
   obtain ⟨H7,I7,q7⟩:=zz
   have again:∀{H9:Hp} {s9:Shared} {m':Nat},Inv (cb X scope P2.objs.size Nc s2 H2 fp) ([(s2.heap.objs.size,({ cls:= .type "list",data:= .seq aN.toArray nn }:Obj))]++sN fp s5.heap) σ6 H9 s9->
     (s9.heap.get? s2.heap.objs.size=some { cls:= .type "list",data:= .seq aN.toArray nn }/\H9 s2.heap.objs.size=none)/\tn (i+1) s9.heap/\(∀b∈fp,H9 b=none)/\Inv (cb X scope P2.objs.size Nc s2 H2 fp) [] (nG σ ix) H9 s9:=λ{H9 s9 m'} I9=>by
    have pD:=I9.pin (s2.heap.objs.size,_) (Qal _ (Qbj _ (U0.mpr rfl)))
    refine ⟨⟨pD.1,pD.2.1⟩,T.keep _ _ _ GG λb hb o e=>(I9.pin (b,o) (Qal _ (Qal _ (jh hb e)))).1,λb hb=>?_,?_⟩
    ·obtain ⟨o,e,d⟩:=T.obj _ _ GG b hb
     exact (I9.pin (b,o) (Qal _ (Qal _ (jh hb e)))).2.1
    ·exact (I9.weak wk.len λi v e=>wk.get e).gC λp hp=>absurd hp (by simp)
   cases b with
   | false=>
    rw[if_neg Qax]at q7 ⊢
    obtain ⟨m',hm,w7⟩:=q7
    obtain ⟨⟨e7,n7⟩,t7,f7,J7⟩:=again (m':=0) I7
    exact ⟨m',hm,i+1,acc,aN,nn,H7,J7,t7,f7,e7,rv,n7,w7⟩
   | true=>
    rw[if_pos rfl]at q7 ⊢
    refine cE (hE _ s2 H2 fp _ s7 σ6 H7 _ I7 q7) λy s8 zz=>?_
    obtain ⟨v,H8,I8,r8,m',hm,w8⟩:=zz
    obtain ⟨⟨e8,n8⟩,t8,f8,J8⟩:=again (m':=0) I8
    refine wpAny_list_append_plain (items:=aN.toArray) ⟨nn,e8⟩ (λh9 hl9 hs9=>?_) (by rw[Qaj, <-(rv:)];exact Qbp hz)
    obtain ⟨n9,e9⟩:=hl9
    refine ⟨m',hm,i+1,acc++[v],aN++[y],n9,H8,J8.turned (t':=s8.toks) (λb o hb e=>(hs9.2 b hb).trans e) n8 P7 (.inr (Qaa _)) U9 (λp hp=>absurd hp (by simp[cb])),?_,f8,?_,rv.append (.cons r8 .nil),n8,w8⟩
    ·exact T.keep _ _ _ t8 λb hb o e=>(hs9.2 b (Ne.symm (fpD b hb))).trans e
    ·simpa using e9
 exact codeAny_compStart_list (loop _ rfl) (T.self _ 0 _ _ _ st₁ (loop _ rfl))
theorem LX(Nc:List Str)(ix:List (Option Nat))(hi:PI X tg iter wi)(mh:X.calm=true)(BC:lY X scope Nc ix)
  (iJ:∀y∈scope.names,y.2≠ .cell) (g_:scope.kind= .function) (Hm:∀y∈scope.names,y.2= .free->X.env.kindOf y.1=some .cell\/X.env.kindOf y.1=some .free)
  (BD:∀x∈scope.names,x.2= .local->scope.names.lookup x.1=some .local)
  (hG:∀C s H fp,PG (cb X scope C Nc s H fp) tg g) (hT:∀C s H fp,PF (cb X scope C Nc s H fp) ifs tc) (hE:∀C s H fp,PE (cb X scope C Nc s H fp) elt te)
  (hs:∀x,foldedSetIterable iter X.env x=pure x:=by intro _;rfl):PE X (.ListComp elt [⟨tg,iter,ifs,0⟩] scope pos) (zK wi ix g tc te):=by
 walk_at"e"
 rw[eval_ListComp]
 walk_at"n"
 refine wpAny_comprehension_free (use:=none) rfl hs (mf Se) g_ BD (wm hi mh BC iJ g_ Hm hG hT hE I h (RR:=λacc C=>compPost (model X.prog X.w) X.A X.xe none (EP X pins σ Q) acc C) ?_)
 intro D C oC m H' s' eC hn fC I' q
 refine ⟨m,hn,λh' U_=>⟨.ref D,H',?_,rfl,q⟩⟩
 exact I'.jX.turned (t':=s'.toks) (λb o hb e=>(U_.2 b hb).trans e) fC.1 fC.2.1 fC.2.2.2.1 fC.2.2.2.2.1 fC.2.2.2.2.2
theorem LY{Hn pos':Pos}(Nc:List Str)(ix:List (Option Nat))(hN:X.N.Nodup)(P_:X.N[i]? =some x)(hx:Loc X.env.scope x)
  (Va:swapsWith (.ListComp elt [⟨tg,iter,ifs,0⟩] scope pos) (some (.Name x pos')) Hn.line X.env=pure true) (hi:PI X tg iter wi) (mh:X.calm=true) (BC:lY X scope Nc ix)
  (iJ:∀y∈scope.names,y.2≠ .cell) (g_:scope.kind= .function) (Hm:∀y∈scope.names,y.2= .free->X.env.kindOf y.1=some .cell\/X.env.kindOf y.1=some .free)
  (BD:∀x∈scope.names,x.2= .local->scope.names.lookup x.1=some .local)
  (hG:∀C s H fp,PG (cb X scope C Nc s H fp) tg g) (hT:∀C s H fp,PF (cb X scope C Nc s H fp) ifs tc) (hE:∀C s H fp,PE (cb X scope C Nc s H fp) elt te)
  (hs:∀x,foldedSetIterable iter X.env x=pure x:=by intro _;rfl) (hf:X.fn x=true\/X.env.scope.names.lookup x=some .local:=by first | exact .inl rfl | exact .inr rfl | assumption):
  PS X (.Assign [.Name x pos'] (.ListComp elt [⟨tg,iter,ifs,0⟩] scope pos) Hn) (G3 (zK wi ix g tc te) (vY i)):=by
 intro pins s σ H E I h
 walk_at"n"
 rw[exec_Assign_Name_used _ _ _ _ Va]
 refine wpAny_bind (wpAny_standAt (wpAny_bind ?_))
 show wpAny _ X.A (do let _ <-comprehension (.ListComp elt [⟨tg,iter,ifs,0⟩] scope pos) scope X.env _ (newList []) false (eval iter X.env) (some (assign (.Name x pos') X.env))) _ _ s
 refine wpAny_bind (wpAny_mono (wpAny_comprehension_free (use:=some (assign (.Name x pos') X.env)) (Q:=λ_ s'=>SP X pins E .next s') rfl hs (mf Se) g_ BD
  (wm hi mh BC iJ g_ Hm hG hT hE I h (RR:=λacc C=>compPost (model X.prog X.w) X.A X.xe (some (assign (.Name x pos') X.env)) (λ_ s'=>SP X pins E .next s') acc C) ?_)) (λ_ s' hq=>wpAny_pure (wpAny_pure hq)) λ_ _ e=>e)
 intro D C oC m H' s' eC hn fC I' q
 show wpAny _ X.A (assign (.Name x pos') X.env (.ref D)) _ _ _
 refine wpAny_assign_Name (nB I' hN P_ hx (show RelV (.ref D) _ from rfl) (λUQ I''=>?_) hf)
 have pC:=I''.pin (C,oC) (Qal _ (Qal _ (U0.mpr rfl)))
 refine ⟨m,?_,λh' U_=>?_⟩
 ·obtain ⟨o,es,ep,e,r⟩:=hn
  rw[eC]at e;cases e
  exact ⟨oC,es,ep,pC.1,r⟩
 ·refine ⟨_,H',I''.jX.turned (t':=UQ.toks) (λb o hb e=>(U_.2 b hb).trans e) fC.1 fC.2.1 fC.2.2.2.1 fC.2.2.2.2.1 fC.2.2.2.2.2,q⟩
noncomputable def S(l:c5):Str:=⟨l.toArray⟩
theorem cf(l:c5):(S l).cps.toList=l:=by simp[S]
theorem dJ(l:c5):(S l:)=(l:):=by simp[S,Str.length]
theorem pR(l:c5):(S l).cps.size=(l:):=by simp[S]
theorem Ho{a b:c5}(h:S a=S b):a=b:=by
 have:=congrArg (λx:Str=>x.cps.toList) h
 simpa [S]using this
theorem Vb(x:Str):x=S x.cps.toList:=by cases x;simp[S]
theorem Ol(a b:c5):S a++S b=S (a++b):=by
 apply Str.ext'
 apply Qdr.mp
 simp[S,Str.cps_append]
theorem Om{a b:c5}:decide (V.str (S a)=V.str (S b))=decide (a=b):=by
 by_cases h:a=b
 ·subst h;simp
 ·rw[decide_eq_false h,decide_eq_false]
  intro q
  exact h (Ho (V.str.inj q))
noncomputable def cut{α:Type}(xs:List α)(lo hi:Option Int):List α:=(xs.drop (HT.nq (xs:) 0 lo)).take (HT.nq (xs:) (xs:) hi - HT.nq (xs:) 0 lo)
theorem zL(n d:Nat)(v:Int):max 0 (min (if v<0 then v+(n:Int) else v) (n:Int))=((HT.nq n d (some v):Nat):Int):=by
 show _=(((if v<0 then (v+(n:Int)).toNat else min v.toNat n):Nat):Int)
 by_cases hv:v<0
 ·simp only[if_pos hv];lia
 ·simp only[if_neg hv];lia
theorem qL(lo hi:Option Int)(n:Nat):Builtin.Str.strSliceIndices lo hi 1 n=(List.range (HT.nq n n hi - HT.nq n 0 lo)).map (HT.nq n 0 lo+ ·):=by
 have h1:(1:Int)>0:=by decide
 rw[<-sliceRange_one]
 unfold Builtin.Str.strSliceIndices
 simp only[h1,if_true]
 congr 1
 ·cases lo with
  | none=>rfl
  | some v=>exact zL n 0 v
 ·cases hi with
  | none=>rfl
  | some v=>exact zL n n v
theorem LZ(l:c5)(lo hi:Option Int):Txt.slice (S l) lo hi=S (cut l lo hi):=by
 have hx:((Builtin.Str.strSliceIndices lo hi 1 (S l:)).filterMap ((S l).cps[·]?))=cut l lo hi:=by
  rw[dJ,qL,pick_run,cf]
  rfl
 have hlen:(Builtin.Str.strSliceIndices lo hi 1 (S l:):)=HT.nq (l:) (l:) hi - HT.nq (l:) 0 lo:=by
  rw[dJ,qL,Xi,Qe0]
 unfold Txt.slice
 by_cases hc:((1:Int)==1&&(Builtin.Str.strSliceIndices lo hi 1 (S l:):)==(S l:))=true
 ·rw[if_pos hc]
  rw[hlen,dJ]at hc
  have e:HT.nq (l:) (l:) hi - HT.nq (l:) 0 lo=(l:):=by simpa using hc
  have h2:=HT.PL (l:) (l:) (Qaa _) hi
  have e0:HT.nq (l:) 0 lo=0\/(l:)=0:=by lia
  unfold cut
  rw[e]
  rcases e0 with z | z
  ·rw[z];simp
  ·have:l=[]:=Qcb z
   subst this
   simp
 ·rw[if_neg hc]
  rw[hx]
  rfl
section
variable{X:Cx}
theorem nI{j pos}(l:c5)(h:x=S l):PE X (.Constant (.str x) j pos) (tC (.str (S l))):=by
 subst h
 exact Pm
def Hq:R2:=λx y H Q=>∃a b,x= .str (S a)/\y= .str (S b)/\(a:)+(b:)<=sizeLine/\Q (.str (S (a++b))) H
theorem Dr:iM X (binaryOp .Add) Hq:=by
 walk_at"a"
 obtain ⟨a,b,rfl,rfl,hz,q⟩:=h
 exact Bo pins s σ H _ _ v u Q I rx ry ⟨S a,S b,rfl,rfl,by rw[dJ,dJ];exact hz,by rw[Ol];exact q⟩
theorem Hr:iM X (inplaceOp .Add) Hq:=by
 walk_at"a"
 obtain ⟨a,b,rfl,rfl,hz,q⟩:=h
 exact zy pins s σ H _ _ v u Q I rx ry ⟨S a,S b,rfl,rfl,by rw[dJ,dJ];exact hz,by rw[Ol];exact q⟩
inductive Ds(x:V)(y:V)(H:Hp)(Q:VK):Prop
 | mk (l:_) (i:_) (c:_) (_:x= .str (S l)) (_:y= .int i) (_:(l:)<=sizeLine) (_:q8 l i=some c) (_:Q (.str (S [c])) H):Ds x y H Q
def Vc:R2:=Ds
theorem nJ:PM X Vc:=by
 walk_at"C"
 obtain ⟨l,i,c,rfl,rfl,hz,he,q⟩:=h
 exact PQ value slice pins s σ H _ _ v u Q I rx ry ⟨S l,i,c,rfl,rfl,by rw[dJ];exact hz,by rw[cf];exact he,q⟩ hs
def YE:V->Option Int->Option Int->Hp->VK->Prop:=λx lo hi H Q=>∃l,x= .str (S l)/\(l:)<=sizeLine/\Q (.str (S (cut l lo hi))) H
theorem q_:Xg X YE:=by
 intro pins s σ H x v vl vu lo hi sl Q I rx hs pl pu h
 obtain ⟨l,rfl,hz,q⟩:=h
 walk_at"f"
 refine ⟨"str",_,F.slot_str_getitem.lookup,typeIs_str _ _ _,?_⟩
 have key:∀(a b:Option (Int×Tok)),vl=partValue a->vu=partValue b->a.map (·.1)=lo->b.map (·.1)=hi->wpAny (model X.prog X.w) X.A (getItem (.str (S l) t) (.ref sl)) (EP X pins σ Q) X.xe s:=by
  rintro a b rfl rfl rfl rfl
  obtain ⟨o,e,c,d⟩:=hs
  refine wpAny_getItem_str_slice (l:=a) (u:=b) (st:=none) ⟨o,e,c,d⟩ rfl (post_val_or_str ⟨?_,λt' k=>?_⟩)
  ·exact Qbb (Txt.slice_le (S l) _ _) (by rw[dJ];exact hz)
  ·exact ⟨.str (S (cut l _ _)),H,I.tok _,⟨t',congrArg (λz=>Value.str z t') (LZ l _ _)⟩,q⟩
 cases pl with
 | none=>
  cases pu with
  | none=>exact key none none rfl rfl rfl rfl
  | int i ti=>exact key none (some (i,ti)) rfl rfl rfl rfl
 | int i ti=>
  cases pu with
  | none=>exact key (some (i,ti)) none rfl rfl rfl rfl
  | int j tj=>exact key (some (i,ti)) (some (j,tj)) rfl rfl rfl rfl
theorem bB:eL X (.builtin "len") (λxs H Q=>∃l,xs=[.str (S l)]/\(l:)<=sizeLine/\Q (.int (l:)) H):=by
 walk_at"h"
 obtain ⟨l,rfl,hz,q⟩:=h
 exact xH pins s σ H _ us Q I r ⟨S l,rfl,by rw[dJ];exact hz,by rw[dJ];exact q⟩
noncomputable def dY(l:c5):List V:=l.map λc=>V.str (S [c])
theorem BE{l:c5}:∀{acc:List Value},(acc:)=(l:)->(∀j v,acc[j]? =some v->SignAt (S l) j v)->Vals (dY l) acc:=by
 induction l with
 | nil=>intro acc h _;have:acc=[]:=Qcb h;subst this;exact .nil
 | cons c l ih=>
  intro acc h k
  cases acc with
  | nil=>cases h
  | cons a acc=>
   refine .cons ?_ (ih (by simpa using h) λj v e=>?_)
   ·obtain ⟨c',u,e1,e2⟩:=k 0 a rfl
    have:c=c':=by simpa [S]using e1
    subst this
    exact ⟨u,e2⟩
   ·obtain ⟨c',u,e1,e2⟩:=k (j+1) v (by simpa using e)
    exact ⟨c',u,by simpa [S]using e1,e2⟩
theorem BF(hc:X.calm=true):eL X (.type "list") (λxs H Q=>∃l,xs=[.str (S l)]/\(l:)<=sizeLine/\∀p,H p=none->Q (.ref p) (upd H p (.lst (dY l)))):=by
 walk_at"h"
 obtain ⟨l,rfl,hz,q⟩:=h
 obtain ⟨u,rfl,t,rfl⟩:=vals1 r
 refine call_list_str (I.ok.hd hc) (S l) t (λh' tk fK c' hk e xM=>?_) (by rw[pR];exact hz)
 obtain ⟨h1,h2⟩:=xM
 rw[pR]at h1
 refine ⟨.ref s.heap.objs.size,_,I.laid (t':=tk) (o:= .lst (dY l)) hk (Qaa _) ?_,rfl,q _ I.fresh⟩
 exact ⟨by unfold dY;rw[Xi];exact hz,fK.toList,c',BE (by simpa using h1) (λj v e=>h2 j v (by simpa using e)),by simpa using e⟩
inductive Hs(x:V)(y:V)(H:Hp)(Q:VK):Prop
 | mk (c:_) (l:_) (_:x= .str (S [c])) (_:y= .str (S l)) (_:Q (.bl (decide (c∈l))) H):Hs x y H Q
def YF:R2:=Hs
theorem xN:iM X (compareOp .In) YF:=by
 walk_at"a"
 obtain ⟨c,l,rfl,rfl,q⟩:=h
 refine EU pins s σ H _ _ v u Q I rx ry ⟨S [c],S l,rfl,rfl,?_⟩
 have e:=StrLaws.found_one (S l) c
 rw[cf]at e
 rw[show (S [c])=(⟨#[c]⟩:Str) from rfl,e]
 exact q
inductive Dt(x:V)(y:V)(H:Hp)(Q:VK):Prop
 | mk (c:_) (l:_) (_:x= .str (S [c])) (_:y= .str (S l)) (_:Q (.bl (!decide (c∈l))) H):Dt x y H Q
def Vd:R2:=Dt
theorem Du:iM X (compareOp .NotIn) Vd:=by
 walk_at"a"
 obtain ⟨c,l,rfl,rfl,q⟩:=h
 refine xF pins s σ H _ _ v u Q I rx ry ⟨S [c],S l,rfl,rfl,?_⟩
 have e:=StrLaws.found_one (S l) c
 rw[cf]at e
 rw[show (S [c])=(⟨#[c]⟩:Str) from rfl,e]
 exact q
end
theorem wo(s sub:Str)(hi:Nat):∀(l:c5) (st:Array Nat×Nat),1<=st.fst.size->(forIn l st (StrLaws.occBody s sub hi 1)).run.fst=st.fst
 | [],st,h=>rfl
 | a::l,st,h=>by
  rw[Qen]
  unfold StrLaws.occBody
  rw[if_neg (λz=>absurd z.1.1.1 (Nat.not_lt.mpr h))]
  exact wo s sub hi l _ h
theorem occ_first(s sub:Str)(hi:Nat):∀(l:c5) (free:Nat),(∀i∈l,free<=i)->
  (forIn l ((#[]:Array Nat),free) (StrLaws.occBody s sub hi 1)).run.fst.toList=(l.find? λi=>decide (i+(sub:)<=hi)&&Builtin.Str.subAt s sub i).toList
 | [],free,_=>rfl
 | a::l,free,hf=>by
  rw[Qen,Qc7]
  unfold StrLaws.occBody
  have ha:free<=a:=hf a Xh
  by_cases hc:a+(sub:)<=hi/\Builtin.Str.subAt s sub a=true
  ·rw[if_pos ⟨⟨⟨by simp,ha⟩,hc.1⟩,hc.2⟩]
   have:(decide (a+(sub:)<=hi)&&Builtin.Str.subAt s sub a)=true:=by simp[hc]
   rw[this]
   show (forIn l (#[].push a,a+(sub:)) (StrLaws.occBody s sub hi 1)).run.fst.toList=_
   rw[wo s sub hi l _ (by simp)]
   rfl
  ·rw[if_neg (λz=>hc ⟨z.1.2,z.2⟩)]
   have:(decide (a+(sub:)<=hi)&&Builtin.Str.subAt s sub a)=false:=by
    cases h1:decide (a+(sub:)<=hi) with
    | false=>rfl
    | true=>
     cases h2:Builtin.Str.subAt s sub a with
     | false=>rfl
     | true=>exact absurd ⟨of_decide_eq_true h1,h2⟩ hc
   rw[this]
   exact occ_first s sub hi l free λi mi=>hf i (Sd _ mi)
theorem subAt_one(l:c5)(c i:Nat):Builtin.Str.subAt (S l) (S [c]) i=(l[i]? ==some c):=by
 unfold Builtin.Str.subAt
 rw[dJ]
 show ((S l).cps.extract i (i+1)== #[c])=_
 have e:((S l).cps.extract i (i+1))=((l.drop i).take 1).toArray:=by
  apply Qdr.mp
  simp[S,List.take_drop]
 rw[e]
 by_cases h:i<(l:)
 ·have e2:(l.drop i).take 1=[l[i]]:=by
   rw[Qb0 h];rfl
  rw[e2,P4 h]
  by_cases hc:l[i]=c
  ·rw[hc];simp
  ·have h1:([l[i]].toArray== #[c])=false:=by
    rw[beq_eq_false_iff_ne]
    intro z
    apply hc
    have:=congrArg Array.toList z
    simpa using this
   have h2:(some l[i]==some c)=false:=by simpa using hc
   rw[h1,h2]
 ·have e2:(l.drop i).take 1=[]:=by rw[Qd8 ()];rfl
  rw[e2,Qc0 ()]
  rfl
theorem s_(l:c5)(c:Nat):∀(k n:Nat),k+n=(l:)+1->((List.range' k n).find? λi=>decide (i+1<=(l:))&&(l[i]? ==some c))=if c∈l.drop k then some (k+(l.drop k).idxOf c) else none
 | k,0,h=>by
  have:l.drop k=[]:=Qd8 ()
  rw[this];simp
 | k,n+1,h=>by
  rw[List.range'_succ,Qc7]
  by_cases hk:k<(l:)
  ·have e:l.drop k=l[k]::l.drop (k+1):=Qb0 hk
   rw[P4 hk,e]
   by_cases hc:l[k]=c
   ·have:(decide (k+1<=(l:))&&(some l[k]==some c))=true:=by simp[hc];lia
    rw[this,if_pos (by simp[hc])]
    simp[hc]
   ·have:(decide (k+1<=(l:))&&(some l[k]==some c))=false:=by simp[hc]
    rw[this,s_ l c (k+1) n ()]
    have vn: ¬c=l[k]:=λz=>hc z.symm
    by_cases hm:c∈l.drop (k+1)
    ·rw[if_pos hm,if_pos (Sd _ hm),List.idxOf_cons]
     have:(l[k]==c)=false:=by simpa using hc
     rw[this]
     show some (k+1+List.idxOf c (List.drop (k+1) l))=some (k+(List.idxOf c (List.drop (k+1) l)+1))
     congr 1
     lia
    ·rw[if_neg hm,if_neg (by intro z;rcases Qab.mp z with z | z;exact vn z;exact hm z)]
  ·have:l.drop k=[]:=Qd8 ()
   have e1:(decide (k+1<=(l:))&&(l[k]? ==some c))=false:=by
    rw[decide_eq_false ()];rfl
   have e2:l.drop (k+1)=[]:=Qd8 ()
   rw[e1,s_ l c (k+1) n (),this,e2]
   simp
theorem Oo(l:c5)(c:Nat):Builtin.Str.occurrences (S l) (S [c]) 0 (S l:) 1=if c∈l then [l.idxOf c] else []:=by
 rw[StrLaws.occ_eq,occ_first _ _ _ _ 0 λ_ _=>Qat _]
 have e:(λi=>decide (i+(S [c]:)<=(S l:))&&Builtin.Str.subAt (S l) (S [c]) i)=λi=>decide (i+1<=(l:))&&(l[i]? ==some c):=by
  funext i
  rw[subAt_one,dJ,dJ]
  rfl
 rw[e,dJ,Nat.sub_zero,s_ l c 0 ((l:)+1) (),List.drop_zero]
 by_cases h:c∈l
 ·rw[if_pos h,if_pos h,Qd2];rfl
 ·rw[if_neg h,if_neg h];rfl
variable{c:Nat}
section
variable{X:Cx}
inductive wq(x:V)(vs:List V)(H:Hp)(Q:VK):Prop
 | mk (l:_) (c:_) (_:x= .str (S l)) (_:vs=[.str (S [c])]) (_:c∈l) (_:Q (.int (l.idxOf c:Nat)) H):wq x vs H Q
def L3:V->List V->Hp->VK->Prop:=wq
theorem lq:EZ X "str.index" L3:=by
 walk_at"q"
 obtain ⟨l,c,rfl,rfl,hc,q⟩:=h
 walk_at"f"
 obtain ⟨u,rfl,t',rfl⟩:=vals1 rv
 exact SC.index (i:=l.idxOf c) (rest:=[]) (by rw[Oo,if_pos hc]) ⟨.int (l.idxOf c:Nat),H,I.tok _,⟨_,rfl⟩,q⟩
inductive zM(x:V)(vs:List V)(H:Hp)(Q:VK):Prop
 | mk (l:_) (c:_) (_:x= .str (S l)) (_:vs=[.str (S [c])]) (_:Q (.int (if c∈l then (l.idxOf c:Nat) else -1)) H):zM x vs H Q
def Qa:V->List V->Hp->VK->Prop:=zM
theorem zN:EZ X "str.find" Qa:=by
 walk_at"q"
 obtain ⟨l,c,rfl,rfl,q⟩:=h
 walk_at"f"
 obtain ⟨u,rfl,t',rfl⟩:=vals1 rv
 refine SC.find ⟨.int _,H,I.tok _,⟨_,rfl⟩,?_⟩
 have e:Txt.find (S l) (S [c])=(if c∈l then ((l.idxOf c:Nat):Int) else -1):=by
  unfold Txt.find
  rw[Oo]
  by_cases h:c∈l
  ·rw[if_pos h,if_pos h]
  ·rw[if_neg h,if_neg h]
 rw[e]
 exact q
def Oq(f:Nat->Bool):V->List V->Hp->VK->Prop:=λx vs H Q=>∃c,x= .str (S [c])/\vs=[]/\c<128/\Q (.bl (f c)) H
def Ve(f:Nat->Nat):V->List V->Hp->VK->Prop:=λx vs H Q=>∃c,x= .str (S [c])/\vs=[]/\c<128/\Q (.str (S [f c])) H
noncomputable def aD(c:Nat):Bool:=decide (97<=c)&&decide (c<=122)
noncomputable def isUp(c:Nat):Bool:=decide (65<=c)&&decide (c<=90)
theorem L4:∀c,c<128->Txt.islower ⟨#[c]⟩=aD c:=⋯
theorem Qb:∀c,c<128->Txt.isupper ⟨#[c]⟩=isUp c:=⋯
theorem mS:EZ X "str.islower" (Oq aD):=by
 walk_at"q"
 obtain ⟨c,rfl,rfl,hc,q⟩:=h
 walk_at"f"
 have e:us=[]:=by cases rv;rfl
 subst e
 exact SC.islower ⟨.bl (aD c),H,I,congrArg Value.bool (L4 c hc),q⟩
theorem BG:EZ X "str.isupper" (Oq isUp):=by
 walk_at"q"
 obtain ⟨c,rfl,rfl,hc,q⟩:=h
 walk_at"f"
 have e:us=[]:=by cases rv;rfl
 subst e
 exact SC.isupper ⟨.bl (isUp c),H,I,congrArg Value.bool (Qb c hc),q⟩
theorem upper_one(hc:c<128):Txt.upper (S [c])=S [up1 c]:=by
 rw[upper_ascii (by intro d hd;rw[cf]at hd;simp at hd;lia)]
 simp[S]
theorem wu(hc:c<128):Txt.lower (S [c])=S [lo1 c]:=by
 rw[lower_ascii (by intro d hd;rw[cf]at hd;simp at hd;lia)]
 simp[S]
theorem Ot(c:Nat):Builtin.Str.tooLong (S [c]:)=false:=by
 rw[dJ]
 show Builtin.Str.tooLong 1=false
 decide
theorem Ht:EZ X "str.upper" (Ve up1):=by
 walk_at"q"
 obtain ⟨c,rfl,rfl,hc,q⟩:=h
 walk_at"f"
 have e:us=[]:=by cases rv;rfl
 subst e
 exact SC.upper (by rw[upper_one hc];exact Ot _) ⟨.str (S [up1 c]),H,I.tok _,⟨_,congrArg (λz=>Value.str z _) (upper_one hc)⟩,q⟩
theorem nK:EZ X "str.lower" (Ve lo1):=by
 walk_at"q"
 obtain ⟨c,rfl,rfl,hc,q⟩:=h
 walk_at"f"
 have e:us=[]:=by cases rv;rfl
 subst e
 exact SC.lower (by rw[wu hc];exact Ot _) ⟨.str (S [lo1 c]),H,I.tok _,⟨_,congrArg (λz=>Value.str z _) (wu hc)⟩,q⟩
theorem Hu:∀(ls:List c5) (a:Array Nat),(ls.map S).foldl (λacc p=>acc++(S []).cps++p.cps) a=a++ls.flatten.toArray
 | [],a=>by simp
 | l::ls,a=>by
  rw[Qa2,Qc4,Hu ls]
  simp[S]
theorem Qc(ls:List c5):Txt.join (S []) (ls.map S)=S ls.flatten:=by
 unfold Txt.join Builtin.Str.glued
 cases ls with
 | nil=>rfl
 | cons l ls=>
  show Str.mk ((List.map S ls).foldl (λacc p=>acc++(S []).cps++p.cps) (S l).cps)=_
  rw[Hu]
  simp[S]
theorem tf:∀{ls:List c5} {us:List Value},Vals (ls.map λl=>V.str (S l)) us->StrsAre us (ls.map S)
 | [],us,r=>by cases r;exact .nil
 | l::ls,us,r=>by
  cases r with
  | cons r1 r2=>
   walk_at"Q"
   exact .cons _ t (tf r2)
inductive zO(K:c6)(x:V)(vs:List V)(H:Hp)(Q:VK):Prop
 | mk (p:Addr) (ls:List c5) (_:x= .str (S [])) (_:vs=[.ref p]) (_:bu K H p (ls.map λl=>V.str (S l))) (_:(ls.map List.length).sum<=16777216) (_:Q (.str (S ls.flatten)) H):zO K x vs H Q
def Hv(K:c6):V->List V->Hp->VK->Prop:=zO K
theorem Hw:EZ X "str.join" (Hv X.K):=by
 walk_at"q"
 obtain ⟨p,ls,rfl,rfl,hq,hz,q⟩:=h
 walk_at"f"
 obtain ⟨u,rfl,ru⟩:=vals1 rv
 cases ru
 obtain ⟨aN,r,pl,_⟩:=I.list hq
 have e:(S []:)=0:=rfl
 refine join_list pl.isList (by simpa using tf r) ?_ λt' k=>?_
 ·rw[e,Nat.mul_zero,Qf3,Qcd]
  have e2:(Str.length ∘ S)=List.length:=by funext l;exact dJ l
  have e3:((λx:Str=>(x:)) ∘ S)=List.length:=by funext l;exact dJ l
  first | (rw[e2];exact hz) | (rw[e3];exact hz)
 ·exact ⟨.str (S ls.flatten),H,I.tok _,⟨t',congrArg (λz=>Value.str z t') (Qc ls)⟩,q⟩
theorem E5(hc:X.calm=true):eL X (.builtin "all") (λxs H Q=>∃(p:Addr) (bs:List Bool),xs=[.ref p]/\bu X.K H p (bs.map V.bl)/\Q (.bl (bs.all id)) H):=by
 walk_at"h"
 obtain ⟨p,bs,rfl,hq,q⟩:=h
 obtain ⟨u,rfl,ru⟩:=vals1 r
 cases ru
 obtain ⟨aN,rv,pl,hz⟩:=I.list hq
 have hlen:(aN:)=(bs:):=by rw[<-(rv:),Xi]
 have hp:p<s.heap.objs.size:=by
  obtain ⟨o,n,e,_⟩:=pl
  exact Qay e
 refine call_all_walk (wpAny_pyIter_list pl.isList ?_)
 refine ⟨s.heap.objs.size,_,_,_,_,_,λi=>(bs[i]?).getD true,rfl,Walks.list (A:=X.A.in1) (I.ok.hd hc) s.heap.objs.size p (Qa0 hp) aN.toArray,⟨⟨_,Qaq _ rfl,rfl,rfl⟩,?_⟩,λi v s' Q' E' hP hQ=>?_,λh' tk hk=>?_⟩
 ·obtain ⟨o,ho,hr⟩:=pl.isList
  exact ⟨o,Qac _ ho,hr⟩
 ·have Xk:aN[i]? =some v:=by simpa using hP
  have hi:i<(bs:):=by rw[<-hlen];exact (P5.mp Xk).1
  have hb:(bs.map V.bl)[i]? =some (V.bl bs[i]):=by rw[Qau,P4 hi];rfl
  obtain ⟨u,hu,ru⟩:=rv.get hb
  rw[Xk]at hu;cases hu
  cases (show v=Value.bool bs[i] from ru)
  have e:(bs[i]?).getD true=bs[i]:=by rw[P4 hi];rfl
  have Xl:Q' ((bs[i]?).getD true) s':=hQ
  rw[e]at Xl
  exact wpAny_pure Xl
 ·have e:((List.range aN.toArray.size).all λi=>(bs[i]?).getD true)=bs.all id:=by
   rw[Qaj,hlen]
   clear hq rv hlen q
   rw[Qdv,Qb8,Qb8]
   constructor
   ·intro h b hb
    obtain ⟨i,hi,e⟩:=Qdu hb
    have:=h i (Qb7.mpr hi)
    rw[P4 hi,e]at this
    exact this
   ·intro h i hi
    have mi:=Qb7.mp hi
    rw[P4 mi]
    exact h _ (Qbk mi)
  have I1:Inv X pins σ H { s with heap:=h',toks:=tk }:=by
   have I0:Inv X pins σ H { s with heap:=s.heap.push { cls:= .type "list_iterator",data:= .fields #[.ref p,.int 0 0] } }:=I.kept (t':=s.toks) λb o e=>Qac _ e
   have f:=I.sM (H':=H) (b:=s.heap.objs.size) (Qaa _) I.fresh
   have J:=I0.turned (h':=h') (t':=tk) (it:=s.heap.objs.size) (λb o hb e=>hk b o (by simpa using hb) e) f.1 f.2.1 f.2.2.2.1 f.2.2.2.2.1 f.2.2.2.2.2
   exact J
  exact ⟨.bl (bs.all id),H,I1,by rw[e];rfl,q⟩
end
end L2
namespace L2.F2
open PySem PySem.Spec PyProof.Rows
theorem wx:Manifest.owners.lookup (String.ofList ['d','e','s','r','e','v','e','r'].reverse)=some Manifest.sig_reversed:=by kernel_rfl
theorem eO:Slot "reversed" "__next__" "reversed.__next__":=
 .of (owner:="reversed") (n:="__next__") (by rw[typeLookup_type,builtinLookup_eq_fast];kernel_rfl) ⋯ ⋯ ⋯
  (by first | exact .inl ⋯ | exact .inr ⋯) (by rw[isSubtype_type];kernel_rfl)
theorem jZ:entryFor table "reversed.__next__"=some Builtin.«reversed.__next__» :=entryFor_of_tree (by kernel_rfl)
theorem jB(a:Value):argsOk "reversed.__next__" ⟨[a],[]⟩:=by
 unfold argsOk;rw[signature?_of (id:="reversed.__next__") (n:=['_','_','t','x','e','n','_','_']) (o:=['d','e','s','r','e','v','e','r']) (by kernel_rfl) wx];kernel_rfl
theorem mj:Slot "reversed" "__iter__" "reversed.__iter__":=
 .of (owner:="reversed") (n:="__iter__") (by rw[typeLookup_type,builtinLookup_eq_fast];kernel_rfl) ⋯ ⋯ ⋯
  (by first | exact .inl ⋯ | exact .inr ⋯) (by rw[isSubtype_type];kernel_rfl)
theorem rh(a:Value):argsOk "reversed.__iter__" ⟨[a],[]⟩:=by
 unfold argsOk;rw[signature?_of (id:="reversed.__iter__") (n:=['_','_','r','e','t','i','_','_']) (o:=['d','e','s','r','e','v','e','r']) (by kernel_rfl) wx];kernel_rfl
theorem tm:entryFor table "reversed.__iter__"=some Builtin.«dict_keyiterator.__iter__» :=
 entryFor_alias (id':="dict_keyiterator.__iter__") (by kernel_rfl) (by first | rfl | decide+kernel | (unfold String.splitOn;simp+decide [String.splitOnAux])) ⋯ (by kernel_rfl)
theorem vz:Slot "reversed" "__init__" "object.__init__":=
 .of (owner:="object") (n:="__init__") (by rw[typeLookup_type,builtinLookup_eq_fast];kernel_rfl) ⋯ ⋯ ⋯
  (by first | exact .inl ⋯ | exact .inr ⋯) (by rw[isSubtype_type];kernel_rfl)
theorem BH:TypeCalled "reversed" "reversed.__new__" "object.__init__":=
 ⟨⋯,⋯,⟨_,_,F.mro_reversed⟩,F.made_reversed,⋯,by rw[isSubtype_type];kernel_rfl,vz⟩
theorem BI:typeLookup (.type "str") "__reversed__"=pure none:=by rw[typeLookup_type,builtinLookup_eq_fast];kernel_rfl
end L2.F2
namespace L2
open PySem PySem.Spec PyProof.Rows
theorem tu(x:Str)(t:Tok)(hz:(x:)<=sizeLine):Meets (Builtin.«reversed.__new__» ⟨[.type "reversed",.str x t],[]⟩) (λ_ R s=>∀tk,R (.ok (.ret (.ref s.heap.objs.size))) { s with heap:=s.heap.push { cls:= .type "reversed",data:= .fields #[.str x t,rawInt (((x:):Int) - 1)] },toks:=tk }):=by
 refine Meets.of_wp λprog w A R s h=>?_
 unfold Builtin.«reversed.__new__»
 refine wpAny_bind (wpAny_of_eq (newClass_reversed _) ?_)
 try dsimp only
 refine wpAny_bind (wpAny_of_eq (a:=Unit.unit) (by first | rfl | kernel_rfl) ?_)
 refine wpAny_bind (wpAny_of_eq (a:=Unit.unit) (by first | rfl | kernel_rfl) ?_)
 try dsimp only
 refine wpAny_bind (wpAny_specialOf (typeIs_str s x t) F2.BI ?_)
 try dsimp only
 refine wpAny_bind (wpAny_of_eq (a:=true) (by first | rfl | kernel_rfl) ?_)
 rw[if_neg ∅]
 have hn:=gL
 refine wpAny_bind (len_str () ?_)
 refine wpAny_bind (wpAny_of_eq (a:=some ((x:):Int)) (by first | rfl | kernel_rfl) ?_)
 show wpAny _ _ (Builtin.SmallTypes.newRecord (Value.type "reversed") [Value.str x t,rawInt (((x:):Int) - 1)] >>= _) _ _ _
 refine wpAny_bind ?_
 unfold Builtin.SmallTypes.newRecord
 refine wpAny_newObj_type ?_ (by size_fits)
 exact wpAny_pure ⟨_,rfl,h _⟩
variable{x:Str}{Q:Value->Shared->Prop}{it:Addr}{i:Int}
section
variable{prog:Program}{w:World}{A:Around}{E:Value->Shared->Prop}{s:Shared}
theorem tD{t:Tok}(hz:(x:)<=sizeLine)(h:∀tk,Q (.ref s.heap.objs.size) { s with heap:=s.heap.push { cls:= .type "reversed",data:= .fields #[.str x t,rawInt (((x:):Int) - 1)] },toks:=tk }):
  wpAny (model prog w) A (call (.type "reversed") [.str x t]) Q E s:=
 callType_new F2.BH ⋯ (F.typeCall_reversed_1 _) (F.newCall_reversed_1 _) (λobj=>by unfold argsOk;kernel_rfl) F.entry_reversed_new (tu x t hz)
  λtk=>⟨⟨_,Qaq _ rfl,rfl⟩,h tk⟩
def j4(h:Heap)(it:Addr)(x:Str)(t:Tok)(i:Int):Prop:=∃o,h.get? it=some o/\o.cls= .type "reversed"/\o.data= .fields #[.str x t,rawInt i]
theorem j4.typeIs{t:Tok}(h:j4 s.heap it x t i):s.TypeIs (.ref it) "reversed":=let ⟨o,ho,hc,_⟩:=h;⟨o,ho,hc⟩
theorem tE{t:Tok}(hit:j4 s.heap it x t i)(h:Q (.ref it) s):wpAny (model prog w) A (pyIter (.ref it)) Q E s:=by
 refine wpAny_pyIter_slot hit.typeIs F2.mj (wpAny_call_entry F2.mj hit.typeIs F2.tm ?_ (F2.rh _))
 show wpAny _ _ (ret (.ref it)) _ _ s
 exact wpAny_pure ⟨_,rfl,"reversed",_,hit.typeIs,F2.eO.lookup,h⟩
theorem rj{t:Tok}{i c:Nat}{Q:Option Value->Shared->Prop}(hit:j4 s.heap it x t (i:Int))(hx:x.cps[i]? =some c)(hz:(x:)<=sizeLine)
  (hQ:∀h' tk u,j4 h' it x t ((i:Int) - 1)->Heap.SameBut it s.heap h'->Q (some (.str ⟨#[c]⟩ u)) { s with heap:=h',toks:=tk }):wpAny (model prog w) A (pyNext (.ref it)) Q E s:=by
 obtain ⟨o,ho,hc,hd⟩:=id hit
 have hn:=gL
 have hi:i<(x:):=(Array.getElem?_eq_some_iff.mp hx).1
 unfold pyNext
 refine wpAny_bind (wpAny_attempt (wpAny_callSpecial?_slot (name:=Str.ofString "__next__") hit.typeIs F2.eO
  (wpAny_call_entry F2.eO hit.typeIs F2.jZ ?_ (F2.jB _))))
 unfold Builtin.«reversed.__next__»
 refine wpAny_bind (wpAny_of_eq (a:=(Value.ref it,[])) rfl ?_)
 try dsimp only
 refine wpAny_bind (wpAny_field ho hd (x:= .str x t) rfl ?_)
 refine wpAny_bind (wpAny_field ho hd (x:=rawInt (i:Int)) rfl ?_)
 show wpAny _ _ (if (i:Int)<0 then _ else _) _ _ s
 rw[if_neg ()]
 refine wpAny_bind (wpAny_specialOf (typeIs_str s x t) F.slot_str_getitem.lookup ?_)
 show wpAny _ _ (if (some (Value.builtin _)).isNone=true then _ else _) _ _ s
 rw[if_neg ∅]
 refine wpAny_bind (wpAny_mkInt ?_)
 refine wpAny_bind (wpAny_attempt (getItem_str (c:=c) (by
  have e1:decide ((i:Int)< -(2 ^ 63:Int))=false:=decide_eq_false ()
  have e2:decide ((i:Int) ≥ 2 ^ 63)=false:=decide_eq_false ()
  rw[e1,e2,Qfx]) (by rw[seqIndex_of () (),Qap];exact hx) ?_))
 show wpAny _ _ (field (Value.ref it) 1 >>= _) _ _ _
 refine wpAny_bind (wpAny_field ho hd (x:=rawInt (i:Int)) rfl ?_)
 show wpAny _ _ (setField (Value.ref it) 1 (rawInt ((i:Int) - 1)) >>= _) _ _ _
 refine wpAny_bind (wpAny_setField ho hd (by simp) ?_)
 refine wpAny_pure ⟨_,rfl,wpAny_pure (hQ _ _ _ ?_ (Qge ..))⟩
 exact ⟨_,Qcs _ ho (Obj.isFreed_of_fields (Obj.data_mapFields hd _)),(Obj.cls_mapFields ..).trans hc,by
  rw[Obj.data_mapFields hd];simp⟩
theorem tF{t:Tok}{Q:Option Value->Shared->Prop}(hh:A.handled=none)(hit:j4 s.heap it x t (-1))
  (hQ:∀h',Heap.ExtBut it s.heap h'->Q none { s with heap:=h' }):wpAny (model prog w) A (pyNext (.ref it)) Q E s:=by
 obtain ⟨o,ho,hc,hd⟩:=id hit
 unfold pyNext
 refine wpAny_bind (wpAny_attempt (wpAny_callSpecial?_slot (name:=Str.ofString "__next__") hit.typeIs F2.eO
  (wpAny_call_entry F2.eO hit.typeIs F2.jZ ?_ (F2.jB _))))
 unfold Builtin.«reversed.__next__»
 refine wpAny_bind (wpAny_of_eq (a:=(Value.ref it,[])) rfl ?_)
 try dsimp only
 refine wpAny_bind (wpAny_field ho hd (x:= .str x t) rfl ?_)
 refine wpAny_bind (wpAny_field ho hd (x:=rawInt (-1)) rfl ?_)
 show wpAny _ _ (if (-1:Int)<0 then _ else _) _ _ s
 rw[if_pos ∅]
 walk_at"J"
 refine wpAny_bind ?_
 show wpAny _ _ (setField (Value.ref it) 1 (rawInt (-1)) >>= λ_=>setField (Value.ref it) 0 .none) _ _ _
 refine wpAny_bind (wpAny_setField ho hd (by simp) ?_)
 refine wpAny_setField (Qcs _ ho (Obj.isFreed_of_fields (Obj.data_mapFields hd _))) (Obj.data_mapFields hd _) (by simp) ?_
 first
 | show wpAny _ _ (newExc (.type "StopIteration") [] >>= _) _ _ _
 |(refine wpAny_bind ?_;show wpAny _ _ (newExc (.type "StopIteration") [] >>= _) _ _ _)
 refine wpAny_bind ?_
 simp only[newExc,newTuple]
 refine wpAny_bind (wpAny_newObj_type ?_ (by size_fits))
 refine wpAny_bind (m:=firstArgMember _ _) (wpAny_of_eq (a:=Value.none) (by first | rfl | (simp only[firstArgMember];rfl)) ?_)
 refine wpAny_newObj_type ?_ (by size_fits)
 simp only[raiseNew]
 refine wpAny_bind (wpAny_handled ?_)
 first | rw[show A.in1.handled=none from hh] | rw[hh]
 refine wpAny_bind (wpAny_pure (wpAny_throw ?_))
 refine wpAny_bind (wpAny_isInstance (T:="StopIteration") (b:=true) ⟨_,Qaq _ rfl,rfl⟩ isSubtype_stop ?_)
 refine wpAny_pure (hQ _ λb ob hb e=>?_)
 refine Qac _ (Qac _ ?_)
 exact (Qbc _ _ (Ne.symm hb)).trans ((Qbc _ _ (Ne.symm hb)).trans e)
end
noncomputable def L5(xs:List V):It:=⟨λi _=>i<(xs:),λi H x H'=>H'=H/\xs[i]? =some x,λi _=>(xs:)<=i⟩
variable{l:c5}
theorem gD{i:Nat}{x:V}(h:(dY l)[i]? =some x):∃c,l[i]? =some c/\x= .str (S [c]):=by
 unfold dY at h
 rw[Qau]at h
 cases e:l[i]? with
 | none=>rw[e]at h;cases h
 | some c=>rw[e]at h;cases h;exact ⟨c,rfl,rfl⟩
theorem bo(l:c5):(dY l:)=(l:):=by unfold dY;rw[Xi]
variable{K:c6}{tg:Expr}
theorem Hx{P:Program}{w:World}(it:Addr)(l:c5)(t:Tok):Turn P w K tg (L5 (dY l)) [it] it (λi h=>h.IsStrIter it (strIterType (S l)) (S l) t i) where
 mem:=by simp
 obj:=λi h st b hb=>by
  have e:b=it:=by simpa using hb
  subst e
  obtain ⟨o,e,c,d⟩:=st
  walk_at"S"
 keep:=λi h h' st k=>let ⟨o,e,r⟩:=st;⟨o,k it (by simp) o e,r⟩
 item:=by
  walk_at"b"
  subst hP hw hK
  have L6:i<(l:):=by have:i<(dY l:):=hg;rwa [bo]at this
  walk_at"d"
  have fin:∀(v:Value) (h':Heap) (tk:Nat),SignAt (S l) i v->h'.IsStrIter it (strIterType (S l)) (S l) t (i+1)->(∀b o,b∉[it]->s.heap.get? b=some o->h'.get? b=some o)->
    ∃u,some v=some u/\wpAny (model X.prog X.w) X.A (letOwnedTupleGo tg (.ref it) u) (λ_ s2=>∃x H',Inv X pins σ H' s2/\RelV x u/\(L5 (dY l)).G4 i H x H'/\s2.heap.IsStrIter it (strIterType (S l)) (S l) t (i+1)/\∀b∈[it],H' b=none) E { s with heap:=h',toks:=tk }:=by
   intro v h' tk hv cK kk
   obtain ⟨c,u,e1,e2⟩:=hv
   subst e2
   walk_at"N"
   obtain ⟨o,e,cc,d⟩:=id cK
   refine ⟨_,rfl,zu (s:={ s with heap:=h',toks:=tk }) e cc d (by unfold strIterType;split<;>decide) ⟨.str (S [c]),H,I1,⟨u,rfl⟩,⟨rfl,?_⟩,cK,λb hb=>(hf b hb).1⟩⟩
   unfold dY
   rw[Qau]
   have BJ:l[i]? =some c:=by simpa [S]using e1
   rw[BJ]
   rfl
  have hsz:i<(S l).cps.size:=by rw[pR];exact L6
  by_cases ha:(S l).cps.all (· <128)=true
  ·have et:strIterType (S l)="str_ascii_iterator":=by unfold strIterType;rw[if_pos ha]
   rw[et]at st
   exact (Walks.strAscii (prog:=X.prog) (w:=X.w) (I.ok.hd hc) it (S l) t).item i s _ _ hsz st λv h' tk hv cK kk=>fin v h' tk hv (by rw[et];exact cK) kk
  ·have et:strIterType (S l)="str_iterator":=by unfold strIterType;rw[if_neg ha]
   rw[et]at st
   exact (Walks.strWide (prog:=X.prog) (w:=X.w) (I.ok.hd hc) it (S l) t).item i s _ _ hsz st λv h' tk hv cK kk=>fin v h' tk hv (by rw[et];exact cK) kk
 done:=by
  walk_at"b"
  subst hP hw hK
  walk_at"d"
  have L6:(l:)<=i:=by have:(dY l:)<=i:=hg;rwa [bo]at this
  have hx:(S l).cps[i]? =none:=by rw[Array.getElem?_eq_none_iff,pR];exact L6
  by_cases ha:(S l).cps.all (· <128)=true
  ·have et:strIterType (S l)="str_ascii_iterator":=by unfold strIterType;rw[if_pos ha]
   rw[et]at st
   exact wpAny_pyNext_ascii_end (I.ok.hd hc) st hx λh' eb=>⟨rfl,I.turned (t':=s.toks) (λb o hb e=>eb b o hb e) f0 f1 f3 f4 f5⟩
  ·have et:strIterType (S l)="str_iterator":=by unfold strIterType;rw[if_neg ha]
   rw[et]at st
   exact wpAny_pyNext_wide_end (I.ok.hd hc) st hx λh' eb=>⟨rfl,I.turned (t':=s.toks) (λb o hb e=>eb b o hb e) f0 f1 f3 f4 f5⟩
 self:=λ_ _ s _ _ st h=>by
  by_cases ha:(S l).cps.all (· <128)=true
  ·have et:strIterType (S l)="str_ascii_iterator":=by unfold strIterType;rw[if_pos ha]
   rw[et]at st
   exact wpAny_pyIter_striter_ascii st h
  ·have et:strIterType (S l)="str_iterator":=by unfold strIterType;rw[if_neg ha]
   rw[et]at st
   exact wpAny_pyIter_striter_wide st h
theorem Hy{P:Program}{w:World}(it:Addr)(l:c5)(t:Tok)(hz:(l:)<=sizeLine):Turn P w K tg (L5 (dY l).reverse) [it] it (λi h=>i<=(l:)/\j4 h it (S l) t (((l:):Int) - 1 - (i:Int))) where
 mem:=by simp
 obj:=λi h st b hb=>by
  have e:b=it:=by simpa using hb
  subst e
  obtain ⟨_,o,e,c,d⟩:=st
  walk_at"S"
 keep:=λi h h' st k=>let ⟨q,o,e,r⟩:=st;⟨q,o,k it (by simp) o e,r⟩
 item:=by
  walk_at"b"
  subst hP hw hK
  have L6:i<(l:):=by have:i<(dY l).reverse.length:=hg;rwa [Qas,bo]at this
  walk_at"d"
  obtain ⟨_,st⟩:=st
  have e:((l:):Int) - 1 - (i:Int)=(((l:) - 1 - i:Nat):Int):=by lia
  rw[e]at st
  have dZ:(l:) - 1 - i<(l:):=by lia
  refine rj (c:=l[(l:) - 1 - i]) st (by simp[S,dZ]) (by rw[dJ];exact hz) λh' tk u cK sb=>?_
  have I1:Inv X pins σ H { s with heap:=h',toks:=tk }:=I.turned (λb o hb e=>(sb.2 b hb).trans e) f0 f1 f3 f4 f5
  obtain ⟨o,e1,cc,d⟩:=id cK
  refine ⟨_,rfl,zu (s:={ s with heap:=h',toks:=tk }) e1 cc d ∅ ⟨.str (S [l[(l:) - 1 - i]]),H,I1,⟨u,rfl⟩,⟨rfl,?_⟩,⟨L6,?_⟩,λb hb=>(hf b hb).1⟩⟩
  ·rw[Qdk (by rw[bo];exact L6),bo]
   unfold dY
   rw[Qau,P4 dZ]
   rfl
  ·have e2:((l:):Int) - 1 - ((i+1:Nat):Int)=(((l:) - 1 - i:Nat):Int) - 1:=by lia
   rw[e2]
   exact cK
 done:=by
  walk_at"b"
  subst hP hw hK
  walk_at"d"
  have L6:(l:)<=i:=by have:(dY l).reverse.length<=i:=hg;rwa [Qas,bo]at this
  obtain ⟨hi,st⟩:=st
  have e:((l:):Int) - 1 - (i:Int)= -1:=by lia
  rw[e]at st
  exact tF (I.ok.hd hc) st λh' eb=>⟨rfl,I.turned (t':=s.toks) (λb o hb e=>eb b o hb e) f0 f1 f3 f4 f5⟩
 self:=λ_ _ _ _ _ st h=>tE st.2 h
variable{tl:TE}{a:Expr}{ta:TA}{p pos:Pos}
section
variable{X:Cx}{tg:Expr}
def YG(tl:TE):TI:=λσ H R=>tl σ H λx H1=>∃l,x= .str (S l)/\R (L5 (dY l)) H1
theorem j5{l:Expr}(hl:PE X l tl):PI X tg l (YG tl):=by
 walk_at"T"
 walk_at"P"
 obtain ⟨l,rfl,q⟩:=q1
 walk_at"Q"
 refine wpAny_pyIter_strU ?_
 refine ⟨s1.heap.objs.size,[s1.heap.objs.size],_,_,H1,rfl,I1.kept (t':=s1.toks) λb o e=>Qac _ e,Hx _ l t,⟨_,Qaq _ rfl,rfl,rfl⟩,λb hb=>?_,q⟩
 have e:b=s1.heap.objs.size:=by simpa using hb
 subst e
 walk_at"F"
def YH(ta:TA):TI:=λσ H R=>ta σ H λvs H1=>∃l,vs=[.str (S l)]/\(l:)<=sizeLine/\R (L5 (dY l).reverse) H1
theorem Qd(hg:Gl X "reversed")(hm:X.mg "reversed"=none)(ha:PA X [a] ta)(hs:starEach [a] X.env=[(false,eval a X.env)]:=by rfl):PI X tg (.Call (.Name "reversed" p) [a] [] pos) (YH ta):=by
 walk_at"T"
 refine Call_ (il I hg hm boot_reversed (Qck (cE (ha pos pins s σ H _ I h) λus s1 ⟨vs,H1,I1,r1,q1⟩=>?_) hs rfl))
 obtain ⟨l,rfl,hz,q⟩:=q1
 obtain ⟨u,rfl,t,rfl⟩:=vals1 r1
 refine tD (by rw[dJ];exact hz) λtk=>?_
 have hit:j4 (s1.heap.push { cls:= .type "reversed",data:= .fields #[.str (S l) t,rawInt (((S l:):Int) - 1)] }) s1.heap.objs.size (S l) t (((S l:):Int) - 1):=⟨_,Qaq _ rfl,rfl,rfl⟩
 refine tE hit ?_
 refine ⟨s1.heap.objs.size,[s1.heap.objs.size],_,_,H1,rfl,I1.kept (t':=tk) λb o e=>Qac _ e,Hy _ l t hz,⟨Qat _,?_⟩,λb hb=>?_,q⟩
 ·have e:((l:):Int) - 1 - ((0:Nat):Int)=((S l:):Int) - 1:=by rw[dJ];simp
  rw[e]
  exact hit
 ·have e:b=s1.heap.objs.size:=by simpa using hb
  subst e
  walk_at"F"
end
variable{xs:List V}{g:TG}{tb:TS}{D:Ends}{σ:St}{H:Hp}
theorem rN(Pv:Nat->St->Hp->Prop)(h0:Pv 0 σ H)
  (hs:∀i x σ H,xs[i]? =some x->Pv i σ H->g x σ H λσ2 H2=>tb { D with nx:=Pv (i+1),ct:=Pv (i+1),bk:=D.nx } σ2 H2) (hd:∀σ H,Pv (xs:) σ H->D.nx σ H):
  ∃W:Nat->Nat->St->Hp->Prop,(∃m,W 0 m σ H)/\∀i m σ H,W i m σ H->
   ((L5 xs).stop i H/\D.nx σ H)\/((L5 xs).go i H/\∃N:St->Hp->Prop,(∀σ' H',N σ' H'->∃m',m'<m/\W (i+1) m' σ' H')/\∀x H',(L5 xs).G4 i H x H'->g x σ H' λσ2 H2=>tb { D with nx:=N,ct:=N,bk:=D.nx } σ2 H2):=by
 walk_at"j"
 rintro i m σ H ⟨rfl,hi,p⟩
 by_cases dZ:i<(xs:)
 ·refine .inr ⟨dZ,Pv (i+1),λσ' H' p'=>⟨(xs:) - (i+1),(),rfl,dZ,p'⟩,λx H' y=>?_⟩
  obtain ⟨e,y⟩:=y
  subst e
  exact hs i x σ _ y p
 ·have e:i=(xs:):=by lia
  subst e
  exact .inl ⟨Qaa _,hd σ H p⟩
variable{n:Nat}{σc:St}{tc:TT}{te:TE}{H1:Hp}
theorem rO{J:It}{xs:Nat->V->Prop}{Q:VK}(Pv:Nat->List V->Hp->Prop)(hn:n<sizeLine)(hgo:∀i acc H,i<n->Pv i acc H->J.go i H)(Vf:∀acc H,Pv n acc H->J.stop n H)
  (hy:∀i acc H x H',i<n->Pv i acc H->J.G4 i H x H'->H'=H/\xs i x) (h0:Pv 0 [] H1)
  (hs:∀(i:Nat) (x:V) (acc:List V) (H:Hp) (Nx:List V->Hp->Prop),i<n->xs i x->(acc:)<=i->Pv i acc H->(∀fK H',(fK:)<=i+1->Pv (i+1) fK H'->Nx fK H')->
   g x σc H λσ2 H2=>Wk σc σ2/\tc σ2 H2 λb H3=>if b=true then te σ2 H3 λv H4=>Nx (acc++[v]) H4 else Nx acc H3)
  (hd:∀acc H D,(acc:)<=n->Pv n acc H->H D=none->Q (.ref D) (upd H D (.lst acc))):wj J σc g tc te Q H1:=by
 refine ⟨λi m acc H=>m=n - i/\i<=n/\(acc:)<=i/\Pv i acc H,⟨n,by simp,Qat _,Qaa _,h0⟩,?_⟩
 rintro i m acc H ⟨rfl,hi,hl,p⟩
 refine ⟨(),?_⟩
 by_cases dZ:i<n
 ·refine .inr ⟨hgo i acc H dZ p,λx H' y=>?_⟩
  obtain ⟨rfl,y2⟩:=hy i acc H x H' dZ p y
  exact hs i x acc _ (λfK H'=>∃m',m'<n - i/\(m'=n - (i+1)/\i+1<=n/\(fK:)<=i+1/\Pv (i+1) fK H')) dZ y2 hl p λfK H' h1 h2=>⟨n - (i+1),(),rfl,dZ,h1,h2⟩
 ·have e:i=n:=by lia
  subst e
  exact .inl ⟨Vf acc H p,λD hD=>hd acc H D hl p hD⟩
theorem j6{Q:VK}(Pv:Nat->List V->Hp->Prop)(hn:(xs:)<sizeLine)(h0:Pv 0 [] H1)
  (hs:∀(i:Nat) (x:V) (acc:List V) (H:Hp) (Nx:List V->Hp->Prop),i<(xs:)->xs[i]? =some x->(acc:)<=i->Pv i acc H->(∀fK H',(fK:)<=i+1->Pv (i+1) fK H'->Nx fK H')->
   g x σc H λσ2 H2=>Wk σc σ2/\tc σ2 H2 λb H3=>if b=true then te σ2 H3 λv H4=>Nx (acc++[v]) H4 else Nx acc H3)
  (hd:∀acc H D,(acc:)<=(xs:)->Pv (xs:) acc H->H D=none->Q (.ref D) (upd H D (.lst acc))):wj (L5 xs) σc g tc te Q H1:=
 rO (xs:=λi x=>xs[i]? =some x) Pv hn (λi _ _ h _=>h) (λ_ _ _=>Qaa _) (λi _ H x H' _ _ y=>y) h0 hs hd
theorem Hz{lo:Int}{Q:VK}(Pv:Nat->List V->Hp->Prop)(hn:n<sizeLine)(h0:Pv 0 [] H1)
  (hs:∀(i:Nat) (acc:List V) (H:Hp) (Nx:List V->Hp->Prop),i<n->(acc:)<=i->Pv i acc H->(∀fK H',(fK:)<=i+1->Pv (i+1) fK H'->Nx fK H')->
   g (.int (lo+i)) σc H λσ2 H2=>Wk σc σ2/\tc σ2 H2 λb H3=>if b=true then te σ2 H3 λv H4=>Nx (acc++[v]) H4 else Nx acc H3)
  (hd:∀acc H D,(acc:)<=n->Pv n acc H->H D=none->Q (.ref D) (upd H D (.lst acc))):wj (N8 lo n) σc g tc te Q H1:=
 rO (xs:=λi x=>x= .int (lo+i)) Pv hn (λi _ _ h _=>h) (λ_ _ _=>Qaa _) (λi _ H x H' _ _ y=>y) h0 (λi x acc H Nx h1 h2=>by subst h2;exact hs i acc H Nx h1) hd
theorem gG{a:Addr}{Q:VK}(Pv:Nat->List V->Hp->Prop)(hn:(xs:)<sizeLine)(hl:∀i acc H,Pv i acc H->bu K H a xs)(h0:Pv 0 [] H1)
  (hs:∀(i:Nat) (x:V) (acc:List V) (H:Hp) (Nx:List V->Hp->Prop),i<(xs:)->xs[i]? =some x->(acc:)<=i->Pv i acc H->(∀fK H',(fK:)<=i+1->Pv (i+1) fK H'->Nx fK H')->
   g x σc H λσ2 H2=>Wk σc σ2/\tc σ2 H2 λb H3=>if b=true then te σ2 H3 λv H4=>Nx (acc++[v]) H4 else Nx acc H3)
  (hd:∀acc H D,(acc:)<=(xs:)->Pv (xs:) acc H->H D=none->Q (.ref D) (upd H D (.lst acc))):wj (Sb K a) σc g tc te Q H1:=
 rO (xs:=λi x=>xs[i]? =some x) Pv hn (λi acc H h p=>⟨xs,xs[i],hl i acc H p,by simp[h]⟩) (λacc H p=>⟨xs,hl _ acc H p,Qaa _⟩) (λi acc H x H' h p y=>⟨y.1,y.2 xs (hl i acc H p)⟩) h0 hs hd
def L7(c:TT)(tb:TS):TS:=λD σ H=>∃W:Nat->St->Hp->Prop,(∃m,W m σ H)/\∀m σ H,W m σ H->c σ H λb H1=>if b=true then tb { D with nx:=λσ' H'=>∃m',m'<m/\W m' σ' H',ct:=λσ' H'=>∃m',m'<m/\W m' σ' H',bk:=D.nx } σ H1 else D.nx σ H1
variable{X:Cx}
theorem fL{c:Expr}{body:List Stmt}(hp:PassesOwn (model X.prog X.w) X.A X.env X.xe)(hc:PT X c tc)(hb:zf X body tb):PS X (.While c body [] pos) (L7 tc tb):=by
 walk_at"s"
 obtain ⟨W,⟨m0,w0⟩,turn⟩:=h
 refine wpAny_While (codeAny_whileLoop (λn s'=>∃σ' H',Inv X pins σ' H' s'/\W n σ' H') ?_ m0 ⟨σ,H,I,w0⟩)
 rintro n s1 ⟨σ1,H1,I1,w1⟩
 refine wpAny_passesOwn hp (cE (hc pins s1 σ1 H1 _ I1 (turn n σ1 H1 w1)) λb s2 ⟨H2,I2,q2⟩=>?_)
 cases b with
 | true=>
  rw[if_pos rfl]at q2 ⊢
  refine wpAny_passesOwn hp (cE (hb pins s2 σ1 H2 _ I2 q2) λf s3 q3=>?_)
  cases f with
  | next=>
   obtain ⟨σ3,H3,I3,m',hm,w3⟩:=q3
   exact ⟨m',hm,σ3,H3,I3,w3⟩
  | cont=>
   obtain ⟨σ3,H3,I3,m',hm,w3⟩:=q3
   exact ⟨m',hm,σ3,H3,I3,w3⟩
  | brk=>exact q3
  | ret v=>exact q3
 | false=>
  rw[if_neg Qax]at q2 ⊢
  exact wpAny_execs_nil ⟨σ1,H2,I2,q2⟩
noncomputable def xO(X:Cx)(scope:Scope):Bool:=(scope.names.all λy=>y.2 != .cell)&&(scope.kind== .function)&&(scope.names.all λy=>y.2 != .free||X.env.kindOf y.1==some .cell||X.env.kindOf y.1==some .free)&&(scope.names.all λy=>y.2 != .local||scope.names.lookup y.1==some .local)
variable{scope:Scope}
theorem nL(h:xO X scope=true):(∀y∈scope.names,y.2≠ .cell)/\scope.kind= .function/\(∀y∈scope.names,y.2= .free->X.env.kindOf y.1=some .cell\/X.env.kindOf y.1=some .free)/\(∀x∈scope.names,x.2= .local->scope.names.lookup x.1=some .local):=by
 unfold xO at h
 simp only[Qb9]at h
 obtain ⟨⟨⟨h1,h2⟩,h3⟩,h4⟩:=h
 refine ⟨λy hy e=>?_,by simpa using h2,λy hy e=>?_,λy hy e=>?_⟩
 ·have:=Qb8.mp h1 y hy
  rw[e]at this;simp at this
 ·have:=Qb8.mp h3 y hy
  rw[e]at this
  simpa using this
 ·have:=Qb8.mp h4 y hy
  rw[e]at this
  simpa using this
variable{ifs:List Expr}
theorem cL{iter elt:Expr}{wi:TI}(Nc:List Str)(ix:List (Option Nat))(hi:PI X tg iter wi)(BC:lY X scope Nc ix)
  (hG:∀C s H fp,PG (cb X scope C Nc s H fp) tg g) (hT:∀C s H fp,PF (cb X scope C Nc s H fp) ifs tc) (hE:∀C s H fp,PE (cb X scope C Nc s H fp) elt te) (bX:xO X scope=true:=by rfl) (mh:X.calm=true:=by rfl)
  (hs:∀x,foldedSetIterable iter X.env x=pure x:=by intro _;rfl):PE X (.ListComp elt [⟨tg,iter,ifs,0⟩] scope pos) (zK wi ix g tc te):=
 let ⟨h1,h2,h3,h4⟩:=nL bX
 LX Nc ix hi mh BC h1 h2 h3 h4 hG hT hE hs
variable{pos':Pos}
theorem HA{i:Nat}{iter elt:Expr}{Hn:Pos}{wi:TI}(Nc:List Str)(ix:List (Option Nat))(hN:X.N.Nodup)(P_:X.N[i]? =some x)(hx:Loc X.env.scope x)
  (hi:PI X tg iter wi) (BC:lY X scope Nc ix)
  (hG:∀C s H fp,PG (cb X scope C Nc s H fp) tg g) (hT:∀C s H fp,PF (cb X scope C Nc s H fp) ifs tc) (hE:∀C s H fp,PE (cb X scope C Nc s H fp) elt te)
  (Va:swapsWith (.ListComp elt [⟨tg,iter,ifs,0⟩] scope pos) (some (.Name x pos')) Hn.line X.env=pure true:=by rfl) (bX:xO X scope=true:=by rfl) (mh:X.calm=true:=by rfl)
  (hs:∀x,foldedSetIterable iter X.env x=pure x:=by intro _;rfl) (hf:X.fn x=true\/X.env.scope.names.lookup x=some .local:=by first | exact .inl rfl | exact .inr rfl | assumption):
  PS X (.Assign [.Name x pos'] (.ListComp elt [⟨tg,iter,ifs,0⟩] scope pos) Hn) (G3 (zK wi ix g tc te) (vY i)):=
 let ⟨h1,h2,h3,h4⟩:=nL bX
 LY Nc ix hN P_ hx Va hi mh BC h1 h2 h3 h4 hG hT hE hs hf
section
variable{X:Cx}
inductive HB(x:V)(y:V)(H:Hp)(Q:VK):Prop
 | mk (a:_) (b:_) (_:x= .str (S a)) (_:y= .str (S b)) (_:Q (.bl (decide (a=b))) H):HB x y H Q
def YI:R2:=HB
inductive HC(x:V)(y:V)(H:Hp)(Q:VK):Prop
 | mk (a:_) (b:_) (_:x= .str (S a)) (_:y= .str (S b)) (_:Q (.bl (!decide (a=b))) H):HC x y H Q
def YJ:R2:=HC
theorem mT:iM X (compareOp .Eq) YI:=by
 walk_at"a"
 obtain ⟨a,b,rfl,rfl,q⟩:=h
 exact Oa pins s σ H _ _ v u Q I rx ry ⟨rfl,by rw[Om];exact q⟩
theorem HE:iM X (compareOp .NotEq) YJ:=by
 walk_at"a"
 obtain ⟨a,b,rfl,rfl,q⟩:=h
 exact Ob pins s σ H _ _ v u Q I rx ry ⟨rfl,by rw[Om];exact q⟩
theorem Ou{j:Int}:decide (V.int i=V.int j)=decide (i=j):=by
 by_cases h:i=j
 ·subst h;simp
 ·rw[decide_eq_false h,decide_eq_false]
  intro q
  exact h (V.int.inj q)
theorem pT:iM X (compareOp .Eq) (Lg λi j=> .bl (decide (i=j))):=by
 walk_at"a"
 obtain ⟨a,b,rfl,rfl,q⟩:=h
 exact Oa pins s σ H _ _ v u Q I rx ry ⟨rfl,by rw[Ou];exact q⟩
theorem HF:iM X (compareOp .NotEq) (Lg λi j=> .bl (!decide (i=j))):=by
 walk_at"a"
 obtain ⟨a,b,rfl,rfl,q⟩:=h
 exact Ob pins s σ H _ _ v u Q I rx ry ⟨rfl,by rw[Ou];exact q⟩
inductive HG(f:c5->c5->Bool)(x:V)(y:V)(H:Hp)(Q:VK):Prop
 | mk (a:_) (b:_) (_:x= .str (S a)) (_:y= .str (S b)) (_:Q (.bl (f a b)) H):HG f x y H Q
def YK(f:c5->c5->Bool):R2:=HG f
theorem xP:iM X (compareOp .Lt) (YK λa b=>decide (a<b)):=by
 walk_at"a"
 obtain ⟨a,b,rfl,rfl,q⟩:=h
 exact ET pins s σ H _ _ v u Q I rx ry ⟨S a,S b,rfl,rfl,by rw[cf,cf];exact q⟩
end
section
variable{X:Cx}{tg:Expr}
theorem bY(K:c6)(h:X.K=K):PM X (UT K):=by subst h;exact LP
theorem bP(K:c6)(h:X.K=K):PM X (UU K):=by subst h;exact PN
def Ov(K:c6):List V->Hp->VK->Prop:=λxs H Q=>∃p ys,xs=[.ref p]/\(bu K H p ys\/dH K H p ys)/\Q (.int (ys:)) H
theorem vA(K:c6)(h:X.K=K):eL X (.builtin "len") (Ov K):=by subst h;exact xG
theorem j7(K:c6)(h:X.K=K):EZ X "str.join" (Hv K):=by subst h;exact Hw
def Vg(K:c6):List V->Hp->VK->Prop:=λxs H Q=>∃(p:Addr) (bs:List Bool),xs=[.ref p]/\bu K H p (bs.map V.bl)/\Q (.bl (bs.all id)) H
theorem pU(K:c6)(h:X.K=K)(hc:X.calm=true):eL X (.builtin "all") (Vg K):=by subst h;exact E5 hc
def L8(K:c6):List V->Hp->VK->Prop:=λxs H Q=>∃p ys,xs=[.ref p]/\(bu K H p ys\/dH K H p ys)/\∀l,H l=none->Q (.ref l) (upd H l (.lst ys))
theorem vB(K:c6)(h:X.K=K):eL X (.type "list") (L8 K):=by subst h;exact xI
theorem nM(K:c6)(h:X.K=K):Xg X (UX K):=by subst h;exact LQ
theorem dA(K:c6)(h:X.K=K){l:Expr}(hl:PE X l tl):PI X tg l (N9 K tl):=by subst h;exact LI hl
theorem xQ(K:c6)(h:X.K=K){l:Expr}(hl:PE X l tl):PI X tg l (UC K tl):=by subst h;exact Pu hl
end
section
variable{X:Cx}{o e:Expr}{es:List Expr}{to:TE}{t:TA}{name:Str}{apos jP:Pos}{T id:String}{r:V->List V->Hp->VK->Prop}
theorem fm(K:c6)(hK:X.K=K)(pa:PlainAttrs T)(slot:Slot T name id)(PX:typeOf (.builtin id)=pure (.type "method_descriptor"))(hm:EZ X id r)(ho:PE X o to)
  (sR:attributeBase o name X.env (eval o X.env)=eval o X.env:=by rfl) (jA:(apos.endLine==jP.line)=true:=by rfl):PE X (.Call (.Attribute o name apos) [] [] jP) (UY K T r to):=by
 subst hK
 exact PV pa slot PX hm ho sR jA
theorem cw(K:c6)(hK:X.K=K)(pa:PlainAttrs T)(slot:Slot T name id)(PX:typeOf (.builtin id)=pure (.type "method_descriptor"))(hm:EZ X id r)(ho:PE X o to)(ha:PA X (e::es) t)
  (sR:attributeBase o name X.env (eval o X.env)=eval o X.env:=by rfl)
  (Hh:((backTo jP (starEach (e::es) X.env)).all (λx=>!x.1)&&(backToKw jP (keywordEach [] X.env)).all (λx=>x.1.isSome)
   &&decide (((e::es):)+(([]:List Keyword):)+(if ([]:List Keyword).isEmpty then 0 else 1)<30))=true:=by rfl)
  (jA:(apos.endLine==jP.line)=true:=by rfl) (hs:starEach (e::es) X.env=(false,eval e X.env)::starEach es X.env:=by rfl) (Bw:(backTo jP (starEach es X.env)).any (·.1)=false:=by rfl):
  PE X (.Call (.Attribute o name apos) (e::es) [] jP) (tBM K T r to t):=by
 subst hK
 exact UZ pa slot PX hm ho ha sR Hh jA hs Bw
end
mutual
inductive Dv(K:c6)(H:Hp):V->PyData->Prop
 | gk:Dv K H .gk .none
 | bl (b:Bool):Dv K H (.bl b) (.bool b)
 | int (i:Int):Dv K H (.int i) (.int i)
 | str (x:Str):Dv K H (.str x) (.str x)
 | lst {a:Addr} {xs:List V} {ds:List PyData} (h:bu K H a xs) (r:tG K H xs ds):Dv K H (.ref a) (.list ds)
 | tup {a:Addr} {xs:List V} {ds:List PyData} (h:dH K H a xs) (r:tG K H xs ds):Dv K H (.ref a) (.tuple ds)
inductive tG(K:c6)(H:Hp):List V->List PyData->Prop
 | nil:tG K H [] []
 | cons {x:V} {xs:List V} {d:PyData} {ds:List PyData} (h:Dv K H x d) (r:tG K H xs ds):tG K H (x::xs) (d::ds)
end
section
variable{X:Cx}{pins:List (Addr×Obj)}{σ:St}{H:Hp}{s:Shared}
mutual
theorem Dv.reads(I:Inv X pins σ H s):∀{x:V} {d:PyData} {u:Value},Dv X.K H x d->RelV x u->∃as,Reads s.heap u d as
 | _,_,u,.gk,r=>by cases (show u=Value.none from r);exact ⟨_,.none⟩
 | _,_,u,.bl b,r=>by cases (show u=Value.bool b from r);exact ⟨_,.bool b⟩
 | _,_,u,.int i,r=>by obtain ⟨t,rfl⟩:=r;exact ⟨_,.int i t⟩
 | _,_,u,.str x,r=>by obtain ⟨t,rfl⟩:=r;exact ⟨_,.str x t⟩
 | _,_,u,.lst (a:=a) h q,r=>by
  cases (show u=Value.ref a from r)
  obtain ⟨aN,rv,pl,_⟩:=I.list h
  obtain ⟨as,ra⟩:=tG.reads I q rv
  obtain ⟨o,ho,hc,n,hd⟩:=pl.isList
  exact ⟨_,.list ho hc hd (by simpa using ra)⟩
 | _,_,u,.tup (a:=a) h q,r=>by
  cases (show u=Value.ref a from r)
  obtain ⟨aN,rv,pl,_⟩:=I.tuple h
  obtain ⟨as,ra⟩:=tG.reads I q rv
  obtain ⟨o,ho,hc,n,hd⟩:=pl
  exact ⟨_,.tuple ho hc hd (by simpa using ra)⟩
theorem tG.reads(I:Inv X pins σ H s):∀{xs:List V} {ds:List PyData} {us:List Value},tG X.K H xs ds->Vals xs us->∃as,ReadsAll s.heap us ds as
 | _,_,us,.nil,r=>by cases r;exact ⟨_,.nil⟩
 | _,_,us,.cons h q,r=>by
  cases r with
  | cons r1 r2=>
   obtain ⟨as,ra⟩:=Dv.reads I h r1
   obtain ⟨bs,rb⟩:=tG.reads I q r2
   exact ⟨_,.cons ra rb⟩
end
end
section
variable{X:Cx}
inductive HH(K:c6)(x:V)(y:V)(H:Hp)(Q:VK):Prop
 | mk (dx:_) (dy:_) (_:Dv K H x dx) (_:Dv K H y dy) (_:(dx.canLay0=true/\dy.canLay0=true)) (_:dx.depth<=60) (_:Q (.bl (PyData.eqv dx dy)) H):HH K x y H Q
def YL(K:c6):R2:=HH K
inductive HI(K:c6)(x:V)(y:V)(H:Hp)(Q:VK):Prop
 | mk (dx:_) (dy:_) (_:Dv K H x dx) (_:Dv K H y dy) (_:(dx.canLay0=true/\dy.canLay0=true)) (_:dx.depth<=60) (_:Q (.bl (!PyData.eqv dx dy)) H):HI K x y H Q
def YM(K:c6):R2:=HI K
theorem Qe{k:Nat}(K:c6)(h:X.K=K)(hr:c_ k X.A):iM X (compareOp .Eq) (YL K):=by
 subst h
 walk_at"a"
 obtain ⟨dx,dy,h1,h2,⟨h3,h4⟩,h5,q⟩:=h
 obtain ⟨as,ra⟩:=h1.reads I rx
 obtain ⟨bs,rb⟩:=h2.reads I ry
 have hu:=hr.units
 exact SeqAt.compareEq_reads ra rb h3 h4 () ⟨.bl _,H,I,rfl,q⟩
theorem BK{k:Nat}(K:c6)(h:X.K=K)(hr:c_ k X.A):iM X (compareOp .NotEq) (YM K):=by
 subst h
 walk_at"a"
 obtain ⟨dx,dy,h1,h2,⟨h3,h4⟩,h5,q⟩:=h
 obtain ⟨as,ra⟩:=h1.reads I rx
 obtain ⟨bs,rb⟩:=h2.reads I ry
 have hu:=hr.units
 exact SeqAt.compareNe_reads ra rb h3 h4 () ⟨.bl _,H,I,rfl,q⟩
def Vh(K:c6)(ta:TE):TT:=λσ H Q=>ta σ H λx H'=>∃p xs,x= .ref p/\bu K H' p xs/\Q (!xs.isEmpty) H'
theorem L9{ta:TE}(K:c6)(h:X.K=K)(ha:PE X a ta)(he:∀whole,isTrue a X.env whole=(do let v <-whole;standAt a.pos;holding [v] (truthy v)):=by intro _;rfl):PT X a (Vh K ta):=by
 subst h
 intro pins s σ H Q I hw
 refine isTrue_plain (cE (ha pins s σ H _ I hw) λv s1 ⟨x,H1,I1,r1,q1⟩=>?_) (he _)
 obtain ⟨p,xs,rfl,hq,q⟩:=q1
 exact Pz pins s1 σ H1 _ v Q I1 r1 ⟨_,.inl ⟨xs,hq,rfl⟩,q⟩
theorem ji(K:c6)(h:X.K=K){es:List Expr}{k:Nat}{t:N7}(hc:X.calm=true)(hs:Uy X es t)
  (hn:(assignEach es X.env:)=n:=by rfl) (qJ:(assignEach es X.env).findIdx? (·.1)=none:=by rfl):PG X (.Tuple es k pos) (UB K n t):=by
 subst h
 exact Pp hc hs hn qJ
theorem L_:Sa X .Add (λx y H Q=>Hq x y H Q):=by
 walk_at"a"
 exact Hr pins s σ H x y v u Q I rx ry h
end
noncomputable def bI(a b:c5):c5:=if b<a then b else a
noncomputable def cB:c5->List c5->c5
 | a,[]=>a
 | a,b::r=>cB (bI a b) r
noncomputable def wz(ls:List c5)(i j:Nat):Bool:=decide ((ls|||i)<(ls|||j))
theorem argBest_lt(bt:Nat->Nat->Bool):∀n,argBest bt n<=n
 | 0=>Qaa _
 | n+1=>by
  unfold argBest
  split
  ·exact Qaa _
  ·exact Qev (argBest_lt bt n)
variable{prog:Program}{A:Around}{ls:List c5}
section
variable{X:Cx}
theorem E6{w:World}{aN:List Value}(r:Vals (ls.map λl=>V.str (S l)) aN):CmpOf prog w A .Lt (λi v=>aN.toArray[i]? =some v) (wz ls):=by
 intro i j vi vj s Q E hi hj hQ
 have get:∀{i:Nat} {v:Value},aN.toArray[i]? =some v->∃t,v= .str (S (ls|||i)) t:=by
  intro i v h
  have h':aN[i]? =some v:=by simpa using h
  have hl:i<(ls:):=by have:=(P5.mp h').1;rw[<-(r:),Xi]at this;exact this
  obtain ⟨u,hu,ru⟩:=r.get (i:=i) (x:=V.str (S (ls|||i))) (by rw[Qau,Qak,P4 hl];rfl)
  rw[h']at hu;cases hu
  exact ru
 obtain ⟨t,rfl⟩:=get hi
 obtain ⟨u,rfl⟩:=get hj
 have q:Q (.bool (decide ((S (ls|||i)).cps.toList<(S (ls|||j)).cps.toList))) s:=by rw[cf,cf];exact hQ
 exact lt_str q
def Qf:List V->Hp->VK->Prop:=λxs H Q=>∃(a b:c5),xs=[.str (S a),.str (S b)]/\Q (.str (S (bI a b))) H
theorem BL(hc:X.calm=true):eL X (.builtin "min") Qf:=by
 walk_at"h"
 obtain ⟨a,b,rfl,q⟩:=h
 obtain ⟨u,w',rfl,⟨t,rfl⟩,⟨t',rfl⟩⟩:=vals2 r
 have rv:Vals ([a,b].map λl=>V.str (S l)) [Value.str (S a) t,Value.str (S b) t']:= .cons ⟨t,rfl⟩ (.cons ⟨t',rfl⟩ .nil)
 have hT:(s.heap.push { cls:= .type "tuple",data:= .seq #[.str (S a) t,.str (S b) t'] }).IsTuple s.heap.objs.size #[.str (S a) t,.str (S b) t']:=⟨_,Qaq _ rfl,rfl,0,rfl⟩
 refine call_min_two (wpAny_pyIter_tuple hT ?_)
 have hsz:(s.heap.push { cls:= .type "tuple",data:= .seq #[.str (S a) t,.str (S b) t'] }).objs.size=s.heap.objs.size+1:=Qdg ..
 refine ⟨_,_,_,_,_,_,wz [a,b],rfl,Walks.tuple (A:=X.A.in1) (I.ok.hd hc) _ s.heap.objs.size (by rw[hsz];exact Qa0 (Qcu _)) #[.str (S a) t,.str (S b) t'],
  ⟨⟨_,Qaq _ rfl,rfl,rfl⟩,hT.push _⟩,λc hc=>?_,(by show 0<2;decide),E6 rv,λv h' tk hP hk=>?_⟩
 ·show c<((s.heap.push _).push _).objs.size
  rw[Qdg,hsz]
  rcases Qab.mp hc with rfl | hc
  ·rw[hsz];exact Qcu _
  ·rcases Qab.mp hc with rfl | hc
   ·exact Qc9 (Qcu _)
   ·cases hc
 ·have I1:Inv X pins σ H { s with heap:=h',toks:=tk }:=by
   refine I.kept (t':=tk) λc o e=>hk c o (λhm=>?_) (Qac _ (Qac _ e))
   have:c=(s.heap.push { cls:= .type "tuple",data:= .seq #[.str (S a) t,.str (S b) t'] }).objs.size:=by simpa using hm
   have hl:=Qay e
   rw[this,hsz]at hl
   exact absurd hl (Nat.not_lt.mpr (Qcx _))
  have e:argBest (wz [a,b]) (#[Value.str (S a) t,Value.str (S b) t'].size - 1)=if b<a then 1 else 0:=by
   show (if wz [a,b] 1 0=true then 1 else 0)=_
   by_cases z:b<a
   ·rw[if_pos z,if_pos (show wz [a,b] 1 0=true from decide_eq_true z)]
   ·rw[if_neg z,if_neg (show ¬wz [a,b] 1 0=true from λy=>z (of_decide_eq_true y))]
  rw[e]at hP
  refine ⟨.str (S (bI a b)),H,I1,?_,q⟩
  unfold bI
  by_cases z:b<a
  ·rw[if_pos z]at hP ⊢
   have:v= .str (S b) t':=by simpa using hP.symm
   exact ⟨_,this⟩
  ·rw[if_neg z]at hP ⊢
   have:v= .str (S a) t:=by simpa using hP.symm
   exact ⟨_,this⟩
theorem rP(K:c6)(h:X.K=K):iM X (compareOp .NotIn) (rIn K true):=by subst h;exact xE
end
noncomputable def fo(n:Nat)(l:c5):c5:=(List.replicate n l).flatten
theorem fM(n:Nat)(l:c5):fo (n+1) l=l++fo n l:=by unfold fo;rw[List.replicate_succ,Qc3]
theorem BM(n:Nat)(l:c5):fo (n+1) l=fo n l++l:=by unfold fo;rw[List.replicate_succ',List.flatten_append,Qc3,List.flatten_nil,Qa9]
theorem zP(n:Nat)(l:c5):(fo n l:)=n*(l:):=by
 induction n with
 | zero=>simp[fo]
 | succ n ih=>rw[fM,kb,ih,Qf1,Nat.add_comm]
theorem wA(l:c5):∀(n:Nat) (acc:Array Nat),((List.replicate n (S l).cps).foldl (· ++ ·) acc).toList=acc.toList++fo n l
 | 0,acc=>by simp[fo]
 | n+1,acc=>by
  rw[List.replicate_succ,Qc4,wA l n,fM]
  simp[S]
def Vi:R2:=λx y H Q=>∃(l:c5) (i:Int),x= .str (S l)/\y= .int i/\(0<=i/\i<=1000000)/\(l:)*i.toNat<=sizeLine/\Q (.str (S (fo i.toNat l))) H
theorem xR:iM X (binaryOp .Mult) Vi:=by
 walk_at"a"
 obtain ⟨l,i,rfl,rfl,⟨h0,h1⟩,hz,q⟩:=h
 walk_at"f"
 walk_at"x"
 have hn:=gL
 have Ow:(S l:)=(l:):=dJ l
 have YN:((l:):Int)*i<=2 ^ 63 - 1:=by
  have e:(((l:)*i.toNat:Nat):Int)=((l:):Int)*i:=by rw[Int.natCast_mul,Int.toNat_of_nonneg h0]
  have:(((l:)*i.toNat:Nat):Int)<=(sizeLine:Int):=by exact_mod_cast hz
  rw[<-e];lia
 refine P.mul_str (x:=S l) (n:=i) (t:=t) (u:=t') (by
  have e1:decide (i< -(2 ^ 63:Int))=false:=decide_eq_false ()
  have e2:decide (i ≥ 2 ^ 63)=false:=decide_eq_false ()
  rw[e1,e2];rfl) (λz _=>?_) (λz _=>?_) ?_
 ·rw[Ow]
  have:((l:):Int)<=(2 ^ 63 - 1) / i:=(Int.le_ediv_iff_mul_le ()).mpr YN
  lia
 ·rw[Ow]
  show Builtin.Str.tooLong _=false
  unfold Builtin.Str.tooLong
  exact decide_eq_false ()
 ·by_cases z:i<1
  ·rw[if_pos z]
   have e:i.toNat=0:=by lia
   rw[e]at q
   exact ⟨∅,.str _,H,I.tok _,⟨_,rfl⟩,q⟩
  ·rw[if_neg z]
   by_cases z2:(i==1||(S l:)==0)=true
   ·rw[if_pos z2]
    have e:fo i.toNat l=l:=by
     rcases Bool.or_eq_true _ _ |>.mp z2 with e | e
     ·have e:i=1:=by simpa using e
      subst e
      show fo 1 l=l
      rw[fM];simp[fo]
     ·have e:(l:)=0:=by rw[Ow]at e;simpa using e
      have e:l=[]:=Qcl.mp e
      subst e
      unfold fo
      simp
    rw[e]at q
    exact ⟨.str _,H,I,⟨_,rfl⟩,q⟩
   ·rw[if_neg z2]
    have e:(⟨(List.replicate i.toNat (S l).cps).foldl (· ++ ·) #[]⟩:Str)=S (fo i.toNat l):=by
     have:=wA l i.toNat #[]
     show _=(⟨(fo i.toNat l).toArray⟩:Str)
     congr 1
     apply Qdr.mp
     rw[this]
     simp
    rw[e]
    refine ⟨?_,.str _,H,I.tok _,⟨_,rfl⟩,q⟩
    rw[dJ,zP,Qc8]
    exact hz
section
variable{X:Cx}
theorem Qg:iM X (compareOp .Is) (λx y H Q=>∃c d,x= .bl c/\y= .bl d/\Q (.bl (c==d)) H):=by
 walk_at"a"
 obtain ⟨c,d,rfl,rfl,q⟩:=h
 cases rx
 cases ry
 exact is_bool ⟨.bl _,H,I,rfl,q⟩
theorem Ma:iM X (compareOp .IsNot) (λx y H Q=>∃c d,x= .bl c/\y= .bl d/\Q (.bl (c != d)) H):=by
 walk_at"a"
 obtain ⟨c,d,rfl,rfl,q⟩:=h
 cases rx
 cases ry
 exact isnot_bool ⟨.bl _,H,I,rfl,q⟩
end
variable{ch:List Addr}
section
variable{X:Cx}{pins:List (Addr×Obj)}{σ:St}{H:Hp}{s:Shared}{h':Heap}
theorem Inv.tH{t':Nat}{T:Addr}{ob:HO}(I:Inv X pins σ H s)(k:∀b o,b∉ch->s.heap.get? b=some o->h'.get? b=some o)(hf:∀b∈ch,q5 X pins H b)
  (hT:s.heap.objs.size<=T) (new:cP X.prog X.w (upd H T ob) h' T ob):Inv X pins σ (upd H T ob) { s with heap:=h',toks:=t' }:=by
 have hn:=I.bX.fresh hT
 have N5:∀b u,H b=some u->b∉ch:=λb u e z=>by rw[(hf b z).1]at e;cases e
 have neT:∀b o,s.heap.get? b=some o->b≠T:=λb o e z=>absurd (Qa3 (Qay e) hT) (by rw[z];exact Qbx _)
 refine I.step (g':=s.gens) (d':=s.drawn) (ch:=ch) (λb hb=>?_) (λb o _ _ hc e _=>k b o hc e) (λb o _ _ hc e _=>⟨o.slots,k b o hc e⟩) (λb o _ e n=>by rw[aq (neT b o e)];exact n)
  (λb o hc e=>⟨o,k b o hc e⟩) (λb xs e=>by rw[aq (az e hn)];exact e) (λb o u e=>by rw[aq (az e hn)];exact e) (λb ps e=>⟨#[],by rw[aq (az e hn),e];simp⟩) (λm hm=>?_) (λb u e=>?_) I.bare
 ·obtain ⟨_,h2,_,h4,h5,h6⟩:=hf b hb
  exact ⟨h4,h2,h5,h6⟩
 ·obtain ⟨o,es,ep,ho,r⟩:=hm
  exact ⟨o,es,ep,k _ o (λz=>(hf _ z).2.1 rfl) ho,r⟩
 ·by_cases hb:b=T
  ·subst hb;rw[aa]at e;cases e;exact new
  ·rw[aq hb]at e
   refine (I.bX b u e).pA (λc v hc q=>k c v ?_ q) (λc q=>by rw[aq (az q hn)];exact q) λc xs q=>by rw[aq (az q hn)];exact q
   rcases hc with z | z
   ·rw[z];exact N5 b u e
   ·exact N5 c _ z
theorem Inv.xS{t':Nat}(I:Inv X pins σ H s)(k:∀b o,b∉ch->s.heap.get? b=some o->h'.get? b=some o)(hf:∀b∈ch,q5 X pins H b):Inv X pins σ H { s with heap:=h',toks:=t' }:=by
 have N5:∀b u,H b=some u->b∉ch:=λb u e z=>by rw[(hf b z).1]at e;cases e
 refine I.step (g':=s.gens) (d':=s.drawn) (ch:=ch) (λb hb=>?_) (λb o _ _ hc e _=>k b o hc e) (λb o _ _ hc e _=>⟨o.slots,k b o hc e⟩) (λb o _ e n=>n)
  (λb o hc e=>⟨o,k b o hc e⟩) (λb xs e=>e) (λb o u e=>e) (λb ps e=>⟨#[],by rw[e];simp⟩) (λm hm=>?_) (λb u e=>?_) I.bare
 ·obtain ⟨_,h2,_,h4,h5,h6⟩:=hf b hb
  exact ⟨h4,h2,h5,h6⟩
 ·obtain ⟨o,es,ep,ho,r⟩:=hm
  exact ⟨o,es,ep,k _ o (λz=>(hf _ z).2.1 rfl) ho,r⟩
 ·refine (I.bX b u e).pA (λc v hc q=>k c v ?_ q) (λc q=>q) λc xs q=>q
  rcases hc with z | z
  ·rw[z];exact N5 b u e
  ·exact N5 c _ z
end
noncomputable def Vj(l:c5):It:=⟨λi _=>i<(l:),λi H x H'=>∃T c,l[i]? =some c/\x= .ref T/\H T=none/\H'=upd H T (.tup [.int i,.str (S [c])]),λi _=>(l:)<=i⟩
theorem wB{w:World}(hh:A.handled=none)(it:Addr)(x:Str)(t:Tok):
  Draws prog w A it [it] x.cps.size (λi v=>∃c u,x.cps[i]? =some c/\v= .str ⟨#[c]⟩ u) (λi h=>h.IsStrIter it (strIterType x) x t i):=by
 by_cases ha:x.cps.all (· <128)=true
 ·have et:strIterType x="str_ascii_iterator":=by unfold strIterType;rw[if_pos ha]
  rw[et];exact Draws.strAscii hh it x t
 ·have et:strIterType x="str_iterator":=by unfold strIterType;rw[if_neg ha]
  rw[et];exact Draws.strWide hh it x t
variable{elts:List Expr}
theorem BN{P:Program}{w:World}{k:Nat}(e it:Addr)(Dw:e≠it)(l:c5)(t:Tok):
  Turn P w K (.Tuple elts k pos) (Vj l) [e,it] e (λi h=>i<=(l:)/\(∃old,IsEnum h e it i old)/\h.IsStrIter it (strIterType (S l)) (S l) t i) where
 mem:=by simp
 obj:=λi h st b hb=>by
  obtain ⟨_,⟨old,he⟩,o,ho,hc,hd⟩:=st
  rcases Qab.mp hb with z | z
  ·rw[z];exact ⟨_,he,λv z=>by cases z⟩
  ·rw[U0.mp z];exact ⟨o,ho,λv z=>by rw[hd]at z;cases z⟩
 keep:=λi h h' st kp=>by
  obtain ⟨h1,⟨old,he⟩,o,ho,r⟩:=st
  exact ⟨h1,⟨old,kp e (by simp) _ he⟩,o,kp it (by simp) o ho,r⟩
 item:=by
  walk_at"b"
  subst hP hw hK
  obtain ⟨_,fU,mQ⟩:=st
  have D:=wB (prog:=X.prog) (w:=X.w) (A:=X.A.in1) (I.ok.hd hc) it (S l) t
  have W:=WalksT.enumerateD D e Dw (by simpa using Dw) (by simp)
  have hi:i<(S l).cps.size:=by rw[pR];exact hg
  refine W.item i s _ _ hi ⟨fU,mQ⟩ λT vals h' tk Mb hT HJ zQ hk=>⟨_,rfl,?_⟩
  walk_at"z"
  obtain ⟨tt,x,⟨c,u,Ox,rfl⟩,rfl⟩:=Mb
  have Oy:T∉[e,it]:=W.apart i T h' zQ
  have zS:h2.IsTuple T #[.int i tt,.str ⟨#[c]⟩ u]:=by
   obtain ⟨o,ho,r⟩:=HJ
   exact ⟨o,Dy T o Oy ho,r⟩
  have hl:l[i]? =some c:=by simpa [S]using Ox
  refine ⟨.ref T,upd H T (.tup [.int i,.str (S [c])]),?_,rfl,⟨T,c,hl,rfl,I.bX.fresh hT,rfl⟩,⟨hg,zR.1,zR.2⟩,λb hb=>?_⟩
  ·refine I.tH (t':=tk) (h':=h2) (λb o hb y=>Dy b o hb (hk b o hb y)) hf hT ?_
   exact ⟨by show 2<=sizeLine;decide,[.int i tt,.str ⟨#[c]⟩ u],.cons ⟨tt,rfl⟩ (.cons ⟨u,rfl⟩ .nil),zS⟩
  ·rw[aq (λz:b=T=>Oy (z▸hb))];exact (hf b hb).1
 done:=by
  walk_at"b"
  subst hP hw hK
  obtain ⟨h1,fU,mQ⟩:=st
  have e1:i=(l:):=Qej h1 hg
  have D:=wB (prog:=X.prog) (w:=X.w) (A:=X.A.in1) (I.ok.hd hc) it (S l) t
  have W:=WalksT.enumerateD D e Dw (by simpa using Dw) (by simp)
  walk_at"L"
  rw[pR, <-e1]
  exact ⟨fU,mQ⟩
 self:=λ_ _ s _ _ st h=>by
  obtain ⟨_,⟨old,he⟩,_⟩:=st
  exact wpAny_pyIter_enum he h
def Qh(ta:TA):TI:=λσ H R=>ta σ H λvs H1=>∃l,vs=[.str (S l)]/\R (Vj l) H1
theorem HL{k:Nat}(hg:Gl X "enumerate")(hm:X.mg "enumerate"=none)(ha:PA X [a] ta)(hs:starEach [a] X.env=[(false,eval a X.env)]:=by rfl):PI X (.Tuple elts k pos') (.Call (.Name "enumerate" p) [a] [] pos) (Qh ta):=by
 walk_at"T"
 walk_at"m"
 obtain ⟨l,rfl,q⟩:=q1
 obtain ⟨u,rfl,t,rfl⟩:=vals1 r1
 refine call_enumerate_str λh' he hit hsz hk=>?_
 refine wpAny_pyIter_enum he ?_
 refine ⟨s1.heap.objs.size+1,[s1.heap.objs.size+1,s1.heap.objs.size],_,_,H1,rfl,I1.kept (t':=s1.toks) hk,BN _ _ (Qe9 _) l t,⟨Qat _,⟨_,he⟩,hit⟩,λb hb=>?_,q⟩
 have vC:s1.heap.objs.size<=b:=by
  rcases Qab.mp hb with z | z
  ·rw[z];exact Qcx _
  ·rw[U0.mp z];exact Qaa _
 exact I1.sM vC (I1.bX.fresh vC)
theorem HM(Pv:Nat->St->Hp->Prop)(h0:Pv 0 σ H)
  (hs:∀i c σ H T,l[i]? =some c->Pv i σ H->H T=none->g (.ref T) σ (upd H T (.tup [.int i,.str (S [c])])) λσ2 H2=>tb { D with nx:=Pv (i+1),ct:=Pv (i+1),bk:=D.nx } σ2 H2) (hd:∀σ H,Pv (l:) σ H->D.nx σ H):
  ∃W:Nat->Nat->St->Hp->Prop,(∃m,W 0 m σ H)/\∀i m σ H,W i m σ H->
   ((Vj l).stop i H/\D.nx σ H)\/((Vj l).go i H/\∃N:St->Hp->Prop,(∀σ' H',N σ' H'->∃m',m'<m/\W (i+1) m' σ' H')/\∀x H',(Vj l).G4 i H x H'->g x σ H' λσ2 H2=>tb { D with nx:=N,ct:=N,bk:=D.nx } σ2 H2):=by
 refine ⟨λi m σ H=>m=(l:) - i/\i<=(l:)/\Pv i σ H,⟨(l:),by simp,Qat _,h0⟩,?_⟩
 rintro i m σ H ⟨rfl,hi,p⟩
 by_cases dZ:i<(l:)
 ·refine .inr ⟨dZ,Pv (i+1),λσ' H' p'=>⟨(l:) - (i+1),(),rfl,dZ,p'⟩,λx H' y=>?_⟩
  obtain ⟨T,c,hc,rfl,hn,rfl⟩:=y
  exact hs i c σ _ T hc p hn
 ·have e:i=(l:):=by lia
  subst e
  exact .inl ⟨Qaa _,hd σ H p⟩
section
variable{X:Cx}
theorem Mc:∀{aN:List Value},Vals (ls.map λl=>V.str (S l)) aN->StrsAre aN (ls.map S):=by
 induction ls with
 | nil=>intro aN r;cases r;exact .nil
 | cons l ls ih=>
  intro aN r
  cases r with
  | cons r1 r2=>
   walk_at"Q"
   exact .cons _ t (ih r2)
theorem Dz:∀{aN:List Value} {ss:List Str},StrsAre aN ss->Vals ((ss.map λx=>x.cps.toList).map λl=>V.str (S l)) aN
 | _,_,.nil=> .nil
 | _,_,.cons x t h=> .cons ⟨t,by rw[<-Vb]⟩ (Dz h)
theorem wC:∀(p:Str) (r:List Str),risingS p r=true->(p::r).Pairwise λa b=> ¬b.cps.toList<a.cps.toList
 | p,[],_=>Qbt _ _
 | p,x::r,h=>by
  have h':(!ltCps x.cps.toList p.cps.toList&&risingS x r)=true:=h
  rw[Qb9,ltCps_eq]at h'
  have h1: ¬x.cps.toList<p.cps.toList:=by simpa using h'.1
  have ih:=wC x r h'.2
  refine Qbw.mpr ⟨λy hy=>?_,ih⟩
  rcases Qab.mp hy with z | z
  ·rw[z];exact h1
  ·exact List.le_trans (show p.cps.toList<=x.cps.toList from h1) (show x.cps.toList<=y.cps.toList from Qeu ih z)
theorem E7{ss:List Str}(h:sortedS ss=true):(ss.map λx=>x.cps.toList).Pairwise λa b=> ¬b<a:=by
 rw[Qb1]
 cases ss with
 | nil=>exact List.Pairwise.nil
 | cons x r=>exact wC x r h
def Qi(K:c6):List V->Hp->VK->Prop:=λxs H Q=>∃(p:Addr) (ls:List c5),xs=[.ref p]/\bu K H p (ls.map λl=>V.str (S l))/\(ls:)<64/\∀(q:Addr) (YO:List c5),H q=none->YO.Perm ls->(YO.Pairwise λa b=> ¬b<a)->Q (.ref q) (upd H q (.lst (YO.map λl=>V.str (S l))))
theorem nQ(K:c6)(h:X.K=K):eL X (.builtin "sorted") (Qi K):=by
 subst h
 walk_at"h"
 obtain ⟨p,ls,rfl,hq,hn,q⟩:=h
 obtain ⟨u,rfl,ru⟩:=vals1 r
 cases ru
 obtain ⟨aN,rv,pl,hz⟩:=I.list hq
 have hlen:(aN:)=(ls:):=by rw[<-(rv:),Xi]
 refine sorted_strs (l:=p) (vs:=aN) (ss:=ls.map S) pl.isList (Mc rv) () λout GI h1 h2 h3=>?_
 obtain ⟨e,he⟩:=sortedAll_at s.heap aN out
 have iN:(GI.map λx=>x.cps.toList).Perm ls:=by
  have:=h2.map λx:Str=>x.cps.toList
  rw[Qcd]at this
  have e2:ls.map ((λx:Str=>x.cps.toList) ∘ S)=ls:=by
   have:∀l∈ls,((λx:Str=>x.cps.toList) ∘ S) l=l:=λl _=>cf l
   calc ls.map _=ls.map id:=Qdt this
    _=ls:=Qez ls
  rwa [e2]at this
 have Oi:=iN.length_eq
 have YQ:(64:Nat)<sizeLine:=by decide
 have Vk:(((GI.map λx=>x.cps.toList).map λl=>V.str (S l)):)<=sizeLine:=by rw[Xi,Oi];lia
 refine ⟨.ref (s.heap.objs.size+1),_,I.laid (t':=s.toks) (a:=s.heap.objs.size+1) (o:= .lst ((GI.map λx=>x.cps.toList).map λl=>V.str (S l))) (λb o e=>sortedAll_old e) (Qcx _) ⟨Vk,out.toList,e,Dz h1,by simpa [seqObj]using he⟩,rfl,q _ _ (I.bX.fresh (Qcx _)) iN (E7 h3)⟩
theorem Md(h:ls.Perm (l.map λc=>[c])):∃l':c5,ls=l'.map (λc=>[c])/\l'.Perm l:=by
 refine ⟨ls.flatten,?_,?_⟩
 ·have hs:∀x∈ls,∃c,x=[c]:=λx hx=>by
   obtain ⟨c,_,e⟩:=Qar.mp (h.mem_iff.mp hx)
   exact ⟨c,e.symm⟩
  clear h
  induction ls with
  | nil=>rfl
  | cons x ls ih=>
   obtain ⟨c,rfl⟩:=hs x Xh
   rw[Qc3,Qao, <-ih λy hy=>hs y (Sd _ hy)]
   rfl
 ·have:=h.flatten
  have e:(l.map λc=>[c]).flatten=l:=by
   clear h this
   induction l with
   | nil=>rfl
   | cons c l ih=>rw[Qa2,Qc3,ih];rfl
  rwa [e]at this
theorem Me(h:(l.map λc=>[c]).Pairwise λa b=> ¬b<a):l.Pairwise λa b=>a<=b:=by
 rw[Qb1]at h
 refine h.imp λ{a b} z=>?_
 by_cases y:a<=b
 ·exact y
 ·exact absurd (Qed.mpr (.inl ())) z
end
variable{tp:Addr}{j:Nat}
section
variable{prog:Program}{w:World}{A:Around}{E:Value->Shared->Prop}{s:Shared}
theorem BO{xs:Array Value}{y:Value}(hi:s.heap.IsTupleIter it tp j)(ht:s.heap.IsTuple tp xs)(hy:xs[j]? =some y)
  (q:∀h2,h2.IsTupleIter it tp (j+1)->Heap.SameBut it s.heap h2->Q y { s with heap:=h2 }):wpAny (model prog w) A (Builtin.SmallTypes.nextOf (.ref it)) Q E s:=by
 obtain ⟨oi,eo,ec,ed⟩:=id hi
 obtain ⟨ot,et,_,nt,dt⟩:=ht
 unfold Builtin.SmallTypes.nextOf
 walk_at"l"
 refine wpAny_bind (m:=field (.ref it) 0) (wpAny_field eo ed (x:= .ref tp) rfl ?_)
 show wpAny (model prog w) _ (if (Value.ref tp==Value.none)=true then _ else _) _ E s
 rw[if_neg (show ¬(Value.ref tp==Value.none)=true from Qax)]
 refine wpAny_bind (m:=field (.ref it) 1) (wpAny_field eo ed (x:= .int j 0) rfl ?_)
 refine wpAny_bind (m:=seqItems? (.ref tp)) (wpAny_seqItems et dt ?_)
 simp only[Qap,hy]
 refine wpAny_bind (wpAny_setField eo ed (by simp) (wpAny_pure ⟨y,rfl,wpAny_pure (q _ ⟨_,Qcs _ eo (Obj.isFreed_of_fields (Obj.data_mapFields ed _)),(Obj.cls_mapFields ..).trans ec,by rw[Obj.data_mapFields ed];simp[rawInt]⟩ (Qge ..))⟩))
theorem E8{xs:Array Value}(hh:A.handled=none)(hi:s.heap.IsTupleIter it tp j)(ht:s.heap.IsTuple tp xs)(hy:xs[j]? =none)
  (q:∀h2 e,Heap.ExtBut it s.heap h2->(∃o,h2.get? e=some o/\o.cls= .type "StopIteration")->E (.ref e) { s with heap:=h2 }):wpAny (model prog w) A (Builtin.SmallTypes.nextOf (.ref it)) Q E s:=by
 obtain ⟨oi,eo,ec,ed⟩:=id hi
 obtain ⟨ot,et,_,nt,dt⟩:=ht
 unfold Builtin.SmallTypes.nextOf
 walk_at"l"
 refine wpAny_bind (m:=field (.ref it) 0) (wpAny_field eo ed (x:= .ref tp) rfl ?_)
 show wpAny (model prog w) _ (if (Value.ref tp==Value.none)=true then _ else _) _ E s
 rw[if_neg (show ¬(Value.ref tp==Value.none)=true from Qax)]
 refine wpAny_bind (m:=field (.ref it) 1) (wpAny_field eo ed (x:= .int j 0) rfl ?_)
 refine wpAny_bind (m:=seqItems? (.ref tp)) (wpAny_seqItems et dt ?_)
 simp only[Qap,hy]
 refine wpAny_bind (wpAny_rule (wpAny_bind (wpAny_setField eo ed (by simp) ?_)))
 refine wpAny_bind (m:=newExc (.type "StopIteration") []) ?_
 simp only[newExc,newTuple]
 refine wpAny_bind (wpAny_newObj_type (wpAny_bind (m:=firstArgMember _ _) (wpAny_of_eq (a:=Value.none) (by first | rfl | (simp only[firstArgMember];rfl)) (wpAny_newObj_type ?_ (by size_fits)))) (by size_fits))
 simp only[raiseNew]
 refine wpAny_bind (wpAny_handled ?_);first | rw[show A.in1.handled=none from hh] | rw[hh]
 exact wpAny_bind (wpAny_pure (wpAny_throw (q _ _ (((Qge ..).extBut.push _).push _) ⟨_,Qaq _ rfl,rfl⟩)))
theorem qM(hh:A.handled=none)(it tp:Addr)(ne:tp≠it)(xs:Array Value):
  Draws prog w A it [it,tp] xs.size (λi v=>xs[i]? =some v) (λi h=>h.IsTupleIter it tp i/\h.IsTuple tp xs) where
 live:=λ_ _ z=>let ⟨o,e,_⟩:=z.1;⟨o,e⟩
 frame:=λ_ _ _ z k=>by
  obtain ⟨⟨o,e,r⟩,o2,e2,r2⟩:=z
  exact ⟨⟨o,k it (by simp) o e,r⟩,o2,k tp (by simp) o2 e2,r2⟩
 item:=λi s Q E hi z q=>BO z.1 z.2 (y:=xs[i]) (by simp[hi]) λh2 z2 sb=>q _ h2 s.toks (by simp[hi]) ⟨z2,z.2.extBut sb.extBut ne⟩ sb
 done:=λs Q E z q=>E8 hh z.1 z.2 (by simp) q
theorem zT(l:Addr)(items:Array Value)(n:Nat)(Oz:Option Addr)(sl:Array (Option Value)):
  Meets (Builtin.«enumerate.__new__» ⟨[.type "enumerate",.ref l],[]⟩) (λ_ R s=>s.heap.get? l=some { cls:= .type "tuple",dict:=Oz,data:= .seq items n,slots:=sl }/\
   R (.ok (.ret (.ref (s.heap.push { cls:= .type "tuple_iterator",data:= .fields #[.ref l,.int 0 0] }).objs.size)))
    { s with heap:=(s.heap.push { cls:= .type "tuple_iterator",data:= .fields #[.ref l,.int 0 0] }).push { cls:= .type "enumerate",data:= .fields #[.none,.bool false,.ref s.heap.objs.size,rawInt 0,.none,.none] } }):=
 .of_wp λprog w A R s h=>by
  obtain ⟨hp,g,d,tk,os⟩:=s;obtain ⟨hl,q⟩:=h;have Vl:=sub_enumerate
  have hT:Heap.IsTuple (Shared.heap ⟨hp,g,d,tk,os⟩) l items:=⟨_,hl,rfl,n,rfl⟩
  wp_walk using AutoSeq1.wpAny_loadPart' hl
  refine wpAny_stack_any λst=>wpAny_pure ?_
  split
  ·rename_i c _ _ _ _ _
   cases (c==Value.type "enumerate")<;>(wp_walk using AutoSeq1.wpAny_loadPart' hl,wpAny_pyIter_tuple hT;exact ⟨_,rfl,q⟩)
  ·wp_walk using AutoSeq1.wpAny_loadPart' hl,wpAny_pyIter_tuple hT
   exact ⟨_,rfl,q⟩
theorem BP{l:Addr}{items:Array Value}(hL:s.heap.IsTuple l items)
  (h:∀h',IsEnum h' (s.heap.objs.size+1) s.heap.objs.size 0 .none->h'.IsTupleIter s.heap.objs.size l 0->(∀b o,s.heap.get? b=some o->h'.get? b=some o)->Q (.ref (s.heap.objs.size+1)) { s with heap:=h' }):
  wpAny (model prog w) A (call (.type "enumerate") [.ref l]) Q E s:=by
 obtain ⟨⟨c,Oz,dt,sl⟩,hl,hc,n,hd⟩:=hL
 cases (show c= .type "tuple" from hc)
 cases (show dt= .seq items n from hd)
 refine callType_new F.called_enumerate ∅ (F.typeCall_enumerate_1 _) (F.newCall_enumerate_1 _) (λob=>F.args_object_init_2 ob _) F.entry_enumerate_new (zT l items n Oz sl) ⟨hl,?_⟩
 have hz:(s.heap.push { cls:= .type "tuple_iterator",data:= .fields #[.ref l,.int 0 0] }).objs.size=s.heap.objs.size+1:=Qdg ..
 show _/\_
 rw[hz]
 have he:IsEnum ((s.heap.push { cls:= .type "tuple_iterator",data:= .fields #[.ref l,.int 0 0] }).push { cls:= .type "enumerate",data:= .fields #[.none,.bool false,.ref s.heap.objs.size,rawInt 0,.none,.none] }) (s.heap.objs.size+1) s.heap.objs.size 0 .none:=by
  have:=Qaq (s.heap.push { cls:= .type "tuple_iterator",data:= .fields #[.ref l,.int 0 0] }) (o:={ cls:= .type "enumerate",data:= .fields #[.none,.bool false,.ref s.heap.objs.size,rawInt 0,.none,.none] }) rfl
  rwa [hz]at this
 exact ⟨⟨_,he,rfl⟩,h _ he ⟨_,Qac _ (Qaq _ rfl),rfl,rfl⟩ λb o x=>Qac _ (Qac _ x)⟩
end
noncomputable def HN(K:c6)(a:Addr):It:=⟨λi H=>∃xs x,dH K H a xs/\xs[i]? =some x,λi H x H'=>∃T y,(∀xs,dH K H a xs->xs[i]? =some y)/\x= .ref T/\H T=none/\H'=upd H T (.tup [.int i,y]),λi H=>∃xs,dH K H a xs/\(xs:)=i⟩
noncomputable def HP(K:c6)(a:Addr):It:=⟨λi H=>∃xs x,bu K H a xs/\xs[i]? =some x,λi H x H'=>∃T y,(∀xs,bu K H a xs->xs[i]? =some y)/\x= .ref T/\H T=none/\H'=upd H T (.tup [.int i,y]),λi H=>∃xs,bu K H a xs/\(xs:)=i⟩
theorem BQ{P:Program}{w:World}{k:Nat}(e it a:Addr)(Dw:e≠it)(Vm:a≠e)(Vn:a≠it):
  Turn P w K (.Tuple elts k pos) (HN K a) [e,it] e (λi h=>(∃old,IsEnum h e it i old)/\h.IsTupleIter it a i) where
 mem:=by simp
 obj:=λi h st b hb=>by
  obtain ⟨⟨old,he⟩,o,ho,hc,hd⟩:=st
  rcases Qab.mp hb with z | z
  ·rw[z];exact ⟨_,he,λv z=>by cases z⟩
  ·rw[U0.mp z];exact ⟨o,ho,λv z=>by rw[hd]at z;cases z⟩
 keep:=λi h h' st kp=>by
  obtain ⟨⟨old,he⟩,o,ho,r⟩:=st
  exact ⟨⟨old,kp e (by simp) _ he⟩,o,kp it (by simp) o ho,r⟩
 item:=by
  walk_at"b"
  subst hP hw hK
  obtain ⟨fU,mQ⟩:=st
  obtain ⟨xs,x,hq,hx⟩:=hg
  obtain ⟨aN,rv,p,hz⟩:=I.tuple hq
  obtain ⟨u0,hu,ru⟩:=rv.get hx
  have D:=qM (prog:=X.prog) (w:=X.w) (A:=X.A.in1) (I.ok.hd hc) it a Vn aN.toArray
  walk_at"o"
  have YR:i<aN.toArray.size:=by rw[Qaj];exact (P5.mp hu).1
  refine W.item i s _ _ YR ⟨fU,mQ,p⟩ λT vals h' tk Mb hT HJ zQ hk=>⟨_,rfl,?_⟩
  walk_at"z"
  obtain ⟨tt,x2,Qj,rfl⟩:=Mb
  have ex:x2=u0:=by
   rw[List.getElem?_toArray]at Qj
   exact Qaz (Qj.symm.trans hu)
  subst ex
  have Oy:T∉[e,it]:=W.apart i T h' zQ
  have zS:h2.IsTuple T #[.int i tt,x2]:=by
   obtain ⟨o,ho,r⟩:=HJ
   exact ⟨o,Dy T o Oy ho,r⟩
  refine ⟨.ref T,upd H T (.tup [.int i,x]),?_,rfl,⟨T,x,λys hy=>by rw[I.vX hy hq];exact hx,rfl,I.bX.fresh hT,rfl⟩,⟨zR.1,zR.2.1⟩,λb hb=>?_⟩
  ·refine I.tH (t':=tk) (h':=h2) (λb o hb y=>Dy b o hb (hk b o hb y)) hf hT ?_
   exact ⟨by show 2<=sizeLine;decide,[.int i tt,x2],.cons ⟨tt,rfl⟩ (.cons ru .nil),zS⟩
  ·rw[aq (λz:b=T=>Oy (z▸hb))];exact (hf b hb).1
 done:=by
  walk_at"b"
  subst hP hw hK
  obtain ⟨fU,mQ⟩:=st
  obtain ⟨xs,hq,hx⟩:=hg
  obtain ⟨aN,rv,p,hz⟩:=I.tuple hq
  have hl:=(rv:)
  have D:=qM (prog:=X.prog) (w:=X.w) (A:=X.A.in1) (I.ok.hd hc) it a Vn aN.toArray
  walk_at"o"
  walk_at"L"
  have e1:aN.toArray.size=i:=by rw[Qaj];lia
  rw[e1]
  exact ⟨fU,mQ,p⟩
 self:=λ_ _ s _ _ st h=>by
  obtain ⟨⟨old,he⟩,_⟩:=st
  exact wpAny_pyIter_enum he h
theorem BR{P:Program}{w:World}{k:Nat}(e it a:Addr)(Dw:e≠it)(Vm:a≠e)(Vn:a≠it):
  Turn P w K (.Tuple elts k pos) (HP K a) [e,it] e (λi h=>(∃old,IsEnum h e it i old)/\h.IsListIter it a i) where
 mem:=by simp
 obj:=λi h st b hb=>by
  obtain ⟨⟨old,he⟩,o,ho,hc,hd⟩:=st
  rcases Qab.mp hb with z | z
  ·rw[z];exact ⟨_,he,λv z=>by cases z⟩
  ·rw[U0.mp z];exact ⟨o,ho,λv z=>by rw[hd]at z;cases z⟩
 keep:=λi h h' st kp=>by
  obtain ⟨⟨old,he⟩,o,ho,r⟩:=st
  exact ⟨⟨old,kp e (by simp) _ he⟩,o,kp it (by simp) o ho,r⟩
 item:=by
  walk_at"b"
  subst hP hw hK
  obtain ⟨fU,mQ⟩:=st
  obtain ⟨xs,x,hq,hx⟩:=hg
  obtain ⟨aN,rv,p,hz⟩:=I.list hq
  obtain ⟨u0,hu,ru⟩:=rv.get hx
  have D:=Draws.list (prog:=X.prog) (w:=X.w) (A:=X.A.in1) (I.ok.hd hc) it a Vn aN.toArray
  walk_at"o"
  have YR:i<aN.toArray.size:=by rw[Qaj];exact (P5.mp hu).1
  refine W.item i s _ _ YR ⟨fU,mQ,p.isList⟩ λT vals h' tk Mb hT HJ zQ hk=>⟨_,rfl,?_⟩
  walk_at"z"
  obtain ⟨tt,x2,Qj,rfl⟩:=Mb
  have ex:x2=u0:=by
   rw[List.getElem?_toArray]at Qj
   exact Qaz (Qj.symm.trans hu)
  subst ex
  have Oy:T∉[e,it]:=W.apart i T h' zQ
  have zS:h2.IsTuple T #[.int i tt,x2]:=by
   obtain ⟨o,ho,r⟩:=HJ
   exact ⟨o,Dy T o Oy ho,r⟩
  refine ⟨.ref T,upd H T (.tup [.int i,x]),?_,rfl,⟨T,x,λys hy=>by rw[I.zr hy hq];exact hx,rfl,I.bX.fresh hT,rfl⟩,⟨zR.1,zR.2.1⟩,λb hb=>?_⟩
  ·refine I.tH (t':=tk) (h':=h2) (λb o hb y=>Dy b o hb (hk b o hb y)) hf hT ?_
   exact ⟨by show 2<=sizeLine;decide,[.int i tt,x2],.cons ⟨tt,rfl⟩ (.cons ru .nil),zS⟩
  ·rw[aq (λz:b=T=>Oy (z▸hb))];exact (hf b hb).1
 done:=by
  walk_at"b"
  subst hP hw hK
  obtain ⟨fU,mQ⟩:=st
  obtain ⟨xs,hq,hx⟩:=hg
  obtain ⟨aN,rv,p,hz⟩:=I.list hq
  have hl:=(rv:)
  have D:=Draws.list (prog:=X.prog) (w:=X.w) (A:=X.A.in1) (I.ok.hd hc) it a Vn aN.toArray
  walk_at"o"
  walk_at"L"
  have e1:aN.toArray.size=i:=by rw[Qaj];lia
  rw[e1]
  exact ⟨fU,mQ,p.isList⟩
 self:=λ_ _ s _ _ st h=>by
  obtain ⟨⟨old,he⟩,_⟩:=st
  exact wpAny_pyIter_enum he h
def Qk(K:c6)(ta:TA):TI:=λσ H R=>ta σ H λvs H1=>∃a,vs=[.ref a]/\(∃xs,dH K H1 a xs)/\R (HN K a) H1
def Ql(K:c6)(ta:TA):TI:=λσ H R=>ta σ H λvs H1=>∃a,vs=[.ref a]/\(∃xs,bu K H1 a xs)/\R (HP K a) H1
theorem zU(K:c6)(hK:X.K=K){k:Nat}(hg:Gl X "enumerate")(hm:X.mg "enumerate"=none)(ha:PA X [a] ta)(hs:starEach [a] X.env=[(false,eval a X.env)]:=by rfl):PI X (.Tuple elts k pos') (.Call (.Name "enumerate" p) [a] [] pos) (Qk K ta):=by
 subst hK
 walk_at"T"
 walk_at"m"
 obtain ⟨b,rfl,⟨xs,hq⟩,q⟩:=q1
 obtain ⟨u,rfl,ru⟩:=vals1 r1
 cases ru
 obtain ⟨aN,rv,pl,hz⟩:=I1.tuple hq
 obtain ⟨ob,eb,_⟩:=id pl
 have dZ:b<s1.heap.objs.size:=Qay eb
 refine BP pl λh' he hit hk=>wpAny_pyIter_enum he ?_
 refine ⟨s1.heap.objs.size+1,[s1.heap.objs.size+1,s1.heap.objs.size],_,_,H1,rfl,I1.kept (t':=s1.toks) hk,BQ _ _ b (Qe9 _) (Qa0 (Qc9 dZ)) (Qa0 dZ),⟨⟨_,he⟩,hit⟩,λc hb=>?_,q⟩
 have vC:s1.heap.objs.size<=c:=by
  rcases Qab.mp hb with z | z
  ·rw[z];exact Qcx _
  ·rw[U0.mp z];exact Qaa _
 exact I1.sM vC (I1.bX.fresh vC)
theorem HQ(K:c6)(hK:X.K=K){k:Nat}(hg:Gl X "enumerate")(hm:X.mg "enumerate"=none)(ha:PA X [a] ta)(hs:starEach [a] X.env=[(false,eval a X.env)]:=by rfl):PI X (.Tuple elts k pos') (.Call (.Name "enumerate" p) [a] [] pos) (Ql K ta):=by
 subst hK
 walk_at"T"
 walk_at"m"
 obtain ⟨b,rfl,⟨xs,hq⟩,q⟩:=q1
 obtain ⟨u,rfl,ru⟩:=vals1 r1
 cases ru
 obtain ⟨aN,rv,pl,hz⟩:=I1.list hq
 obtain ⟨ob,eb,_⟩:=id pl.isList
 have dZ:b<s1.heap.objs.size:=Qay eb
 refine call_enumerate_list pl.isList λh' he hit hsz hk=>wpAny_pyIter_enum he ?_
 refine ⟨s1.heap.objs.size+1,[s1.heap.objs.size+1,s1.heap.objs.size],_,_,H1,rfl,I1.kept (t':=s1.toks) hk,BR _ _ b (Qe9 _) (Qa0 (Qc9 dZ)) (Qa0 dZ),⟨⟨_,he⟩,hit⟩,λc hb=>?_,q⟩
 have vC:s1.heap.objs.size<=c:=by
  rcases Qab.mp hb with z | z
  ·rw[z];exact Qcx _
  ·rw[U0.mp z];exact Qaa _
 exact I1.sM vC (I1.bX.fresh vC)
theorem wD{a:Addr}(Pv:Nat->St->Hp->Prop)(h0:Pv 0 σ H)(hl:∀i σ H,i<=(xs:)->Pv i σ H->dH K H a xs)
  (hs:∀i x σ H T,xs[i]? =some x->Pv i σ H->H T=none->g (.ref T) σ (upd H T (.tup [.int i,x])) λσ2 H2=>tb { D with nx:=Pv (i+1),ct:=Pv (i+1),bk:=D.nx } σ2 H2) (hd:∀σ H,Pv (xs:) σ H->D.nx σ H):
  ∃W:Nat->Nat->St->Hp->Prop,(∃m,W 0 m σ H)/\∀i m σ H,W i m σ H->
   ((HN K a).stop i H/\D.nx σ H)\/((HN K a).go i H/\∃N:St->Hp->Prop,(∀σ' H',N σ' H'->∃m',m'<m/\W (i+1) m' σ' H')/\∀x H',(HN K a).G4 i H x H'->g x σ H' λσ2 H2=>tb { D with nx:=N,ct:=N,bk:=D.nx } σ2 H2):=by
 walk_at"j"
 rintro i m σ H ⟨rfl,hi,p⟩
 have hq:=hl i σ H hi p
 by_cases dZ:i<(xs:)
 ·refine .inr ⟨⟨xs,xs[i],hq,by simp[dZ]⟩,Pv (i+1),λσ' H' p'=>⟨(xs:) - (i+1),(),rfl,dZ,p'⟩,λx H' y=>?_⟩
  obtain ⟨T,z,hz,rfl,hn,rfl⟩:=y
  exact hs i z σ _ T (hz xs hq) p hn
 ·have e:i=(xs:):=by lia
  subst e
  exact .inl ⟨⟨xs,hq,rfl⟩,hd σ H p⟩
theorem E9{a:Addr}(Pv:Nat->St->Hp->Prop)(h0:Pv 0 σ H)(hl:∀i σ H,i<=(xs:)->Pv i σ H->bu K H a xs)
  (hs:∀i x σ H T,xs[i]? =some x->Pv i σ H->H T=none->g (.ref T) σ (upd H T (.tup [.int i,x])) λσ2 H2=>tb { D with nx:=Pv (i+1),ct:=Pv (i+1),bk:=D.nx } σ2 H2) (hd:∀σ H,Pv (xs:) σ H->D.nx σ H):
  ∃W:Nat->Nat->St->Hp->Prop,(∃m,W 0 m σ H)/\∀i m σ H,W i m σ H->
   ((HP K a).stop i H/\D.nx σ H)\/((HP K a).go i H/\∃N:St->Hp->Prop,(∀σ' H',N σ' H'->∃m',m'<m/\W (i+1) m' σ' H')/\∀x H',(HP K a).G4 i H x H'->g x σ H' λσ2 H2=>tb { D with nx:=N,ct:=N,bk:=D.nx } σ2 H2):=by
 walk_at"j"
 rintro i m σ H ⟨rfl,hi,p⟩
 have hq:=hl i σ H hi p
 by_cases dZ:i<(xs:)
 ·refine .inr ⟨⟨xs,xs[i],hq,by simp[dZ]⟩,Pv (i+1),λσ' H' p'=>⟨(xs:) - (i+1),(),rfl,dZ,p'⟩,λx H' y=>?_⟩
  obtain ⟨T,z,hz,rfl,hn,rfl⟩:=y
  exact hs i z σ _ T (hz xs hq) p hn
 ·have e:i=(xs:):=by lia
  subst e
  exact .inl ⟨⟨xs,hq,rfl⟩,hd σ H p⟩
section
variable{X:Cx}
def Qm(K:c6):List V->Hp->VK->Prop:=λxs H Q=>∃p ys,xs=[.ref p]/\((bu K H p ys/\∀l,H l=none->Q (.ref l) (upd H l (.tup ys)))\/(dH K H p ys/\Q (.ref p) H))
theorem dQ(K:c6)(h:X.K=K):eL X (.type "tuple") (Qm K):=by subst h;exact vv
end
theorem tI{a:Addr}{Q:VK}(Pv:Nat->List V->Hp->Prop)(hn:(xs:)<sizeLine)(hl:∀i acc H,Pv i acc H->dH K H a xs)(h0:Pv 0 [] H1)
  (hs:∀(i:Nat) (x:V) (acc:List V) (H:Hp) (Nx:List V->Hp->Prop),i<(xs:)->xs[i]? =some x->(acc:)<=i->Pv i acc H->(∀fK H',(fK:)<=i+1->Pv (i+1) fK H'->Nx fK H')->
   g x σc H λσ2 H2=>Wk σc σ2/\tc σ2 H2 λb H3=>if b=true then te σ2 H3 λv H4=>Nx (acc++[v]) H4 else Nx acc H3)
  (hd:∀acc H D,(acc:)<=(xs:)->Pv (xs:) acc H->H D=none->Q (.ref D) (upd H D (.lst acc))):wj (Yi K a) σc g tc te Q H1:=
 rO (xs:=λi x=>xs[i]? =some x) Pv hn (λi acc H h p=>⟨xs,xs[i],hl i acc H p,by simp[h]⟩) (λacc H p=>⟨xs,hl _ acc H p,Qaa _⟩) (λi acc H x H' h p y=>⟨y.1,y.2 xs (hl i acc H p)⟩) h0 hs hd
def gw(H H':Hp):Prop:=∀c xs,H c=some (.tup xs)->H' c=some (.tup xs)
theorem gw.trans{H2:Hp}(a:gw H H1)(b:gw H1 H2):gw H H2:=λc xs h=>b c xs (a c xs h)
theorem gw.of{H':Hp}(s:ay H H'):gw H H':=λc xs h=>s c _ h
theorem gw.BU{p:Addr}{ys:List V}{o:HO}(h:H p=some (.lst ys)):gw H (upd H p o):=λc xs e=>by
 rw[aq (λz=>by rw[z,h]at e;cases e)];exact e
section
variable{prog:Program}{w:World}{A:Around}{E:Value->Shared->Prop}{s:Shared}
noncomputable def bZ:List Int->List Int->Bool
 | [],[]=>false
 | [],_::_=>true
 | _::_,[]=>false
 | a::r,b::t=>if a=b then bZ r t else decide (a<b)
end
end L2
namespace HT
open PySem PySem.Spec PyProof.Rows
end HT
namespace L2
open PySem PySem.Spec PyProof.Rows
variable{o:Option V}{y:V}{u:Value}
section
variable{κ:Type}[DecidableEq κ]
noncomputable def dM(aJ:List (κ×V))(k:κ):Option V:=(aJ.find? λkv=>decide (kv.1=k)).map (·.2)
noncomputable def putK(aJ:List (κ×V))(k:κ)(v:V):List (κ×V):=
 if (aJ.any λkv=>decide (kv.1=k))=true then aJ.map (λkv=>if kv.1=k then (kv.1,v) else kv) else aJ++[(k,v)]
theorem dB{p:κ×V}{r:List (κ×V)}{k:κ}(e:p.1=k):dM (p::r) k=some p.2:=by simp[dM,Qc7,e]
theorem cY{p:κ×V}{r:List (κ×V)}{k:κ}(e: ¬p.1=k):dM (p::r) k=dM r k:=by simp[dM,Qc7,e]
theorem j8(k:κ):∀aJ:List (κ×V),(aJ.any λkv=>decide (kv.1=k))=(dM aJ k).isSome
 | []=>rfl
 | p::r=>by
  rw[Qdh]
  by_cases e:p.1=k
  ·simp only[dB e,decide_eq_true e,Bool.true_or,Option.isSome_some]
  ·rw[cY e,decide_eq_false e,Qe8];exact j8 k r
theorem zV(k j:κ)(y:V):∀aJ:List (κ×V),dM (aJ.map λkv=>if kv.1=k then (kv.1,y) else kv) j=(dM aJ j).map λx=>if j=k then y else x
 | []=>rfl
 | p::r=>by
  have ih:=zV k j y r
  rw[Qa2]
  by_cases h:p.1=k
  ·rw[if_pos h]
   by_cases e:p.1=j
   ·rw[dB (p:=(p.1,y)) e,dB e,Qfj,if_pos (e.symm.trans h)]
   ·rw[cY (p:=(p.1,y)) e,cY e,ih]
  ·rw[if_neg h]
   by_cases e:p.1=j
   ·rw[dB (p:=p) e,dB e,Qfj,if_neg (λz=>h (e.trans z))]
   ·rw[cY (p:=p) e,cY e,ih]
theorem wF(k j:κ)(y:V):∀aJ:List (κ×V),dM aJ k=none->dM (aJ++[(k,y)]) j=if j=k then some y else dM aJ j
 | [],_=>by
  by_cases e:k=j
  ·rw[if_pos e.symm];exact dB (p:=(k,y)) e
  ·rw[if_neg (λz=>e z.symm)];exact cY (p:=(k,y)) e
 | p::r,hn=>by
  rw[Qdo]
  have hk: ¬p.1=k:=λz=>by rw[dB z]at hn;cases hn
  rw[cY hk]at hn
  have ih:=wF k j y r hn
  by_cases e:p.1=j
  ·rw[dB e,dB e,if_neg (λz=>hk (e.trans z))]
  ·rw[cY e,cY e,ih]
theorem zW(aJ:List (κ×V))(k j:κ)(y:V):dM (putK aJ k y) j=if j=k then some y else dM aJ j:=by
 unfold putK
 by_cases a:(aJ.any λkv=>decide (kv.1=k))=true
 ·rw[if_pos a,zV]
  rw[j8]at a
  by_cases e:j=k
  ·obtain ⟨x,hx⟩:=Option.isSome_iff_exists.mp a
   rw[if_pos e,e,hx,Qfj,if_pos rfl]
  ·rw[if_neg e]
   cases dM aJ j with
   | none=>rfl
   | some x=>rw[Qfj,if_neg e]
 ·rw[if_neg a]
  refine wF k j y aJ ?_
  rw[j8]at a
  cases q:dM aJ k with
  | none=>rfl
  | some x=>rw[q]at a;exact (a rfl).elim
theorem fZ(aJ:List (κ×V))(k:κ)(v:V):(putK aJ k v:)<=(aJ:)+1:=by
 unfold putK
 split
 ·rw[Xi];lia
 ·rw[kb,Qa4,Qem];lia
theorem zX{aJ:List (κ×V)}{k:κ}(v:V)(h:dM aJ k=none):putK aJ k v=aJ++[(k,v)]:=by
 unfold putK
 rw[j8,h]
 exact if_neg ∅
theorem pj.pV{u:Option Value}(r:pj o u):o.isSome=u.isSome:=by
 cases o with
 | none=>cases u with
  | none=>rfl
  | some _=>exact (show False from r).elim
 | some _=>cases u with
  | none=>exact (show False from r).elim
  | some _=>rfl
theorem KV.val{aJ:List (κ×V)}{vs:List (κ×Value)}(r:KV aJ vs)(k:κ):pj (dM aJ k) (valueAt vs k):=by
 unfold KV at r
 induction r with
 | nil=>exact True.intro
 | @cons p q ps qs h t ih=>
  obtain ⟨h1,h2⟩:=h
  by_cases e:p.1=k
  ·have e':q.1=k:=h1.symm.trans e
   have b:valueAt (q::qs) k=some q.2:=by simp[valueAt,Qc7,e']
   rw[dB e,b];exact h2
  ·have e': ¬q.1=k:=λz=>e (h1.trans z)
   have b:valueAt (q::qs) k=valueAt qs k:=by simp[valueAt,Qc7,e']
   rw[cY e,b];exact ih
theorem KV.any{aJ:List (κ×V)}{vs:List (κ×Value)}(r:KV aJ vs)(k:κ):(aJ.any λkv=>decide (kv.1=k))=vs.any λkv=>decide (kv.1=k):=by
 unfold KV at r
 induction r with
 | nil=>rfl
 | cons h t ih=>rw[Qdh,Qdh,ih,h.1]
theorem KV.Qn{aJ:List (κ×V)}{vs:List (κ×Value)}(r:KV aJ vs)(k:κ)(ry:RelV y u):
  KV (aJ.map λkv=>if kv.1=k then (kv.1,y) else kv) (vs.map λkv=>if kv.1=k then (kv.1,u) else kv):=by
 unfold KV at r ⊢
 induction r with
 | nil=>exact .nil
 | @cons p q ps qs h t ih=>
  rw[Qa2,Qa2]
  refine .cons ?_ ih
  obtain ⟨h1,h2⟩:=h
  by_cases e:p.1=k
  ·rw[if_pos e,if_pos (h1.symm.trans e)];exact ⟨h1,ry⟩
  ·rw[if_neg e,if_neg (λz=>e (h1.trans z))];exact ⟨h1,h2⟩
theorem KV.put{aJ:List (κ×V)}{vs:List (κ×Value)}(r:KV aJ vs)(k:κ)(ry:RelV y u):KV (putK aJ k y) (stored vs k u):=by
 unfold putK stored
 rw[r.any k]
 by_cases e:(vs.any λkv=>decide (kv.1=k))=true
 ·rw[if_pos e,if_pos e];exact r.Qn k ry
 ·rw[if_neg e,if_neg e];exact Paired.snoc r ⟨rfl,ry⟩
theorem KV.length{aJ:List (κ×V)}{vs:List (κ×Value)}(r:KV aJ vs):(aJ:)=(vs:):=Paired.length r
end
theorem DA{P:Program}{w:World}{k:Key}(r:RelV (kV k) u):(dc P w).is k u=true:=by
 cases k with
 | inl i=>obtain ⟨t,e⟩:=(show ∃t,u=Value.int i t from r);subst e;exact zm P w i t
 | inr x=>obtain ⟨t,e⟩:=(show ∃t,u=Value.str x t from r);subst e;exact zo P w x t
theorem wG{P:Program}{w:World}:∀{ks:List Key} {us:List Value},Vals (ks.map kV) us->ItemsAre (dc P w) ks us
 | [],_,r=>by rw[List.map_nil]at r;cases r;exact .nil
 | k::ks,_,r=>by
  rw[Qa2]at r
  cases r with
  | cons h t=>exact .cons (DA h) (wG t)
abbrev KT(H:Hp):List (List Key×V)->List (List Key×Addr×Value)->Prop:=Paired λp q=>p.1=q.1/\H q.2.1=some (.tup (p.1.map kV))/\RelV p.2 q.2.2
variable{H:Hp}{aJ:List (List Key×V)}{xs:List (List Key×Addr×Value)}
theorem KT.val(r:KT H aJ xs)(k:List Key):pj (dM aJ k) ((atKey xs k).map (·.2)):=by
 induction r with
 | nil=>exact True.intro
 | @cons p q ps qs h t ih=>
  obtain ⟨h1,_,h2⟩:=h
  by_cases e:p.1=k
  ·have e':q.1=k:=h1.symm.trans e
   have b:atKey (q::qs) k=some q.2:=by simp[atKey,Qc7,e']
   rw[dB e,b];exact h2
  ·have e': ¬q.1=k:=λz=>e (h1.trans z)
   have b:atKey (q::qs) k=atKey qs k:=by simp[atKey,Qc7,e']
   rw[cY e,b];exact ih
theorem KT.Qn(r:KT H aJ xs)(k:List Key)(ry:RelV y u):
  KT H (aJ.map λkv=>if kv.1=k then (kv.1,y) else kv) (xs.map (putAt k u)):=by
 induction r with
 | nil=>exact .nil
 | @cons p q ps qs h t ih=>
  rw[Qa2,Qa2]
  refine .cons ?_ ih
  obtain ⟨h1,h2,h3⟩:=h
  unfold putAt
  by_cases e:p.1=k
  ·rw[if_pos e,if_pos (h1.symm.trans e)];exact ⟨h1,h2,ry⟩
  ·rw[if_neg e,if_neg (λz=>e (h1.trans z))];exact ⟨h1,h2,h3⟩
variable{b:Addr}
theorem KT.put(r:KT H aJ xs)(k:List Key)(hb:H b=some (.tup (k.map kV)))(ry:RelV y u):
  KT H (putK aJ k y) (storedH xs k b u):=by
 have e:(aJ.any λkv=>decide (kv.1=k))=(atKey xs k).isSome:=by
  rw[j8,(r.val k).pV,Option.isSome_map]
 unfold putK storedH
 rw[e]
 by_cases q:(atKey xs k).isSome=true
 ·rw[if_pos q,if_pos q];exact r.Qn k ry
 ·rw[if_neg q,if_neg q];exact Paired.snoc r ⟨rfl,hb,ry⟩
variable{H':Hp}
theorem KT.keeps(r:KT H aJ xs)(ht:∀b ys,H b=some (.tup ys)->H' b=some (.tup ys)):KT H' aJ xs:=
 Paired.Pd r λ_ _ z=>⟨z.1,ht _ _ z.2.1,z.2.2⟩
section
variable{P:Program}{w:World}{H:Hp}{h:Heap}{a:Addr}
theorem OA{u:HO}(ok:mP P w H h)(e:Rd H a u):cP P w H h a u:=e.ok ok
theorem DB{aJ:List (Key×V)}(ok:mP P w H h)(e:Rd H a (.dK aJ)):(aJ:)<=sizeLine/\(a==sysModules)=false/\∃vs,KV aJ vs/\h.DictOf (dc P w) a vs:=
 show cP P w H h a (.dK aJ) from OA ok e
theorem Vo{aJ:List (Key×V)}(ok:mP P w H h)(e:H a=some (.dK aJ)):(aJ:)<=sizeLine/\(a==sysModules)=false/\∃vs,KV aJ vs/\h.DictOf (dc P w) a vs:=DB ok (.inl e)
theorem xT{ks:List Key}(ok:mP P w H h)(e:H a=some (.tup (ks.map kV))):(tupleKind (dc P w)).is h ks a:=by
 obtain ⟨_,aN,r,o,h1,h2,n,h3⟩:=(show cP P w H h a (.tup (ks.map kV)) from ok a _ e)
 exact ⟨o,aN.toArray,n,h1,h2,h3,by simpa using wG r⟩
theorem DC(ok:mP P w H h)(e:Rd H a (.dT aJ)):(aJ:)<=sizeLine/\(a==sysModules)=false/\
  ∃xs,KT H aJ xs/\h.DictOfH (tupleKind (dc P w)) a xs:=by
 obtain ⟨z,y,xs,r,o,es,ep,h1,h2,h3,h4,h5⟩:=(show cP P w H h a (.dT aJ) from OA ok e)
 refine ⟨z,y,xs,r,o,es,ep,h1,h2,h3,h4,λx hx=>?_,h5⟩
 have all:∀{l:List (List Key×V)} {m:List (List Key×Addr×Value)},KT H l m->∀x∈m,(tupleKind (dc P w)).is h x.1 x.2.1:=by
  intro l m q
  induction q with
  | nil=>intro x hx;exact nomatch hx
  | @cons p q ps qs hq t ih=>
   intro x hx
   rcases Qab.mp hx with e | hx
   ·subst e
    exact xT ok (by rw[<-hq.1];exact hq.2.1)
   ·exact ih x hx
 exact all r x hx
theorem Vp(ok:mP P w H h)(e:H a=some (.dT aJ)):(aJ:)<=sizeLine/\(a==sysModules)=false/\
  ∃xs,KT H aJ xs/\h.DictOfH (tupleKind (dc P w)) a xs:=DC ok (.inl e)
end
def nR(H:Hp)(a:Addr)(y:V)(r:Option V):Prop:=
 (∃aJ k,Rd H a (.dK aJ)/\y=kV k/\r=dM aJ k)\/∃aJ k b,Rd H a (.dT aJ)/\y= .ref b/\H b=some (.tup (k.map kV))/\r=dM aJ k
def tJ(H:Hp)(a:Addr)(y v:V)(H':Hp):Prop:=
 (∃aJ k,H a=some (.dK aJ)/\y=kV k/\(aJ:)<sizeLine/\H'=upd H a (.dK (putK aJ k v)))\/
 ∃aJ k b,H a=some (.dT aJ)/\y= .ref b/\H b=some (.tup (k.map kV))/\(aJ:)<sizeLine/\H'=upd H a (.dT (putK aJ k v))
theorem nR.k{H:Hp}{a:Addr}{aJ:List (Key×V)}{k:Key}(e:H a=some (.dK aJ)):nR H a (kV k) (dM aJ k):= .inl ⟨aJ,k,.inl e,rfl,rfl⟩
variable{a:Addr}
theorem nR.t{k:List Key}(e:H a=some (.dT aJ))(eb:H b=some (.tup (k.map kV))):nR H a (.ref b) (dM aJ k):= .inr ⟨aJ,k,b,.inl e,rfl,eb,rfl⟩
theorem tJ.k{H:Hp}{a:Addr}{aJ:List (Key×V)}{k:Key}{v:V}(e:H a=some (.dK aJ))(hl:(aJ:)<sizeLine):tJ H a (kV k) v (upd H a (.dK (putK aJ k v))):= .inl ⟨aJ,k,e,rfl,hl,rfl⟩
theorem tJ.t{k:List Key}{v:V}(e:H a=some (.dT aJ))(eb:H b=some (.tup (k.map kV)))(hl:(aJ:)<sizeLine):
  tJ H a (.ref b) v (upd H a (.dT (putK aJ k v))):= .inr ⟨aJ,k,b,e,rfl,eb,hl,rfl⟩
variable{Q:Value->Shared->Prop}{h':Heap}
section
variable{X:Cx}{pins:List (Addr×Obj)}{σ:St}{H:Hp}{s:Shared}{a:Addr}{y v:V}{u r:Value}{o:Option V}{A:Around}{E:Value->Shared->Prop}
theorem Inv.big(I:Inv X pins σ H s):sysModules<s.heap.objs.size:=by
 have h:mainGlobals<s.heap.objs.size:=(I.mod.glob.keeps I.bk).lt
 exact Qdn ∅ h
theorem E_(hu:A.units+1<cLine)(I:Inv X pins σ H s)(g:nR H a y (some v))(ry:RelV y u)(h:∀w' s',Inv X pins σ H s'->RelV v w'->Q w' s'):
  wpAny (model X.prog X.w) A (getItem (.ref a) u) Q E s:=by
 rcases g with ⟨aJ,k,e,ey,l⟩ | ⟨aJ,k,b,e,ey,eb,l⟩
 ·subst ey
  obtain ⟨z,hd,vs,rel,dd⟩:=DB I.bX e
  obtain ⟨w',hw,zF⟩:=pj.some_of (v:=v) (o:=valueAt vs k) (by rw[l];exact rel.val k)
  exact wpAny_getItem_of (DA ry) dd.mapOf hw (h w' _ (I.tok _) zF)
 ·subst ey
  cases (show u=Value.ref b from ry)
  obtain ⟨z,hd,xs,rel,dd⟩:=DC I.bX e
  obtain ⟨w',hw,zF⟩:=pj.some_of (v:=v) (o:=(atKey xs k).map (·.2)) (by rw[l];exact rel.val k)
  obtain ⟨p,hp,mU⟩:=Option.map_eq_some_iff.mp hw
  refine wpAny_getItem_heap (tupleKind_room_in1 hu) (xT I.bX eb) dd hp ?_
  rw[mU]
  exact h w' _ (I.tok _) zF
theorem Mf(hu:A.units+1<cLine)(I:Inv X pins σ H s)(g:nR H a y o)(ry:RelV y u)(h:∀s',Inv X pins σ H s'->Q (.bool (!o.isSome)) s'):
  wpAny (model X.prog X.w) A (compareOp .NotIn u (.ref a)) Q E s:=by
 rcases g with ⟨aJ,k,e,ey,l⟩ | ⟨aJ,k,b,e,ey,eb,l⟩
 ·subst ey
  obtain ⟨z,hd,vs,rel,dd⟩:=DB I.bX e
  refine wpAny_notIn_of (DA ry) hd dd.mapOf ?_
  rw[<-(rel.val k).pV, <-l]
  exact h _ (I.tok _)
 ·subst ey
  cases (show u=Value.ref b from ry)
  obtain ⟨z,hd,xs,rel,dd⟩:=DC I.bX e
  refine wpAny_notIn_heap (tupleKind_room_in1 hu) (xT I.bX eb) hd dd ?_
  have q:=(rel.val k).pV
  rw[Option.isSome_map]at q
  rw[<-q, <-l]
  exact h _ (I.tok _)
theorem DD{t':Nat}{ob:HO}(I:Inv X pins σ H s)(mu:Um (H a))(hs:Heap.SameBut a s.heap h')(he:∃q,h'.get? a=some q)(new:cP X.prog X.w (upd H a ob) h' a ob):
  Inv X pins σ (upd H a ob) { s with heap:=h',toks:=t' }:=
 I.write (x:=a) (e:=a) mu (.inl rfl) (λb q hb z=>(hs.2 b hb).trans z) he new
theorem Qo{P:Program}{w:World}{aJ:List (Key×V)}{vs:List (Key×Value)}(z:(aJ:)<=sizeLine)(hd:(a==sysModules)=false)(rel:KV aJ vs)(dd:h'.DictOf (dc P w) a vs):
  cP P w H' h' a (.dK aJ):=⟨z,hd,vs,rel,dd⟩
theorem Fb{Q:Unit->Shared->Prop}(hu:A.units+1<cLine)(I:Inv X pins σ H s)(g:tJ H a y v H')(ry:RelV y u)(rv:RelV v r)(h:∀s',Inv X pins σ H' s'->Q Unit.unit s'):
  wpAny (model X.prog X.w) A (setItem (.ref a) u r) Q E s:=by
 rcases g with ⟨aJ,k,e,ey,l,eH⟩ | ⟨aJ,k,b,e,ey,eb,l,eH⟩
 ·subst ey eH
  obtain ⟨z,hd,vs,rel,dd⟩:=Vo I.bX e
  have hz:(vs:)<=sizeLine:=by rw[<-(rel:)];exact z
  have hl:(putK aJ k v:)<=sizeLine:=by have:=fZ aJ k v;lia
  refine wpAny_setItem_pairs (hsz:=hz) (DA ry) dd λh' Xm hs=>h _ ?_
  have he:∃q,h'.get? a=some q:=let ⟨q,_,_,hq,_⟩:=Xm;⟨q,hq⟩
  exact DD I (by rw[e];exact True.intro) hs he (Qo hl hd (rel.put k rv) Xm)
 ·subst ey eH
  cases (show u=Value.ref b from ry)
  obtain ⟨z,hd,xs,rel,dd⟩:=Vp I.bX e
  have hz:(xs:)<=sizeLine:=by rw[<-Paired.length rel];exact z
  have hl:(putK aJ k v:)<=sizeLine:=by have:=fZ aJ k v;lia
  refine wpAny_setItem_heap (hsz:=hz) (tupleKind_room_in1 hu) (xT I.bX eb) dd λh' Xm hs=>h _ ?_
  obtain ⟨q,es,ep,hq,h2,h3,h4,_,h5⟩:=Xm
  refine DD I (by rw[e];exact True.intro) hs ⟨q,hq⟩ ⟨hl,hd,_,(rel.put k eb rv).keeps λc ys ec=>?_,q,es,ep,hq,h2,h3,h4,h5⟩
  rw[aq (Ul ec e (λz=>nomatch z))]
  exact ec
end
def Vq(i:Expr):Prop:=∀ov iv,subscripted i false ov iv=operate [ov,iv] (getItem ov iv)
variable{s:Shared}
theorem Mg{prog:Program}{w:World}{A:Around}{E:Value->Shared->Prop}{env:Env}{value slice:Expr}{pos:Pos}{T id:String}
  (hl:typeLookup (.type T) "__getitem__"=pure (some (.builtin id))) (hs:Vq slice)
  (h:wpAny (model prog w) A (eval value env) (λo s₁=>wpAny (model prog w) A (eval slice env) (λi s₂=>s₂.TypeIs o T/\wpAny (model prog w) A (getItem o i) Q E s₂) E s₁) E s):
  wpAny (model prog w) A (eval (.Subscript value slice pos) env) Q E s:=by
 refine Subscript_ (wpAny_mono h (λo s₁ h₁=>wpAny_mono h₁ (λi s₂ h₂=>?_) λ_ _ x=>x) λ_ _ x=>x)
 obtain ⟨hT,h₂⟩:=h₂
 unfold subscriptTail
 refine wpAny_bind ?_
 rw[getitemInPython_of_ne hT.not_modules]
 refine wpAny_bind (wpAny_specialOf hT hl ?_)
 have fin:wpAny (model prog w) A (subscripted slice false o i) (λr s₃=>wpAny (model prog w) A (letTemporaryGo value o r >>= λ_=>pure r) Q E s₃) E s₂:=by
  rw[hs o i]
  exact wpAny_operating (wpAny_mono h₂ (λr s₃ h₃=>wpAny_bind (wpAny_letTemporaryGo (wpAny_pure h₃))) λ_ _ x=>x)
 first
  | exact wpAny_pure (wpAny_bind fin)
  | exact wpAny_bind (wpAny_pure (wpAny_bind fin))
  | exact wpAny_bind fin
theorem zY{X:Cx}{pins:List (Addr×Obj)}{σ:St}(I:Inv X pins σ H s)(g:nR H a y o):s.TypeIs (.ref a) "dict":=by
 rcases g with ⟨aJ,k,e,_,_⟩ | ⟨aJ,k,b,e,_,_,_⟩
 ·obtain ⟨_,_,vs,_,dd⟩:=DB I.bX e
  exact dd.typeIs
 ·obtain ⟨_,_,xs,_,dd⟩:=DC I.bX e
  exact dd.typeIs
def Vr(td ty:TE):TE:=λσ H Q=>td σ H λx H1=>ty σ H1 λy H2=>∃a v,x= .ref a/\nR H2 a y (some v)/\Q v H2
def Mh(ty td:TE):TE:=λσ H Q=>ty σ H λy H1=>td σ H1 λx H2=>∃a o,x= .ref a/\nR H2 a y o/\Q (.bl (!o.isSome)) H2
def Vs(td ty tv:TE):TS:=λD σ H=>tv σ H λv H1=>td σ H1 λx H2=>ty σ H2 λy H3=>∃a H4,x= .ref a/\tJ H3 a y v H4/\D.nx σ H4
section
variable{X:Cx}{o i e value:Expr}{pos pos' UN:Pos}{td ty tv:TE}
theorem rQ(hu:X.A.units+1<cLine)(ho:PE X o td)(hi:PE X i ty)(hs:Vq i):PE X (.Subscript o i pos) (Vr td ty):=by
 walk_at"e"
 refine Mg PySem.F.slot_dict_getitem.lookup hs (cE (ho pins s σ H _ I h) λu s1 ⟨x,H1,I1,rx,q1⟩=>cE (hi pins s1 σ H1 _ I1 q1) λiv s2 ⟨y,H2,I2,ry,a,v,ex,g,q2⟩=>?_)
 subst ex
 obtain rfl:u=Value.ref a:=rx
 exact ⟨zY I2 g,E_ hu I2 g ry λw' s3 I3 zF=>⟨v,H2,I3,zF,q2⟩⟩
theorem Fc(hu:X.A.units+1<cLine)(hi:PE X i ty)(ho:PE X o td):PC X .NotIn i o (Mh ty td):=by
 walk_at"e"
 refine cE (hi pins s σ H _ I h) λiv s1 ⟨y,H1,I1,ry,q1⟩=>cE (ho pins s1 σ H1 _ I1 q1) λu s2 ⟨x,H2,I2,rx,a,ov,ex,g,q2⟩=>?_
 subst ex
 obtain rfl:u=Value.ref a:=rx
 exact Mf hu I2 g ry λs3 I3=>⟨.bl (!ov.isSome),H2,I3,rfl,q2⟩
theorem nS(hu:X.A.units+1<cLine)(ho:PE X o td)(hi:PE X i ty)(hv:PE X value tv)(hs:swapsWith value (some (.Subscript o i pos')) pos.line X.env=pure false):
  PS X (.Assign [.Subscript o i pos'] value pos) (Vs td ty tv):=by
 walk_at"s"
 refine wpAny_Assign_Subscript (cE (hv pins s σ H _ I h) λr s1 ⟨v,H1,I1,rv,q1⟩=>cE (ho pins s1 σ H1 _ I1 q1) λu s2 ⟨x,H2,I2,rx,q2⟩=>cE (hi pins s2 σ H2 _ I2 q2) λiv s3 ⟨y,H3,I3,ry,a,H4,ex,g,q3⟩=>?_) hs
 subst ex
 obtain rfl:u=Value.ref a:=rx
 exact Fb hu I3 g ry rv λs4 I4=>⟨σ,H4,I4,q3⟩
end
theorem HR{P:Program}{w:World}(h:Heap)(hb:sysModules<h.objs.size):cP P w H (h.push { cls:= .type "dict",data:= .dict #[] }) h.objs.size (.dK []):=
 ⟨Qat _,beq_eq_false_iff_ne.mpr (Ne.symm (Qa0 hb)),[],.nil,Heap.DictOf.new h⟩
theorem HS{P:Program}{w:World}(h:Heap)(hb:sysModules<h.objs.size):cP P w H (h.push { cls:= .type "dict",data:= .dict #[] }) h.objs.size (.dT []):=
 ⟨Qat _,beq_eq_false_iff_ne.mpr (Ne.symm (Qa0 hb)),[],.nil,_, #[],0,Qaq _ rfl,⟨rfl,rfl,rfl⟩,rfl,rfl,Qcm⟩
def Qp:TE:=λ_ H Q=>∀p,H p=none->Q (.ref p) (upd H p (.dK []))
def Qq:TE:=λ_ H Q=>∀p,H p=none->Q (.ref p) (upd H p (.dT []))
section
variable{X:Cx}{pos:Pos}
theorem tK:PE X (.Dict [] [] pos) Qp:=λpins s σ H Q I h=>
 wpAny_Dict_empty ⟨.ref s.heap.objs.size,_,I.laid (a:=s.heap.objs.size) (o:= .dK []) (t':=s.toks) (λ_ _ q=>Qac _ q) (Qaa _) (HR s.heap I.big),rfl,h _ (I.bX.fresh (Qaa _))⟩
theorem HU:PE X (.Dict [] [] pos) Qq:=λpins s σ H Q I h=>
 wpAny_Dict_empty ⟨.ref s.heap.objs.size,_,I.laid (a:=s.heap.objs.size) (o:= .dT []) (t':=s.toks) (λ_ _ q=>Qac _ q) (Qaa _) (HS s.heap I.big),rfl,h _ (I.bX.fresh (Qaa _))⟩
end
end L2
namespace L2.F2
open PySem PySem.Spec PyProof.Rows
end L2.F2
namespace L2
open PySem PySem.Spec PyProof.Rows
noncomputable def Ll(a b c d:Int):Bool:=if a=c then decide (b<d) else decide (a<c)
variable{a b:Int}
section
variable{prog:Program}{w:World}{A:Around}{E:Value->Shared->Prop}{s:Shared}
theorem Mi{p q:Addr}{ox oy:Obj}{mx my:Nat}{c d:Int}{t1 t2 t3 t4:Tok}{P:PySem.Fin->Shared->Prop}(Sg:s.heap.get? p=some ox)(Vt:ox.data= .seq #[.int a t1,.int b t2] mx)
  (Vu:s.heap.get? q=some oy) (OB:oy.cls= .type "tuple") (YS:oy.data= .seq #[.int c t3,.int d t4] my) (h:P (.done (.ret (.bool (Ll a b c d)))) s):
  wpAny (model prog w) A (Builtin.«tuple.__lt__» ⟨[.ref p,.ref q],[]⟩) P E s:=by
 have hT:s.TypeIs (.ref q) "tuple":=⟨oy,Vu,OB⟩
 show wpAny _ _ (isInstance (.ref q) (.type "tuple") >>= λb=>_) _ _ s
 refine wpAny_bind (wpAny_isInstance (b:=true) hT isSubtype_tuple_tuple ?_)
 simp only[Qfy,Qcr,if_false]
 refine wpAny_bind (wpAny_tupleItemsOf Sg Vt ?_)
 refine wpAny_bind (wpAny_tupleItemsOf Vu YS ?_)
 refine wpAny_bind ?_
 show wpAny _ _ (forIn [(Value.int a t1,Value.int c t3),(Value.int b t2,Value.int d t4)] _ _) _ _ _
 rw[Qen]
 refine wpAny_bind (wpAny_bind (wpAny_eqBool_int ?_))
 unfold Ll at h
 by_cases e:a=c
 ·rw[if_pos e]at h
  rw[show (a==c)=true by simp[e]]
  simp only[Qfy,Qcr,if_false]
  refine wpAny_pure ?_
  dsimp only
  rw[Qen]
  refine wpAny_bind (wpAny_bind (wpAny_eqBool_int ?_))
  by_cases e2:b=d
  ·rw[show (b==d)=true by simp[e2]]
   simp only[Qfy,Qcr,if_false]
   refine wpAny_pure ?_
   dsimp only
   rw[List.forIn_nil]
   refine wpAny_pure ?_
   dsimp only
   refine wpAny_pure ?_
   rw[decide_eq_false ()]at h
   exact h
  ·rw[show (b==d)=false by simp[e2]]
   simp only[Bool.not_false,if_true]
   walk_at"J"
   refine wpAny_bind (lt_int ?_)
   refine wpAny_bind (wpAny_pure ?_)
   refine wpAny_pure ?_
   dsimp only
   refine wpAny_pure ?_
   dsimp only
   exact wpAny_pure h
 ·rw[if_neg e]at h
  rw[show (a==c)=false by simp[e]]
  simp only[Bool.not_false,if_true]
  walk_at"J"
  refine wpAny_bind (lt_int ?_)
  refine wpAny_bind (wpAny_pure ?_)
  refine wpAny_pure ?_
  dsimp only
  refine wpAny_pure ?_
  dsimp only
  exact wpAny_pure h
end
section
variable{X:Cx}
inductive HV(K:c6)(x:V)(y:V)(H:Hp)(Q:VK):Prop
 | mk (p:_) (q:_) (a:_) (b:_) (c:_) (d:_) (_:x= .ref p) (_:y= .ref q) (_:dH K H p [.int a,.int b]) (_:dH K H q [.int c,.int d]) (_:Q (.bl (Ll a b c d)) H):HV K x y H Q
def YT(K:c6):R2:=HV K
theorem zZ{us:List Value}(r:Vals [.int a,.int b] us):∃t u,us=[.int a t,.int b u]:=by
 cases r with
 | cons r1 r=>
  cases r with
  | cons r2 r=>
   cases r
   walk_at"Q"
   obtain ⟨u,rfl⟩:=r2
   exact ⟨t,u,rfl⟩
theorem Qr{k:Nat}(K:c6)(h:X.K=K)(hr:c_ k X.A):iM X (compareOp .Lt) (YT K):=by
 subst h
 walk_at"a"
 obtain ⟨p,q,a,b,c,d,rfl,rfl,hp,hq,r⟩:=h
 cases rx
 cases ry
 obtain ⟨xs,Qs,px,_⟩:=I.tuple hp
 obtain ⟨ys,rvy,py,_⟩:=I.tuple hq
 obtain ⟨ox,Sg,Ox,mx,Vt⟩:=px
 obtain ⟨oy,Vu,OB,my,YS⟩:=py
 obtain ⟨t1,t2,rfl⟩:=zZ Qs
 obtain ⟨t3,t4,rfl⟩:=zZ rvy
 have hu:=hr.units
 show wpAny _ _ (richCompare .Lt (.ref p) (.ref q)) _ _ s
 have hT:s.TypeIs (.ref p) "tuple":=⟨ox,Sg,Ox⟩
 refine wpAny_richCompare_same_room hT ⟨oy,Vu,OB⟩ PySem.F.slot_tuple_lt (wpAny_call_entry PySem.F.slot_tuple_lt hT PySem.F.entry_tuple_lt (Mi Sg Vt Vu OB YS ⟨_,rfl,(λz=>nomatch z),?_⟩) (PySem.F.args_tuple_lt_2 _ _)) ()
 exact ⟨.bl _,H,I,rfl,r⟩
end
section
variable{X:Cx}{st:Stmt}{rest:List Stmt}{t u:TS}
def YU(t u:TS):TS:=λD σ H=>∃P:St->Hp->Prop,t { D with nx:=P } σ H/\∀σ' H',P σ' H'->u D σ' H'
theorem DE(h1:PS X st t)(h2:zf X rest u):zf X (st::rest) (YU t u):=by
 walk_at"s"
 obtain ⟨P,h,g⟩:=h
 refine wpAny_execs_cons (cE (h1 pins s σ H _ I h) λf s1 q=>?_)
 cases f with
 | ret v=>exact q
 | brk=>exact q
 | cont=>exact q
 | next=>
  obtain ⟨τ,G,J,p⟩:=q
  exact h2 pins s1 τ G D J (g τ G p)
end
end L2
namespace L2
open PySem PySem.Spec PyProof.Rows PySem.MeetsSeq PySem.SeqAt
end L2
namespace XL
open PySem PySem.Spec PySem.Calls PyProof.Rows PySem.W Builtin Builtin.ObjectAttr
end XL
namespace XL
open PySem PySem.Spec PySem.Calls PyProof.Rows PySem.W
end XL
namespace L2
open PySem PySem.Spec PyProof.Rows XL
noncomputable def inC(s:Stmt)(j:Nat):Stmt:=match s with
 | .ClassDef _ _ _ b _ _ _ _ _ _ _=>b.getD j (.Pass ⟨0,0,0,0⟩)
 | _=> .Pass ⟨0,0,0,0⟩
def Vv(_ j:Int):Prop:=0<j/\j<18446744073709551616
theorem fq{X:Cx}:iM X (binaryOp .FloorDiv) (rI Vv λi j=> .int (i / j)):=Xe λi j _ _ _ _ _ hc q=>by
 have h1:(0:Int)<j:=hc.1
 have h2:j<18446744073709551616:=hc.2
 have h3:j.natAbs<2 ^ 64:=by lia
 exact floordiv_int () (by rw[Int.fdiv_eq_ediv_of_nonneg i ()];exact q) (.inl (PyProof.noPylong_of_log2 (Qdn ((Nat.log2_lt ()).mpr h3) ∅)))
end L2
namespace PySem
end PySem
namespace L2
open PySem PySem.Spec PyProof.Rows
end L2
namespace L2.F3
open PySem PySem.Spec PyProof.Rows
end L2.F3
namespace L2
open PySem PySem.Spec PyProof.Rows
section
variable{X:Cx}
noncomputable def dg(n:Nat):c5:=((toString (n:Int):String):Str).cps.toList
theorem YV(n:Nat):((toString (n:Int):String):Str)=S (dg n):=Vb _
theorem Fd{n:Nat}(h:n<2 ^ 60):((n:Int)).natAbs.log2<1920:=by
 rw[Int.natAbs_natCast]
 by_cases z:n=0
 ·subst z;decide
 ·exact (Nat.log2_lt z).mpr (Qa3 h (Nat.pow_le_pow_right ∅ ∅))
theorem Fe:eL X (.type "str") (λxs H Q=>∃n:Nat,xs=[.int n]/\n<2 ^ 60/\Q (.str (S (dg n))) H):=by
 walk_at"h"
 obtain ⟨n,rfl,hz,q⟩:=h
 refine xx pins s σ H _ us Q I r ⟨n,rfl,Fd hz,?_⟩
 rw[YV]
 exact q
end
theorem z4:typeLookup (.type "dict") "__len__"=pure (some (.builtin "dict.__len__")):=PySem.F.slot_dict_len.lookup
section
variable{prog:Program}{w:World}{A:Around}{E:Value->Shared->Prop}{s:Shared}{KK:Type}[DecidableEq KK]{knd:PySem.KeyKind prog w KK}
theorem nU{Q:List Value->Shared->Prop}(hh:A.handled=none)(d:Addr)(aJ:List (KK×Value))(ep:Nat)(hd:(d==sysModules)=false)(hm:s.heap.DictAt knd d aJ ep)(hn:(aJ:)<=sizeLine)
  (hQ:∀s' acc,(∀b o,s.heap.get? b=some o->s'.heap.get? b=some o)->s'.gens=s.gens->s'.drawn=s.drawn->s'.os=s.os->ItemsOf (λi v=>∃k x,aJ[i]? =some (k,x)/\knd.is k v=true) acc (aJ:)->Q acc.toList s'):
  wpAny (model prog w) A (collect (.ref d)) Q E s:=by
 have hT:s.TypeIs (.ref d) "dict":=hm.dictOf.typeIs
 obtain ⟨od,Vw,aau⟩:=id hT
 have Vx:=Qay Vw
 unfold collect
 refine wpAny_bind (wpAny_runValue (codeAny_builtin PySem.F.entry_proto_collect ?_))
 rw[Around.under_plainId PySem.F.plain_proto_collect _]
 show wpAny _ A.in1 (newList [] >>= λl=>again (.builtin "list.__iadd__" ⟨[l,.ref d],[]⟩)) _ _ s
 refine wpAny_bind (wpAny_newObj_type ?_)
 refine wpAny_pure ⟨plainId_quiet PySem.F.plain_list_iadd _,codeAny_builtin PySem.F.entry_list_iadd ?_⟩
 rw[Around.under_plainId PySem.F.plain_list_iadd _]
 show wpAny _ A.in1 (Builtin.List.listExtendWith (.ref s.heap.objs.size) (.ref d) (.ref s.heap.objs.size)) _ _ _
 generalize hH:s.heap.push { cls:= .type "list",data:= .seq ([]:List Value).toArray }=H
 have YW:H.objs.size=s.heap.objs.size+1:=by rw[<-hH,Qdg]
 have OC:H.DictAt knd d aJ ep:=hm.at' λo e=>by rw[<-hH];exact Qac _ e
 have hT1:Shared.TypeIs { s with heap:=H } (.ref d) "dict":=OC.dictOf.typeIs
 have YX:s.heap.objs.size≠d:=Qd3 Vx
 unfold Builtin.List.listExtendWith
 refine wpAny_bind (wpAny_typeOf hT1 ?_)
 have h1:Builtin.List.listSameRef (.ref s.heap.objs.size) (.ref d)=false:=by simp[Builtin.List.listSameRef,YX]
 rw[if_neg (by rw[h1];decide)]
 refine wpAny_bind (wpAny_pyIter_dict (s:={ s with heap:=H }) hd OC ?_)
 show wpAny _ A.in1 _ _ _ { s with heap:=H.push { cls:= .type "dict_keyiterator",data:= .fields #[.ref d,.int 0 0,.int (aJ:) 0,.int ep 0] } }
 generalize Oj:H.push { cls:= .type "dict_keyiterator",data:= .fields #[.ref d,.int 0 0,.int (aJ:) 0,.int ep 0] }=H2
 have GJ:H2.DictAt knd d aJ ep:=OC.at' λo e=>by rw[<-Oj];exact Qac _ e
 have Lm:Shared.TypeIs { s with heap:=H2 } (.ref d) "dict":=GJ.dictOf.typeIs
 refine wpAny_bind (wpAny_holding ?_)
 unfold Builtin.List.listLengthHint
 refine wpAny_bind (wpAny_specialOf Lm z4 ?_)
 wp_delta
 refine wpAny_bind (wpAny_isInstance (T:="dict") (b:=true) Lm (by rw[isSubtype_type];kernel_rfl) ?_)
 show wpAny _ A.in1 (typeOf (Value.ref d) >>= _) _ _ _
 refine wpAny_bind (wpAny_typeOf Lm ?_)
 refine wpAny_pure ?_
 rw[if_pos ⋯]
 walk_at"J"
 refine wpAny_bind ?_
 unfold Builtin.List.listTouch
 have hS:H2.get? s.heap.objs.size=some { cls:= .type "list",data:= .seq ([]:List Value).toArray }:=by
  rw[<-Oj];exact Qac _ (by rw[<-hH];exact Qaq _ rfl)
 refine wpAny_bind (wpAny_updateSeq hS rfl ?_ (Qat _) (Qc1 (Qat _)))
 have hS2:=Qcs (Obj.mapSeq (λl:Array Value=>l.push .none)) hS rfl
 refine wpAny_updateSeq hS2 rfl ?_ (by show 1<=sizeLine;decide) (Qat _)
 have hS3:=Qcs (Obj.mapSeq (λl:Array Value=>l.pop)) hS2 rfl
 have YY:∀b o,b≠s.heap.objs.size->H2.get? b=some o->((H2.update s.heap.objs.size (Obj.mapSeq (λl:Array Value=>l.push .none))).update s.heap.objs.size (Obj.mapSeq (λl:Array Value=>l.pop))).get? b=some o:=λb o hb e=>
  (Qbc _ _ (Ne.symm hb)).trans ((Qbc _ _ (Ne.symm hb)).trans e)
 have hit:H2.get? H.objs.size=some { cls:= .type "dict_keyiterator",data:= .fields #[.ref d,.int 0 0,.int (aJ:) 0,.int ep 0] }:=by rw[<-Oj];exact Qaq _ rfl
 have hIS:H.objs.size≠s.heap.objs.size:=by rw[YW];exact Qe9 _
 have hdI:d≠H.objs.size:=by rw[YW];exact Qa0 (Qc9 Vx)
 have hSf:s.heap.objs.size∉[H.objs.size,d]:=λhmm=>by
  rcases Qab.mp hmm with z | z
  ·exact hIS z.symm
  ·exact YX (U0.mp z)
 refine wpAny_pure ⟨plainId_quiet PySem.F.plain_extend_loop _,codeAny_extend_loopS (Walks.dictKeys (knd:=knd) (A:=A.in1) hh H.objs.size d hdI aJ ep).toS hn _ hSf _ (aJ:) 0 _ _ _ rfl (Qat _)
  ⟨⟨_,YY _ _ hIS hit,rfl,rfl⟩,GJ.at' λo e=>YY d o (Ne.symm YX) e⟩ hS3 (ItemsOf.nil _) λs' fK c' Xn hS' xM=>?_⟩
 show wpAny _ A (load s.heap.objs.size >>= _) _ _ s'
 refine wpAny_bind (wpAny_load hS' ?_)
 refine wpAny_pure (hQ s' fK (λb ob e=>Xn.heap b ob (λhb=>?_) (YY b ob (Qa0 (Qay e)) (by rw[<-Oj];exact Qac _ (by rw[<-hH];exact Qac _ e)))) Xn.gens Xn.drawn Xn.os xM)
 have dZ:=Qay e
 rcases Qab.mp hb with h | h
 ·exact absurd dZ (h▸Qbx _)
 ·rw[U0.mp h,YW]at dZ;exact absurd dZ (Nat.not_lt.mpr (Qcx _))
end
section
variable{X:Cx}
theorem rR{aJ:List (Key×V)}{vs:List (Key×Value)}(h:KV aJ vs):vs.map (·.1)=aJ.map (·.1):=by
 induction h with
 | nil=>rfl
 | cons r _ ih=>rw[Qa2,Qa2,ih,r.1]
end
end L2
namespace XL
open PySem PySem.Spec PySem.Calls PyProof.Rows PySem.W
end XL
namespace L2
open PySem PySem.Spec PyProof.Rows XL
end L2
namespace PySem
open Sem (wp)
namespace F
end F
end PySem
namespace L2
open PySem PySem.Spec PyProof.Rows
end L2
namespace L2.F2
open PySem PySem.Spec PyProof.Rows
end L2.F2
namespace L2
open PySem PySem.Spec PyProof.Rows
section
variable{X:Cx}
theorem HX{i:Nat}(h:(i:Int)<2 ^ 63):Builtin.List.listFitsIndex (i:Int)=true:=by
 unfold Builtin.List.listFitsIndex
 rw[Qb9]
 exact ⟨decide_eq_true (),decide_eq_true ()⟩
inductive wH(x:V)(vs:List V)(H:Hp)(Q:VK):Prop
 | mk (l:Addr) (xs:List V) (i:Nat) (y:V) (_:x= .ref l) (_:vs=[.int i,y]) (_:H l=some (.lst xs)) (_:i<=(xs:)) (_:(xs:)<sizeLine) (_:Q .gk (upd H l (.lst (xs.take i++y::xs.drop i)))):wH x vs H Q
def Mj:V->List V->Hp->VK->Prop:=wH
theorem Ff:U1 X "list.insert" Mj:=by
 walk_at"H"
 obtain ⟨l,xs,i,y,rfl,rfl,hH,hi,hz,q⟩:=h
 cases rx
 obtain ⟨a,b,rfl,⟨t,rfl⟩,rb⟩:=vals2 rv
 walk_at"E"
 have hn:=gL
 have hf: ¬(!Builtin.List.listFitsIndex (i:Int))=true:=by rw[HX ()];decide
 have hsz:aN.toArray.size<=sizeLine:=by rw[Qaj];lia
 generalize hI:(i:Int)=I' at hf
 have hm:=PySem.AutoSeq1.list_insert_list_int_val_1 l aN.toArray n I' t b hf hsz
 refine call_meets F.slot_list_insert ⟨_,e,rfl⟩ F.entry_list_insert (F.args_list_insert_3 _ _ _) hm ⟨e,?_⟩
 clear hm
 refine ⟨.gk,_,I.Hi (its':=aN.take i++b::aN.drop i) hH e ?_ ?_ ?_,rfl,q⟩
 ·have e1:(if I'<0 then (I'+(aN.toArray.size:Int)).toNat else min I'.toNat aN.toArray.size)=i:=by rw[<-hI,if_neg (),Qap,Qaj];lia
  show ((aN.toArray.extract 0 (if I'<0 then (I'+(aN.toArray.size:Int)).toNat else min I'.toNat aN.toArray.size)).push b++aN.toArray.extract (if I'<0 then (I'+(aN.toArray.size:Int)).toNat else min I'.toNat aN.toArray.size))=_
  rw[e1]
  apply Qdr.mp
  simp
  exact Qa7 (by rw[Qav];exact Qaa _)
 ·have h1:Vals (xs.take i) (aN.take i):=r.take i
  exact h1.append (.cons rb (r.drop i))
 ·rw[kb,Qa4,Qad,Qav];lia
end
end L2
namespace L2
open PySem PySem.Spec PyProof.Rows PySem.W
end L2
namespace L2
open PySem PySem.Spec PyProof.Rows PySem.MeetsSeq PySem.SeqAt
end L2
namespace L2
open PySem PySem.Spec PyProof.Rows HT
variable{st:SortSt}{i:Nat}
section
variable{prog:Program}{w:World}{A:Around}{E:Value->Shared->Prop}{s:Shared}{κ:KeyKind}{a₀:Array Keyed}
theorem HY{arr:Array Keyed}{Q:Keyed->SortSt->Prop}(hi:i<arr.size)(h:∀p,p∈arr.toList->arr[i]? =some p->Q p st):wpS (model prog w) A E s (elem' arr i) Q st:=by
 have e:arr[i]? =some arr[i]:=getElem?_pos arr i hi
 rw[elem'_eq,e]
 exact wpS_pure (h _ (by simp) e)
end
theorem cT{M:Model}{A:Around}{E:Value->Shared->Prop}{s:Shared}{σ α:Type}{c:Prop}[Decidable c]{m1 m2:StateT σ Sem α}{Q:α->σ->Prop}{st:σ}(h1:c->wpS M A E s m1 Q st)(h2: ¬c->wpS M A E s m2 Q st):wpS M A E s (if c then m1 else m2) Q st:=by
 by_cases g:c
 ·rw[if_pos g];exact h1 g
 ·rw[if_neg g];exact h2 g
theorem lA{α:Type}{l:List α}{p:α}(h:l[i]? =some p):l.take (i+1)=l.take i++[p]:=by
 have:=P5.mp h
 rw[List.take_succ_eq_append_getElem this.1,this.2]
theorem DF{α:Type}{l:List α}{p:α}(h:l[i]? =some p):l.drop i=p::l.drop (i+1):=by
 have:=P5.mp h
 rw[Qb0 this.1,this.2]
structure pW(lt:Keyed->Keyed->Bool):Prop where
 Fg:∀p q,lt p q=true->lt q p=false
 tr:∀p q r,lt q p=false->lt r q=false->lt r p=false
def z5(prog:Program)(w:World)(A:Around)(E:Value->Shared->Prop)(s:Shared)(kd:SortKind)(lt:Keyed->Keyed->Bool)(a₀:Array Keyed):Prop:=
 ∀(st:SortSt) (p q:Keyed) (Q:Option Bool->SortSt->Prop),kindOf st=kd->p∈a₀.toList->q∈a₀.toList->Q (some (lt p q)) st->wpS (model prog w) A E s (lt' p q) Q st
variable{x y l:List Keyed}{j:Nat}
section
variable{lt:Keyed->Keyed->Bool}
def iO(lt:Keyed->Keyed->Bool)(l:List Keyed):Prop:=l.Pairwise λp q=>lt q p=false
theorem Fh{c:List Keyed}(h1:iO lt (x++y))(h2:iO lt (x++c))(h3:∀e∈c,∀f∈y,lt f e=false):iO lt (x++c++y):=by
 unfold iO at*
 rw[Qbd]at h1 h2 ⊢
 refine ⟨Qbd.mpr h2,h1.2.1,λe he f hf=>?_⟩
 rcases Qai.mp he with z | z
 ·exact h1.2.2 e z f hf
 ·exact h3 e z f hf
theorem HZ(h:iO lt (x++y)):iO lt x:=(Qbd.mp h).1
theorem Fi(h:iO lt (x++y)):iO lt y:=(Qbd.mp h).2.1
theorem H_(L:pW lt){p q:Keyed}(h:iO lt l)(hp:l[i]? =some p)(hq:lt p q=false):∀x∈l.drop i,lt x q=false:=λx hx=>by
 rw[DF hp]at hx
 rcases Qab.mp hx with z | z
 ·rw[z];exact hq
 ·have h2:iO lt (l.take i++p::l.drop (i+1)):=by rw[<-DF hp,Qaw];exact h
  exact L.tr q p x hq (Qeu (Fi h2) z)
theorem BV{p q:Keyed}(h:iO lt l)(Vy:i<j)(hp:l[i]? =some p)(hq:l[j]? =some q):lt q p=false:=by
 have h1:=P5.mp hp
 have h2:=P5.mp hq
 have:=(Qcc.mp h) i j h1.1 h2.1 Vy
 rwa [h1.2,h2.2]at this
theorem Si(L:pW lt)(p:Keyed):lt p p=false:=by
 cases e:lt p p with
 | false=>rfl
 | true=>have:=L.Fg p p e;rw[e]at this;cases this
theorem Qt(L:pW lt){p q:Keyed}(h:iO lt l)(Vy:i<=j)(hp:l[i]? =some p)(hq:l[j]? =some q):lt q p=false:=by
 rcases Nat.lt_or_eq_of_le Vy with z | z
 ·exact BV h z hp hq
 ·subst z;rw[hp]at hq;cases hq;exact Si L p
variable{a b out:Array Keyed}{ia ib k:Nat}{p q:Keyed}
end
section
variable{lt:Keyed->Keyed->Bool}
theorem z6(L:pW lt){p q:Keyed}(h:iO lt l)(hp:l[i]? =some p)(hq:lt q p=false):∀x∈l.take (i+1),lt q x=false:=λx hx=>by
 obtain ⟨j,hj⟩:=Qeh hx
 have h1:=(P5.mp hj).1
 rw[Qad]at h1
 rw[Qbq ()]at hj
 exact L.tr x p q (Qt L h () hj hp) hq
variable{a b out:Array Keyed}{na nb k:Nat}{p q:Keyed}
end
section
variable{lt:Keyed->Keyed->Bool}
theorem DG(hx:iO lt x)(hy:iO lt y)(h:∀e∈x,∀f∈y,lt f e=false):iO lt (x++y):=Qbd.mpr ⟨hx,hy,h⟩
theorem le_last(L:pW lt){y f:Keyed}(h:iO lt l)(h0:l[(l:) - 1]? =some y)(hf:lt f y=false):∀e∈l,lt f e=false:=λe he=>by
 have hl:=(P5.mp h0).1
 have:=z6 L h h0 hf
 rw[show (l:) - 1+1=(l:) by lia,Qbs]at this
 exact this e he
structure tL(kd:SortKind)(a₀:Array Keyed)(st:SortSt):Prop where
 perm:(arrOf st).Perm a₀
 kind:kindOf st=kd
 failed:failedOf st=none
theorem xU{α:Type}{pre l:List α}:(pre++l)[(pre:)+i]? =l[i]?:= by rw[Qa1 (),Nat.add_sub_cancel_left]
theorem pX{α:Type}{pre x post:List α}(h:i<(x:)):(pre++x++post)[(pre:)+i]? =x[i]?:= by
 rw[Qam,xU,Qbg h]
theorem tM{α:Type}{pre x post:List α}{arr:Array α}(e:arr.toList=pre++x++post):(mirror arr (pre:) ((pre:)+(x:)) (((pre:)+(x:) - (pre:)) / 2)).toList=pre++x.reverse++post:=by
 have hsz:arr.size=(pre:)+(x:)+(post:):=by rw[<-Qci,e];simp;lia
 refine Qd7 λk=>?_
 rw[Qbv,getElem?_mirror_all (i:=(pre:)) (j:=(pre:)+(x:)) () k]
 by_cases h:(pre:)<=k/\k<(pre:)+(x:)
 ·rw[if_pos h, <-Qbv,e]
  rw[Qbg (by rw[kb];lia),Qa1 ()]
  rw[Qbg (by rw[kb,Qas];lia),Qa1 (),Qdk ()]
  congr 1
  lia
 ·rw[if_neg h, <-Qbv,e]
  by_cases g:k<(pre:)
  ·rw[Qam,Qam,Qbg g,Qbg g]
  ·rw[Qa1 (by rw[kb];lia),Qa1 (by rw[kb,Qas];lia),kb,kb,Qas]
theorem Ia{α:Type}{pre x post:List α}{q:α}{arr:Array α}{l:Nat}(e:arr.toList=pre++x++q::post)(hl:l<=(x:)):(bubble arr ((pre:)+(x:)) ((pre:)+(x:) - ((pre:)+l))).toList=pre++(x.take l++q::x.drop l)++post:=by
 have hsz:arr.size=(pre:)+(x:)+((post:)+1):=by rw[<-Qci,e];simp;lia
 have hq:arr[(pre:)+(x:)]? =some q:=by
  rw[<-Qbv,e,Qa1 (by rw[kb];lia),kb,Qeo];rfl
 refine Qd7 λk=>?_
 rw[Qbv,getElem?_bubble () _ () k,show (pre:)+(x:) - ((pre:)+(x:) - ((pre:)+l))=(pre:)+l by lia]
 by_cases h1:k=(pre:)+l
 ·rw[if_pos h1,hq,h1]
  rw[pX (by simp;lia),Qa1 (by rw[Qad];lia),Qad,Qa8 hl,Qeo]
  rfl
 ·rw[if_neg h1]
  by_cases h2:(pre:)+l<k/\k<=(pre:)+(x:)
  ·rw[if_pos h2, <-Qbv,e]
   obtain ⟨j,rfl⟩:∃j,k=(pre:)+(l+1+j):=⟨k - (pre:) - l - 1,()⟩
   rw[show (pre:)+(l+1+j) - 1=(pre:)+(l+j) by lia,pX (),pX (by simp;lia),Qa1 (by rw[Qad];lia),Qad,Qa8 hl,show l+1+j - l=j+1 by lia,List.getElem?_cons_succ,Qce]
  ·rw[if_neg h2, <-Qbv,e]
   by_cases h3:k<(pre:)+l
   ·by_cases h4:k<(pre:)
    ·rw[Qam,Qam,Qbg h4,Qbg h4]
    ·obtain ⟨j,rfl⟩:∃j,k=(pre:)+j:=⟨k - (pre:),()⟩
     rw[pX (),pX (by simp;lia),Qbg (by rw[Qad];lia),Qbq ()]
   ·rw[Qa1 (by rw[kb];lia),Qa1 (by simp;lia)]
    simp only[kb,Qa4,Qad,Qav]
    rw[show k - ((pre:)+(x:))=k - ((pre:)+(x:)) - 1+1 by lia,List.getElem?_cons_succ]
    congr 1
    lia
end
variable{p q:Keyed}{pre:List Keyed}{n:Nat}
section
variable{prog:Program}{w:World}{A:Around}{E:Value->Shared->Prop}{s:Shared}{kd:SortKind}{lt:Keyed->Keyed->Bool}{a₀:Array Keyed}
theorem tL.size(h:tL kd a₀ st):(arrOf st).size=a₀.size:=h.perm.size_eq
theorem tL.mem(h:tL kd a₀ st)(hp:p∈(arrOf st).toList):p∈a₀.toList:=(Qca.mp h.perm).mem_iff.mp hp
theorem tL.set(h:tL kd a₀ st){xs:Array Keyed}(hp:xs.toList.Perm (arrOf st).toList):tL kd a₀ (setArr st xs):=⟨(Qca.mpr hp).trans h.perm,h.kind,h.failed⟩
theorem pY{Q:Option Bool->SortSt->Prop}(C:z5 prog w A E s kd lt a₀)(hB:tL kd a₀ st)(hi:(arrOf st).toList[i]? =some p)(hj:(arrOf st).toList[j]? =some q)(h:Q (some (lt p q)) st):wpS (model prog w) A E s (ltAt' i j) Q st:=by
 rw[ltAt'_eq]
 refine wpS_bind (wpS_get ?_)
 have li:=(P5.mp hi).1
 have lj:=(P5.mp hj).1
 rw[Qci]at li lj
 refine wpS_bind (HY (show i<(arrOf st).size from li) λp' hp ep=>wpS_bind (HY (show j<(arrOf st).size from lj) λq' hq eq=>?_))
 have e1:p'=p:=by rw[Qbv,ep]at hi;exact Qaz hi
 have e2:q'=q:=by rw[Qbv,eq]at hj;exact Qaz hj
 subst e1
 subst e2
 exact C _ _ _ _ hB.kind (hB.mem hp) (hB.mem hq) h
theorem Qu{rest:List Keyed}{Q:Bool->SortSt->Prop}(L:pW lt)(C:z5 prog w A E s kd lt a₀)(hB:tL kd a₀ st)(ea:(arrOf st).toList=pre++x++rest)(hx:x≠[])(sx:iO lt x)(hn:n<=(x:)+(rest:))(hxn:(x:)<=n)
  (h:∀cK z Vz,tL kd a₀ cK->pendingOf cK=pendingOf st->(arrOf cK).toList=pre++z++Vz->(z:)=n->iO lt z->Q true cK):wpS (model prog w) A E s (binarySort' (pre:) n (x:)) Q st:=by
 have lx:=Qah.mpr hx
 refine wpS_bind (wpS_mono (wpS_forRange (I:=λk c cK=>c=(none,Unit.unit)/\tL kd a₀ cK/\pendingOf cK=pendingOf st/\∃z r,(arrOf cK).toList=pre++z++r/\(z:)=k/\(z:)+(r:)=(x:)+(rest:)/\iO lt z) (Q:=λc cK=>c=(none,Unit.unit)/\tL kd a₀ cK/\pendingOf cK=pendingOf st/\∃z r,(arrOf cK).toList=pre++z++r/\(z:)=n/\iO lt z) ?_ ?_ ⟨rfl,hB,rfl,x,rest,ea,(),rfl,sx⟩) ?_)
 ·rintro k c fU hak hkn ⟨rfl,BW,e1,z,r,ez,VA,YZ,sz⟩
  obtain ⟨q,r',rfl⟩:∃q r',r=q::r':=by
   cases r with
   | nil=>simp at YZ;lia
   | cons q r'=>exact ⟨q,r',rfl⟩
  have atq:(arrOf fU).toList[(pre:)+k]? =some q:=by
   rw[ez, <-VA, <-kb,Qa1 (Qaa _),Qeo];rfl
  have atz:∀j,j<k->(arrOf fU).toList[(pre:)+j]? =z[j]?:= λj hj=>by rw[ez,pX ()]
  refine wpS_bind (wpS_mono (wpS_forRange (I:=λy c cK=>cK=fU/\∃l r,c=(none,l,r)/\l<=r/\r<=k/\r - l+y<=k/\(∀e∈z.take l,lt q e=false)/\(∀e∈z.drop r,lt e q=false)) (Q:=λc cK=>cK=fU/\∃l r,c=(none,l,r)/\l<=k/\(∀e∈z.take l,lt q e=false)/\(∀e∈z.drop l,lt e q=false)) ?_ ?_ ⟨rfl,0,k,rfl,(),(),(),by simp,λe he=>by rw[Qcf ()]at he;cases he⟩) ?_)
  ·rintro y c mQ _ hy ⟨rfl,l,r,rfl,b1,b2,b3,b4,b5⟩
   refine cT (λg=>?_) (λg=>?_)
   ·have g':l ≥ r:=g
    have:l=r:=by lia
    subst this
    exact wpS_pure ⟨rfl,l,l,rfl,b2,b4,b5⟩
   have g': ¬l ≥ r:=g
   have hm:(l+r) / 2<(z:):=by lia
   have em:=P4 hm
   refine wpS_bind (pY C BW atq (show (arrOf mQ).toList[(pre:)+(l+r) / 2]? =some z[(l+r) / 2] by rw[atz _ ()];exact em) ?_)
   cases e2:lt q z[(l+r) / 2] with
   | true=>exact wpS_pure ⟨rfl,l,(l+r) / 2,rfl,(),(),(),b4,H_ L sz em (L.Fg _ _ e2)⟩
   | false=>exact wpS_pure ⟨rfl,(l+r) / 2+1,r,rfl,(),b2,(),z6 L sz em e2,b5⟩
  ·rintro c mQ ⟨e,l,r,rfl,b1,b2,b3,b4,b5⟩
   have:l=r:=by lia
   subst this
   exact ⟨e,l,l,rfl,b2,b4,b5⟩
  ·rintro c mQ ⟨rfl,l,r,rfl,b2,b4,b5⟩
   have eb:=Ia (l:=l) ez ()
   rw[VA]at eb
   have hp:(bubble (arrOf mQ) ((pre:)+k) ((pre:)+k - ((pre:)+l))).toList.Perm (arrOf mQ).toList:=Qca.mp (bubble_perm _ _ _)
   refine wpS_bind (wpS_modify (wpS_pure ⟨rfl,BW.set hp,e1,z.take l++q::z.drop l,r',eb,?_,?_,?_⟩))
   ·rw[kb,Qa4,Qad,Qav];lia
   ·rw[kb,Qa4,Qad,Qav]
    rw[Qa4]at YZ
    lia
   ·have s1:iO lt (z.take l++z.drop l):=by rw[Qaw];exact sz
    have:=Fh (x:=z.take l) (c:=[q]) (y:=z.drop l) s1 (DG (HZ s1) (Qbt _ _) λe he f hf=>by rw[U0.mp hf];exact b4 e he) λe he f hf=>by rw[U0.mp he];exact b5 f hf
    rw[Qam]at this
    exact this
 ·rintro c fU ⟨e,BW,e1,z,r,ez,VA,YZ,sz⟩
  exact ⟨e,BW,e1,z,r,ez,(),sz⟩
 ·rintro c fU ⟨rfl,BW,e1,z,r,ez,VA,sz⟩
  exact wpS_pure (h fU z r BW e1 ez VA sz)
theorem z7(L:pW lt)(hs:iO lt (l.take n))(h1:1<=n)(hp:l[n - 1]? =some p)(hq:l[n]? =some q)(hle:lt q p=false):iO lt (l.take (n+1)):=by
 rw[lA hq]
 have hn:=(P5.mp hq).1
 refine DG hs (Qbt _ _) λe he f hf=>?_
 rw[U0.mp hf]
 have hlen:(l.take n:)=n:=by rw[Qad];lia
 exact le_last L hs (by rw[hlen,Qbq ()];exact hp) hle e he
def Fj(lt:Keyed->Keyed->Bool)(l:List Keyed):Prop:=l.Pairwise λp q=>lt p q=false
theorem Ml(h:Fj lt l):iO lt l.reverse:=List.pairwise_reverse.mpr h
theorem tN(L:pW lt)(hs:Fj lt (l.take n))(h1:1<=n)(hp:l[n - 1]? =some p)(hq:l[n]? =some q)(hle:lt p q=false):Fj lt (l.take (n+1)):=by
 rw[lA hq]
 have hn:=(P5.mp hq).1
 refine Qbd.mpr ⟨hs,Qbt _ _,λe he f hf=>?_⟩
 rw[U0.mp hf]
 obtain ⟨j,hj⟩:=Qeh he
 have hj1:=(P5.mp hj).1
 have hlen:(l.take n:)=n:=by rw[Qad];lia
 rcases Nat.lt_or_ge j (n - 1) with g | g
 ·have hpp:(l.take n)[n - 1]? =some p:=by rw[Qbq ()];exact hp
  have h2:=P5.mp hj
  have h3:=P5.mp hpp
  have:=(Qcc.mp hs) j (n - 1) h2.1 h3.1 g
  rw[h2.2,h3.2]at this
  exact L.tr q p e hle this
 ·have:j=n - 1:=by lia
  subst this
  rw[Qbq (),hp]at hj
  cases hj
  exact hle
theorem VB{P X:SortSt->Prop}{G:Prop}(f:(∀st,P st->X st)->G)(x:∀st,P st->X st):G:=f x
def Ln(lt:Keyed->Keyed->Bool)(l:List Keyed):Prop:=∀p∈l,∀q∈l,lt p q=false
theorem Ln.dsc(h:Ln lt l):Fj lt l:=Qcc.mpr λi j hi hj _=>h _ (Qbk hi) _ (Qbk hj)
theorem Ib{u v:List Keyed}(h:Fj lt (u++v))(hv:Ln lt v):Fj lt (u++v.reverse):=by
 obtain ⟨h1,_,h3⟩:=Qbd.mp h
 exact Qbd.mpr ⟨h1,Ln.dsc λp hp q hq=>hv p (Qbn.mp hp) q (Qbn.mp hq),λe he f hf=>h3 e he f (Qbn.mp hf)⟩
theorem pW.Si(L:pW lt)(p:Keyed):lt p p=false:=by
 cases h:lt p p with
 | false=>rfl
 | true=>rw[L.Fg _ _ h]at h;cases h
theorem rev_last{R:List Keyed}{x:Nat}(ea:(arrOf st).toList=pre++R)(hx:x<=R.length)(hn:n<=x)(d:Fj lt (R.take x))(al:Ln lt ((R.take x).drop (x - n))):
  ∃R',(mirror (arrOf st) ((pre:)+x - n) ((pre:)+x) (((pre:)+x - ((pre:)+x - n)) / 2)).toList=pre++R'/\R'.length=R.length/\Fj lt (R'.take x)/\(∀j,x<=j->R'[j]? =R[j]?)/\∀p∈R'.take x,p∈R.take x:=by
 have hlx:(R.take x:)=x:=by rw[Qad];lia
 have hu:((R.take x).take (x - n):)=x - n:=by rw[Qad,hlx];lia
 have hv:((R.take x).drop (x - n):)=n:=by rw[Qav,hlx];lia
 have e0:(arrOf st).toList=(pre++(R.take x).take (x - n))++(R.take x).drop (x - n)++R.drop x:=by
  rw[Qam pre,Qaw,Qam,Qaw];exact ea
 have er:=tM e0
 rw[kb,hu,hv,show (pre:)+(x - n)=(pre:)+x - n by lia,show (pre:)+x - n+n=(pre:)+x by lia]at er
 refine ⟨(R.take x).take (x - n)++((R.take x).drop (x - n)).reverse++R.drop x,by rw[er];simp only[Qam],?_,?_,λj hj=>?_,λp hp=>?_⟩
 ·rw[kb,kb,Qas,hu,hv,Qav];lia
 ·rw[Qdb (by rw[kb,Qas,hu,hv];lia),Qa7 (by rw[kb,Qas,hu,hv];lia)]
  exact Ib (by rw[Qaw];exact d) al
 ·rw[Qa1 (by rw[kb,Qas,hu,hv];lia),kb,Qas,hu,hv,Qce]
  congr 1
  lia
 ·rw[Qdb (by rw[kb,Qas,hu,hv];lia)]at hp
  have mU:=Qbi hp
  rcases Qai.mp mU with g | g
  ·exact Qbi g
  ·exact Qc2 (Qbn.mp g)
theorem Qv{rest:List Keyed}{Q:Option Nat->SortSt->Prop}(L:pW lt)(C:z5 prog w A E s kd lt a₀)(hB:tL kd a₀ st)(ea:(arrOf st).toList=pre++rest)(h1:1<=(rest:))
  (h:∀m cK x r,tL kd a₀ cK->pendingOf cK=pendingOf st->(arrOf cK).toList=pre++x++r->(x:)=m->1<=m->(x:)+(r:)=(rest:)->iO lt x->Q (some m) cK):wpS (model prog w) A E s (countRun' (pre:) (rest:)) Q st:=by
 have at_:∀j,(arrOf st).toList[(pre:)+j]? =rest[j]?:= λj=>by rw[ea,xU]
 have fin:∀n,1<=n->n<=(rest:)->iO lt (rest.take n)->Q (some n) st:=λn g1 g2 g3=>h n st (rest.take n) (rest.drop n) hB rfl (by rw[Qam,Qaw];exact ea) (by rw[Qad];lia) g1 (by rw[Qad,Qav];lia) g3
 refine wpS_bind (wpS_mono (wpS_forRange (I:=λx c cK=>cK=st/\c=(none,x)/\iO lt (rest.take x)) (Q:=λc cK=>cK=st/\∃n,c=(none,n)/\1<=n/\n<=(rest:)/\iO lt (rest.take n)/\(n=(rest:)\/∃p q,rest[n - 1]? =some p/\rest[n]? =some q/\lt q p=true)) ?_ ?_ ⟨rfl,rfl,?_⟩) ?_)
 ·rintro x c fU Xo hx ⟨rfl,rfl,sx⟩
  have e1:rest[x - 1]? =some rest[x - 1]:=P4 ()
  have e2:rest[x]? =some rest[x]:=P4 hx
  refine wpS_bind (pY C hB (show (arrOf fU).toList[(pre:)+x]? =some rest[x] by rw[at_];exact e2) (show (arrOf fU).toList[(pre:)+x - 1]? =some rest[x - 1] by rw[show (pre:)+x - 1=(pre:)+(x - 1) by lia,at_];exact e1) ?_)
  cases e3:lt rest[x] rest[x - 1] with
  | true=>exact wpS_pure ⟨rfl,x,rfl,Xo,(),sx,.inr ⟨_,_,e1,e2,e3⟩⟩
  | false=>exact wpS_pure ⟨rfl,rfl,z7 L sx Xo e1 e2 e3⟩
 ·rintro c fU ⟨e,rfl,sx⟩
  have em:max 1 (rest:)=(rest:):=by lia
  rw[em]at sx
  exact ⟨e,max 1 (rest:),rfl,(),(),by rw[em];exact sx,.inl em⟩
 ·rw[show rest.take 1=[rest[0]] by
   cases rest with
   | nil=>simp at h1
   | cons a r=>rfl]
  exact Qbt _ _
 ·rintro c fU ⟨rfl,n,rfl,Xp,ve,sn,hor⟩
  refine cT (λg=>wpS_pure (fin n Xp ve sn)) (λg=>?_)
  have g': ¬n=(rest:):=λe=>g (by simpa using e)
  obtain ⟨p,q,ep,eq,elt⟩:=hor.resolve_left g'
  have e0:rest[0]? =some rest[0]:=P4 ()
  have Ow:(rest.take n:)=n:=by rw[Qad];lia
  apply VB (P:=λcK=>∃R,tL kd a₀ cK/\pendingOf cK=pendingOf fU/\(arrOf cK).toList=pre++R/\R.length=(rest:)/\Fj lt (R.take (n+1)))
  ·intro key
   refine cT (λg2=>wpS_bind (pY C hB (show (arrOf fU).toList[(pre:)]? =some rest[0] by have:=at_ 0;rw[Qf3]at this;rw[this];exact e0) (show (arrOf fU).toList[(pre:)+n - 1]? =some p by rw[show (pre:)+n - 1=(pre:)+(n - 1) by lia,at_];exact ep) ?_)) (λg2=>?_)
   ·have g2':n>1:=g2
    cases z:lt rest[0] p with
    | true=>exact cT (λ_=>wpS_pure (fin n Xp ve sn)) (λz=>absurd rfl z)
    | false=>
     refine cT (λz=>absurd z Qax) (λ_=>?_)
     have low:∀e∈rest.take n,lt e rest[0]=false:=λe he=>by
      obtain ⟨j,hj⟩:=Qeh he
      rcases Nat.eq_zero_or_pos j with z0 | z0
      ·subst z0
       rw[Qbq (),e0]at hj
       cases hj
       exact L.Si _
      ·exact BV sn (i:=0) (j:=j) z0 (by rw[Qbq ()];exact e0) hj
     have high:∀e∈rest.take n,lt p e=false:=λe he=>by
      obtain ⟨j,hj⟩:=Qeh he
      have hjn:=(P5.mp hj).1
      rw[Ow]at hjn
      rcases Nat.lt_or_ge j (n - 1) with z1 | z1
      ·exact BV sn (i:=j) (j:=n - 1) z1 hj (by rw[Qbq ()];exact ep)
      ·have:j=n - 1:=by lia
       subst this
       rw[Qbq (),ep]at hj
       cases hj
       exact L.Si _
     have al:Ln lt (rest.take n):=λe he f hf=>L.tr f rest[0] e (L.tr f p rest[0] (high f hf) z) (low e he)
     have er:(mirror (arrOf fU) (pre:) ((pre:)+n) (((pre:)+n - (pre:)) / 2)).toList=pre++(rest.take n).reverse++rest.drop n:=by
      have:=tM (arr:=arrOf fU) (pre:=pre) (x:=rest.take n) (post:=rest.drop n) (by rw[Qam,Qaw];exact ea)
      rw[Ow]at this
      exact this
     have hp:(mirror (arrOf fU) (pre:) ((pre:)+n) (((pre:)+n - (pre:)) / 2)).toList.Perm (arrOf fU).toList:=Qca.mp (mirror_perm _ _ _ _)
     refine wpS_bind (wpS_reverse ?_)
     have Qw:=hB.set hp
     generalize e7:setArr fU (mirror (arrOf fU) (pre:) ((pre:)+n) (((pre:)+n - (pre:)) / 2))=mQ at Qw
     have Y0:(arrOf mQ).toList=pre++((rest.take n).reverse++rest.drop n):=by rw[<-e7, <-Qam];exact er
     have Y1:pendingOf mQ=pendingOf fU:=by rw[<-e7]
     refine key mQ ⟨_,Qw,Y1,Y0,by rw[kb,Qas,Ow,Qav];lia,?_⟩
     have hlr:(rest.take n).reverse.length=n:=by rw[Qas];exact Ow
     have t1:((rest.take n).reverse++rest.drop n).take (n+1)=(rest.take n).reverse++[q]:=by
      rw[List.take_append,Qa7 (),hlr,show n+1 - n=1 by lia]
      congr 1
      have:(rest.drop n)[0]? =some q:=by rw[Qce];exact eq
      cases hd:rest.drop n with
      | nil=>rw[hd]at this;cases this
      | cons a r=>rw[hd]at this;cases this;rfl
     rw[t1]
     refine Qbd.mpr ⟨Ln.dsc λe he f hf=>al e (Qbn.mp he) f (Qbn.mp hf),Qbt _ _,λe he f hf=>?_⟩
     rw[U0.mp hf]
     exact L.tr q rest[0] e (L.tr q p rest[0] (L.Fg _ _ elt) z) (low e (Qbn.mp he))
   ·have g2': ¬n>1:=g2
    refine key fU ⟨rest,hB,rfl,ea,rfl,?_⟩
    have en:n=1:=by lia
    subst en
    have d1:Fj lt (rest.take 1):=by
     rw[show rest.take 1=[rest[0]] by
      cases rest with
      | nil=>simp at h1
      | cons a r=>rfl]
     exact Qbt _ _
    exact tN L d1 (Qaa _) ep eq (L.Fg _ _ elt)
  ·rintro mQ ⟨R2,Qw,Y1,Y0,l2,d2⟩
   refine wpS_bind (wpS_lift (wpAny_rule ⟨rfl,?_⟩))
   have one:∀{R:List Keyed} {x:Nat},x<R.length->Ln lt ((R.take (x+1)).drop (x+1 - (0+1))):=λ{R x} hx p hp q hq=>by
    have e:(R.take (x+1)).drop (x+1 - (0+1))=[R[x]]:=by
     rw[lA (P4 hx),show x+1 - (0+1)=(R.take x:) by rw[Qad];lia,List.drop_left]
    rw[e]at hp hq
    rw[U0.mp hp,U0.mp hq]
    exact L.Si _
   refine wpS_bind (wpS_mono (wpS_forRange (I:=λx c cK=>∃R pZ,c=(none,x,pZ)/\tL kd a₀ cK/\pendingOf cK=pendingOf fU/\(arrOf cK).toList=pre++R/\R.length=(rest:)/\Fj lt (R.take x)/\pZ+1<=x/\Ln lt ((R.take x).drop (x - (pZ+1))))
    (Q:=λc cK=>∃R m pZ,c=(none,m,pZ)/\tL kd a₀ cK/\pendingOf cK=pendingOf fU/\(arrOf cK).toList=pre++R/\R.length=(rest:)/\n+1<=m/\m<=(rest:)/\Fj lt (R.take m)/\pZ+1<=m/\Ln lt ((R.take m).drop (m - (pZ+1)))) ?_ ?_ ⟨R2,0,rfl,Qw,Y1,Y0,l2,d2,(),one ()⟩) ?_)
   ·rintro x c vD hax hx ⟨R,pZ,rfl,Ic,Ie,Lo,l4,dx,da,al⟩
    have Y2:n+1<=x:=hax
    have Y3:x<R.length:=by lia
    have at4:∀j,(arrOf vD).toList[(pre:)+j]? =R[j]?:= λj=>by rw[Lo,xU]
    have e1:R[x - 1]? =some (R[x - 1]'()):=P4 ()
    have e2:R[x]? =some R[x]:=P4 Y3
    have a1:(arrOf vD).toList[(pre:)+x]? =some R[x]:=by rw[at4];exact e2
    have a2:(arrOf vD).toList[(pre:)+x - 1]? =some (R[x - 1]'()):=by rw[show (pre:)+x - 1=(pre:)+(x - 1) by lia,at4];exact e1
    refine wpS_bind (pY C Ic a1 a2 ?_)
    cases e3:lt R[x] (R[x - 1]'()) with
    | true=>
     have dn:=tN L dx () e1 e2 (L.Fg _ _ e3)
     refine cT (λ_=>?_) (λz=>absurd rfl z)
     refine cT (λz=>?_) (λ_=>wpS_pure ⟨R,0,rfl,Ic,Ie,Lo,l4,dn,(),one Y3⟩)
     obtain ⟨R',er,lr,dr,ar,mr⟩:=rev_last (st:=vD) Lo () da dx al
     have hp:(mirror (arrOf vD) ((pre:)+x - (pZ+1)) ((pre:)+x) (((pre:)+x - ((pre:)+x - (pZ+1))) / 2)).toList.Perm (arrOf vD).toList:=Qca.mp (mirror_perm _ _ _ _)
     refine wpS_bind (wpS_reverse (wpS_pure ?_))
     have Y4:x<R'.length:=by lia
     refine ⟨R',0,rfl,Ic.set hp,Ie,er,(),?_,(),one Y4⟩
     rw[lA (show R'[x]? =some R[x] by rw[ar x (Qaa _)];exact e2)]
     refine Qbd.mpr ⟨dr,Qbt _ _,λe he f hf=>?_⟩
     rw[U0.mp hf]
     rw[lA e2]at dn
     exact (Qbd.mp dn).2.2 e (mr e he) _ (U0.mpr rfl)
    | false=>
     refine cT (λz=>absurd z Qax) (λ_=>?_)
     refine wpS_bind (pY C Ic a2 a1 ?_)
     cases e4:lt (R[x - 1]'()) R[x] with
     | true=>exact cT (λ_=>wpS_pure ⟨R,x,pZ,rfl,Ic,Ie,Lo,l4,Y2,(),dx,da,al⟩) (λz=>absurd rfl z)
     | false=>
      refine cT (λz=>absurd z Qax) (λ_=>wpS_pure ⟨R,pZ+1,rfl,Ic,Ie,Lo,l4,tN L dx () e1 e2 e4,(),?_⟩)
      have hl:(R.take x:)=x:=by rw[Qad];lia
      have et:(R.take (x+1)).drop (x+1 - (pZ+1+1))=(R.take x).drop (x - (pZ+1))++[R[x]]:=by
       rw[lA e2,show x+1 - (pZ+1+1)=x - (pZ+1) by lia,List.drop_append_of_le_length ()]
      have OD:(R[x - 1]'())∈(R.take x).drop (x - (pZ+1)):=by
       refine Qaf (i:=pZ) ?_
       rw[Qce,Qbq (),show x - (pZ+1)+pZ=x - 1 by lia]
       exact e1
      rw[et]
      intro e he f hf
      rcases Qai.mp he with ge | ge
      ·rcases Qai.mp hf with gf | gf
       ·exact al e ge f gf
       ·rw[U0.mp gf]
        exact L.tr _ _ _ e4 (al e ge _ OD)
      ·rw[U0.mp ge]
       rcases Qai.mp hf with gf | gf
       ·exact L.tr _ _ _ (al _ OD f gf) e3
       ·rw[U0.mp gf];exact L.Si _
   ·rintro c vD ⟨R,pZ,rfl,Ic,Ie,Lo,l4,dx,da,al⟩
    have em:max (n+1) (rest:)=(rest:):=by lia
    exact ⟨R,max (n+1) (rest:),pZ,rfl,Ic,Ie,Lo,l4,(),(),dx,da,al⟩
   ·rintro c vD ⟨R,m,pZ,rfl,Ic,Ie,Lo,l4,OC,GJ,dm,da,al⟩
    apply VB (P:=λcK=>∃R,tL kd a₀ cK/\pendingOf cK=pendingOf fU/\(arrOf cK).toList=pre++R/\R.length=(rest:)/\Fj lt (R.take m))
    ·intro key
     refine cT (λz=>?_) (λ_=>key vD ⟨R,Ic,Ie,Lo,l4,dm⟩)
     obtain ⟨R',er,lr,dr,_,_⟩:=rev_last (st:=vD) Lo () da dm al
     have hp:(mirror (arrOf vD) ((pre:)+m - (pZ+1)) ((pre:)+m) (((pre:)+m - ((pre:)+m - (pZ+1))) / 2)).toList.Perm (arrOf vD).toList:=Qca.mp (mirror_perm _ _ _ _)
     refine wpS_bind (wpS_reverse ?_)
     have hB5:=Ic.set hp
     generalize e7:setArr vD (mirror (arrOf vD) ((pre:)+m - (pZ+1)) ((pre:)+m) (((pre:)+m - ((pre:)+m - (pZ+1))) / 2))=GG at hB5
     exact key GG ⟨R',hB5,by rw[<-e7];exact Ie,by rw[<-e7];exact er,(),dr⟩
    ·rintro vD ⟨iP,hB,Ie,ea,l4,dm⟩
     have hlm:(iP.take m:)=m:=by rw[Qad];lia
     have er:(mirror (arrOf vD) (pre:) ((pre:)+m) (((pre:)+m - (pre:)) / 2)).toList=pre++(iP.take m).reverse++iP.drop m:=by
      have:=tM (arr:=arrOf vD) (pre:=pre) (x:=iP.take m) (post:=iP.drop m) (by rw[Qam,Qaw];exact ea)
      rw[hlm]at this
      exact this
     have hp:(mirror (arrOf vD) (pre:) ((pre:)+m) (((pre:)+m - (pre:)) / 2)).toList.Perm (arrOf vD).toList:=Qca.mp (mirror_perm _ _ _ _)
     refine wpS_bind (wpS_reverse ?_)
     have Y5:=hB.set hp
     generalize e7:setArr vD (mirror (arrOf vD) (pre:) ((pre:)+m) (((pre:)+m - (pre:)) / 2))=VC at Y5
     have Y6:(arrOf VC).toList=pre++((iP.take m).reverse++iP.drop m):=by rw[<-e7, <-Qam];exact er
     have ep7:pendingOf VC=pendingOf fU:=by rw[<-e7];exact Ie
     have s7:iO lt (((iP.take m).reverse++iP.drop m).take m):=by
      rw[Qdb (by rw[Qas];lia),Qa7 (by rw[Qas];lia)]
      exact Ml dm
     have l7:((iP.take m).reverse++iP.drop m:)=(rest:):=by rw[kb,Qas,Qad,Qav];lia
     generalize (iP.take m).reverse++iP.drop m=R at Y6 s7 l7
     have at7:∀j,(arrOf VC).toList[(pre:)+j]? =R[j]?:= λj=>by rw[Y6,xU]
     refine wpS_bind (wpS_mono (wpS_forRange (I:=λx c cK=>cK=VC/\c=(none,x)/\iO lt (R.take x)) (Q:=λc cK=>cK=VC/\∃k,c=(none,k)/\1<=k/\k<=(rest:)/\iO lt (R.take k)) ?_ ?_ ⟨rfl,rfl,s7⟩) ?_)
     ·rintro x c VD Xo hx ⟨rfl,rfl,sx⟩
      have aax:m<=x:=Xo
      have e1:R[x - 1]? =some (R[x - 1]'()):=P4 ()
      have e2:R[x]? =some (R[x]'()):=P4 ()
      refine wpS_bind (pY C Y5 (show (arrOf VD).toList[(pre:)+x]? =some (R[x]'()) by rw[at7];exact e2) (show (arrOf VD).toList[(pre:)+x - 1]? =some (R[x - 1]'()) by rw[show (pre:)+x - 1=(pre:)+(x - 1) by lia,at7];exact e1) ?_)
      cases e3:lt (R[x]'()) (R[x - 1]'()) with
      | true=>exact wpS_pure ⟨rfl,x,rfl,(),(),sx⟩
      | false=>exact wpS_pure ⟨rfl,rfl,z7 L sx () e1 e2 e3⟩
     ·rintro c VD ⟨e,rfl,sx⟩
      exact ⟨e,max m (rest:),rfl,(),(),sx⟩
     ·rintro c VD ⟨rfl,k,rfl,Y7,Dy,sk⟩
      exact wpS_pure (h k VD (R.take k) (R.drop k) Y5 ep7 (by rw[Qam,Qaw];exact Y6) (by rw[Qad];lia) Y7 (by rw[Qad,Qav];lia) sk)
end
theorem xV:∀a b c:List Int,bZ b a=false->bZ c b=false->bZ c a=false
 | [],[],[],_,_=>rfl
 | [],[],_::_,_,h=>h
 | [],_::_,[],_,_=>rfl
 | [],_::_,_::_,_,_=>rfl
 | _::_,[],_,h,_=>by cases h
 | _::_,_::_,[],_,h=>by cases h
 | x::a,y::b,z::c,h,g=>by
  have h':(if y=x then bZ b a else decide (y<x))=false:=h
  have g':(if z=y then bZ c b else decide (z<y))=false:=g
  show (if z=x then bZ c a else decide (z<x))=false
  by_cases e1:y=x
  ·rw[if_pos e1]at h'
   by_cases e2:z=y
   ·rw[if_pos e2]at g'
    rw[if_pos (e2.trans e1)]
    exact xV a b c h' g'
   ·rw[if_neg e2]at g'
    rw[if_neg λw=>e2 (w.trans e1.symm), <-e1]
    exact g'
  ·rw[if_neg e1]at h'
   have q1:=of_decide_eq_false h'
   by_cases e2:z=y
   ·rw[if_neg λw=>e1 (e2.symm.trans w),e2];exact h'
   ·rw[if_neg e2]at g'
    have q2:=of_decide_eq_false g'
    rw[if_neg ()]
    exact decide_eq_false ()
section
variable{X:Cx}{e st:Expr}{te:TE}{ts:TO}{pos p2:Pos}
theorem Fl(l:c5)(t tk:Tok):sliceMade (S l) t none none (some (-1,tk))= .str (S l.reverse):=by
 unfold sliceMade
 rw[if_neg (by simp)]
 have e:slicePicked (S l) none none (some (-1,tk))=(List.range (S l).cps.size).reverse:=by
  rw[<-PySem.W.krv_range, <-PySem.W.krv_sliceRange]
  rfl
 rw[e,List.filterMap_reverse,PySem.W.krv_all,cf]
 rfl
def VE(te:TE)(ts:TO):TE:=λσ H Q=>te σ H λx H1=>ts σ H1 λo H2=>o=some (-1)/\∃l,x= .str (S l)/\(l:)<=sizeLine/\Q (.str (S l.reverse)) H2
theorem Mm(he:PE X e te)(hs:PO X (some st) ts):PE X (.Subscript e (.Slice none none (some st) p2) pos) (VE te ts):=by
 walk_at"e"
 refine Subscript_ (cE (he pins s σ H _ I h) λv s1 ⟨x,H1,I1,r1,q1⟩=>?_)
 refine wpAny_Slice ?_
 rw[evalPart_none]
 refine wpAny_pure (wpAny_pure (cE (hs pins s1 σ H1 _ I1 q1) λvk s3 ⟨o,H3,I3,pk,eo,l,ex,hz,q3⟩=>?_))
 subst eo ex
 walk_at"Q"
 cases pk with
 | int i tk=>
 have I4:Inv X pins σ H3 { s3 with heap:=s3.heap.push { cls:= .type "slice",data:= .fields #[.none,.none,.int (-1) tk] } }:=I3.kept (t':=s3.toks) λb ob q=>Qac _ q
 show wpAny (model X.prog X.w) X.A (subscriptTail e (.Slice none none (some st) p2) (.str (S l) t) (.ref s3.heap.objs.size)) (EP X pins σ Q) X.xe { s3 with heap:=s3.heap.push { cls:= .type "slice",data:= .fields #[.none,.none,.int (-1) tk] } }
 refine tail_any (ops:=[.str (S l) t,.ref s3.heap.objs.size]) (typeIs_str _ _ _) F.slot_str_getitem.lookup (wpAny_getItem_str_slice (l:=none) (u:=none) (st:=some (-1,tk)) ⟨_,Qaq _ rfl,rfl,rfl⟩ rfl ?_) (by with_unfolding_all rfl)
 rw[Fl]
 refine ⟨by rw[dJ,Qas];exact hz,?_⟩
 exact ⟨.str (S l.reverse),H3,I4.tok _,⟨_,rfl⟩,q3⟩
end
end L2
namespace PySem
open PySem.Spec PyProof.Rows
end PySem
namespace L2
open PySem PySem.Spec PyProof.Rows
section
variable{X:Cx}{K:c6}{CX:EY}{k1 k2:Nat}{f1 f2:Addr}{fd1 fd2:FuncData}{ps1 ps2:List Str}{Xq Xr:Sp}{E:XK}{x f:Str}{p pos pos':Pos}{e o value:Expr}{es:List Expr}{ta tv:TE}{t:TA}
theorem bW(K:c6)(hK:X.K=K)(he:PE X e ta)(hb:attributeBase e f X.env (eval e X.env)=eval e X.env):PE X (.Attribute e f pos) (UM K ta f):=by subst hK;exact PB he hb
def Ig(f1 f2:Addr)(Xq Xr:Sp)(E:XK)(ta:TE)(t:TA):TE:=λσ H Q=>ta σ H λv H1=>(v= .ref f1/\t σ H1 λvs H2=>Xq vs H2 Q E)\/(v= .ref f2/\t σ H1 λvs H2=>Xr vs H2 Q E)
theorem nV(hf:PE X (.Name x p) ta)(F1:bD X.prog X.w X.K X.mg X.base CX k1 f1 fd1 ps1 Xq)(Lp:c_ k1 X.A)(Y7:PySem.W.keepIn X.K (.ref f1)=true)(Lq:Binds X.K fd1 ps1 [])(F2:bD X.prog X.w X.K X.mg X.base CX k2 f2 fd2 ps2 Xr)(Mn:c_ k2 X.A)(Dy:PySem.W.keepIn X.K (.ref f2)=true)(vC:Binds X.K fd2 ps2 [])(hx:Passes CX X E)
  (ha:PA X (e::es) t) (he:starEach (e::es) X.env=(false,eval e X.env)::starEach es X.env:=by rfl) (nk:(backTo pos (starEach es X.env)).any (·.1)=false:=by rfl):
  PE X (.Call (.Name x p) (e::es) [] pos) (Ig f1 f2 Xq Xr E ta t):=by
 walk_at"e"
 refine wpAny_Call_Name_kw (cE (hf pins s σ H _ I h) λu s1 ⟨v,H1,I1,r,q⟩=>?_)
 rcases q with ⟨rfl,q⟩ | ⟨rfl,q⟩
 ·obtain rfl:u=Value.ref f1:=r
  refine Qeq (h₀:=X.base) I1.ok.mod.R_ Y7 (cE (ha pos pins s1 σ H1 _ I1 q) λus s2 ⟨vs,H2,I2,r2,q2⟩=>⟨I2.Bg,?_⟩) he nk
  exact Bu (dvs:=[]) (ds:=[]) F1 Lp Lq .nil hx I2 r2 (by rw[Qa9];exact q2)
 ·obtain rfl:u=Value.ref f2:=r
  refine Qeq (h₀:=X.base) I1.ok.mod.R_ Dy (cE (ha pos pins s1 σ H1 _ I1 q) λus s2 ⟨vs,H2,I2,r2,q2⟩=>⟨I2.Bg,?_⟩) he nk
  exact Bu (dvs:=[]) (ds:=[]) F2 Mn vC .nil hx I2 r2 (by rw[Qa9];exact q2)
end
variable{s:Shared}{Q:Value->Shared->Prop}
section
variable{prog:Program}{w:World}{A:Around}{E:Value->Shared->Prop}{R:Result->Shared->Prop}{I S:Addr}{fp wr:List Addr}{n:Nat}{P:Nat->Value->Prop}{St:Nat->Heap->Prop}{kw:List (Str×Value)}{bt:Nat->Nat->Bool}
theorem DH:(toString "max"++toString ".loop":String)="max.loop":=∅
theorem VF(W:Walks prog w A.in1 I fp wr n P St)(cm:CmpOf prog w A.in1 .Gt P bt)(sf:S∉fp):∀(m j:Nat) (s:Shared) (b:Value) (c:Nat),n=j+1+m->St (j+1) s.heap->P (argBest bt j) b->s.heap.get? S=some { cls:= .type "list",dict:=none,data:= .seq #[b,b] c,slots:= #[] }->
  (∀v h' tk,P (argBest bt (n - 1)) v->(∀a o,a∉wr->a≠S->s.heap.get? a=some o->h'.get? a=some o)->R (.ok (.ret v)) { s with heap:=h',toks:=tk })->
  codeAny (model prog w) A (.builtin "max.loop" ⟨[.ref I,.none,.ref S],kw⟩) R s:=by
 have sw:S∉wr:=λz=>sf (W.sub _ z)
 intro m
 induction m with
 | zero=>
  intro j s b c en qJ hb hS hR
  have e1:n=j+1:=en
  subst e1
  refine codeAny_builtin Qfh ?_
  rw[Around.under_plainId Qcw _]
  refine wpAny_bind (m:=seqItems? (.ref S)) (wpAny_seqItems hS rfl ?_)
  refine wpAny_bind (m:=tryCatch (pyNext (.ref I)) _) (wpAny_tryCatch (W.done s _ _ qJ λh1 tk k1=>?_))
  refine wpAny_bind (m:=updateSeq S λ_=> #[]) (wpAny_updateSeq (k1 S _ sw hS) rfl (wpAny_bind (wpAny_letGo (wpAny_pure ?_))))
  exact hR b _ tk hb λa o aw aS ea=>(Qbc _ _ (Ne.symm aS)).trans (k1 a o aw ea)
 | succ m ih=>
  intro j s b c en qJ hb hS hR
  refine codeAny_builtin Qfh ?_
  rw[Around.under_plainId Qcw _]
  refine wpAny_bind (m:=seqItems? (.ref S)) (wpAny_seqItems hS rfl ?_)
  refine wpAny_bind (m:=tryCatch (pyNext (.ref I)) _) (wpAny_tryCatch (W.item (j+1) s _ _ () qJ λv h1 tk pv fU k1=>?_))
  have Sj:=k1 S _ sw hS
  refine wpAny_bind (m:=tryCatch (holding [v,v] (richCompare .Gt v b >>= _)) _) (wpAny_tryCatch (wpAny_holding (wpAny_bind (cm (j+1) (argBest bt j) v b _ _ _ pv hb (wpAny_bind (wpAny_holding (wpAny_truthy_bool (wpAny_bind (wpAny_letGo (wpAny_pure ?_))))))))))
  cases q:bt (j+1) (argBest bt j)
  ·rw[if_neg ∅]
   refine wpAny_bind (wpAny_letGo ?_)
   rw[DH]
   refine wpAny_pure ⟨plainId_quiet Qcw _,ih (j+1) _ b c () fU (by rw[argBest,q];exact hb) Sj λv' h2 VG p2 k2=>?_⟩
   exact hR v' h2 VG p2 λa o aw aS ea=>k2 a o aw aS (k1 a o aw ea)
  ·rw[if_pos rfl]
   refine wpAny_bind (wpAny_updateSeq Sj rfl (wpAny_bind (wpAny_letGo ?_)))
   rw[DH]
   refine wpAny_pure ⟨plainId_quiet Qcw _,ih (j+1) _ v _ () (W.frame _ _ _ fU λa af o ea=>?_) (by rw[argBest,q];exact pv) (Qcs _ Sj rfl) λv' h2 VG p2 k2=>?_⟩
   ·exact (Qbc _ _ (λz:S=a=>sf (z▸af))).trans ea
   ·exact hR v' h2 VG p2 λa o aw aS ea=>k2 a o aw aS ((Qbc _ _ (Ne.symm aS)).trans (k1 a o aw ea))
theorem VH(a d:Value):argsOk "max" ⟨[a],[(Str.ofString "default",d)]⟩:=by unfold argsOk;kernel_rfl
theorem Mo{x d:Value}
  (h:wpAny (model prog w) A.in1 (pyIter x) (λit s₂=>∃I fp wr n P St bt,it= .ref I/\Walks prog w A.in1 I fp wr n P St/\St 0 s₂.heap/\(∀b∈fp,b<s₂.heap.objs.size)/\CmpOf prog w A.in1 .Gt P bt/\
   ∀v h' tk,(n=0->v=d)->(0<n->P (argBest bt (n - 1)) v)->(∀b o,b∉wr->s₂.heap.get? b=some o->h'.get? b=some o)->Q v { s₂ with heap:=h',toks:=tk }) E s):
  wpAny (model prog w) A (call (.builtin "max") [x] [(Str.ofString "default",d)]) Q E s:=by
 refine kmk_tree PySem.F.kind_max PySem.F.plain_max PySem.F.entry_max (VH x d) ?_
 refine wpAny_bind (m:=Builtin.Builtins.bindParams "max" ["key","default"] 0 ⟨[],[(Str.ofString "default",d)]⟩) (wpAny_of_eq (a:=[none,some d]) rfl ?_)
 refine wpAny_bind (wpAny_pure (wpAny_bind (wpAny_mono h (λit s2 h2=>?_) λ_ _ e=>e)))
 obtain ⟨I,fp,wr,n,P,St,bt,rfl,W,qJ,hfp,cm,hQ⟩:=h2
 refine wpAny_bind (wpAny_newObj_type ?_)
 have sf:s2.heap.objs.size∉fp:=λz=>Qbx _ (hfp _ z)
 have sw:s2.heap.objs.size∉wr:=λz=>sf (W.sub _ z)
 have hS:(s2.heap.push { cls:= .type "list",data:= .seq #[] }).get? s2.heap.objs.size=some { cls:= .type "list",dict:=none,data:= .seq #[] 0,slots:= #[] }:=Qaq _ rfl
 have VI:=W.frame _ _ (s2.heap.push { cls:= .type "list",data:= .seq #[] }) qJ λb _ o e=>Qac _ e
 have lo:∀{b o},s2.heap.get? b=some o->b≠s2.heap.objs.size:=λe=>Qa0 (Qay e)
 rw[DH]
 refine wpAny_pure ⟨plainId_quiet Qcw _,codeAny_builtin Qfh ?_⟩
 rw[Around.under_plainId Qcw _]
 refine wpAny_bind (m:=seqItems? (.ref s2.heap.objs.size)) (wpAny_seqItems hS rfl ?_)
 cases n with
 | zero=>
  refine wpAny_bind (m:=tryCatch (pyNext (.ref I)) _) (wpAny_tryCatch (W.done _ _ _ VI λh1 tk k1=>?_))
  walk_at"J"
  refine wpAny_pure (hQ d h1 tk (λ_=>rfl) (λz=>absurd z (Qbx _)) λb o bw e=>k1 b o bw (Qac _ e))
 | succ m=>
  refine wpAny_bind (m:=tryCatch (pyNext (.ref I)) _) (wpAny_tryCatch (W.item 0 _ _ _ (Nat.succ_pos _) VI λv h1 tk pv fU k1=>?_))
  have Sj:=k1 _ _ sw hS
  refine wpAny_bind (m:=updateSeq s2.heap.objs.size λ_=> #[v,v]) (wpAny_updateSeq Sj rfl ?_)
  rw[DH]
  refine wpAny_pure ⟨plainId_quiet Qcw _,VF W cm sf m 0 _ v _ () (W.frame _ _ _ fU λa af o ea=>?_) pv (Qcs _ Sj rfl) λv' h2 VG p2 k2=>?_⟩
  ·exact (Qbc _ _ (λz:s2.heap.objs.size=a=>sf (z▸af))).trans ea
  ·exact hQ v' h2 VG (λz=>by lia) (λ_=>p2) λb o bw e=>k2 b o bw (lo e) ((Qbc _ _ (Ne.symm (lo e))).trans (k1 b o bw (Qac _ e)))
end
noncomputable def Qx(d:Int):List Int->Int
 | []=>d
 | a::r=>r.foldl (λx y=>if y>x then y else x) a
noncomputable def f_(l:List Int)(i j:Nat):Bool:=decide (l.getD i 0>l.getD j 0)
theorem nW(l:List Int):∀n:Nat,n<(l:)->l.getD (argBest (f_ l) n) 0=((l.drop 1).take n).foldl (λx y=>if y>x then y else x) (l.getD 0 0)
 | 0,_=>by simp[argBest]
 | n+1,h=>by
  have ih:=nW l n ()
  have e:(l.drop 1).take (n+1)=(l.drop 1).take n++[l.getD (n+1) 0]:=by
   rw[Qew,Qce,show 1+n=n+1 by lia,Qak,P4 h]
   rfl
  rw[e,Qe1, <-ih]
  show l.getD (if f_ l (n+1) (argBest (f_ l) n)=true then n+1 else argBest (f_ l) n) 0=if l.getD (n+1) 0>l.getD (argBest (f_ l) n) 0 then l.getD (n+1) 0 else l.getD (argBest (f_ l) n) 0
  by_cases z:l.getD (n+1) 0>l.getD (argBest (f_ l) n) 0
  ·rw[if_pos (show f_ l (n+1) (argBest (f_ l) n)=true from decide_eq_true z),if_pos z]
  ·rw[if_neg (show ¬f_ l (n+1) (argBest (f_ l) n)=true from λw=>z (of_decide_eq_true w)),if_neg z]
variable{e:Expr}{pos:Pos}
section
variable{X:Cx}
theorem Ih{prog:Program}{w:World}{A:Around}{l:List Int}{aN:List Value}(r:Vals (l.map V.int) aN):CmpOf prog w A .Gt (λi v=>aN.toArray[i]? =some v) (f_ l):=by
 intro i j vi vj s Q E hi hj hQ
 have get:∀{i:Nat} {v:Value},aN.toArray[i]? =some v->∃t,v= .int (l.getD i 0) t:=by
  intro i v h
  have h':aN[i]? =some v:=by simpa using h
  have hl:i<(l:):=by have:=(P5.mp h').1;rw[<-(r:),Xi]at this;exact this
  obtain ⟨u,hu,ru⟩:=r.get (i:=i) (x:=V.int (l.getD i 0)) (by rw[Qau,Qak,P4 hl];rfl)
  rw[h']at hu;cases hu
  exact ru
 obtain ⟨t,rfl⟩:=get hi
 obtain ⟨u,rfl⟩:=get hj
 exact gt_int hQ
def VJ(K:c6)(d:Int)(t:TA):TE:=λσ H Q=>t σ H λvs H1=>∃(p:Addr) (l:List Int),vs=[.ref p]/\bu K H1 p (l.map V.int)/\Q (.int (Qx d l)) H1
theorem Mp{t:TA}{d:Int}{j:Nat}{kp cp p:Pos}(K:c6)(hK:X.K=K)(hc:X.calm=true)(hg:Gl X "max")(hm:X.mg "max"=none)(ha:PA X [e] t)
  (he:backTo pos (starEach [e] X.env)=[(false,eval e X.env)]:=by rfl):PE X (.Call (.Name "max" p) [e] [⟨some "default", .Constant (.int d) j cp,kp⟩] pos) (VJ K d t):=by
 subst hK
 walk_at"e"
 refine wpAny_Call_Name_kw (il I hg hm boot_max ?_)
 refine callWith_kw (cE (ha pos pins s σ H _ I h) λus s1 ⟨vs,H1,I1,r1,q1⟩=>?_) he (by rw[he];rfl)
 obtain ⟨a,l,rfl,hq,q⟩:=q1
 obtain ⟨u,rfl,ru⟩:=vals1 r1
 cases ru
 refine kws_cons (wpAny_Constant_int (kws_nil ?_))
 obtain ⟨aN,rv,pl,hz⟩:=I1.list hq
 have hlen:(aN:)=(l:):=by rw[<-(rv:),Xi]
 have hp:a<s1.heap.objs.size:=by
  obtain ⟨o,n,e,_⟩:=pl
  exact Qay e
 refine Mo (wpAny_pyIter_list pl.isList ?_)
 refine ⟨_,_,_,_,_,_,f_ l,rfl,Walks.list (A:=X.A.in1) (I1.ok.hd hc) s1.heap.objs.size a (Qa0 hp) aN.toArray,⟨⟨_,Qaq _ rfl,rfl,rfl⟩,?_⟩,λb hb=>?_,Ih rv,λv h' tk h0 h1 hk=>?_⟩
 ·obtain ⟨o,ho,hr⟩:=pl.isList
  exact ⟨o,Qac _ ho,hr⟩
 ·show b<(s1.heap.push _).objs.size
  rw[Qdg]
  exact (Qab.mp hb).elim (λz=>z▸Qcu _) λz=>(U0.mp z)▸Qc9 hp
 ·have ru:RelV (.int (Qx d l)) v:=by
   cases l with
   | nil=>
    have:=h0 (by rw[Qaj,hlen];rfl)
    subst this
    exact ⟨_,rfl⟩
   | cons b l=>
    have hn:aN.toArray.size - 1=(l:):=by rw[Qaj,hlen];rfl
    have hP:=h1 (by rw[Qaj,hlen];exact Nat.succ_pos _)
    rw[hn]at hP
    have Xk:aN[argBest (f_ (b::l)) (l:)]? =some v:=by simpa using hP
    have hl:argBest (f_ (b::l)) (l:)<((b::l):):=Nat.lt_succ_of_le (argBest_lt _ _)
    have e:=nW (b::l) (l:) (Qcu _)
    rw[show ((b::l).drop 1).take (l:)=l from Qa7 (Qaa _),Qak,P4 hl]at e
    have e':(b::l)[argBest (f_ (b::l)) (l:)]=Qx d (b::l):=e
    obtain ⟨u,hu,ru⟩:=rv.get (i:=argBest (f_ (b::l)) (l:)) (x:=V.int (Qx d (b::l))) (by rw[Qau,P4 hl,e'];rfl)
    rw[Xk]at hu;cases hu
    exact ru
  refine ⟨.int (Qx d l),H1,?_,ru,q⟩
  have I2:Inv X pins σ H1 { s1 with heap:=s1.heap.push { cls:= .type "list_iterator",data:= .fields #[.ref a,.int 0 0] },toks:=s1.toks+1 }:=I1.kept (t':=s1.toks+1) λb o e=>Qac _ e
  have f:=I1.sM (H':=H1) (b:=s1.heap.objs.size) (Qaa _) I1.fresh
  exact I2.turned (h':=h') (t':=tk) (it:=s1.heap.objs.size) (λb o hb e=>hk b o (by simpa using hb) e) f.1 f.2.1 f.2.2.2.1 f.2.2.2.2.1 f.2.2.2.2.2
theorem Qy:Sa X .Mult (λx y H Q=>∃i j,x= .int i/\y= .int j/\LK i j/\Q (.int (i*j)) H):=by
 intro pins s σ H x y v u Q I r1 r2 h
 obtain ⟨i,j,rfl,rfl,c,q⟩:=h
 walk_at"Q"
 obtain ⟨t',rfl⟩:=r2
 exact imul_int ⟨.int _,H,I.tok _,⟨_,rfl⟩,q⟩ c.ok
theorem Mq:Sa X .FloorDiv (λx y H Q=>∃i j,x= .int i/\y= .int j/\Yp i j/\Q (.int (i / j)) H):=by
 intro pins s σ H x y v u Q I r1 r2 h
 obtain ⟨i,j,rfl,rfl,hc,q⟩:=h
 walk_at"Q"
 obtain ⟨t',rfl⟩:=r2
 have h1:(0:Int)<j:=hc.1
 have h2:j<1073741824:=hc.2
 exact ifloordiv_int () (by rw[Int.fdiv_eq_ediv_of_nonneg i ()];exact ⟨.int _,H,I.tok _,⟨_,rfl⟩,q⟩) (.inl (PyProof.noPylong_small ()))
end
theorem z8:∀{ls:List Int} {aN:List Value},Vals (ls.map V.int) aN->IntsAre aN ls
 | [],_,.nil=> .nil
 | _::_,_,.cons ⟨t,e⟩ h=>e▸ .cons _ t (z8 h)
theorem z9:∀{ls:List Int} {aN:List Value},IntsAre aN ls->Vals (ls.map V.int) aN
 | _,_,.nil=> .nil
 | _,_,.cons n t h=> .cons ⟨t,rfl⟩ (z9 h)
section
variable{prog:Program}{w:World}{A:Around}{E:Value->Shared->Prop}{s:Shared}
theorem xW(hh:A.handled=none)(d:Addr)(aJ:List (Key×Value))(ep:Nat)(ls:List Int)(hk:aJ.map (·.1)=ls.map λl=>Sum.inl l)(hd:(d==sysModules)=false)(hm:s.heap.DictAt (dc prog w) d aJ ep)(YQ:(aJ:)<64)
  (h:∀(h1 h':Heap) (tk:Nat) (a:Addr) (out:Array Value) (GI:List Int) (e:Nat),(∀b o,s.heap.get? b=some o->h1.get? b=some o)->(∀b o,h1.get? b=some o->h'.get? b=some o)->a=h1.objs.size->h'.get? a=some (seqObj "list" out e)->IntsAre out.toList GI->GI.Perm ls->(GI.Pairwise λa b=> ¬b<a)->Q (.ref a) { s with heap:=h',toks:=tk }):
  wpAny (model prog w) A (call (.builtin "sorted") [.ref d]) Q E s:=by
 refine Calls.call_function_entry kind_sorted plain_sorted entry_sorted (args_sorted1 _) ?_
 unfold Builtin.«sorted»
 refine wpAny_bind (m:=checkCount "sorted" 1 1 _) (wpAny_pure ?_)
 walk_at"I"
 refine wpAny_bind (nU (A:=A.in1) (show A.in1.handled=none from hh) d aJ ep hd hm () (λs' acc Y8 hg Qz ho xM=>?_))
 obtain ⟨h1,h2⟩:=xM
 have hlen:(aJ:)=(ls:):=by have:=congrArg List.length hk;simpa using this
 have rv:Vals (ls.map V.int) acc.toList:=by
  have key:∀(ls:List Int) (vs:List Value),(vs:)=(ls:)->(∀(j:Nat) (v:Value),vs[j]? =some v->∃l t,ls[j]? =some l/\v=Value.int l t)->Vals (ls.map V.int) vs:=by
   intro ls
   induction ls with
   | nil=>intro vs hl _;have:vs=[]:=Qcb hl;subst this;exact .nil
   | cons l ls ih=>
    intro vs hl hv
    cases vs with
    | nil=>simp at hl
    | cons v vs=>
     obtain ⟨l',t,e1,e2⟩:=hv 0 v rfl
     have BJ:l=l':=by simpa using e1
     subst BJ
     refine .cons ⟨t,e2⟩ (ih vs (by simpa using hl) λj v' e=>?_)
     obtain ⟨l',t',g1,g2⟩:=hv (j+1) v' (by simpa using e)
     exact ⟨l',t',by simpa using g1,g2⟩
  refine key ls acc.toList (by simpa [<-hlen]using h1) λj v e=>?_
  obtain ⟨k,x,e1,e2⟩:=h2 j v (by simpa using e)
  have e3:(aJ.map (·.1))[j]? =some k:=by rw[Qau,e1];rfl
  rw[hk,Qau]at e3
  cases e4:ls[j]? with
  | none=>rw[e4]at e3;cases e3
  | some l=>
   rw[e4]at e3
   have e5:k=Sum.inl l:=(Qaz e3).symm
   subst e5
   obtain ⟨t,e6⟩:=Value.isInt_shape (k:=l) (v:=v) e2
   exact ⟨l,t,rfl,e6⟩
 have hS:=z8 rv
 have hn:(acc.toList:)=(ls:):=by rw[<-(rv:),Xi]
 refine wpAny_bind (wpAny_newList ?_)
 have Pk:(s'.heap.push (seqObj "list" acc.toList.toArray 0)).get? s'.heap.objs.size=some (seqObj "list" acc.toList.toArray 0):=Qaq _ rfl
 show wpAny _ _ _ _ _ { s' with heap:=s'.heap.push (seqObj "list" acc.toList.toArray 0) }
 refine wpAny_bind (wpAny_holding (wpAny_call_entry slot_list_sort ⟨_,Pk,rfl⟩ entry_list_sort (list_sort_tree Pk hS () λout GI k1 k2 k3=>⟨_,rfl,?_⟩) (args_list_sort _)))
 obtain ⟨e,he⟩:=sortedHeap_at (out:=out) Pk
 refine wpAny_pure ⟨_,rfl,?_⟩
 have es:∀hh:Heap,({ s' with heap:=hh }:Shared)={ s with heap:=hh,toks:=s'.toks }:=λhh=>by
  cases s;cases s'
  simp only at hg Qz ho
  subst hg Qz ho
  rfl
 show Q (.ref s'.heap.objs.size) { s' with heap:=sortedHeap (s'.heap.push (seqObj "list" acc.toList.toArray 0)) s'.heap.objs.size acc.toList (out) }
 rw[es]
 refine h s'.heap _ _ _ _ GI e Y8 (λb o hb=>?_) rfl he k1 k2 (k3.imp λh=>Int.not_lt.mpr h)
 have dZ:=Qay hb
 rw[sortedHeap_old (Qa0 dZ) (by rw[size_push'];exact Qc9 dZ)]
 exact Qac _ hb
end
section
variable{X:Cx}
def Mr:List V->Hp->VK->Prop:=λxs H Q=>∃(d:Addr) (aJ:List (Key×V)) (ls:List Int),xs=[.ref d]/\H d=some (.dK aJ)/\aJ.map (·.1)=(ls.map λl=>Sum.inl l)/\(ls:)<64/\∀(q:Addr) (ms:List Int),H q=none->ms.Perm ls->(ms.Pairwise λa b=> ¬b<a)->Q (.ref q) (upd H q (.lst (ms.map V.int)))
theorem vE(hc:X.calm=true):eL X (.builtin "sorted") Mr:=by
 walk_at"h"
 obtain ⟨d,aJ,ls,rfl,hd,hk,hn,q⟩:=h
 obtain ⟨u,rfl,ru⟩:=vals1 r
 cases ru
 obtain ⟨hz,QA,vs,kv,o,es,ep,e1,e2,e3,e4,e5,e6⟩:=I.bX d _ hd
 have hlen:(vs:)=(ls:):=by
  have a1:=congrArg List.length (rR kv)
  have a2:=congrArg List.length hk
  simp only[Xi]at a1 a2
  lia
 refine xW (s:=s) (I.ok.hd hc) d vs ep ls ((rR kv).trans hk) QA ⟨o,es,e1,e2,e3,e4,e5,e6⟩ () λh1 h' tk a out GI e k1 k2 ea he g1 g2 g3=>?_
 have iN:=g2
 have hv:=z9 g1
 have pw:=g3
 have I1:Inv X pins σ H { s with heap:=h1,toks:=tk }:=I.kept k1
 have hsz:(10000:Nat)<sizeLine:=by decide
 have I2:Inv X pins σ (upd H a (.lst (GI.map V.int))) { s with heap:=h',toks:=tk }:=
  I1.laid (t':=tk) (a:=a) (o:= .lst (GI.map V.int)) k2 (by rw[ea];exact Qaa _) ⟨by rw[Xi,iN.length_eq];lia,out.toList,e,hv,by simpa [seqObj]using he⟩
 exact ⟨.ref a,_,I2,rfl,q _ _ (I1.bX.fresh (by rw[ea];exact Qaa _)) iN pw⟩
end
variable{n:Nat}
theorem BX(h:n<64):minRun' n n 0=n:=by
 have key:∀n,n<64->minRun' n n 0=n:=by decide+kernel
 exact key n h
section
variable{prog:Program}{w:World}{A:Around}{E:Value->Shared->Prop}{s:Shared}{kd:SortKind}{lt:Keyed->Keyed->Bool}{a₀:Array Keyed}
theorem Ii{st:SortSt}{Q:Unit->SortSt->Prop}(L:pW lt)(C:z5 prog w A E s kd lt a₀)(hB:tL kd a₀ st)(hp:pendingOf st= #[])(h1:1<=a₀.size)(YQ:a₀.size<64)
  (h:∀cK,(arrOf cK).Perm a₀->failedOf cK=none->iO lt (arrOf cK).toList->Q Unit.unit cK):wpS (model prog w) A E s sortRuns' Q st:=by
 have hz:=hB.size
 rw[sortRuns'_eq]
 refine wpS_bind (wpS_get ?_)
 have hmr:minRun' (arrOf st).size (arrOf st).size 0=a₀.size:=by rw[hz,BX YQ]
 refine wpS_bind (wpS_mono (wpS_forRange (I:=λx c cK=>tL kd a₀ cK/\((c=(none,0)/\x=0/\pendingOf cK= #[])\/(c=(none,a₀.size)/\(pendingOf cK).size<=1/\iO lt (arrOf cK).toList))) (Q:=λc cK=>tL kd a₀ cK/\c=(none,a₀.size)/\(pendingOf cK).size<=1/\iO lt (arrOf cK).toList) ?_ ?_ ⟨hB,.inl ⟨rfl,rfl,hp⟩⟩) ?_)
 ·rintro x c fU _ hx ⟨BW,⟨rfl,rfl,p1⟩ | ⟨rfl,p1,s1⟩⟩
  ·have Ij:=BW.size
   refine cT (λg=>?_) (λg=>?_)
   ·have g':0 ≥ (arrOf st).size:=g
    lia
   have hl1:(arrOf fU).toList.length=a₀.size:=by rw[Qci];exact Ij
   show wpS (model prog w) A E s (countRun' 0 ((arrOf st).size - 0) >>= _) _ fU
   rw[show (arrOf st).size - 0=(arrOf fU).toList.length by lia]
   refine wpS_bind (Qv (pre:=[]) (rest:=(arrOf fU).toList) L C BW rfl () λm mQ y r Qw e2 a2 hm m1 hyr sy=>?_)
   have on:∀(xv:SortSt) (z:List Keyed) (n:Nat),tL kd a₀ xv->pendingOf xv= #[]->(arrOf xv).toList=z->iO lt z->n=a₀.size->tL kd a₀ (setPending xv (#[].push (0,n,0)))/\((((none,0+n):Option Unit×Nat)=(none,0)/\0+1=0/\pendingOf (setPending xv (#[].push (0,n,0)))= #[])\/(((none,0+n):Option Unit×Nat)=(none,a₀.size)/\(pendingOf (setPending xv (#[].push (0,n,0)))).size<=1/\iO lt (arrOf (setPending xv (#[].push (0,n,0)))).toList)):=λxv z n Sk e3 a3 sz hn=>by
    subst hn
    refine ⟨⟨Sk.perm,Sk.kind,Sk.failed⟩,.inr ⟨by rw[Qd2],Qaa 1,?_⟩⟩
    show iO lt (arrOf xv).toList
    rw[a3];exact sz
   refine cT (λg2=>wpS_bind (wpS_lift (wpAny_rule ⟨rfl,?_⟩))) (λg2=>wpS_bind (wpS_get ?_))
   ·subst hm
    refine wpS_bind (Qu (pre:=[]) (x:=y) (rest:=r) (n:=min (arrOf fU).toList.length (minRun' (arrOf st).size (arrOf st).size 0)) L C Qw a2 (λe=>by rw[e]at m1;cases m1) sy () () λxv z r3 Sk e3 a3 hz3 sz=>cT (λz=>by cases z) (λ_=>wpS_bind (wpS_get ?_)))
    have hz4:=Sk.size
    have Y9:r3=[]:=by
     have:=congrArg List.length a3
     rw[kb,kb,Qem,Qci]at this
     exact Qcb ()
    have pe:pendingOf xv= #[]:=by rw[e3,e2];exact p1
    have hb:(pendingOf xv).back? =none:=by rw[pe];rfl
    rw[hb]
    refine wpS_bind (wpS_modify ?_)
    rw[pe]
    exact (wpS_pure (on xv z _ Sk pe (by rw[a3,Y9];simp) sz ()))
   ·subst hm
    have g2': ¬(y:)<minRun' (arrOf st).size (arrOf st).size 0:=g2
    have hr:r=[]:=Qcb ()
    have pe:pendingOf mQ= #[]:=by rw[e2];exact p1
    have hb:(pendingOf mQ).back? =none:=by rw[pe];rfl
    rw[hb]
    refine wpS_bind (wpS_modify ?_)
    rw[pe]
    exact (wpS_pure (on mQ y _ Qw pe (by rw[a2,hr];simp) sy ()))
  ·refine cT (λg=>wpS_pure ⟨BW,rfl,p1,s1⟩) (λg=>?_)
   have g': ¬a₀.size ≥ (arrOf st).size:=g
   exact absurd (Qf2 hz) g'
 ·rintro c fU ⟨BW,⟨rfl,e,p1⟩ | ⟨rfl,p1,s1⟩⟩
  ·exfalso;lia
  ·exact ⟨BW,rfl,p1,s1⟩
 ·rintro c fU ⟨BW,rfl,p1,s1⟩
  refine wpS_bind (wpS_mono (wpS_forRange (I:=λy c cK=>c=(none,Unit.unit)/\cK=fU) (Q:=λc cK=>c=(none,Unit.unit)/\cK=fU) ?_ ?_ ⟨rfl,rfl⟩) ?_)
  ·rintro y c GG _ _ ⟨rfl,rfl⟩
   refine wpS_bind (wpS_get ?_)
   refine cT (λg=>wpS_pure ⟨rfl,rfl⟩) (λg=>?_)
   exact absurd p1 g
  ·rintro c GG ⟨e,e2⟩
   exact ⟨e,e2⟩
  ·rintro c GG ⟨rfl,rfl⟩
   exact wpS_pure (h _ BW.perm BW.failed s1)
end
noncomputable def ml(a b:c5):Bool:=if (a:)=(b:) then decide (a<b) else decide ((a:)<(b:))
theorem Ik(a b:c5)(h:ml a b=true):ml b a=false:=by
 unfold ml at*
 by_cases e:(a:)=(b:)
 ·rw[if_pos e]at h
  rw[if_pos e.symm]
  exact decide_eq_false λz=>Qc6 _ (Qfu (of_decide_eq_true h) z)
 ·rw[if_neg e]at h
  rw[if_neg (Ne.symm e)]
  have:=of_decide_eq_true h
  exact decide_eq_false ()
theorem QB(a b c:c5)(h:ml b a=false)(g:ml c b=false):ml c a=false:=by
 unfold ml at*
 by_cases e:(b:)=(a:)
 ·rw[if_pos e]at h
  by_cases e2:(c:)=(b:)
  ·rw[if_pos e2]at g
   rw[if_pos (e2.trans e)]
   have x:=Qeg.mp (of_decide_eq_false h)
   have y:=Qeg.mp (of_decide_eq_false g)
   exact decide_eq_false (Qeg.mpr (List.le_trans x y))
  ·rw[if_neg e2]at g
   rw[if_neg λz=>e2 (z.trans e.symm), <-e]
   exact g
 ·rw[if_neg e]at h
  have q1:=of_decide_eq_false h
  by_cases e2:(c:)=(b:)
  ·rw[if_neg λz=>e (e2.symm.trans z),e2];exact h
  ·rw[if_neg e2]at g
   have q2:=of_decide_eq_false g
   rw[if_neg ()]
   exact decide_eq_false ()
theorem Ms(a b:c5)(h:ml a b=false)(g:ml b a=false):a=b:=by
 unfold ml at*
 by_cases e:(a:)=(b:)
 ·rw[if_pos e]at h
  rw[if_pos e.symm]at g
  exact Qgc (Qeg.mp (of_decide_eq_false g)) (Qeg.mp (of_decide_eq_false h))
 ·rw[if_neg e]at h
  rw[if_neg (Ne.symm e)]at g
  have q1:=of_decide_eq_false h
  have q2:=of_decide_eq_false g
  lia
noncomputable def tP(v:Value):c5:=(PyProof.Rows.strOf v).cps.toList
noncomputable def QC(p q:Keyed):Bool:=ml (tP p.2) (tP q.2)
theorem QD:pW QC:=⟨λ_ _ e=>Ik _ _ e,λ_ _ _ e g=>QB _ _ _ e g⟩
theorem xX(w:c5)(t:Tok):tP (.str (S w) t)=w:=cf w
def Il(h:Heap)(v:Value)(w:c5):Prop:=∃x ox us m t u,v= .ref x/\h.get? x=some ox/\ox.cls= .type "tuple"/\ox.data= .seq us m/\us.toList=[Value.int ((w:):Nat) t,.str (S w) u]
variable{h:Heap}{ks vs:List Value}{ws:List c5}{D:Addr}
section
variable{prog:Program}{w:World}{A:Around}{E:Value->Shared->Prop}{s:Shared}
theorem QE{u v:Value}{a c:c5}{Q:Bool->Shared->Prop}(hx:Il s.heap u a)(hy:Il s.heap v c)(q:Q (ml a c) s):wpAny (model prog w) A (keyLt' (tuples' true) u v) Q E s:=by
 obtain ⟨x,ox,us,n,t1,t2,rfl,gx,_,dx,ix⟩:=hx
 obtain ⟨y,oy,vs,m,t3,t4,rfl,gy,_,dy,iy⟩:=hy
 refine PySem.W.kat_lt gx dx gy dy ?_
 rw[show decide (us.size<vs.size)=false from decide_eq_false (by rw[<-Qci, <-Qci,ix,iy];exact Qbx _),ix,iy]
 refine PySem.W.kat_cons (wpAny_eqBool_int ?_)
 by_cases e:(a:)=(c:)
 ·rw[show (((a:):Int)==((c:):Int))=true by simp[e]]
  refine PySem.W.kat_yes (PySem.W.kat_cons (wpAny_eqBool_str ?_))
  by_cases g:S a=S c
  ·have e2:a=c:=by rw[<-cf a,g,cf]
   rw[decide_eq_true g]
   rw[e2,show ml c c=false by unfold ml;rw[if_pos rfl];exact decide_eq_false (Qc6 c)]at q
   exact PySem.W.kat_yes (PySem.W.kat_nil q)
  ·rw[decide_eq_false g]
   rw[show ml a c=decide (a<c) by unfold ml;rw[if_pos e]]at q
   refine PySem.W.kat_no ?_
   refine PySem.W.kat_one _ _ ?_
   show wpAny (model prog w) A (richCompare .Lt _ _) _ _ s
   exact P.lt_str (by rw[cf,cf];exact q)
 ·rw[show (((a:):Int)==((c:):Int))=false by simp;exact λz=>e (Qfv z)]
  rw[show ml a c=decide ((a:)<(c:)) by unfold ml;rw[if_neg e]]at q
  refine PySem.W.kat_no (PySem.W.kat_lt_int (E:=λ_ _=>False) ?_)
  have:decide (((a:):Int)<((c:):Int))=decide ((a:)<(c:)):=by simp
  rw[this]
  exact q
def j9(h:Heap):List Value->List c5->Prop
 | [],[]=>True
 | v::vs,w::ws=>Il h v w/\j9 h vs ws
 | _,_=>False
theorem j9.pB:∀{ks:List Value} {ws:List c5},j9 h ks ws->∃fs,PySem.W.KatTups h ks fs/\(fs:)=(ks:)/\∀v∈fs,∃i t,v=Value.int i t
 | [],[],_=>⟨[],trivial,rfl,λ_ h=>absurd h Qan⟩
 | v::vs,n::ns,⟨⟨x,ox,us,m,t,u,e1,e2,e3,e4,e5⟩,b⟩=>by
  obtain ⟨fs,k1,k2,k3⟩:=j9.pB b
  refine ⟨.int ((n:):Nat) t::fs,⟨⟨x,ox,us,m,e1,e2,e3,e4,by rw[<-Qbv,e5];rfl⟩,k1⟩,by simp[k2],λz hz=>(Qab.mp hz).elim (λe=>⟨_,_,e⟩) (k3 z)⟩
theorem j9.len:∀{ks:List Value} {ws:List c5},j9 h ks ws->(ks:)=(ws:)
 | [],[],_=>rfl
 | _::_,_::_,⟨_,b⟩=>by rw[Qa4,Qa4,b.len]
theorem j9.pair:∀{ks vs:List Value} {ws:List c5},j9 h ks ws->Vals (ws.map λl=>V.str (S l)) vs->∀p∈ks.zip vs,∃w t,p.2= .str (S w) t/\Il h p.1 w
 | [],_,_,_,_,p,hp=>by simp at hp
 | k::ks,_,[],a,_,_,_=>a.elim
 | k::ks,_,w::ws,⟨a,b⟩,r,p,hp=>by
  cases r with
  | cons r1 rs=>
   rw[List.zip_cons_cons]at hp
   rcases Qab.mp hp with e | e
   ·obtain ⟨t,q⟩:=r1
    rw[e];exact ⟨w,t,q,a⟩
   ·exact j9.pair b rs p e
theorem Y_(hz:∀p∈ks.zip vs,∃w t,p.2= .str (S w) t/\Il s.heap p.1 w):z5 prog w A E s (tuples' true) QC (ks.toArray.zip vs.toArray):=by
 intro st p q Q hk hp hq hQ
 have e:(ks.toArray.zip vs.toArray).toList=ks.zip vs:=by simp
 rw[e]at hp hq
 obtain ⟨x,t,ex,kx⟩:=hz p hp
 obtain ⟨y,u,ey,ky⟩:=hz q hq
 have Xl:Q (some (ml x y)) st:=by
  have:QC p q=ml x y:=by unfold QC;rw[ex,ey,xX,xX]
  rw[<-this];exact hQ
 rw[lt'_eq]
 refine wpS_bind (wpS_get ?_)
 rw[hk]
 exact wpS_bind (wpS_lift (wpAny_attempt (QE kx ky ⟨rfl,wpS_pure Xl⟩)))
theorem VL:∀{l:List Keyed},(∀p∈l,∃w t,p.2=Value.str (S w) t)->Vals ((l.map λp=>tP p.2).map λw=>V.str (S w)) (l.map (·.2))
 | [],_=> .nil
 | p::l,h=>by
  obtain ⟨w,t,e⟩:=h p Xh
  refine .cons ⟨t,?_⟩ (VL λq hq=>h q (Sd _ hq))
  show p.2=Value.str (S (tP p.2)) t
  rw[e,xX]
theorem QF:∀{vs:List Value},Vals (ws.map λl=>V.str (S l)) vs->vs.map tP=ws:=by
 induction ws with
 | nil=>intro vs r;cases r;rfl
 | cons w ws ih=>
  intro vs r
  cases r with
  | cons r1 rs=>
   obtain ⟨t,q⟩:=r1
   rw[Qa2,ih rs,q,xX]
theorem Im{kS:Addr}{e e1:Nat}{P:PySem.Fin->Shared->Prop}(hD:s.heap.get? D=some (seqObj "list" #[] e1))(hK:s.heap.get? kS=some (seqObj "list" ks.toArray e))(da:kS≠D)
  (hk:j9 s.heap ks ws) (hv:Vals (ws.map λl=>V.str (S l)) vs) (hn:(ws:)<=63)
  (h:∀(h':Heap) (o8:List c5) (out:List Value) (c:Nat),(∀b o,b≠D->b≠kS->s.heap.get? b=some o->h'.get? b=some o)->(∃o,h'.get? kS=some o)->h'.get? D=some (seqObj "list" out.toArray c)->Vals (o8.map λl=>V.str (S l)) out->o8.Perm ws->(o8.Pairwise λa b=>ml b a=false)->P (.done (.ret .none)) { s with heap:=h' }):
  wpAny (model prog w) A (ksk_end D false vs.toArray e1 (.ref kS) ks.toArray) P E s:=by
 walk_at"I"
 have hlk:=hk.len
 have hlv:(ws:)=(vs:):=by have:=(hv:);rwa [Xi]at this
 have hz:=hk.pair hv
 have ez:(ks.toArray.zip vs.toArray).toList=ks.zip vs:=by simp
 have fin:∀st:SortSt,(arrOf st).toList.Perm (ks.zip vs)->iO QC (arrOf st).toList->failedOf st=none->wpAny (model prog w) A (ksk_tail D false e1 (.ref kS) st) P E s:=by
  intro st hp hs hf
  have hlen:(arrOf st).size=(vs:):=by rw[<-Qci,hp.length_eq,List.length_zip];lia
  unfold ksk_tail
  try dsimp only
  refine wpAny_bind (listUpdate_at hK rfl ?_ (by rw[Qaj];lia) (Qat _))
  refine wpAny_bind (wpAny_letGo ?_)
  have vf:(s.heap.update kS (Obj.mapSeq λ_=>(#[]:Array Value))).get? D=some (seqObj "list" #[] e1):=(Qbc _ _ da).trans hD
  obtain ⟨c0,hc0⟩:∃c,(s.heap.update kS (Obj.mapSeq λ_=>(#[]:Array Value))).get? kS=some (seqObj "list" #[] c):=⟨_,get?_update_seq hK λ_=> #[]⟩
  refine wpAny_bind (seqEpoch_at vf rfl ?_)
  refine wpAny_bind (listUpdate_at vf rfl ?_ (Qat _) (by simp only[Qcr,if_false,Array.size_map,hlen];lia))
  rw[hf]
  simp only[bne_self_eq_false,Qcr,if_false]
  obtain ⟨c2,Mt⟩:∃c2,((s.heap.update kS (Obj.mapSeq λ_=>(#[]:Array Value))).update D (Obj.mapSeq λ_=>(arrOf st).map (·.2))).get? D=some (seqObj "list" ((arrOf st).map (·.2)) c2):=⟨_,get?_update_seq vf λ_=>(arrOf st).map (·.2)⟩
  refine wpAny_pure (h _ ((arrOf st).toList.map λp=>tP p.2) ((arrOf st).toList.map (·.2)) c2 (λb o n1 n2 g=>?_) ⟨_,(Qbc _ _ (Ne.symm da)).trans hc0⟩ ?_ (VL λp tQ=>?_) ?_ ?_)
  ·exact (Qbc _ _ (Ne.symm n1)).trans ((Qbc _ _ (Ne.symm n2)).trans g)
  ·rw[Mt]
   congr 2
   apply Qdr.mp
   simp
  ·obtain ⟨w,t,g,_⟩:=hz p (hp.mem_iff.mp tQ)
   exact ⟨w,t,g⟩
  ·have:=hp.map λp:Keyed=>tP p.2
   rwa [show (ks.zip vs).map (λp:Keyed=>tP p.2)=ws by rw[show (λp:Keyed=>tP p.2)=tP ∘ Prod.snd from rfl, <-Qcd,List.map_snd_zip (),QF hv]]at this
  ·exact Qb1.mpr hs
 unfold ksk_end
 try dsimp only
 simp only[Qcr,if_false]
 by_cases h2:vs.toArray.size<2
 ·rw[if_pos h2,if_pos h2]
  refine wpAny_bind (wpAny_pure ?_)
  rw[StateT.run_pure]
  refine wpAny_bind (wpAny_pure ?_)
  refine fin (SortSt.mk' general' (ks.toArray.zip vs.toArray) #[] 7 none) (by show (ks.toArray.zip vs.toArray).toList.Perm _;rw[ez]) ?_ rfl
  show iO QC (ks.toArray.zip vs.toArray).toList
  rw[ez]
  rw[Qaj]at h2
  match ks,vs,h2 with
  | [],_,_=>exact List.Pairwise.nil
  | _::_,[],_=>exact List.Pairwise.nil
  | _::k,[_],_=>rw[List.zip_cons_cons,List.zip_nil_right];exact Qbt _ _
  | _,_::_::_,h=>exact absurd h (by simp)
 ·rw[if_neg h2,if_neg h2]
  rw[Qaj]at h2
  obtain ⟨fs,k1,k2,k3⟩:=hk.pB
  refine wpAny_bind (PySem.W.kat_kind (T:= .type "int") k1 () (λv hv=>by obtain ⟨i,t,rfl⟩:=k3 v hv;exact PySem.W.Looks.of_pure rfl) (by rfl) ?_)
  have run:=Ii (prog:=prog) (w:=w) (A:=A) (E:=E) (s:=s) (a₀:=ks.toArray.zip vs.toArray) (st:=SortSt.mk' (tuples' (Value.type "int" != Value.type "tuple")) (ks.toArray.zip vs.toArray) #[] 7 none) (Q:=λ_ cK=>(arrOf cK).toList.Perm (ks.zip vs)/\iO QC (arrOf cK).toList/\failedOf cK=none) QD (Y_ hz) ⟨Array.Perm.refl _,rfl,rfl⟩ rfl (by rw[Array.size_zip,Qaj,Qaj];lia) (by rw[Array.size_zip,Qaj,Qaj];lia) λcK a1 a2 a3=>⟨by rw[<-ez];exact Qca.mp a1,a3,a2⟩
  refine wpAny_bind (wpAny_mono run ?_ λ_ _ e=>e)
  rintro ⟨⟨⟩,cK⟩ s' ⟨rfl,g1,g2,g3⟩
  exact fin cK g1 g2 g3
end
variable{ps:List Str}{pins:List (Addr×Obj)}{σ:St}{H H':Hp}{E:Value->Shared->Prop}{a:Addr}{h':Heap}{x:Str}
section
variable{X:Cx}{k:Nat}{f:Addr}{fd:FuncData}{sp:Sp}
theorem Io{Q:VK}{us:List Value}{vs:List V}(F:bD X.prog X.w X.K X.mg X.base eM k f fd ps sp)(hr:c_ k X.A.in1.in1)(hb:Binds X.K fd ps [])
  (I:Inv X pins σ H s) (r:Vals vs us) (h:sp vs H Q E0):wpAny (model X.prog X.w) X.A.in1.in1 (call (.ref f) us) (EP X pins σ Q) E s:=by
 have hl:(us++[]:)=(ps:):=by rw[Qa9, <-(r:)];exact F.len _ _ _ _ h
 have BY:=hb s us I.Bg hl
 rw[Qa9]at BY
 refine wpAny_call (codeAny_mono (F.run X.A.in1.in1 X.stack s H ⟨us,[]⟩ us vs Q E0 hr I.PH.in1.in1 BY r h) λr s' hq=>?_)
 cases r with
 | error e=>exact (show False from hq).elim
 | ok fl=>
  cases fl with
  | ret u=>exact I.after hq
  | next=>exact False.elim hq
  | brk=>exact False.elim hq
  | cont=>exact False.elim hq
structure Za(X:Cx)(pins:List (Addr×Obj))(a:Addr):Prop where
 z:X.s₀.heap.objs.size<=a
 l:a≠X.env.locals
 c:∀x c,X.env.cells.lookup x=some c->c≠a
 p:∀p∈X.pn++pins,p.1≠a
 f:a∉X.fs
theorem Inv.Zb(I:Inv X pins σ H s)(ha:s.heap.objs.size<=a):Za X pins a where
 z:=Qbb I.sz ha
 l:=Qd3 (Qa3 I.lt ha)
 c:=λx c e=>by
  obtain ⟨v,o,ho,_⟩:=I.cell x c e
  exact Qa0 (Qa3 (Qay ho) ha)
 p:=λp hp=>Qa0 (Qa3 (Qay (I.pin p hp).1) ha)
 f:=I.LG ha
theorem Inv.own{t':Nat}{o:HO}{ch:List Addr}(I:Inv X pins σ H s)(hD:D∈ch)(k:∀b u,b∉ch->s.heap.get? b=some u->h'.get? b=some u)
  (hn:∀b∈ch,H b=none) (hf:∀b∈ch,Za X pins b) (new:cP X.prog X.w (upd H D o) h' D o):Inv X pins σ (upd H D o) { s with heap:=h',toks:=t' }:=by
 have nD:∀b u,H b=some u->b∉ch:=λb u e z=>by rw[hn b z]at e;cases e
 have VM:∀b u,H b=some u->b≠D:=λb u e z=>nD b u e (z▸hD)
 refine I.step (g':=s.gens) (d':=s.drawn) (ch:=ch) (λb hb=>⟨.inr (hf b hb).z,(hf b hb).l,(hf b hb).c,(hf b hb).p⟩) (λb u _ _ hc e n=>k b u hc e) (λb u _ _ hc e _=>⟨u.slots,k b u hc e⟩) (λb u hc _ n=>by rw[aq (show b≠D from λz=>hc (by rw[z];exact hD))];exact n)
  (λb u hc e=>⟨u,k b u hc e⟩) (λb xs e=>by rw[aq (VM b _ e)];exact e) (λb _ _ e=>by rw[aq (VM b _ e)];exact e) (λb ps e=>⟨#[],by rw[aq (VM b _ e),e];simp⟩) (λm hm=>?_) (λb u e=>?_) I.bare
 ·obtain ⟨o,es,ep,ho,r⟩:=hm
  exact ⟨o,es,ep,k _ o (λz=>(hf _ z).l rfl) ho,r⟩
 ·by_cases hb:b=D
  ·subst hb;rw[aa]at e;cases e;exact new
  ·rw[aq hb]at e
   refine (I.bX b u e).pA (λc v hc q=>k c v ?_ q) (λc q=>by rw[aq (VM c _ q)];exact q) λc xs q=>by rw[aq (VM c _ q)];exact q
   rcases hc with z | z
   ·rw[z];exact nD b u e
   ·exact nD c _ z
def KeysIn(H:Hp):List Addr->List c5->Prop
 | [],[]=>True
 | x::xs,w::ws=>H x=some (.tup [.int ((w:):Nat),.str (S w)])/\KeysIn H xs ws
 | _,_=>False
theorem KeysIn.same(e:ay H H'):∀{xs:List Addr} {ws:List c5},KeysIn H xs ws->KeysIn H' xs ws
 | [],[],_=>trivial
 | _::_,_::_,⟨a,b⟩=>⟨e _ _ a,b.same e⟩
theorem KeysIn.snoc{x:Addr}{w:c5}(h:H x=some (.tup [.int ((w:):Nat),.str (S w)])):∀{xs:List Addr} {ws:List c5},KeysIn H xs ws->KeysIn H (xs++[x]) (ws++[w])
 | [],[],_=>⟨h,trivial⟩
 | _::_,_::_,⟨a,b⟩=>⟨a,b.snoc h⟩
theorem KeysIn.at_(I:Inv X pins σ H s):∀{xs:List Addr} {ws:List c5},KeysIn H xs ws->j9 s.heap (xs.map Value.ref) ws
 | [],[],_=>trivial
 | x::xs,w::ws,⟨a,b⟩=>by
  refine ⟨?_,KeysIn.at_ I b⟩
  obtain ⟨us,Qs,px,_⟩:=I.tuple (dH.of (K:=X.K) a)
  obtain ⟨ox,Sg,Ox,mx,Vt⟩:=px
  cases Qs with
  | cons r1 Qs=>cases Qs with
   | cons r2 Qs=>
    cases Qs
    obtain ⟨t1,rfl⟩:=r1
    obtain ⟨t2,rfl⟩:=r2
    exact ⟨_,ox,_,mx,t1,t2,rfl,Sg,Ox,Vt,by simp⟩
theorem KeysIn.len:∀{xs:List Addr} {ws:List c5},KeysIn H xs ws->(xs:)=(ws:)
 | [],[],_=>rfl
 | _::_,_::_,⟨_,b⟩=>by rw[Qa4,Qa4,b.len]
theorem Fm{h1:Heap}{P:PySem.Fin->Shared->Prop}
  (F:bD X.prog X.w X.K X.mg X.base eM k f fd [x] sp) (hr:c_ k X.A.in1.in1) (hb:Binds X.K fd [x] []) (I:Inv X pins σ H { s with heap:=h1 }) (hv:Vals (ws.map λl=>V.str (S l)) vs) (hn:(ws:)<=63)
  (zB:∀(H':Hp) (w:c5) (Q:VK),w∈ws->ay H H'->(∀p Xs,ay H' Xs->Xs p=some (.tup [.int ((w:):Nat),.str (S w)])->Q (.ref p) Xs)->sp [.str (S w)] H' Q E0)
  (q:∀(s':Shared) (H':Hp) (o8:List c5),ay H H'->H' h1.objs.size=none->o8.Perm ws->(o8.Pairwise λa b=>ml b a=false)->Inv X pins σ (upd H' h1.objs.size (.lst (o8.map λl=>V.str (S l)))) s'->P (.done (.ret .none)) s'):
  wpAny (model X.prog X.w) X.A.in1.in1 (ksk_tree h1.objs.size (.ref f) false) P E { s with heap:=h1.push (seqObj "list" vs.toArray 0) }:=by
 walk_at"I"
 have hlv:(ws:)=(vs:):=by have:=(hv:);rwa [Xi]at this
 have FD:=I.Zb (a:=h1.objs.size) (Qaa _)
 have ho:(h1.push (seqObj "list" vs.toArray 0)).get? h1.objs.size=some (seqObj "list" vs.toArray 0):=Qaq _ rfl
 unfold ksk_tree
 refine wpAny_bind (listItems_at ho rfl ?_)
 refine wpAny_bind (listUpdate_at ho rfl ?_ (by rw[Qaj];lia) (Qat _))
 obtain ⟨e1,ho1⟩:∃e1,((h1.push (seqObj "list" vs.toArray 0)).update h1.objs.size (Obj.mapSeq λ_=>(#[]:Array Value))).get? h1.objs.size=some (seqObj "list" #[] e1):=⟨_,get?_update_seq ho λ_=> #[]⟩
 refine wpAny_bind (seqEpoch_at ho1 rfl ?_)
 refine wpAny_bind (wpAny_newTuple ?_ (by show (vs:)<=_;lia))
 refine wpAny_bind (wpAny_newList ?_ (Qat _))
 refine wpAny_holding ?_
 show wpAny (model X.prog X.w) X.A.in1.in1 _ P E { s with heap:=(((h1.push (seqObj "list" vs.toArray 0)).update h1.objs.size (Obj.mapSeq λ_=>(#[]:Array Value))).push (seqObj "tuple" vs.toArray 0)).push (seqObj "list" #[] 0) }
 generalize hkS:(((h1.push (seqObj "list" vs.toArray 0)).update h1.objs.size (Obj.mapSeq λ_=>(#[]:Array Value))).push (seqObj "tuple" vs.toArray 0)).objs.size=kS
 have hz:kS=h1.objs.size+2:=by rw[<-hkS,size_push',Heap.size_update,size_push']
 have hK5:((((h1.push (seqObj "list" vs.toArray 0)).update h1.objs.size (Obj.mapSeq λ_=>(#[]:Array Value))).push (seqObj "tuple" vs.toArray 0)).push (seqObj "list" #[] 0)).get? kS=some (seqObj "list" #[] 0):=by
  rw[<-hkS];exact Qaq _ rfl
 have hD5:((((h1.push (seqObj "list" vs.toArray 0)).update h1.objs.size (Obj.mapSeq λ_=>(#[]:Array Value))).push (seqObj "tuple" vs.toArray 0)).push (seqObj "list" #[] 0)).get? h1.objs.size=some (seqObj "list" #[] e1):=
  Qac _ (Qac _ ho1)
 have keep:∀b o,h1.get? b=some o->((((h1.push (seqObj "list" vs.toArray 0)).update h1.objs.size (Obj.mapSeq λ_=>(#[]:Array Value))).push (seqObj "tuple" vs.toArray 0)).push (seqObj "list" #[] 0)).get? b=some o:=λb o e=>
  Qac _ (Qac _ ((Qbc _ _ (Qd3 (Qay e))).trans (Qac _ e)))
 generalize ((((h1.push (seqObj "list" vs.toArray 0)).update h1.objs.size (Obj.mapSeq λ_=>(#[]:Array Value))).push (seqObj "tuple" vs.toArray 0)).push (seqObj "list" #[] 0))=h5 at hK5 hD5 keep
 have FK:=I.Zb (a:=kS) (by show h1.objs.size<=kS;lia)
 have da:kS≠h1.objs.size:=by lia
 have I5:Inv X pins σ H { s with heap:=h5 }:=I.kept (t':=s.toks) keep
 have HD:H h1.objs.size=none:=I.fresh
 have HK:H kS=none:=I.bX.fresh (show h1.objs.size<=kS by lia)
 generalize h1.objs.size=D at*
 have QG:∀(e:Nat) (xs:Array Value) (v:Option Value),(seqObj "list" xs e).data≠ .cell v:=λe xs v z=>by cases z
 unfold ksk_rest
 walk_at"J"
 rw[List.forIn_toArray]
 refine wpAny_bind (ksk_fold (λi s'=>∃H' xs e,Inv X ((D,seqObj "list" #[] e1)::(kS,seqObj "list" (xs.map Value.ref).toArray e)::pins) σ H' s'/\ay H H'/\KeysIn H' xs (ws.take i)) vs 0 _ ⟨H,[],0,I5.gC λp hp=>?_,ay.refl H,trivial⟩ ?step ?done)
 ·rcases Qab.mp hp with rfl | hp
  ·exact ⟨hD5,HD,FD.l,FD.f,QG _ _⟩
  ·rcases Qab.mp hp with rfl | hp
   ·exact ⟨hK5,HK,FK.l,FK.f,QG _ _⟩
   ·exact I5.pin p (Qal _ hp)
 case step=>
  rintro j v s' hx ⟨H',xs,e,I',sm,ki⟩
  simp only[Qd2]at ki ⊢
  obtain ⟨w,hw,Mu⟩:∃w,ws[j]? =some w/\RelV (.str (S w)) v:=by
   have hj:j<(vs:):=(P5.mp hx).1
   have Lr:ws[j]? =some (ws[j]'()):=P4 _
   obtain ⟨u,hu,ru⟩:=hv.get (show (ws.map λl=>V.str (S l))[j]? =some (.str (S (ws[j]'()))) by rw[Qau,Lr];rfl)
   rw[hx]at hu
   cases hu
   exact ⟨_,Lr,ru⟩
  have Zc:w∈ws:=Qaf hw
  refine wpAny_bind (wpAny_attempt (wpAny_mono (Io F hr hb (Q:=λv H2=>∃p,v= .ref p/\ay H' H2/\H2 p=some (.tup [.int ((w:):Nat),.str (S w)])) (E:=λ_ _=>False) I' (.cons Mu .nil) (zB H' w _ Zc sm λp Xs a b=>⟨p,rfl,a,b⟩)) (λu s2 hq=>?_) λ_ _ z=>z.elim))
  obtain ⟨_,H2,I2,ru,p,rfl,b_,mU⟩:=hq
  cases ru
  have pK:=I2.pin (kS,seqObj "list" (xs.map Value.ref).toArray e) (Qal _ (.tail _ (.head _)))
  have pD:=I2.pin (D,seqObj "list" #[] e1) (Qal _ (.head _))
  have Y3:(xs:)<=(ws:):=by rw[ki.len,Qad];lia
  try dsimp only
  refine wpAny_bind (listUpdate_at pK.1 rfl ?_ (by rw[Qaj,Xi];lia) (Qbb (Qf2 (Array.size_push ..)) (by rw[Qaj,Xi];lia)))
  obtain ⟨c2,Mt⟩:∃c2,(s2.heap.update kS (Obj.mapSeq (·.push (.ref p)))).get? kS=some (seqObj "list" ((xs.map Value.ref).toArray.push (.ref p)) c2):=⟨_,get?_update_seq pK.1 (·.push (.ref p))⟩
  have ek:ws.take (j+1)=ws.take j++[w]:=by rw[Qew,hw];rfl
  have ea:(xs.map Value.ref).toArray.push (Value.ref p)=((xs++[p]).map Value.ref).toArray:=by apply Qdr.mp;simp
  rw[ea]at Mt
  have ps:∀r∈X.pn++((D,seqObj "list" #[] e1)::pins),r.1≠kS:=λr hr=>by
   rcases Qai.mp hr with g | g
   ·exact FK.p r (Qbj _ g)
   ·rcases Qab.mp g with rfl | g
    ·exact Ne.symm da
    ·exact FK.p r (Qal _ g)
  have I3:Inv X ((D,seqObj "list" #[] e1)::pins) σ H2 s2:=I2.gC λr hr=>by
   rcases Qab.mp hr with rfl | g
   ·exact pD
   ·exact I2.pin r (Qal _ (.tail _ (.tail _ g)))
  have kp:∀b o,b≠kS->s2.heap.get? b=some o->(s2.heap.update kS (Obj.mapSeq (·.push (.ref p)))).get? b=some o:=λb o hb g=>(Qbc _ _ (Ne.symm hb)).trans g
  have I4:Inv X ((D,seqObj "list" #[] e1)::pins) σ H2 { s2 with heap:=s2.heap.update kS (Obj.mapSeq (·.push (.ref p))) }:=I3.turned (t':=s2.toks) (it:=kS) kp pK.2.1 FK.l (.inr FK.z) FK.c ps
  refine wpAny_pure ⟨rfl,H2,xs++[p],c2,I4.gC λr hr=>?_,sm.trans b_,by rw[ek];exact (ki.same b_).snoc mU⟩
  rcases Qab.mp hr with rfl | g
  ·exact I4.pin _ (Qal _ (.head _))
  ·rcases Qab.mp g with rfl | g
   ·exact ⟨Mt,pK.2.1,FK.l,FK.f,QG _ _⟩
   ·exact I4.pin r (Qal _ (.tail _ g))
 case done=>
  rintro s' ⟨H',xs,e,I',sm,ki⟩
  rw[Qa7 ()]at ki
  have pK:=I'.pin (kS,seqObj "list" (xs.map Value.ref).toArray e) (Qal _ (.tail _ (.head _)))
  have pD:=I'.pin (D,seqObj "list" #[] e1) (Qal _ (.head _))
  try dsimp only
  refine wpAny_bind (listItems_at pK.1 rfl ?_)
  refine Im pD.1 pK.1 da (KeysIn.at_ I' ki) hv hn λh' o8 out c g1 g2 g3 g4 g5 g6=>q _ H' o8 sm pD.2.1 g5 g6 ?_
  have I3:Inv X pins σ H' s':=I'.gC λr hr=>I'.pin r (Qal _ (.tail _ (.tail _ hr)))
  refine I3.own (t':=s'.toks) (ch:=[D,kS]) (.head _) (λb u hb e=>g1 b u (λz=>hb (by simp[z])) (λz=>hb (by simp[z])) e) (λb hb=>?_) (λb hb=>?_) ⟨by rw[Xi,g5.length_eq];lia,out,c,g4,g3⟩
  ·rcases Qab.mp hb with rfl | g
   ·exact pD.2.1
   ·rw[U0.mp g];exact pK.2.1
  ·rcases Qab.mp hb with rfl | g
   ·exact FD
   ·rw[U0.mp g];exact FK
end
noncomputable def Mv(f:Addr)(o:Obj):HO:= .ext λh=>h.get? f=some o
noncomputable def Mw(c:Addr)(q:Str):HO:= .ext λh=>∃oc vs t,h.get? c=some oc/\oc.data= .fields vs/\vs[1]? =some (.str q t)
variable{f:Addr}
theorem Ip{P:Program}{w:World}{o:Obj}(e:h.get? f=some o):cP P w H h f (Mv f o):=⟨e,⟨_,e⟩,λ_ _ a b=>b _ a⟩
variable{c:Addr}{q:Str}
theorem QH{P:Program}{w:World}{oc:Obj}{vs:Array Value}{t:Tok}(e:h.get? c=some oc)(d:oc.data= .fields vs)(v:vs[1]? =some (.str q t)):cP P w H h c (Mw c q):=
 ⟨⟨oc,vs,t,e,d,v⟩,⟨_,e⟩,λ_ _ ⟨o,vs,t,a,b,d⟩ k=>⟨o,vs,t,k _ a,b,d⟩⟩
def bQ(p:Addr->Prop)(H H':Hp):Prop:=∀b o,H b=some o->H' b=some o\/(p b/\(∃ps,o= .o7 ps)/\∃ps,H' b=some (.o7 ps))
variable{b:Addr}{K:c6}
section
variable{p:Addr->Prop}
theorem bQ.refl(H:Hp):bQ p H H:=λ_ _ h=> .inl h
theorem bQ.of(s:ay H H'):bQ p H H':=λb o h=> .inl (s b o h)
theorem bQ.imp{q:Addr->Prop}(s:bQ p H H')(h:∀b,p b->q b):bQ q H H':=λb o e=>(s b o e).imp id λz=>⟨h b z.1,z.2⟩
theorem bQ.get(s:bQ p H H'){o:HO}(h:H b=some o)(n:∀ps,o≠ .o7 ps:=by exact λ_ z=>nomatch z):H' b=some o:=by
 rcases s b o h with e | ⟨_,⟨ps,e⟩,_⟩
 ·exact e
 ·exact absurd e (n ps)
theorem bQ.free(s:bQ p H H')(h:H' b=none):H b=none:=by
 cases q:H b with
 | none=>rfl
 | some o=>rcases s b o q with e | ⟨_,_,ps,e⟩<;>rw[h]at e<;>cases e
theorem bQ.trans{H1 H2:Hp}(x:bQ p H H1)(y:bQ p H1 H2):bQ p H H2:=λb o h=>by
 rcases x b o h with e | ⟨t0,t,ps,e⟩
 ·exact y b o e
 ·rcases y b _ e with g | ⟨_,_,ps',g⟩
  ·exact .inr ⟨t0,t,ps,g⟩
  ·exact .inr ⟨t0,t,ps',g⟩
theorem bQ.seq{xs:List V}(e:bQ p H H')(h:bu K H a xs):bu K H' a xs:=by
 rcases h with (h | ⟨o,h⟩) | h
 ·exact .inl (.inl (e.get h))
 ·exact .inl (.inr ⟨o,e.get h⟩)
 ·exact .inr h
end
def tR(P:Addr)(pos:Pos)(q:Str)(H:Hp):Prop:=H P=some (.o7 #[])\/∃c',H P=some (.o7 #[rawInt pos.line,rawInt pos.col,.ref c'])/\H c'=some (Mw c' q)
theorem tR.same{P:Addr}(h:tR P pos q H)(s:ay H H'):tR P pos q H':=by
 rcases h with h | ⟨c,h,g⟩
 ·exact .inl (s _ _ h)
 ·exact .inr ⟨c,s _ _ h,s _ _ g⟩
def z_(base:Heap)(mg:Str->Option Value):Prop:=∃bm ob,mg "__builtins__"=some (.ref bm)/\bm≠builtinsNs/\base.get? bm=some ob/\ob.cls= .type "module"/\ob.dict=some builtinsNs/\ob.data= .plain
section
variable{X:Cx}{pins:List (Addr×Obj)}{σ:St}{H:Hp}{s:Shared}
theorem Inv.grow{P:Addr}{ps more:Array Value}{t':Nat}(I:Inv X pins σ H s)(hP:H P=some (.o7 ps))(k:∀b u,b≠P->s.heap.get? b=some u->h'.get? b=some u)(e:h'.get? P=some { cls:= .none,data:= .fields (ps++more) }):
  Inv X pins σ (upd H P (.o7 (ps++more))) { s with heap:=h',toks:=t' }:=by
 have n0:∀b,H b=none->b≠P:=λb n z=>by rw[z,hP]at n;cases n
 have n1:∀b u,H b=some u->(∀ps,u≠ .o7 ps)->b≠P:=λb u q n z=>by rw[z,hP]at q;cases q;exact n _ rfl
 refine I.un (h':=h') (t':=t') ⟨λb u q n _ _=>k b u (n0 b n) q,λb u q n _ _=>⟨u.slots,k b u (n0 b n) q⟩,λb u q n _=>by rw[aq (n0 b n)];exact n,λb u q _=>?_,
  λb xs q=>by rw[aq (n1 b _ q λ_ z=>by cases z)];exact q,λb u xs q=>by rw[aq (n1 b _ q λ_ z=>by cases z)];exact q,λb qs q=>?_⟩ λb u q=>?_
 ·by_cases hb:b=P
  ·exact ⟨_,hb▸e⟩
  ·exact ⟨u,k b u hb q⟩
 ·by_cases hb:b=P
  ·subst hb;rw[hP]at q;cases q;exact ⟨more,aa⟩
  ·exact ⟨#[],by rw[aq hb,q];simp⟩
 ·by_cases hb:b=P
  ·subst hb;rw[aa]at q;cases q;exact e
  ·rw[aq hb]at q
   refine (I.bX b u q).pA (λc v hc r=>k c v ?_ r) (λc r=>by rw[aq (n1 c _ r λ_ z=>by cases z)];exact r) λc xs r=>by rw[aq (n1 c _ r λ_ z=>by cases z)];exact r
   rcases hc with z | z
   ·rw[z];exact hb
   ·exact n1 c _ z λ_ w=>by cases w
end
section
variable{X:Cx}{c P:Addr}{params:Arguments}{body:Expr}{scope:Scope}{pos:Pos}{qual:Str}
def VN(P:Addr)(qual:Str)(params:Arguments)(body:Expr)(scope:Scope)(pos:Pos):TE:=λσ H Q=>tR P pos qual H/\
 ∀f c' pm ny H',bQ (· =P) H H'->H f=none->tR P pos qual H'->H' f=some (Mv f (PySem.W.kla_obj "<lambda>" qual params body scope [] pm c' ny))->H' c'=some (Mw c' qual)->Q (.ref f) H'
theorem QI(OE:X.env.code= .ref c)(hh:PySem.W.codeHdIn X.K c P=true)(hb:z_ X.base X.mg)(hq:X.env.qual++"<lambda>"=qual)(QJ:closureFor scope X.env=pure [])(hd:defaultsOf params X.env=([],[])):
  PE X (.Lambda params body scope pos) (VN P qual params body scope pos):=by
 subst hq
 walk_at"e"
 obtain ⟨hT,hQ⟩:=h
 have hg:s.heap.Ns mainGlobals X.mg:=I.mod.glob.keeps I.bk
 have C:=PySem.W.codeHd_of_K I.Bg hh
 obtain ⟨bm,ob,b1,b2,b3,b4,b5,b6⟩:=hb
 obtain ⟨ps,hP,A9⟩:∃ps,H P=some (.o7 ps)/\(ps= #[]\/∃c',ps= #[rawInt pos.line,rawInt pos.col,.ref c']/\H c'=some (Mw c' (X.env.qual++"<lambda>"))):=by
  rcases hT with h | ⟨c',h,g⟩
  ·exact ⟨_,h,.inl rfl⟩
  ·exact ⟨_,h,.inr ⟨c',rfl,g⟩⟩
 have Mb:s.heap.get? P=some (PySem.W.tabObj ps):=I.bX P _ hP
 have nP:∀b o,X.base.get? b=some o->b≠P:=λb o e z=>by
  have:=(I.bs b o e).2
  rw[z,hP]at this;cases this
 have hgP:mainGlobals≠P:=by
  obtain ⟨o,es,ep,e,_⟩:=I.mod.glob
  exact nP _ _ e
 have hbG:bm≠mainGlobals:=λq=>by
  obtain ⟨o,es,ep,e,hdd,_⟩:=I.mod.glob
  rw[<-q,b3]at e;cases e;rw[hdd]at b6;cases b6
 have Xt:s.heap.BuiltinsAt X.mg P:=⟨bm,ob,b1,b2,hbG,nP _ _ b3,I.bk _ _ b3,b4,b5,b6⟩
 refine PySem.W.kla_eval hd ?_
 rcases A9 with rfl | ⟨c',rfl,vn⟩
 ·-- made
  refine PySem.W.kla_makeFunction (mg:=X.mg) (P:=P) (ps:= #[]) QJ I.ok.glob hg OE C Mb trivial rfl hgP Xt λc' ny h' tk hx QK dZ Zd htb=>?_
  obtain ⟨c₂,oc,vs,t,e2,Xa,hdc,hv⟩:=Zd
  cases e2
  have hPs:P<s.heap.objs.size:=Qay Mb
  have fC:H c'=none:=I.bX.fresh QK
  have hsz:s.heap.objs.size<=h'.objs.size:=Qbp (Qbl QK dZ)
  have fF:H h'.objs.size=none:=I.bX.fresh hsz
  have nPc:P≠c':=Qa0 (Qa3 hPs QK)
  have nPf:P≠h'.objs.size:=Qa0 (Qa3 hPs hsz)
  have ncf:c'≠h'.objs.size:=Qa0 dZ
  have I1:=I.grow (more:= #[rawInt pos.line,rawInt pos.col,.ref c']) (h':=h') (t':=tk) hP (λb u n e=>hx b u n e) htb
  have F1:Za X pins c':=I.Zb QK
  have I2:=I1.own (t':=tk) (h':=h') (D:=c') (o:=Mw c' (X.env.qual++"<lambda>")) (ch:=[c']) (.head _) (λ_ _ _ e=>e) (λb hb=>by rw[U0.mp hb,aq (Ne.symm nPc)];exact fC) (λb hb=>by rw[U0.mp hb];exact F1) (QH Xa hdc hv)
  have I3:=I2.laid (a:=h'.objs.size) (o:=Mv h'.objs.size (PySem.W.kla_obj "<lambda>" (X.env.qual++"<lambda>") params body scope [] ((X.mg "__name__").getD .none) c' ny)) (t':=tk) (h':=h'.push (PySem.W.kla_obj "<lambda>" (X.env.qual++"<lambda>") params body scope [] ((X.mg "__name__").getD .none) c' ny)) (λb u e=>Qac _ e) (Qaa _) (Ip (Qaq _ rfl))
  refine ⟨.ref h'.objs.size,_,I3,rfl,hQ h'.objs.size c' _ ny _ (λb u e=>?_) fF (.inr ⟨c',?_,?_⟩) aa ?_⟩
  ·rw[aq (az e fF),aq (az e fC)]
   by_cases nb:b=P
   ·subst nb
    rw[hP]at e
    cases e
    exact .inr ⟨rfl,⟨_,rfl⟩,_,aa⟩
   ·rw[aq nb];exact .inl e
  ·rw[aq nPf,aq nPc,aa];simp
  ·rw[aq ncf,aa]
  ·rw[aq ncf,aa]
 ·refine PySem.W.kla_makeFunctionHit (mg:=X.mg) (P:=P) (cv:= .ref c') QJ I.ok.glob hg OE C Mb trivial (codeAmong_snoc [] trivial rfl) Xt λny h' tk hk hsz=>?_
  have fF:H h'.objs.size=none:=I.bX.fresh hsz
  have I1:Inv X pins σ H { s with heap:=h',toks:=tk }:=I.kept (t':=tk) hk
  have I3:=I1.laid (a:=h'.objs.size) (o:=Mv h'.objs.size (PySem.W.kla_obj "<lambda>" (X.env.qual++"<lambda>") params body scope [] ((X.mg "__name__").getD .none) c' ny)) (t':=tk) (h':=h'.push (PySem.W.kla_obj "<lambda>" (X.env.qual++"<lambda>") params body scope [] ((X.mg "__name__").getD .none) c' ny)) (λb u e=>Qac _ e) (Qaa _) (Ip (Qaq _ rfl))
  have k:∀b u,H b=some u->upd H h'.objs.size (Mv h'.objs.size (PySem.W.kla_obj "<lambda>" (X.env.qual++"<lambda>") params body scope [] ((X.mg "__name__").getD .none) c' ny)) b=some u:=λb u e=>by rw[aq (az e fF)];exact e
  exact ⟨.ref h'.objs.size,_,I3,rfl,hQ h'.objs.size c' _ ny _ (λb u e=> .inl (k b u e)) fF (.inr ⟨c',k _ _ hP,k _ _ vn⟩) aa (k _ _ vn)⟩
end
variable{c':Addr}{params:Arguments}{pm ny:Value}{qual:Str}{N:List Str}
section
variable{P:Program}{w:World}{K:c6}{mg:Str->Option Value}{base:Heap}
theorem QL{k:Nat}{body:Expr}{scope:Scope}{Ze:Sp}(S:aG N ps scope)(len:∀vs H Q E,Ze vs H Q E->(vs:)=(ps:))
  (sP:∀(A:Around) (outer:List Env) (s:Shared) (H:Hp) (vs:List V) (Q:VK) (E:XK),c_ k (A.deeper (envOfC qual scope s.heap.objs.size f (.ref c')))->Ze vs H Q E->
   ∃t:TE,PE (xA eM P w K mg base N qual scope f (.ref c') A outer s H E).Lf body t/\t (start N vs) H Q):
  bD P w K mg base eM (k+1) f (PySem.W.kla_fn "<lambda>" qual params body scope [] pm (.ref c') ny) ps
   (λvs H Q E=>H f=some (Mv f (PySem.W.kla_obj "<lambda>" qual params body scope [] pm c' ny))/\H c'=some (Mw c' qual)/\Ze vs H Q E):=by
 refine ⟨λvs H Q E h=>len _ _ _ _ h.2.2,λA outer s H args us vs Q E hr e0 hb r zB=>?_⟩
 obtain ⟨h1,h2,zB⟩:=zB
 have hl:=len _ _ _ _ zB
 obtain ⟨ho,_,_⟩:=e0.bX f _ h1
 obtain ⟨⟨oc,ws,tc,g1,g2,g3⟩,_,_⟩:=e0.bX c' _ h2
 have GZ:s.heap.get? f=some (PySem.W.kla_obj "<lambda>" qual params body scope [] pm c' ny):=ho
 have lim:s.heap.NoLimit:=e0.mod.nolimit.keeps λb o e=>(e0.bs b o e).1
 have g_:∀y∈ps.zip us,scope.names.lookup y.1=some .local\/(scope.names.lookup y.1=some .cell/\((cellsFrom (s.heap.objs.size+1) scope.names []).lookup y.1).isSome=true):=λ⟨n,v⟩ hy=>by
  rcases S.par n (Qfm hy).1 with q | q
  ·exact .inl q
  ·exact .inr ⟨q,Qfg _ _ _ (.inl q)⟩
 refine PySem.W.kla_callFunE hr.depth GZ rfl S.co S.gen rfl ⟨c',oc,ws,tc,rfl,g1,g2,g3⟩ (hb _ _ _ _ ?_)
 refine wpAny_newFunctionEnv_cells S.kind g_ λenv he s1 x=>?_
 subst he
 refine ⟨lim.keeps x.toInCall.keep,PySem.W.kla_codeExpr ?_⟩
 obtain ⟨t,ht,hq⟩:=sP A outer s H vs Q E (hr.deeper _) zB
 have I:Inv (xA eM P w K mg base N qual scope f (.ref c') A outer s H E) [] (start N vs) H s1:=wc S hr.hd e0 hl r x
 refine wpAny_mono (ht.Lf [] s1 (start N vs) H _ I hq) (λu s' hs=>?_) λe s' hs=>hs
 obtain ⟨v,H',J,rv,q⟩:=hs
 exact ⟨v,H',J.os,J.bare,J.base,J.bX,rv,q⟩
end
def OF:Sp:=λvs H Q _=>∃w:c5,vs=[.str (S w)]/\(w:)<=10000/\∀p H',ay H H'->H' p=some (.tup [.int ((w:):Nat),.str (S w)])->Q (.ref p) H'
theorem Fn(vs:List V)(H:Hp)(Q:VK)(E:XK)(h:OF vs H Q E):(vs:)=1:=by obtain ⟨_,rfl,_⟩:=h;rfl
variable{p:Addr}
section
variable{X:Cx}{k:Nat}{c P:Addr}{params:Arguments}{body:Expr}{scope:Scope}{qual x:Str}
inductive Iq(K:c6)(H:Hp)(p:Addr)(ws:List c5):Prop
 | lst (_:bu K H p (ws.map λl=>V.str (S l)))
 | Oz (aJ:List (Key×V)) (_:H p=some (.dK aJ)) (_:aJ.map (·.1)=ws.map λl=>Sum.inr (S l))
theorem Iq.VO{pp:Addr->Prop}(h:Iq K H p ws)(s:bQ pp H H'):Iq K H' p ws:=by
 cases h with
 | lst h=>exact .lst (s.seq h)
 | Oz aJ h e=>exact .Oz aJ (s.get h) e
def Ir(X:Cx)(k:Nat)(x qual:Str)(params:Arguments)(body:Expr)(scope:Scope):Prop:=∀(f c':Addr) (pm ny:Value),
 bD X.prog X.w X.K X.mg X.base eM k f (PySem.W.kla_fn "<lambda>" qual params body scope [] pm (.ref c') ny) [x] (λvs H Q E=>H f=some (Mv f (PySem.W.kla_obj "<lambda>" qual params body scope [] pm c' ny))/\H c'=some (Mw c' qual)/\OF vs H Q E)/\
  Binds X.K (PySem.W.kla_fn "<lambda>" qual params body scope [] pm (.ref c') ny) [x] []
theorem xY{Q:VK}(hc:X.calm=true)(hF:Ir X k x qual params body scope)(hr:c_ k X.A.in1.in1)(I:Inv X pins σ H s)(h:Iq X.K H p ws)(hn:(ws:)<=63)(hw:∀w∈ws,(w:)<=10000)
  (h1:H f=some (Mv f (PySem.W.kla_obj "<lambda>" qual params body scope [] pm c' ny))) (h2:H c'=some (Mw c' qual))
  (q:∀(D:Addr) (H':Hp) (o8:List c5),ay H H'->H D=none->H' D=some (.lst (o8.map λl=>V.str (S l)))->o8.Perm ws->(o8.Pairwise λa b=>ml b a=false)->Q (.ref D) H'):
  wpAny (model X.prog X.w) X.A (call (.builtin "sorted") [.ref p] [(Str.ofString "key",.ref f)]) (EP X pins σ Q) X.xe s:=by
 walk_at"I"
 obtain ⟨F,hb⟩:=hF f c' pm ny
 have fin:∀(s1:Shared) (vs:List Value),Inv X pins σ H s1->(∀a,s1.heap.objs.size<=a->H a=none)->Vals (ws.map λl=>V.str (S l)) vs->
   wpAny (model X.prog X.w) X.A.in1 (newList vs >>= λl=>holding [l] (call (.builtin "list.sort") [l] [(Str.ofString "key",.ref f)]) >>= λ_=>(ret l:Sem PySem.Fin)) (λfin s'=>∃v,fin= .done (.ret v)/\EP X pins σ Q v s') X.xe s1:=by
  intro s1 vs I1 Hm rv
  have hlv:(ws:)=(vs:):=by have:=(rv:);rwa [Xi]at this
  refine wpAny_bind (wpAny_newList ?_ (by show (vs:)<=_;lia))
  have Pk:(s1.heap.push (seqObj "list" vs.toArray 0)).get? s1.heap.objs.size=some (seqObj "list" vs.toArray 0):=Qaq _ rfl
  show wpAny _ _ _ _ _ { s1 with heap:=s1.heap.push (seqObj "list" vs.toArray 0) }
  refine wpAny_bind (wpAny_holding (wpAny_call_entry_kw slot_list_sort ⟨_,Pk,rfl⟩ entry_list_sort ?_ (ksk_l1 _ _)))
  show wpAny (model X.prog X.w) X.A.in1.in1 (Builtin.«list.sort» ⟨[.ref s1.heap.objs.size],[(Str.ofString "key",.ref f)]⟩) _ _ _
  rw[ksk_t1]
  refine Fm (s:=s1) (h1:=s1.heap) F hr hb I1 rv hn (λH' w Q' hm sm hQ=>⟨sm _ _ h1,sm _ _ h2,w,rfl,hw w hm,hQ⟩) λs' H' o8 sm hD pw ord I'=>⟨_,rfl,?_⟩
  have Zf:H s1.heap.objs.size=none:=Hm _ (Qaa _)
  exact wpAny_pure ⟨_,rfl,.ref s1.heap.objs.size,_,I',rfl,q _ _ o8 (sm.trans λb o e=>by rw[aq (az e hD)];exact e) Zf aa pw ord⟩
 refine call_function_entry_kw kind_sorted plain_sorted entry_sorted (ksk_s1 _ _) ?_
 unfold Builtin.«sorted»
 refine wpAny_bind (m:=checkCount "sorted" 1 1 _) (wpAny_pure ?_)
 cases h with
 | lst hq=>
  obtain ⟨aN,rv,pl,hz⟩:=I.list hq
  obtain ⟨o,ho,QJ,m,hd⟩:=pl.isList
  refine wpAny_bind (wpAny_collect_seq p (.inl rfl) ho QJ hd (λh1 k1=>?_) (by rw[Qaj, <-(rv:)];exact hz))
  have I1:Inv X pins σ H { s with heap:=h1 }:=I.kept (t':=s.toks) k1
  exact fin { s with heap:=h1 } aN I1 (λa ha=>I1.bX.fresh ha) (by simpa using rv)
 | Oz aJ hd hk=>
  obtain ⟨hz,QA,vs,kv,o,es,ep,e1,e2,e3,e4,e5,e6⟩:=I.bX p _ hd
  have hlen:(vs:)=(ws:):=by
   have a1:=congrArg List.length (rR kv)
   have a2:=congrArg List.length hk
   simp only[Xi]at a1 a2
   lia
  refine wpAny_bind (nU (A:=X.A.in1) (show X.A.in1.handled=none from I.ok.hd hc) p vs ep QA ⟨o,es,e1,e2,e3,e4,e5,e6⟩ () (λs' acc Y8 hg Qz ho xM=>?_))
  obtain ⟨g1,g2⟩:=xM
  have rv:Vals (ws.map λl=>V.str (S l)) acc.toList:=by
   have key:∀(ls:List c5) (vs:List Value),(vs:)=(ls:)->(∀(j:Nat) (v:Value),vs[j]? =some v->∃l t,ls[j]? =some l/\v=Value.str (S l) t)->Vals (ls.map λl=>V.str (S l)) vs:=by
    intro ls
    induction ls with
    | nil=>intro vs hl _;have:vs=[]:=Qcb hl;subst this;exact .nil
    | cons l ls ih=>
     intro vs hl hv
     cases vs with
     | nil=>simp at hl
     | cons v vs=>
      obtain ⟨l',t,e1,e2⟩:=hv 0 v rfl
      have BJ:l=l':=by simpa using e1
      subst BJ
      refine .cons ⟨t,e2⟩ (ih vs (by simpa using hl) λj v' e=>?_)
      obtain ⟨l',t',g1,g2⟩:=hv (j+1) v' (by simpa using e)
      exact ⟨l',t',by simpa using g1,g2⟩
   refine key ws acc.toList (by simpa [<-hlen]using g1) λj v e=>?_
   obtain ⟨k,x,e1,e2⟩:=g2 j v (by simpa using e)
   have e3:(vs.map (·.1))[j]? =some k:=by rw[Qau,e1];rfl
   rw[rR kv,hk,Qau]at e3
   cases e4:ws[j]? with
   | none=>rw[e4]at e3;cases e3
   | some l=>
    rw[e4]at e3
    have e5:k=Sum.inr (S l):=(Qaz e3).symm
    subst e5
    obtain ⟨t,e6⟩:=Value.isStrOf_shape (x:=S l) (v:=v) e2
    exact ⟨l,t,rfl,e6⟩
  have I1:Inv X pins σ H s':=by
   have:=I.kept (t':=s'.toks) Y8
   have es:({ s with heap:=s'.heap,toks:=s'.toks }:Shared)=s':=by
    cases s;cases s'
    simp only at hg Qz ho
    subst hg Qz ho
    rfl
   rwa [es]at this
  exact fin s' acc.toList I1 (λa ha=>I1.bX.fresh ha) rv
inductive Aa(K:c6)(P:Addr)(pos:Pos)(qual:Str)(vs:List V)(H:Hp)(Q:VK):Prop
 | mk (p:Addr) (ws:List c5) (_:vs=[.ref p]) (_:Iq K H p ws) (_:(ws:)<=63) (_:∀w∈ws,(w:)<=10000) (_:tR P pos qual H)
  (_:∀(D:Addr) (H':Hp) (o8:List c5),bQ (· =P) H H'->tR P pos qual H'->H D=none->H' D=some (.lst (o8.map λl=>V.str (S l)))->o8.Perm ws->(o8.Pairwise λa b=>ml b a=false)->Q (.ref D) H'):Aa K P pos qual vs H Q
def QM(K:c6)(P:Addr)(pos:Pos)(qual:Str)(t:TA):TE:=λσ H Q=>t σ H λvs H1=>Aa K P pos qual vs H1 Q
theorem Iu{t:TA}{kp p pl:Pos}(K:c6)(hK:X.K=K)(hc:X.calm=true)(hg:Gl X "sorted")(hm:X.mg "sorted"=none)(hv:bootBuiltins "sorted"=some (.builtin "sorted"))(ha:PA X [e] t)
  (hl:PE X (.Lambda params body scope pl) (VN P qual params body scope pl)) (hF:Ir X k x qual params body scope) (hr:c_ k X.A.in1.in1)
  (he:starEach [e] X.env=[(false,eval e X.env)]:=by rfl):PE X (.Call (.Name "sorted" p) [e] [⟨some "key", .Lambda params body scope pl,kp⟩] pos) (QM K P pl qual t):=by
 subst hK
 walk_at"e"
 refine wpAny_Call_Name_kw (il I hg hm hv ?_)
 refine callWith_kw (cE (ha pos pins s σ H _ I h) λus s1 ⟨vs,H1,I1,r1,q1⟩=>?_) (by rw[he];rfl) (by rw[he];rfl)
 obtain ⟨a,ws,rfl,hq,hn,hw,hT,q⟩:=q1
 obtain ⟨u,rfl,ru⟩:=vals1 r1
 cases ru
 refine kws_cons (cE (hl pins s1 σ H1 (λv H2=>∃f c' pm ny,v= .ref f/\bQ (· =P) H1 H2/\tR P pl qual H2/\H2 f=some (Mv f (PySem.W.kla_obj "<lambda>" qual params body scope [] pm c' ny))/\H2 c'=some (Mw c' qual)) I1 ⟨hT,λf c' pm ny H' a1 _ a3 a4 a5=>⟨f,c',pm,ny,rfl,a1,a3,a4,a5⟩⟩) λv s2 hq2=>kws_nil ?_)
 obtain ⟨_,H2,I2,r2,f,c',pm,ny,rfl,sT,Lm,hf,Mt⟩:=hq2
 cases r2
 refine xY hc hF hr I2 (hq.VO sT) hn hw hf Mt λD H' o8 sm hD hD' pw ord=>q D H' o8 (sT.trans (.of sm)) (Lm.same sm) (sT.free hD) hD' pw ord
end
def OG(H:Hp):Prop:=∀b o,H b=some o->(∃ob xs,o= .EL ob (.lst xs))\/o= .o7 #[]
theorem Fo{P:Program}{w:World}{mg mb:Str->Option Value}{CX:EY}{k:Nat}{fa:Addr}{fd:FuncData}{sp:Sp}{s₁:Shared}{ns:List Int}{ts:List Addr}
  (KX:K.In s₁.heap) (Xj:s₁.heap.Ns mainGlobals mg) (hb:s₁.heap.Ns builtinsNs mb) (hbb:∀x:Str,x≠"__name__"->mb x=bootBuiltins x) (Zg:s₁.heap.NoLimit) (hg:s₁.gens= #[])
  (hT:∀Q∈ts,s₁.heap.get? Q=some (PySem.W.tabObj #[])/\isCodeTable s₁.heap Q) (VP:PySem.W.noTabs K=true) (Xt:z_ s₁.heap mg)
  (ha:s₁.heap.get? a=some { cls:= .type "list",data:= .seq vs.toArray }) (hi:IntsAre vs ns) (hl:(ns:)<=sizeLine) (hr:c_ k callerA)
  (F:∀base:Heap,K.In base->base.Ns mainGlobals mg->z_ base mg->bD P w K mg base CX k fa fd [x] sp) (VQ:∀(s:Shared) (u:Value),BindsTo s fd ⟨[u],[]⟩ [(x,u)])
  (zB:∀H:Hp,OG H->(∀Q∈ts,H Q=some (.o7 #[]))->bu K H a (ns.map V.int)->sp [.ref a] H (λv _=>v= .bl true) λ_ _ _=>False)
  (Zh:∀H e s',CX [] H s₁ (λ_ _ _=>False) e s'->False):
  codeAny (model P w) callerA (.call (.ref fa) ⟨[.ref a],[]⟩) (λr s'=>r= .ok (.ret (.bool true))/\OldK s₁.heap s'.heap/\s'.os=s₁.os/\AllBare s'.gens) s₁:=by
 have rv:=wg hi
 have Zi:=(hi:)
 have Zj:∀{b:Addr} {o:Obj},K.lookup b=some o->o≠PySem.W.tabObj #[]:=λ{b o} e z=>by
  have h2:=Qb8.mp VP (b,o) (PySem.W.mem_of_lookupK e)
  subst z
  exact absurd (show false=true from h2) Qax
 have core:∀H:Hp,(∀b o,H b=some o->(b∈ts/\o= .o7 #[])\/(b=a/\∃ob xs,o= .EL ob (.lst xs)))->(∀Q∈ts,H Q=some (.o7 #[]))->bu K H a (ns.map V.int)->mP P w H s₁.heap->(H a≠none->K.lookup a=none)->
   codeAny (model P w) callerA (.call (.ref fa) ⟨[.ref a],[]⟩) (λr s'=>r= .ok (.ret (.bool true))/\OldK s₁.heap s'.heap/\s'.os=s₁.os/\AllBare s'.gens) s₁:=by
  intro H hA Zk hS bX hK
  have xZ:∀{b:Addr} {o:Obj},s₁.heap.get? b=some o->H b=none->(vm s₁.heap H).get? b=some o:=λe n=>GX e n
  have DI:∀{b:Addr} {o:Obj},s₁.heap.get? b=some o->o≠PySem.W.tabObj #[]->(b=a->False)->H b=none:=λ{b o} e n na=>by
   cases q:H b with
   | none=>rfl
   | some u=>
    rcases hA b u q with ⟨hm,_⟩ | ⟨z,_⟩
    ·have:=(hT b hm).1
     rw[e]at this
     exact absurd (Qaz this) n
    ·exact (na z).elim
  have UR:∀{b:Addr} {o:Obj} {es:Array DictEntry} {ep:Nat},s₁.heap.get? b=some o->o.data= .dict es ep->H b=none:=λ{b o es ep} e d=>by
   refine DI e (λz=>by rw[z]at d;cases d) λz=>?_
   rw[z,ha]at e
   cases e
   have d':Data.seq vs.toArray _=Data.dict es ep:=d
   cases d'
  have Xu:∀{b:Addr} {m:Str->Option Value},s₁.heap.Ns b m->(vm s₁.heap H).Ns b m:=λ{b m} ⟨o,es,ep,e,d,r⟩=>⟨o,es,ep,xZ e (UR e d),d,r⟩
  have hKb:K.In (vm s₁.heap H):=λb o e=>xZ (KX b o e) (by
   cases q:H b with
   | none=>rfl
   | some u=>
    rcases hA b u q with ⟨hm,_⟩ | ⟨z,_⟩
    ·have:=(hT b hm).1
     rw[KX b o e]at this
     exact absurd (Qaz this) (Zj e)
    ·rw[z]at e q
     rw[hK (by rw[q];simp)]at e;cases e)
  have hBm:z_ (vm s₁.heap H) mg:=by
   obtain ⟨bm,ob,b1,b2,b3,b4,b5,b6⟩:=Xt
   refine ⟨bm,ob,b1,b2,xZ b3 (DI b3 (λz=>by rw[z]at b4;cases b4) λz=>?_),b4,b5,b6⟩
   rw[z,ha]at b3
   cases b3
   cases b6
  have hM:Mod K mg (vm s₁.heap H):=⟨hKb,Xu Xj,⟨mb,Xu hb,hbb⟩,let ⟨mc,h1,h2⟩:=Zg;⟨mc,Xu h1,h2⟩⟩
  have e0:vp P w K mg (vm s₁.heap H) callerA [] s₁ H:=⟨rfl,hM,λb o e=>LD e,Qf2 (EM _ _),trivial,λb hb=>absurd (show b∈([]:List Addr) from hb) (by simp),bX,.of_eq hg⟩
  have hO:OG H:=λb o e=>(hA b o e).elim (λz=> .inr z.2) λz=> .inl z.2
  refine codeAny_mono ((F _ hKb (Xu Xj) hBm).run callerA [] s₁ H ⟨[.ref a],[]⟩ [.ref a] [.ref a] _ _ hr e0 (VQ s₁ (.ref a)) (.cons rfl .nil) (zB H hO Zk hS)) λr s' h=>?_
  cases r with
  | error e=>exact (Zh H e s' h).elim
  | ok fl=>
   cases fl with
   | next=>exact False.elim h
   | brk=>exact False.elim h
   | cont=>exact False.elim h
   | ret u=>
    obtain ⟨v,H',os,bare,un,VR,r',q⟩:=h
    have q':v= .bl true:=q
    subst q'
    obtain rfl:u=Value.bool true:=r'
    refine ⟨rfl,⟨λb o e=>?_,λb o e=>un.there b o e (by simp)⟩,os,bare⟩
    cases q:H b with
    | none=>exact .inl (un.keep b o e q (by intro z;exact absurd (show b∈([]:List Addr) from z) (by simp)) (by simp))
    | some u=>
     rcases hA b u q with ⟨hm,rfl⟩ | ⟨_,ob,xs,rfl⟩
     ·obtain ⟨t1,t2⟩:=hT b hm
      rw[e]at t1
      cases t1
      obtain ⟨more,z2⟩:=un.vh b _ q
      exact .inr (.inl ⟨t2,rfl, #[],more,rfl,VR b _ z2⟩)
     ·have z2:=un.sG b ob _ q
      obtain ⟨e1,_⟩:=bX b _ q
      obtain ⟨e2,_⟩:=VR b _ z2
      rw[e]at e1;cases e1
      exact .inl e2
 have aT:a∉ts:=λhm=>by
  have:=(hT a hm).1
  rw[ha]at this
  cases this
 have OH:∀(H:Hp) (b:Addr),b∈ts->cP P w H s₁.heap b (.o7 #[]):=λH b hm=>(hT b hm).1
 cases hk:K.lookup a with
 | some o=>
  have e:=KX a o hk
  rw[ha]at e
  cases e
  refine core (λb=>if b∈ts then some (.o7 #[]) else none) (λb o e=>?_) (λQ hm=>if_pos hm) (.inr ⟨_,vs.toArray,_,hk,rfl,rfl,rfl,by rw[Qaj,Zi];exact hl,by simpa using rv⟩) (λb u z=>?_) λz=>absurd (if_neg aT) z
  ·by_cases hm:b∈ts
   ·have e':=(if_pos hm).symm.trans e
    cases e'
    exact .inl ⟨hm,rfl⟩
   ·have e':=(if_neg hm).symm.trans e
    cases e'
  ·by_cases hm:b∈ts
   ·have e':=(if_pos hm).symm.trans z
    cases e'
    exact OH _ b hm
   ·have e':=(if_neg hm).symm.trans z
    cases e'
 | none=>
  have hA2:∀b o,(if b∈ts then some (HO.o7 #[]) else if b=a then some (HO.EL { cls:= .type "list",data:= .seq vs.toArray } (.lst (ns.map V.int))) else none)=some o->(b∈ts/\o= .o7 #[])\/(b=a/\o= .EL { cls:= .type "list",data:= .seq vs.toArray } (.lst (ns.map V.int))):=λb o e=>by
   by_cases hm:b∈ts
   ·rw[if_pos hm]at e
    cases e
    exact .inl ⟨hm,rfl⟩
   ·rw[if_neg hm]at e
    by_cases hb:b=a
    ·rw[if_pos hb]at e
     cases e
     exact .inr ⟨hb,rfl⟩
    ·rw[if_neg hb]at e
     cases e
  refine core (λb=>if b∈ts then some (.o7 #[]) else if b=a then some (.EL { cls:= .type "list",data:= .seq vs.toArray } (.lst (ns.map V.int))) else none) (λb o e=>(hA2 b o e).imp id λz=>⟨z.1,_,_,z.2⟩) (λQ hm=>if_pos hm)
   (.inl (.inr ⟨{ cls:= .type "list",data:= .seq vs.toArray },by show (if a∈ts then _ else if a=a then _ else _)=_;rw[if_neg aT,if_pos rfl]⟩)) (λb u z=>?_) λ_=>hk
  rcases hA2 b u z with ⟨hm,rfl⟩ | ⟨rfl,rfl⟩
  ·exact OH _ b hm
  ·exact ⟨ha,by rw[Xi];exact hl,vs,_,rv,ha⟩
theorem Iv{P:Addr}(x:PySem.W.CodeHd h c P):isCodeTable h P:=let ⟨o,vs,_,_,_,_,_,_,_,e1,e2,e3,e4,_⟩:=x;⟨c,o,vs,e1,e2,e3,e4⟩
def Tab(K:c6)(x:Str)(pos:Pos)(q:Str)(H:Hp):Prop:=∀c P,PySem.W.tabIn K x=some (c,P)->tR P pos q H
theorem Tab.same(h:Tab K x pos q H)(s:ay H H'):Tab K x pos q H':=λc P e=>(h c P e).same s
def TabAt(K:c6)(x:Str)(P:Addr):Prop:=∃c,PySem.W.tabIn K x=some (c,P)
theorem TabAt.eq{P Q:Addr}(h:TabAt K x P)(g:TabAt K x Q):P=Q:=by
 obtain ⟨c,e⟩:=h
 obtain ⟨d,f⟩:=g
 rw[e]at f
 cases f
 rfl
theorem Tab.at_{P:Addr}(h:Tab K x pos q H)(t:TabAt K x P):tR P pos q H:=let ⟨c,e⟩:=t;h c P e
theorem Tab.mk{P:Addr}(t:TabAt K x P)(h:tR P pos q H):Tab K x pos q H:=λc Q e=>by rw[<-t.eq ⟨c,e⟩];exact h
noncomputable def Iw(K:c6)(P:Addr):Bool:=K.any λp=>PySem.W.codeHdIn K p.1 P
noncomputable def tabOf(K:c6)(ts:List Addr)(x:Str):Bool:=match PySem.W.tabIn K x with
 | some (_,P)=>ts.contains P
 | none=>true
class Iy (base:Heap) (mg:Str->Option Value):Prop where
 bm:z_ base mg
theorem Iz{l:PySem.W.OpenLaw}{k:Nat}{q:Program}{loose:List Str}{XP:(Str->Option Value)->Heap->Prop}{YP:World->Heap->Prop}{d:DefRec}{K:Params->c6}{CX:EY}{sp:c6->Sp}{ts:List Addr}{xs:List Str}
  (hn:l.most=some n) (ve:n<=sizeLine) (U3:d.params.defaults=[]) (hr:c_ k callerA)
  (hY:∀(w:World) (h:Heap),YP w h->(K w.params).In h/\∀r∈ts,h.get? r=some (PySem.W.tabObj #[])) (VP:∀w:World,PySem.W.noTabs (K w.params)=true) (hC:∀w:World,ts.all (Iw (K w.params))=true) (hX:∀w:World,xs.all (tabOf (K w.params) ts)=true)
  (F:∀(w:World) (mg:Str->Option Value) (fa:Addr) (h:Heap),(K w.params).In h->h.Ns mainGlobals mg->mg d.name=some (.ref fa)->
   ∃fd:FuncData,(∀(s:Shared) (u:Value),BindsTo s fd ⟨[u],[]⟩ [(x,u)])/\
    ∀base:Heap,(K w.params).In base->base.Ns mainGlobals mg->z_ base mg->bD l.prog w (K w.params) mg base CX k fa fd [x] (sp (K w.params)))
  (zB:∀(K:c6) (H:Hp) (a:Addr) (ns:List Int),(ns:)<=n->(∀x∈xs,∀pos q,Tab K x pos q H)->bu K H a (ns.map V.int)->sp K [.ref a] H (λv _=>v= .bl true) λ_ _ _=>False)
  (Zh:∀(H:Hp) (s:Shared) (e:Value) (s':Shared),CX [] H s (λ_ _ _=>False) e s'->False):
  PySem.W.WalkO q loose XP YP l.row.toRowW d [] (λf vs=>PySem.call f vs):=by
 refine Att.zI hn U3 λw s₀ s₁ mg mb fa o pm cd doc a vs ns G Y ho hd lX hmg P0 hints hlen hg=>?_
 obtain ⟨KX,hT⟩:=hY w _ Y
 obtain ⟨fd,hb,hF⟩:=F w mg fa _ KX G.T.g hmg
 refine Fo (ts:=ts) KX G.T.g G.T.b G.T.builtins G.T.nolimit hg (λQ hm=>⟨hT Q hm,?_⟩) (VP w) ?_ P0 hints (Qbb hlen ve) hr hF hb (λH hO Zk hS=>zB _ H a ns hlen (λx hx pos q c P e=> .inl (Zk P ?_)) hS) λH e s'=>Zh H s₁ e s'
 ·have h1:=Qb8.mp (hC w) Q hm
  obtain ⟨p,_,h2⟩:=Qfc.mp h1
  exact Iv (PySem.W.codeHd_of_K KX h2)
 ·obtain ⟨bm,ob,b1,b2,b3,b4,b5,b6⟩:=G.T.bmain
  exact ⟨bm,ob,b1,b2,b3,b4,b5,b6⟩
 ·have h1:=Qb8.mp (hX w) x hx
  unfold tabOf at h1
  rw[e]at h1
  simpa using h1
structure IA(K:c6)(x qual:Str)(st:Stmt)(f:Addr)(fd:FuncData)(P:Addr):Prop where
 ex:∃(oc:Value) (od:Option Addr) (kV doc pm:Value) (an:Option Addr) (c:Addr) (ct:Value) (zg:Array (Option Value)),
  fd=PySem.W.fnOf x qual (dI st) (cS st) (aA st) .none kV doc pm an (.ref c) ct/\K.lookup f=some ⟨oc,od,.func fd,zg⟩/\PySem.W.codeIn K (.ref c) qual=true/\PySem.W.codeHdIn K c P=true
 kp:PySem.W.keepIn K (.ref f)=true
variable{st:Stmt}
section
variable{P:Program}{w:World}{K:c6}{mg:Str->Option Value}{base:Heap}
theorem IA.ok{fd:FuncData}{T:Addr}{k:Nat}{sp:Sp}(F:IA K x qual st f fd T)(S:aG N ps (aA st))(len:∀vs H Q E,sp vs H Q E->(vs:)=(ps:))
  (sP:∀(c:Addr) (A:Around) (outer:List Env) (s:Shared) (H:Hp) (vs:List V) (Q:VK) (E:XK),PySem.W.codeHdIn K c T=true->c_ k (A.deeper (envOfC qual (aA st) s.heap.objs.size f (.ref c)))->sp vs H Q E->
   ∃t,zf (xA eM P w K mg base N qual (aA st) f (.ref c) A outer s H E).Lf (cS st) t/\t { nx:=λ_ H'=>Q .gk H',rt:=Q } (start N vs) H):bD P w K mg base eM (k+1) f fd ps sp:=by
 obtain ⟨oc,od,kV,doc,pm,an,c,ct,zg,rfl,lk,lX,hh⟩:=F.ex
 refine Og lk lX S len λA outer s H vs Q E hr zB=>?_
 obtain ⟨t,h,q⟩:=sP c A outer s H vs Q E hh hr zB
 exact ⟨t,h.Lf,q⟩
theorem Mx{T:Addr}{oc:Value}{od an:Option Addr}{zg:Array (Option Value)}{kV doc ct:Value}(l:K.lookup f=some ⟨oc,od,.func (PySem.W.fnOf x qual (dI st) (cS st) (aA st) .none kV doc pm an (.ref c) ct),zg⟩)
  (cc:PySem.W.codeIn K (.ref c) qual=true) (k:PySem.W.keepIn K (.ref f)=true) (h:PySem.W.codeHdIn K c T=true):IA K x qual st f (PySem.W.fnOf x qual (dI st) (cS st) (aA st) .none kV doc pm an (.ref c) ct) T:=⟨⟨oc,od,kV,doc,pm,an,c,ct,zg,rfl,l,cc,h⟩,k⟩
end
theorem IC{X:Cx}{scope:Scope}{p1 p2 p3 p4:Pos}{cx:Nat}(hz:X.mg "len"=none)(S:aG [x] [x] scope)(hg:scope.names.lookup ("len":Str)=some .globalImplicit)(hl:scope.names.lookup x=some .local)(hd:(x==("__debug__":Str))=false)(hd2:(x==("__classdict__":Str))=false)
  (hp:∀(pm cd ny:Value) (us:List Value),(us:)=1->bindArgs (PySem.W.kla_fn "<lambda>" qual params (.Tuple [.Call (.Name "len" p1) [.Name x p2] [] p3, .Name x p4] cx pos) scope [] pm cd ny) ⟨us,[]⟩=pure ([x].zip us)):
  Ir X 2 x qual params (.Tuple [.Call (.Name "len" p1) [.Name x p2] [] p3, .Name x p4] cx pos) scope:=λf c' pm ny=>
 ⟨QL (N:=[x]) S Fn λA outer s H vs Q E hr h=>⟨_,cW (ai (aQ bB hg hz boot_len (ai (Bh (i:=0) rfl (.inl hl) hd hd2) bL)) (ai (Bh (i:=0) rfl (.inl hl) hd hd2) bL)),by
  obtain ⟨w,rfl,hw,q⟩:=h
  walk_at"I"
  exact ⟨_,rfl,⟨w,rfl,(),_,rfl,(by decide:2<=sizeLine),λp e=>q p _ (λb o z=>by rw[aq (az z e)];exact z) aa⟩⟩⟩,.all (hp pm _ ny)⟩
end L2
namespace My
open PySem PySem.Spec PyProof.Rows L2 XL
theorem Zs1:(100000:Nat)<sizeLine:=∅
noncomputable def p6:List Str:=["by_size"]
noncomputable abbrev BZ:Pos:=⟨115,29,115,59⟩
noncomputable abbrev B2:Str:=(("by_size":Str)++".<locals>.")++"<lambda>"
abbrev bS(K:c6)(H:Hp):Prop:=Tab K "by_size" BZ B2 H
noncomputable def aV:c5:=[97,98,99,100,101,102,103,104,105,106,107,108,109,110,111,112,113,114,115,116,117,118,119,120,121,122]
noncomputable def mV:c5:=[65,66,67,68,69,70,71,72,73,74,75,76,77,78,79,80,81,82,83,84,85,86,87,88,89,90]
def Lt(c:Nat):Prop:=c∈aV\/c∈mV
noncomputable instance (c:Nat):Decidable (Lt c):=by unfold Lt;infer_instance
noncomputable def aC(c:Nat):Nat:=if aD c=true then PyProof.Rows.up1 c else PyProof.Rows.lo1 c
theorem x3:∀c∈aV++mV,c<128/\aC c∈aV++mV/\aC (aC c)=c/\aC c≠c:=⋯
variable{c:Nat}
theorem Lt.mem(h:Lt c):c∈aV++mV:=Qai.mpr h
theorem Lt.lt(h:Lt c):c<128:=(x3 c h.mem).1
theorem Lt.aC{c:Nat}(h:Lt c):Lt (aC c):=Qai.mp (x3 c h.mem).2.1
theorem aE(h:Lt c):aC (aC c)=c:=(x3 c h.mem).2.2.1
theorem j_(h:Lt c):aC c≠c:=(x3 c h.mem).2.2.2
variable{a b:Nat}
theorem dh(ha:Lt a)(hb:Lt b)(e:My.aC a=My.aC b):a=b:=by rw[<-aE ha,e,aE hb]
theorem Ab:∀c∈aV,q8 mV ((aV.idxOf c:Nat):Int)=some (aC c):=⋯
theorem Fp:∀c∈mV,q8 aV ((mV.idxOf c:Nat):Int)=some (aC c):=⋯
noncomputable def bK(l:c5):c5:=(l.map aC).reverse
def bA(b:Addr)(H H':Hp):Prop:=∀c o,H c=some o->c≠b->H' c=some o
theorem bA.refl(b:Addr)(H:Hp):bA b H H:=λ_ _ h _=>h
variable{H H2:Hp}
theorem bA.trans{b:Addr}{H1:Hp}(x:bA b H H1)(y:bA b H1 H2):bA b H H2:=λc o h n=>y c o (x c o h n) n
variable{H':Hp}
theorem bA.of{b:Addr}(x:ay H H'):bA b H H':=λc o h _=>x c o h
theorem bA.upd(b:Addr)(H:Hp)(o:HO):bA b H (upd H b o):=λc o h n=>by rw[aq n];exact h
variable{o:HO}
theorem ay.upd{p:Addr}(h:H p=none):ay H (L2.upd H p o):=λc u e=>by rw[aq (az e h)];exact e
def dR(H:Hp)(b:Addr):Prop:=∃x y:Int,H b=some (.lst [.int x,.int y])
theorem dR.same{b:Addr}(h:dR H b)(s:ay H H'):dR H' b:=let ⟨x,y,e⟩:=h;⟨x,y,s _ _ e⟩
structure Yd(y:c5):Prop where
 nd:y.Nodup
 lt:∀c∈y,Lt c
 cl:∀c∈y,aC c∈y
def qN(_:c6):Sp:=λvs H Q _=>∃c,vs=[.str (S [c])]/\c<128/\Q (.str (S [aC c])) H
variable{K:c6}{vs:List V}{Q:VK}{E:XK}
theorem x4(h:qN K vs H Q E):(vs:)=1:=by obtain ⟨c,rfl,_⟩:=h;rfl
def wI(_:c6):Sp:=λvs H Q _=>∃c,vs=[.str (S [c])]/\Lt c/\Q (.str (S [aC c])) H
theorem B3(h:wI K vs H Q E):(vs:)=1:=by obtain ⟨c,rfl,_⟩:=h;rfl
def wJ(_:c6):Sp:=λvs H Q _=>∃l:c5,vs=[.str (S l)]/\(∀c∈l,c<128)/\(l:)<=1000/\∀H',ay H H'->Q (.str (S (bK l))) H'
theorem B4(h:wJ K vs H Q E):(vs:)=1:=by obtain ⟨c,rfl,_⟩:=h;rfl
inductive wK(K:c6)(vs:List V)(H:Hp)(Q:VK)(dN:XK):Prop
 | mk (a:Addr) (ns:List Int) (k:Nat) (_:vs=[.ref a,.int k]) (_:bu K H a (ns.map V.int)) (_:k<=1000) (_:∀b H',H b=none->dR H' b->ay H H'->Q (.ref b) H'):wK K vs H Q dN
def DJ(K:c6):Sp:=wK K
theorem ID(h:DJ K vs H Q E):(vs:)=2:=by obtain ⟨a,ns,k,rfl,_⟩:=h;rfl
inductive tT(p_:c6)(vs:List V)(H:Hp)(Q:VK)(dN:XK):Prop
 | mk (b:Addr) (m:Int) (_:vs=[.ref b,.int m]) (_:dR H b) (_:1<=m) (_:m<1000000) (_:∀(r:Nat) H',(r:Int)<m->dR H' b->bA b H H'->Q (.int r) H'):tT p_ vs H Q dN
def Ac(p_:c6):Sp:=tT p_
theorem Fq(h:Ac K vs H Q E):(vs:)=2:=by obtain ⟨b,m,rfl,_⟩:=h;rfl
inductive tU(p_:c6)(vs:List V)(H:Hp)(Q:VK)(dN:XK):Prop
 | mk (b:Addr) (jR top:Nat) (_:vs=[.ref b,.int jR,.int top]) (_:dR H b) (_:1<=jR) (_:jR<=top) (_:top<=8) (_:∀(y:c5) H',Yd y->2*jR<=(y:)->(y:)<=2*top->dR H' b->bA b H H'->Q (.str (S y)) H'):tU p_ vs H Q dN
def Ad(p_:c6):Sp:=tU p_
theorem Fs(h:Ad K vs H Q E):(vs:)=3:=by obtain ⟨b,m,t,rfl,_⟩:=h;rfl
theorem wL:∀l:c5,(l.map λc=>[c]).flatten=l
 | []=>rfl
 | c::l=>by rw[Qa2,Qc3,wL l];rfl
theorem Ft:∀l:c5,((l.map λc=>[c]).map List.length).sum=(l:)
 | []=>rfl
 | c::l=>by
  rw[Qa2,Qa2,Qda,Ft l]
  show 1+(l:)=(l:)+1
  lia
theorem gH(l:c5):dY l=(l.map λc=>[c]).map λl=>V.str (S l):=by unfold dY;rw[Qcd];rfl
theorem Mz(l:c5):(dY l).reverse=dY l.reverse:=by unfold dY;rw[Qef]
theorem ft(l:c5)(c:Nat):dY l++[V.str (S [c])]=dY (l++[c]):=by unfold dY;rw[Qao];rfl
variable{i:Nat}
theorem take_snoc{α:Type}{l:List α}{x:α}(h:l[i]? =some x):l.take i++[x]=l.take (i+1):=by rw[Qew,h];rfl
theorem DK{ns:List Int}(h:i<(ns:)):∃z,(ns.map V.int)[i]? =some (V.int z):=⟨ns[i],by rw[Qau,P4 h];rfl⟩
variable{σ:L2.St}
theorem fV{A B:Hp->Prop}(h:A H):U7 σ H λb H3=>if b=true then A H3 else B H3:=by
 show (if true=true then A H else B H)
 rw[if_pos rfl]
 exact h
theorem B5(b:Bool)(z:Int):∃y,q8 [V.int 0,V.int z] (if b=true then 1 else 0)=some (V.int y):=by
 cases b
 ·exact ⟨0,rfl⟩
 ·exact ⟨z,rfl⟩
theorem mW{α:Type}:∀{l:List α} {i:Nat} {x:α},l[i]? =some x->(x::l.eraseIdx i).Perm l
 | [],i,x,h=>by simp at h
 | a::l,0,x,h=>by
  have:a=x:=by simpa using h
  subst this
  exact Qet _
 | a::l,i+1,x,h=>by
  have ih:=mW (l:=l) (i:=i) (x:=x) (by simpa using h)
  rw[Qdw]
  exact (List.Perm.swap a x _).trans (List.Perm.cons a ih)
theorem wM(l:c5)(i:Nat):(dY l).eraseIdx i=dY (l.eraseIdx i):=by
 unfold dY
 induction l generalizing i with
 | nil=>rfl
 | cons a l ih=>
  cases i with
  | zero=>rfl
  | succ i=>rw[Qa2,Qdw,ih,Qdw,Qa2]
variable{l:c5}
theorem IE(h:i<(l:)):(dY l)[i]? =some (V.str (S [l[i]])):=by unfold dY;rw[Qau,P4 h];rfl
theorem MA(a b:c5):dY a++dY b=dY (a++b):=by unfold dY;rw[Qao]
theorem Fu:∀c∈aV,aC c∉aV:=⋯
theorem Fv:aV.Nodup:=⋯
theorem Yd.perm{a b:c5}(h:Yd a)(p:a.Perm b):Yd b:=
 ⟨p.nodup_iff.mp h.nd,λc hc=>h.lt c (p.mem_iff.mpr hc),λc hc=>p.mem_iff.mp (h.cl c (p.mem_iff.mpr hc))⟩
structure QN(i:Nat)(L E:c5):Prop where
 yd:Yd E
 nd:L.Nodup
 sm:∀c∈L,c∈aV
 ap:∀c∈L,c∉E
 ll:L.length=26 - i
 el:E.length=2*i
theorem QN.start:QN 0 aV []:=⟨⟨Qcm,λ_ h=>absurd h Qan,λ_ h=>absurd h Qan⟩,Fv,λ_ h=>h,λ_ _ h=>absurd h Qan,rfl,rfl⟩
variable{r:Nat}
theorem QN.turn{L E:c5}(w:QN i L E)(hi:i<26)(hr:r<L.length):QN (i+1) (L.eraseIdx r) (E++[L[r],aC L[r]]):=by
 have hp:=mW (l:=L) (P4 hr)
 have hm:L[r]∈L:=Qbk hr
 have hs:=w.sm _ hm
 have hl:Lt L[r]:= .inl hs
 have QO:=hp.nodup_iff.mpr w.nd
 have sub:∀c∈L.eraseIdx r,c∈L:=λc hc=>hp.mem_iff.mp (Sd _ hc)
 have ap1:=w.ap _ hm
 have ap2:aC L[r]∉E:=λz=>ap1 (by have:=w.yd.cl _ z;rwa [aE hl]at this)
 refine ⟨⟨?_,λc hc=>?_,λc hc=>?_⟩,(Qa5.mp QO).2,λc hc=>w.sm c (sub c hc),λc hc hE=>?_,?_,?_⟩
 ·rw[Qbe]
  refine ⟨w.yd.nd,?_,λa ha b hb z=>?_⟩
  ·rw[Qa5]
   refine ⟨λz=>(j_ hl) (U0.mp z).symm,Qa5.mpr ⟨Qan,Qcm⟩⟩
  ·subst z
   rcases Qab.mp hb with z | z
   ·exact ap1 (z▸ha)
   ·exact ap2 (U0.mp z▸ha)
 ·rcases Qai.mp hc with z | z
  ·exact w.yd.lt c z
  ·rcases Qab.mp z with z | z
   ·rw[z];exact hl
   ·rw[U0.mp z];exact hl.aC
 ·rcases Qai.mp hc with z | z
  ·exact Qbj _ (w.yd.cl c z)
  ·refine Qal _ ?_
   rcases Qab.mp z with z | z
   ·rw[z];exact Sd _ (U0.mpr rfl)
   ·rw[U0.mp z,aE hl];exact Xh
 ·rcases Qai.mp hE with z | z
  ·exact w.ap c (sub c hc) z
  ·rcases Qab.mp z with z | z
   ·exact (Qa5.mp QO).1 (z▸hc)
   ·have e:c=aC L[r]:=U0.mp z
    exact Fu _ hs (e▸w.sm c (sub c hc))
 ·have:=hp.length_eq
  rw[Qa4,w.ll]at this
  lia
 ·rw[kb,w.el]
  show 2*i+2=_
  lia
theorem bA.tV{b p:Addr}(h:bA b H H')(n:H p=none):bA b H (L2.upd H' p o):=λc u e z=>by rw[aq (az e n)];exact h c u e z
theorem dR.tV{b p:Addr}(h:dR H b)(n:p≠b):dR (L2.upd H p o) b:=let ⟨x,y,e⟩:=h;⟨x,y,by rw[aq (Ne.symm n)];exact e⟩
theorem bA.none{b p:Addr}{H H':Hp}(h:bA b H H')(n:H' p=none)(z:p≠b):H p=none:=by
 cases q:H p with
 | none=>rfl
 | some o=>rw[h p o q z]at n;cases n
theorem dR.ne{b p:Addr}(h:dR H b)(n:H p=none):p≠b:=λz=>by obtain ⟨x,y,e⟩:=h;rw[<-z,n]at e;cases e
variable{A B:Prop}
theorem ir{c:Bool}(h:c=false)(hB:B):if c=true then A else B:=by rw[h];exact U4 hB
theorem x5{c:Bool}(h:c=true)(hA:A):if c=true then A else B:=by rw[h];exact U5 hA
theorem bJ(l:c5):(bK l:)=(l:):=by unfold bK;rw[Qas,Xi]
theorem lB(a b:c5):bK (a++b)=bK b++bK a:=by unfold bK;rw[Qao,List.reverse_append]
theorem mX(h:∀c∈l,Lt c):∀c∈bK l,Lt c:=λc hc=>by
 obtain ⟨d,hd,rfl⟩:=Qar.mp (Qbn.mp hc)
 exact (h d hd).aC
theorem x6(h:∀c∈l,Lt c):bK (bK l)=l:=by
 unfold bK
 rw[Qef,List.reverse_reverse,Qcd]
 have:∀c∈l,(aC ∘ aC) c=c:=λc hc=>aE (h c hc)
 calc l.map (aC ∘ aC)=l.map id:=Qdt this
  _=l:=Qez l
theorem mq(h:∀c∈l,Lt c):∀c∈l,c<128:=λc hc=>(h c hc).lt
theorem ka(a:c5):a.take (dY a:)=a:=by rw[bo];exact Qa7 (Qaa _)
theorem x8(n:Nat):(List.replicate n true).all id=true:=by rw[Qb8];intro b hb;rw[List.eq_of_mem_replicate hb];rfl
theorem nX(n:Nat):(List.replicate n true).map V.bl++[V.bl true]=(List.replicate (n+1) true).map V.bl:=by rw[List.replicate_succ',Qao];rfl
variable{m:Nat}
theorem cnt{lo hi:Int}(h:lo<=hi):lo<=(if (if (m:Int)<hi then (m:Int) else hi)>lo then (if (m:Int)<hi then (m:Int) else hi) else lo)/\(if (if (m:Int)<hi then (m:Int) else hi)>lo then (if (m:Int)<hi then (m:Int) else hi) else lo)<=hi:=by
 split<;>split<;>(try split)<;>lia
theorem bA.same{b:Addr}{H3:Hp}(n:H b=Option.none)(s:ay H H2)(t:bA b H2 H3):ay H H3:=λc o e=>t c o (s c o e) (az e n)
noncomputable def ck(ws:List c5):List V:=ws.map λl=>V.str (S l)
theorem aX(ws:List c5):(ck ws:)=(ws:):=by unfold ck;rw[Xi]
theorem nY(ws:List c5)(l:c5):ck ws++[V.str (S l)]=ck (ws++[l]):=by unfold ck;rw[Qao];rfl
variable{ws:List c5}
theorem mY(h:i<(ws:)):(ck ws)[i]? =some (V.str (S ws[i])):=by unfold ck;rw[Qau,P4 h];rfl
theorem IF{s:TS}{D:Ends}(h:∀D':Ends,(∀σ' H',D.nx σ' H'->D'.nx σ' H')->s D' σ H):s D σ H:=h D λ_ _ z=>z
inductive Ae(K:c6)(vs:List V)(H:Hp)(Q:VK)(dN:XK):Prop
 | mk (a:Addr) (ns:List Int) (_:vs=[.ref a]) (_:bu K H a (ns.map V.int)) (_:(ns:)<=63) (_:(∀x∈p6,∀pos q,Tab K x pos q H)) (_:∀H',Q (.bl true) H'):Ae K vs H Q dN
def pN(K:c6):Sp:=Ae K
theorem MB(h:pN K vs H Q E):(vs:)=1:=by obtain ⟨b,m,rfl,_⟩:=h;rfl
noncomputable def cQ(st:c5)(c:Nat):c5:=if st.getLast? =some (aC c) then st.dropLast else st++[c]
noncomputable def red(l:c5):c5:=l.foldl cQ []
def jS:c5->Prop
 | []=>True
 | [_]=>True
 | a::b::r=>a≠aC b/\jS (b::r)
theorem jS.tail:∀{a:Nat} {r:c5},jS (a::r)->jS r
 | _,[],_=>trivial
 | _,_::_,h=>h.2
theorem jS.snoc:∀{l:c5} {c:Nat},jS l->l.getLast?≠ some (aC c)->jS (l++[c])
 | [],_,_,_=>trivial
 | [a],c,_,h=>⟨λz=>h (by rw[z];rfl),trivial⟩
 | a::b::r,c,h,k=>⟨h.1,jS.snoc (l:=b::r) h.2 (by simpa using k)⟩
theorem jS.init:∀{l:c5} {c:Nat},jS (l++[c])->jS l/\l.getLast?≠ some (aC c)
 | [],_,_=>⟨trivial,by simp⟩
 | [a],c,h=>⟨trivial,λz=>h.1 (by simpa using z)⟩
 | a::b::r,c,h=>by
  have ih:=jS.init (l:=b::r) (c:=c) h.2
  exact ⟨⟨h.1,ih.1⟩,by simpa using ih.2⟩
theorem snoc_cases(l:c5):l=[]\/∃m a,l=m++[a]:=by
 by_cases h:l=[]
 ·exact .inl h
 ·exact .inr ⟨l.dropLast,l.getLast h,(List.dropLast_concat_getLast h).symm⟩
theorem jS.left:∀{m l:c5},jS (m++l)->jS m
 | [],_,_=>trivial
 | [_],_,_=>trivial
 | a::b::r,l,h=>⟨h.1,jS.left (m:=b::r) (l:=l) h.2⟩
theorem lC(h:l.getLast? =some c):∃m,l=m++[c]:=by
 rcases snoc_cases l with rfl | ⟨m,a,rfl⟩
 ·simp at h
 ·refine ⟨m,?_⟩
  have:a=c:=by simpa using h
  rw[this]
theorem Fx{st:c5}(h:jS st):jS (cQ st c):=by
 unfold cQ
 by_cases e:st.getLast? =some (aC c)
 ·rw[if_pos e]
  obtain ⟨m,rfl⟩:=lC e
  rw[Qcv]
  exact h.init.1
 ·rw[if_neg e]
  exact h.snoc e
variable{d:Nat}
theorem Fy{st:c5}(h:d∈cQ st c):d∈st\/d=c:=by
 unfold cQ at h
 by_cases e:st.getLast? =some (aC c)
 ·rw[if_pos e]at h
  exact .inl (List.dropLast_subset _ h)
 ·rw[if_neg e]at h
  rcases Qai.mp h with z | z
  ·exact .inl z
  ·exact .inr (U0.mp z)
variable{x:Nat}
theorem B6{st:c5}{y:Nat}(h:jS st)(hy:Lt y)(e:x=aC y):cQ (cQ st x) y=st:=by
 subst e
 unfold cQ
 by_cases z:st.getLast? =some (aC (aC y))
 ·rw[if_pos z]
  obtain ⟨m,rfl⟩:=lC z
  rw[Qcv,aE hy]
  have:=h.init.2
  rw[aE hy]at this
  rw[if_neg this]
 ·rw[if_neg z,if_pos (by simp),Qcv]
theorem tW:∀(l st:c5),jS st->jS (l.foldl cQ st)
 | [],_,h=>h
 | _::l,_,h=>tW l _ (Fx h)
theorem DL(l:c5):jS (red l):=tW l [] trivial
theorem iQ{a b:c5}{y:Nat}(hy:Lt y)(e:x=aC y):red (a++x::y::b)=red (a++b):=by
 unfold red
 rw[Qe1,Qc4,Qc4,B6 (tW a [] trivial) hy e, <-Qe1]
theorem fold_same:∀(l st:c5),jS (st++l)->l.foldl cQ st=st++l
 | [],st,_=>by simp
 | c::l,st,h=>by
  have h':jS ((st++[c])++l):=by rw[Qam];exact h
  have h2:=(jS.left h').init.2
  rw[Qc4]
  have:cQ st c=st++[c]:=by unfold cQ;rw[if_neg h2]
  rw[this,fold_same l (st++[c]) h',Qam]
  rfl
theorem fu(h:jS l):red l=l:=by
 exact fold_same l [] h
theorem fold_lt:∀(l st:c5),(∀c∈l,Lt c)->(∀c∈st,Lt c)->∀c∈l.foldl cQ st,Lt c
 | [],_,_,h=>h
 | a::l,st,h1,h2=>fold_lt l _ (λc hc=>h1 c (Sd _ hc)) λc hc=>(Fy hc).elim (h2 c) λz=>z▸h1 a Xh
theorem x9(h:∀c∈l,Lt c):∀c∈red l,Lt c:=fold_lt l [] h λ_ h=>absurd h Qan
theorem Fz(st:c5)(c:Nat):(cQ st c:)<=(st:)+1:=by
 unfold cQ
 by_cases e:st.getLast? =some (aC c)
 ·rw[if_pos e,List.length_dropLast];lia
 ·rw[if_neg e,kb];exact Qaa _
theorem Af:∀(l st:c5),(l.foldl cQ st:)<=(st:)+(l:)
 | [],_=>Qaa _
 | c::l,st=>by
  have:=Af l (cQ st c)
  have h2:=Fz st c
  rw[Qc4,Qa4]
  lia
theorem nZ(l:c5):(red l:)<=(l:):=by
 have:=Af l []
 rw[Qem,Qd2]at this
 exact this
theorem IG(h:l[i]? =some c):red (l.take (i+1))=cQ (red (l.take i)) c:=by
 unfold red
 rw[<-take_snoc h,Qe1]
 rfl
theorem B7:∀{l:c5},(∀k a b,l[k]? =some a->l[k+1]? =some b->a≠aC b)->jS l
 | [],_=>trivial
 | [_],_=>trivial
 | a::b::r,h=>⟨h 0 a b rfl rfl,B7 (l:=b::r) λk x y h1 h2=>h (k+1) x y (by simpa using h1) (by simpa using h2)⟩
noncomputable def GK(l:c5)(s e:Nat):c5:=(l.drop s).take (e - s)
noncomputable def strip:Nat->c5->c5
 | 0,l=>l
 | n+1,l=>match l with
  | []=>[]
  | [a]=>[a]
  | a::b::r=>if a=aC ((b::r).getLast (by simp)) then strip n (b::r).dropLast else a::b::r
theorem gc:∀(n:Nat) {l:c5},(l:)<2->strip n l=l
 | 0,_,_=>rfl
 | _+1,[],_=>rfl
 | _+1,[_],_=>rfl
 | _+1,_::_::_,h=>by simp at h;lia
theorem n5(l:c5)(y:Nat):(l++[y]).getLast (by simp)=y:=by simp
theorem strip_go(n:Nat){y:Nat}{m:c5}(h:a=aC y):strip (n+1) (a::(m++[y]))=strip n m:=by
 cases m with
 | nil=>
  show (if a=aC (([y]:c5).getLast (by simp)) then strip n ([y]:c5).dropLast else _)=strip n []
  rw[if_pos (by simpa using h)]
  rfl
 | cons b r=>
  show (if a=aC ((b::(r++[y])).getLast (by simp)) then strip n (b::(r++[y])).dropLast else _)=strip n (b::r)
  have e1:(b::(r++[y])).getLast (by simp)=y:=n5 (b::r) y
  have e2:(b::(r++[y])).dropLast=b::r:=by
   have:b::(r++[y])=(b::r)++[y]:=rfl
   rw[this,Qcv]
  rw[if_pos (by rw[e1];exact h),e2]
theorem strip_stop(n:Nat){y:Nat}{m:c5}(h:a≠aC y):strip n (a::(m++[y]))=a::(m++[y]):=by
 cases n with
 | zero=>rfl
 | succ n=>
  cases m with
  | nil=>
   show (if a=aC (([y]:c5).getLast (by simp)) then _ else _)=_
   rw[if_neg (by simpa using h)]
   rfl
  | cons b r=>
   show (if a=aC ((b::(r++[y])).getLast (by simp)) then _ else _)=_
   have e1:(b::(r++[y])).getLast (by simp)=y:=n5 (b::r) y
   rw[if_neg (by rw[e1];exact h)]
   rfl
theorem DM(h:2<=(l:)):∃a m y,l=a::(m++[y]):=by
 cases l with
 | nil=>simp at h
 | cons a r=>
  rcases snoc_cases r with rfl | ⟨m,y,rfl⟩
  ·simp at h
  ·exact ⟨a,m,y,rfl⟩
theorem tX:∀(n:Nat) (l:c5) (k:Nat),(l:)<=n->strip (n+k) l=strip n l
 | 0,l,k,h=>by rw[gc _ (),gc _ ()]
 | n+1,l,k,h=>by
  by_cases h2:(l:)<2
  ·rw[gc _ h2,gc _ h2]
  ·obtain ⟨a,m,y,rfl⟩:=DM (l:=l) ()
   have hm:(m:)<=n:=by simp at h;lia
   by_cases e:a=aC y
   ·have:n+1+k=(n+k)+1:=by lia
    rw[this,strip_go _ e,strip_go _ e,tX n m k hm]
   ·rw[strip_stop _ e,strip_stop _ e]
noncomputable def core(l:c5):c5:=strip (l:) l
theorem rS{y:Nat}{m:c5}(h:a=aC y):core (a::(m++[y]))=core m:=by
 unfold core
 have:((a::(m++[y])):)=((m:)+1)+1:=by simp
 rw[this,strip_go _ h,tX _ _ _ (Qaa _)]
theorem fN{y:Nat}{m:c5}(h:a≠aC y):core (a::(m++[y]))=a::(m++[y]):=strip_stop _ h
theorem fO(h:(l:)<2):core l=l:=gc _ h
theorem iR{P:c5->c5->Prop}(h1:∀l,(l:)<2->P l l)(h2:∀a m y,a≠aC y->P (a::(m++[y])) (a::(m++[y])))(h3:∀a m y r,a=aC y->P m r->P (a::(m++[y])) r):∀(n:Nat) (l:c5),(l:)<=n->P l (core l)
 | 0,l,h=>by rw[fO ()];exact h1 l ()
 | n+1,l,h=>by
  by_cases hl:(l:)<2
  ·rw[fO hl];exact h1 l hl
  ·obtain ⟨a,m,y,rfl⟩:=DM (l:=l) ()
   by_cases e:a=aC y
   ·rw[rS e]
    exact h3 a m y _ e (iR h1 h2 h3 n m (by simp at h;lia))
   ·rw[fN e];exact h2 a m y e
theorem FA(l:c5):core (core l)=core l:=
 iR (P:=λ_ r=>core r=r) (λl h=>fO h) (λa m y h=>fN h) (λ_ _ _ _ _ h=>h) (l:) l (Qaa _)
theorem IH(h:jS l):jS (core l):=
 iR (P:=λl r=>jS l->jS r) (λ_ _ h=>h) (λ_ _ _ _ h=>h) (λa m y r _ k h=>k (by
  have h':jS (a::m++[y]):=h
  exact h'.init.1.tail)) (l:) l (Qaa _) h
theorem II:c∈core l->c∈l:=
 iR (P:=λl r=>c∈r->c∈l) (λ_ _ h=>h) (λ_ _ _ _ h=>h) (λa m y r _ k h=>Sd _ (Qbj _ (k h))) (l:) l (Qaa _)
theorem Ag(l:c5):(core l:)<=(l:):=
 iR (P:=λl r=>(r:)<=(l:)) (λ_ _=>Qaa _) (λ_ _ _ _=>Qaa _) (λa m y r _ k=>by simp;lia) (l:) l (Qaa _)
variable{s e:Nat}
theorem QP(h1:s+2<=e)(h2:e<=(l:)):GK l s e=l[s]::(GK l (s+1) (e - 1)++[l[e - 1]]):=by
 unfold GK
 rw[Qb0 ()]
 have e1:e - s=(e - 1 - (s+1))+1+1:=by lia
 rw[e1,List.take_succ_cons,Qew,Qce]
 have e2:s+1+(e - 1 - (s+1))=e - 1:=by lia
 rw[e2,P4 ()]
 rfl
theorem MC(h2:e<=(l:)):(GK l s e:)=e - s:=by unfold GK;rw[Qad,Qav];lia
theorem MD(l:c5):GK l 0 (l:)=l:=by unfold GK;simp
def n6(_:c6):Sp:=λvs H Q _=>∃l:c5,vs=[.str (S l)]/\(∀c∈l,Lt c)/\(l:)<=1000/\∀H',ay H H'->Q (.str (S (red l))) H'
theorem vF(h:n6 K vs H Q E):(vs:)=1:=by obtain ⟨c,rfl,_⟩:=h;rfl
def qO(_:c6):Sp:=λvs H Q _=>∃l:c5,vs=[.str (S l)]/\(∀c∈l,Lt c)/\(l:)<=1000/\∀H',ay H H'->Q (.str (S (core (red l)))) H'
theorem x_(h:qO K vs H Q E):(vs:)=1:=by obtain ⟨c,rfl,_⟩:=h;rfl
theorem fP{α:Type}(l:List α)(k:Nat):cut l none (some (k:Int))=l.take k:=by
 unfold cut
 rw[HT.zC,HT.lh,List.drop_zero,Nat.sub_zero]
 by_cases h:k<=(l:)
 ·rw[Qa8 h]
 ·rw[Qco (),Qa7 (Qaa _),Qa7 ()]
theorem tY{α:Type}(l:List α)(k:Nat):cut l (some (k:Int)) none=l.drop k:=by
 unfold cut
 rw[HT.zC,HT.lh]
 by_cases h:k<=(l:)
 ·rw[Qa8 h,Qa7 (by rw[Qav];exact Qaa _)]
 ·rw[Qco (),Qcf (Qaa _),Qcf ()]
  simp
noncomputable def Ah(ws:List c5):List PyData:=ws.map λl=>PyData.str (S l)
theorem iS{K:c6}{H:Hp}:∀ws:List c5,tG K H (ck ws) (Ah ws)
 | []=> .nil
 | w::ws=> .cons (.str _) (iS ws)
theorem QQ(h:∀c∈l,c<128):PyData.strOk (S l)=true:=by
 unfold PyData.strOk
 rw[Array.all_eq_true_iff_forall_mem]
 intro c hc
 have:c∈l:=by simpa [S]using hc
 have:=h c this
 simp;lia
theorem yf:∀{ws:List c5},(∀l∈ws,∀c∈l,c<128)->PyData.canLayAll0 (Ah ws)=true
 | [],_=>rfl
 | w::ws,h=>by
  show (PyData.strOk (S w)&&PyData.canLayAll0 (Ah ws))=true
  rw[QQ (h w Xh),yf λl hl=>h l (Sd _ hl)]
  rfl
theorem p7:∀ws:List c5,PyData.depthAll (Ah ws)=0
 | []=>rfl
 | k::ks=>by show max (PyData.depth (.str _)) (PyData.depthAll (Ah ks))=0;rw[p7 ks];rfl
mutual
theorem eqv_refl:∀d:PyData,d.hasDict=false->PyData.eqv d d=true
 | .none,_=>rfl
 | .bool b,_=>by simp[PyData.eqv]
 | .int i,_=>by simp[PyData.eqv]
 | .str x,_=>by simp[PyData.eqv]
 | .list xs,h=>by show PyData.eqvAll xs xs=true;exact eqvAll_refl xs (by simpa [PyData.hasDict]using h)
 | .tuple xs,h=>by show PyData.eqvAll xs xs=true;exact eqvAll_refl xs (by simpa [PyData.hasDict]using h)
 | .dict aJ,h=>by simp[PyData.hasDict]at h
theorem eqvAll_refl:∀ds:List PyData,PyData.hasDictAll ds=false->PyData.eqvAll ds ds=true
 | [],_=>rfl
 | d::ds,h=>by
  simp[PyData.hasDictAll]at h
  show (PyData.eqv d d&&PyData.eqvAll ds ds)=true
  rw[eqv_refl d h.1,eqvAll_refl ds h.2]
  rfl
end
noncomputable def b7(c:c5)(k:Nat):c5:=c.drop k++c.take k
noncomputable def jT(c:c5)(n:Nat):List c5:=(List.range n).map λk=>b7 c (k+1)
noncomputable def bR(c:c5):c5:=cB c (jT c ((c:) - 1))
@[irreducible] noncomputable def aH (w:c5):c5:=bR (core (red w))
theorem iT(w:c5):aH w=bR (core (red w)):=by unfold aH;rfl
theorem wN(c:c5)(n:Nat):jT c (n+1)=jT c n++[b7 c (n+1)]:=by unfold jT;rw[Qcy,Qao];rfl
theorem jj:∀(r:List c5) (a b:c5),cB a (r++[b])=bI (cB a r) b
 | [],_,_=>rfl
 | _::r,_,_=>jj r _ _
theorem cC(c:c5)(k:Nat):(b7 c k:)=(c:):=by unfold b7;rw[kb,Qav,Qad];lia
theorem ME{c:c5}{k:Nat}(h:x∈b7 c k):x∈c:=(Qai.mp h).elim Qc2 Qbi
theorem jk:∀(r:List c5) (a:c5),cB a r=a\/cB a r∈r
 | [],a=> .inl rfl
 | b::r,a=>by
  rcases jk r (bI a b) with h | h
  ·have hl:bI a b=a\/bI a b=b:=by unfold bI;split<;>simp
   rcases hl with e | e
   ·left;show cB (bI a b) r=a;rw[h,e]
   ·right;show cB (bI a b) r∈b::r;rw[h,e];exact Xh
  ·right;exact Sd _ h
theorem fQ(c:c5):∃k,bR c=b7 c k:=by
 rcases jk (jT c ((c:) - 1)) c with h | h
 ·exact ⟨0,by show cB _ _=_;rw[h];unfold b7;simp⟩
 ·unfold jT at h
  obtain ⟨k,_,e⟩:=Qar.mp h
  exact ⟨k+1,e.symm⟩
theorem yg{w:c5}(h:∀c∈w,Lt c):∀c∈core (red w),Lt c:=λc hc=>x9 h c (II hc)
theorem IJ{w:c5}(h:∀c∈w,Lt c):∀c∈aH w,Lt c:=λc hc=>by
 obtain ⟨k,e⟩:=fQ (core (red w))
 unfold aH at hc
 rw[e]at hc
 exact yg h c (ME hc)
theorem p8(w:c5):(aH w:)<=(w:):=by
 obtain ⟨k,e⟩:=fQ (core (red w))
 unfold aH
 rw[e,cC]
 exact Qbb (Ag _) (nZ w)
def DN(_:c6):Sp:=λvs H Q _=>∃l:c5,vs=[.str (S l)]/\(∀c∈l,Lt c)/\(l:)<=1000/\∀H',ay H H'->Q (.str (S (aH l))) H'
theorem IK(h:DN K vs H Q E):(vs:)=1:=by obtain ⟨c,rfl,_⟩:=h;rfl
def DO(_:c6):Sp:=λvs H Q _=>∃l:c5,vs=[.str (S l)]/\(∀c∈l,Lt c)/\(l:)<=1000/\∀H',ay H H'->Q (.str (S (bI (aH l) (aH (bK l))))) H'
theorem IL(h:DO K vs H Q E):(vs:)=1:=by obtain ⟨c,rfl,_⟩:=h;rfl
def AllLt(l:c5):Prop:=∀c∈l,Lt c
theorem AllLt.app{a b:c5}(h:AllLt a)(g:AllLt b):AllLt (a++b):=λc hc=>(Qai.mp hc).elim (h c) (g c)
theorem AllLt.left{a b:c5}(h:AllLt (a++b)):AllLt a:=λc hc=>h c (Qbj _ hc)
theorem AllLt.right{a b:c5}(h:AllLt (a++b)):AllLt b:=λc hc=>h c (Qal _ hc)
theorem tZ:∀(t st x y:c5),AllLt t->red (x++(st++t)++y)=red (x++t.foldl cQ st++y)
 | [],st,x,y,_=>by rw[Qa9];rfl
 | c::t,st,x,y,h=>by
  have hc:Lt c:=h c Xh
  have ht:AllLt t:=λd hd=>h d (Sd _ hd)
  rw[Qc4, <-tZ t (cQ st c) x y ht]
  unfold cQ
  by_cases e:st.getLast? =some (aC c)
  ·rw[if_pos e]
   obtain ⟨m,rfl⟩:=lC e
   rw[Qcv]
   have:=iQ (a:=x++m) (b:=t++y) hc rfl
   simpa [Qam]using this
  ·rw[if_neg e]
   simp[Qam]
theorem DP{t:c5}(x y:c5)(h:AllLt t):red (x++t++y)=red (x++red t++y):=by
 have:red (x++([]++t)++y)=red (x++red t++y):=tZ t [] x y h
 simpa using this
theorem IM{t:c5}(y:c5)(h:AllLt t):red (t++y)=red (red t++y):=by simpa using DP [] y h
theorem FC{t:c5}(x:c5)(h:AllLt t):red (x++t)=red (x++red t):=by simpa using DP x [] h
theorem t5(c:Nat)(l:c5):bK (c::l)=bK l++[aC c]:=by unfold bK;rw[Qa2,Qey]
theorem t6:∀(t st x y:c5),AllLt t->red (x++bK (st++t)++y)=red (x++bK (t.foldl cQ st)++y)
 | [],st,x,y,_=>by rw[Qa9];rfl
 | c::t,st,x,y,h=>by
  have hc:Lt c:=h c Xh
  have ht:AllLt t:=λd hd=>h d (Sd _ hd)
  rw[Qc4, <-t6 t (cQ st c) x y ht]
  unfold cQ
  by_cases e:st.getLast? =some (aC c)
  ·rw[if_pos e]
   obtain ⟨m,rfl⟩:=lC e
   rw[Qcv]
   have:=iQ (a:=x++bK t) (b:=bK m++y) hc.aC.aC (x:=aC c) (by rw[aE hc])
   simpa [lB,t5,Qam,bK]using this
  ·rw[if_neg e]
   simp[lB,Qam]
theorem MF{t:c5}(h:AllLt t):red (bK t)=red (bK (red t)):=by
 have:red ([]++bK ([]++t)++[])=red ([]++bK (red t)++[]):=t6 t [] [] [] h
 simpa using this
theorem Ai:∀(v x y:c5),AllLt v->red (x++(bK v++v)++y)=red (x++y)
 | [],x,y,_=>by simp[bK]
 | c::v,x,y,h=>by
  have hc:Lt c:=h c Xh
  have hv:AllLt v:=λd hd=>h d (Sd _ hd)
  rw[t5]
  have:=iQ (a:=x++bK v) (b:=v++y) hc (x:=aC c) rfl
  have e:x++(bK v++[aC c]++c::v)++y=(x++bK v)++aC c::c::(v++y):=by simp[Qam]
  rw[e,this]
  have:=Ai v x y hv
  rw[<-this]
  simp[Qam]
theorem t9(a b:c5): ¬a<bI a b:=by
 unfold bI
 split
 ·rename_i h;exact λg=>Qc6 a (Qfu g h)
 ·exact Qc6 a
theorem rk(a b:c5): ¬b<bI a b:=by
 unfold bI
 split
 ·exact Qc6 b
 ·rename_i h;exact h
theorem OI{a b c:c5}(h: ¬b<a)(g: ¬c<b): ¬c<a:=List.le_trans (show a<=b from h) (show b<=c from g)
theorem DQ{a b:c5}(h: ¬b<a)(g: ¬a<b):a=b:=Qgc (show a<=b from h) (show b<=a from g)
theorem jl:∀(r:List c5) (a:c5),∀x∈a::r, ¬x<cB a r
 | [],a,x,hx=>by rw[U0.mp hx];exact Qc6 a
 | b::r,a,x,hx=>by
  show ¬x<cB (bI a b) r
  have h0:=jl r (bI a b) (bI a b) Xh
  rcases Qab.mp hx with e | hx
  ·rw[e];exact OI h0 (t9 a b)
  ·rcases Qab.mp hx with e | hx
   ·rw[e];exact OI h0 (rk a b)
   ·exact jl r (bI a b) x (Sd _ hx)
theorem n_(c:c5):b7 c 0=c:=by unfold b7;simp
theorem MG(c:c5):b7 c (c:)=c:=by unfold b7;simp
theorem Aj(c:c5)(k:Nat)(hk:k<=(c:)): ¬b7 c k<bR c:=by
 have h:=jl (jT c ((c:) - 1)) c
 by_cases z:k=0
 ·rw[z,n_];exact h c Xh
 ·by_cases z2:k=(c:)
  ·rw[z2,MG];exact h c Xh
  ·refine h _ (Sd _ ?_)
   unfold jT
   exact Qar.mpr ⟨k - 1,Qb7.mpr (),by rw[show k - 1+1=k by lia]⟩
theorem gM(c:c5):∃k,k<=(c:)/\bR c=b7 c k:=by
 rcases jk (jT c ((c:) - 1)) c with h | h
 ·exact ⟨0,Qat _,by show cB _ _=_;rw[h,n_]⟩
 ·unfold jT at h
  obtain ⟨k,hk,e⟩:=Qar.mp h
  have:=Qb7.mp hk
  exact ⟨k+1,(),e.symm⟩
theorem IQ{c m:c5}(h1:∃k,k<=(c:)/\m=b7 c k)(h2:∀k,k<=(c:)-> ¬b7 c k<m):bR c=m:=by
 obtain ⟨k,hk,e⟩:=h1
 obtain ⟨j,hj,e2⟩:=gM c
 refine DQ ?_ ?_
 ·rw[e];exact Aj c k hk
 ·rw[e2];exact h2 j hj
theorem DR(a b:c5):b7 (a++b) (a:)=b++a:=by unfold b7;rw[List.drop_left,List.take_left]
variable{j:Nat}
theorem DS{c:c5}{k:Nat}(hk:k<=(c:))(hj:j<=(c:)):∃i,i<=(c:)/\b7 (b7 c k) j=b7 c i:=by
 by_cases z:j<=(c:) - k
 ·refine ⟨k+j,(),?_⟩
  unfold b7
  rw[List.drop_append_of_le_length (by rw[Qav];lia),Qdb (by rw[Qav];lia),List.drop_drop,Qam, <-List.take_add]
 ·refine ⟨j - ((c:) - k),(),?_⟩
  unfold b7
  have e1:(c.drop k:)=(c:) - k:=Qav
  rw[List.drop_append,List.take_append,e1,Qcf (by rw[e1];lia),Qa7 (l:=c.drop k) (by rw[e1];lia),Qel,List.drop_take,Qfp]
  have e2:min (j - ((c:) - k)) k=j - ((c:) - k):=by lia
  rw[e2]
  have e3:c.drop (j - ((c:) - k))=(c.drop (j - ((c:) - k))).take (k - (j - ((c:) - k)))++c.drop k:=by
   have:=Qaw (k - (j - ((c:) - k))) (c.drop (j - ((c:) - k)))
   rw[List.drop_drop]at this
   have e:j - ((c:) - k)+(k - (j - ((c:) - k)))=k:=by lia
   rw[e]at this
   exact this.symm
  rw[e3,Qam]
  congr 2
  exact e3.symm
theorem B8{c:c5}{k:Nat}(hk:k<=(c:)):bR (b7 c k)=bR c:=by
 refine (IQ (c:=c) ?_ λj hj=>?_).symm
 ·obtain ⟨j,hj,e⟩:=gM (b7 c k)
  rw[cC]at hj
  rw[e]
  exact DS hk hj
 ·have hb:c=b7 (b7 c k) ((c:) - k):=by
   have e:b7 c k=c.drop k++c.take k:=rfl
   have:=DR (c.drop k) (c.take k)
   rw[Qav, <-e]at this
   rw[this,Qaw]
  obtain ⟨i,hi,e⟩:=DS (c:=b7 c k) (k:=(c:) - k) (j:=j) (by rw[cC];lia) (by rw[cC];exact hj)
  rw[<-hb]at e
  rw[e]
  exact Aj _ i hi
theorem t_(a b:c5):bR (a++b)=bR (b++a):=by
 rw[<-DR a b]
 exact (B8 (by rw[kb];lia)).symm
theorem B9(ha:Lt a)(hb:Lt b)(h:a≠aC b):b≠aC a:=λz=>h (by rw[z,aE ha])
theorem p9(h:∀a m y,l=a::(m++[y])->a≠aC y):core l=l:=by
 by_cases z:(l:)<2
 ·exact fO z
 ·obtain ⟨a,m,y,rfl⟩:=DM (l:=l) ()
  exact fN (h a m y rfl)
theorem IS{r:c5}(h:jS (d::r))(hc:c≠aC d):jS (c::d::r):=⟨hc,h⟩
theorem QR{t:c5}(hc:Lt c)(ht:AllLt t):bR (core (red (c::t)))=bR (core (red (t++[c]))):=by
 have e1:red (c::t)=red (c::red t):=FC [c] ht
 have e2:red (t++[c])=red (red t++[c]):=IM [c] ht
 rw[e1,e2]
 have hr:jS (red t):=DL t
 have QS:AllLt (red t):=x9 ht
 generalize red t=r at hr QS
 cases r with
 | nil=>rfl
 | cons d s=>
  have hd:Lt d:=QS d Xh
  have VS:AllLt s:=λx hx=>QS x (Sd _ hx)
  obtain ⟨m,e,Ls⟩:∃m e,d::s=m++[e]:=by
   rcases snoc_cases (d::s) with z | ⟨m,e,z⟩
   ·cases z
   ·exact ⟨m,e,z⟩
  have Lu:Lt e:=QS e (by rw[Ls];simp)
  have last:(d::s).getLast? =some e:=by rw[Ls];simp
  by_cases lX:c=aC d
  ·have f1:red (c::d::s)=s:=by
    have:=iQ (a:=[]) (b:=s) hd lX
    rw[Qel,Qel]at this
    rw[this,fu hr.tail]
   rw[f1]
   by_cases OJ:e=aC c
   ·have f2:red (d::s++[c])=m:=by
     rw[Ls,Qam]
     have:=iQ (a:=m) (b:=[]) hc OJ
     rw[Qa9]at this
     show red (m++e::c::[])=m
     rw[this,fu]
     rw[Ls]at hr
     exact hr.init.1
    rw[f2]
    have hed:e=d:=by rw[OJ,lX,aE hd]
    subst hed
    cases m with
    | nil=>
     have:s=[]:=by cases Ls;rfl
     rw[this]
    | cons x m'=>
     have hx:x=e/\s=m'++[e]:=by
      have:=Ls
      rw[Qdo]at this
      injection this with h1 h2
      exact ⟨h1.symm,h2⟩
     obtain ⟨rfl,rfl⟩:=hx
     have k1:core (m'++[x])=m'++[x]:=p9 λa mm y z=>by
      cases m' with
      | nil=>simp at z
      | cons a' m''=>
       rw[Qdo]at z
       injection z with z1 z2
       have z3:y=x:=by
        have:=congrArg List.getLast? z2
        simpa using this.symm
       rw[<-z1,z3]
       exact B9 hd (VS a' (by simp)) hr.1
     have k2:core (x::m')=x::m':=p9 λa mm y z=>by
      injection z with z1 z2
      rw[<-z1]
      subst z2
      have:=hr.tail
      rw[Qam]at this
      have h4:jS ((mm++[y])++[x]):=by rw[Qam];exact this
      have h5:=h4.init.2
      intro z
      exact h5 (by rw[z,List.getLast?_concat,aE (VS y (by simp))])
     rw[k1,k2]
     exact t_ m' [x]
   ·have f2:red (d::s++[c])=d::s++[c]:=fu (hr.snoc (by rw[last];intro z;exact OJ (by injection z)))
    rw[f2]
    have:core (d::(s++[c]))=core s:=rS (by rw[lX,aE hd])
    rw[Qdo,this]
  ·have f1:red (c::d::s)=c::d::s:=fu (IS hr lX)
   rw[f1]
   by_cases OJ:e=aC c
   ·have f2:red (d::s++[c])=m:=by
     rw[Ls,Qam]
     have:=iQ (a:=m) (b:=[]) hc OJ
     rw[Qa9]at this
     show red (m++e::c::[])=m
     rw[this,fu]
     rw[Ls]at hr
     exact hr.init.1
    rw[f2,Ls,rS (by rw[OJ,aE hc])]
   ·have f2:red (d::s++[c])=d::s++[c]:=fu (hr.snoc (by rw[last];intro z;exact OJ (by injection z)))
    rw[f2]
    have k1:core (c::d::s)=c::d::s:=by
     rw[Ls]
     exact fN (B9 Lu hc OJ)
    have k2:core (d::s++[c])=d::s++[c]:=by
     rw[Qdo]
     exact fN (B9 hc hd lX)
    rw[k1,k2]
    exact t_ [c] (d::s)
theorem gI:∀{u v:c5},AllLt u->AllLt v->aH (u++v)=aH (v++u)
 | [],v,_,_=>by rw[Qa9];rfl
 | c::u,v,hu,hv=>by
  have hc:Lt c:=hu c Xh
  have Xv:AllLt u:=λx hx=>hu x (Sd _ hx)
  have e1:aH (c::u++v)=aH (u++v++[c]):=by
   rw[iT,iT]
   exact QR hc (Xv.app hv)
  have e2:=gI (u:=u) (v:=v++[c]) Xv (hv.app λx hx=>by rw[U0.mp hx];exact hc)
  rw[e1,Qam,e2,Qam]
  rfl
theorem B_{r:c5}:AllLt r->∃p,AllLt p/\r=p++core r++bK p:=
 iR (P:=λl c=>AllLt l->∃p,AllLt p/\l=p++c++bK p) (λl _ _=>⟨[],λ_ h=>absurd h Qan,by simp[bK]⟩) (λa m y _ _=>⟨[],λ_ h=>absurd h Qan,by simp[bK]⟩)
  (λa m y c e ih h=>by
   have ha:Lt a:=h a Xh
   have hy:Lt y:=h y (by simp)
   obtain ⟨p,hp,e2⟩:=ih λx hx=>h x (by simp[hx])
   refine ⟨a::p,λx hx=>?_,?_⟩
   ·rcases Qab.mp hx with z | z
    ·rw[z];exact ha
    ·exact hp x z
   ·have e3:aC a=y:=by rw[e,aE hy]
    rw[t5,e3]
    have:m++[y]=p++c++bK p++[y]:=by rw[<-e2]
    rw[this]
    simp[Qam]) (r:) r (Qaa _)
variable{u v:c5}
theorem FE(hu:AllLt u)(hv:AllLt v):aH (v++u++bK v)=aH u:=by
 rw[Qam,gI hv (hu.app (mX hv))]
 have:=Ai v u [] hv
 unfold aH
 rw[Qa9,Qa9, <-Qam]at this
 rw[this]
theorem FF{w:c5}(h:AllLt w):aH (core (red w))=aH w:=by
 have h1:=IH (DL w)
 unfold aH
 rw[fu h1,FA]
theorem Ak{w:c5}{k:Nat}(h:AllLt w):aH (b7 w k)=aH w:=by
 unfold b7
 have h1:AllLt (w.take k++w.drop k):=by rw[Qaw];exact h
 rw[gI h1.right h1.left,Qaw]
theorem wO{w:c5}(h:AllLt w):aH (aH w)=aH w:=by
 obtain ⟨k,_,e⟩:=gM (core (red w))
 have:aH w=b7 (core (red w)) k:=(iT w).trans e
 rw[this,Ak (yg h),FF h,this]
theorem MH(c:c5)(k:Nat):bK (b7 c k)=bK (c.take k)++bK (c.drop k):=by unfold b7;rw[lB]
theorem og{w:c5}(h:AllLt w):aH (bK (aH w))=aH (bK w):=by
 obtain ⟨k,_,e⟩:=gM (core (red w))
 have e0:aH w=b7 (core (red w)) k:=(iT w).trans e
 have hc:AllLt (core (red w)):=yg h
 have e1:aH (bK (aH w))=aH (bK (core (red w))):=by
  have h1:AllLt ((core (red w)).take k++(core (red w)).drop k):=by rw[Qaw];exact hc
  rw[e0,MH,gI (mX h1.left) (mX h1.right), <-lB,Qaw]
 have e2:aH (bK w)=aH (bK (red w)):=by unfold aH;rw[MF h]
 obtain ⟨p,hp,es⟩:=B_ (r:=red w) (x9 h)
 rw[e1,e2]
 have e3:bK (red w)=p++bK (core (red w))++bK p:=by
  have:=congrArg bK es
  rw[lB,lB,x6 hp, <-Qam]at this
  exact this
 rw[e3,FE (mX hc) hp]
theorem Al(a b:c5):bI a b=bI b a:=by
 unfold bI
 by_cases h:b<a
 ·rw[if_pos h,if_neg λg=>Qc6 a (Qfu g h)]
 ·rw[if_neg h]
  by_cases g:a<b
  ·rw[if_pos g]
  ·rw[if_neg g];exact DQ h g
noncomputable def aZ(w:c5):c5:=bI (aH w) (aH (bK w))
theorem Am{w:c5}(h:AllLt w):aZ (bK w)=aZ w:=by unfold aZ;rw[x6 h,Al]
theorem FG{w:c5}(h:AllLt w):aZ (aZ w)=aZ w:=by
 have hl:aZ w=aH w\/aZ w=aH (bK w):=by unfold aZ bI;split<;>simp
 rcases hl with e | e
 ·rw[e]
  unfold aZ at e ⊢
  rw[wO h,og h,e]
 ·have e2:aZ (aH (bK w))=aZ (bK w):=by unfold aZ;rw[wO (mX h),og (mX h)]
  rw[e,e2,Am h,e]
theorem oh(u:c5):∀(m i:Nat),i<m*(u:)->(fo m u)[i]? =u[i%(u:)]?
 | 0,i,h=>by simp at h
 | m+1,i,h=>by
  rw[fM,List.getElem?_append]
  by_cases z:i<(u:)
  ·rw[if_pos z,Qct z]
  ·rw[if_neg z,oh u m (i - (u:)) (by rw[Qf1]at h;lia), <-Nat.mod_eq_sub_mod ()]
def iU(w:c5)(s:Nat):Prop:=fo ((w:) / s) (w.take s)=w
def iV(w:c5)(k:Nat):Prop:=b7 w k=w
noncomputable instance (w:c5)(s:Nat):Decidable (iU w s):=by unfold iU;infer_instance
noncomputable instance (w:c5)(s:Nat):Decidable (iV w s):=by unfold iV;infer_instance
def bT(w:c5)(s:Nat):Prop:=(w=[]/\s=0)\/(1<=s/\s<=(w:)/\iU w s/\∀j,1<=j->j<s-> ¬iU w j)
def mZ(w:c5)(s:Nat):Prop:=(w=[]/\s=0)\/(1<=s/\s<=(w:)/\iV w s/\∀j,1<=j->j<s-> ¬iV w j)
theorem yh{w:c5}(h1:1<=s)(h2:s<=(w:))(h:iU w s):iV w s:=by
 unfold iU at h
 have hm:1<=(w:) / s:=Nat.div_pos h2 h1
 obtain ⟨m,e⟩:∃m,(w:) / s=m+1:=⟨(w:) / s - 1,()⟩
 rw[e]at h
 have hu:(w.take s:)=s:=by rw[Qad];lia
 generalize w.take s=u at h hu
 unfold iV b7
 rw[<-h,fM,List.drop_left' hu,List.take_left' hu, <-BM,fM]
noncomputable def Fw(w:c5)(i:Nat):Option Nat:=w[i%(w:)]?
theorem rT{w:c5}{k:Nat}(hk:k<=(w:))(hi:i<(w:)):(b7 w k)[i]? =Fw w (i+k):=by
 unfold b7 Fw
 rw[List.getElem?_append,Qav]
 by_cases z:i<(w:) - k
 ·rw[if_pos z,Qce,Qct (),Nat.add_comm]
 ·rw[if_neg z,Qes,if_pos (),Nat.mod_eq_sub_mod (),Qct ()]
  congr 1
  lia
def A_(w:c5)(k:Nat):Prop:=∀i,Fw w (i+k)=Fw w i
theorem IT(w:c5)(i k:Nat):Fw w (i%(w:)+k)=Fw w (i+k):=by unfold Fw;rw[Nat.mod_add_mod]
theorem hU{w:c5}{k:Nat}(hn:w≠[])(hk:k<=(w:)):iV w k↔A_ w k:=by
 have hl:0<(w:):=Qah.mpr hn
 constructor
 ·intro h i
  have hi:=Qdc i hl
  rw[<-IT, <-rT hk hi,h]
  rfl
 ·intro h
  refine Qd7 λi=>?_
  by_cases hi:i<(w:)
  ·rw[rT hk hi,h i]
   unfold Fw
   rw[Qct hi]
  ·have hr:(b7 w k:)=(w:):=cC w k
   rw[Qc0 (),Qc0 ()]
theorem A_.mul{w:c5}{k:Nat}(h:A_ w k):∀j i,Fw w (i+k*j)=Fw w i
 | 0,i=>rfl
 | j+1,i=>by rw[Nat.mul_succ, <-Nat.add_assoc,h,A_.mul h j]
theorem A_.whole(w:c5):A_ w (w:):=λi=>by unfold Fw;rw[Nat.add_mod_right]
theorem A_.rest{w:c5}{k:Nat}(h:A_ w k):A_ w ((w:)%k):=λi=>by
 rw[<-h.mul ((w:) / k) (i+(w:)%k),Nat.add_assoc,Qfl]
 exact A_.whole w i
theorem wQ{w:c5}{k:Nat}(hn:w≠[])(h1:1<=k)(h2:k<=(w:))(h:iV w k)(hl:∀j,1<=j->j<k-> ¬iV w j):iU w k:=by
 have hp:=(hU hn h2).mp h
 have hr:(w:)%k=0:=by
  by_cases z:(w:)%k=0
  ·exact z
  ·have dZ:=Qdc (w:) (show k>0 by lia)
   exact absurd ((hU hn ()).mpr hp.rest) (hl _ () dZ)
 have hm:(w:) / k*k=(w:):=by
  have:=Qfl (w:) k
  rw[hr,Qd2,Qc8]at this
  exact this
 have hu:(w.take k:)=k:=by rw[Qad];lia
 unfold iU
 refine Qd7 λi=>?_
 by_cases hi:i<(w:)
 ·rw[oh _ _ _ (by rw[hu,hm];exact hi),hu,Qes]
  have hik:=Qdc i (show k>0 by lia)
  rw[if_pos hik]
  have e:=hp.mul (i / k) (i%k)
  rw[Qfl]at e
  unfold Fw at e
  rw[Qct hi,Qct ()]at e
  exact e.symm
 ·rw[Qc0 (by rw[zP,hu,hm];lia),Qc0 ()]
theorem lD{w:c5}{k:Nat}(h:bT w s)(g:mZ w k):s=k:=by
 rcases h with ⟨e,e2⟩ | ⟨h1,h2,h3,h4⟩
 ·rcases g with ⟨_,g2⟩ | ⟨g1,g2,_,_⟩
  ·rw[e2,g2]
  ·rw[e]at g2;simp at g2;lia
 ·rcases g with ⟨e,_⟩ | ⟨g1,g2,g3,g4⟩
  ·rw[e]at h2;simp at h2;lia
  ·have hn:w≠[]:=λz=>by rw[z]at h2;simp at h2;lia
   by_cases z:s<k
   ·exact absurd (yh h1 h2 h3) (g4 s h1 z)
   ·by_cases z2:k<s
    ·exact absurd (wQ hn g1 g2 g3 g4) (h4 k g1 z2)
    ·lia
theorem FH(w:c5)(h:w≠[]):iU w (w:):=by
 have hl:0<(w:):=Qah.mpr h
 unfold iU
 rw[Nat.div_self hl,Qa7 (Qaa _)]
 show fo (0+1) w=w
 rw[fM]
 simp[fo]
theorem FI(w:c5):iV w (w:):=by
 unfold iV b7
 rw[Qcf (Qaa _),Qa7 (Qaa _)]
 rfl
noncomputable def MI(c:c5)(n:Nat):c5:=((List.range n).map (· +1)).filter λk=>decide (iV c k)
variable{n:Nat}
theorem yi{c:c5}{k:Nat}:k∈MI c n↔(1<=k/\k<=n)/\iV c k:=by
 unfold MI
 rw[Qag,Qar]
 constructor
 ·rintro ⟨⟨j,hj,rfl⟩,h⟩
  have:=Qb7.mp hj
  exact ⟨(),of_decide_eq_true h⟩
 ·rintro ⟨h1,h2⟩
  exact ⟨⟨k - 1,Qb7.mpr (),()⟩,decide_eq_true h2⟩
theorem Ca(c:c5)(n:Nat):(MI c n).Pairwise (· < ·):=by
 unfold MI
 refine List.Pairwise.filter _ ?_
 rw[Qb1]
 exact (List.pairwise_lt_range (n:=n)).imp λh=>Nat.succ_lt_succ h
theorem ua{c:c5}(h:c≠[]):∃k r,MI c (c:)=k::r/\mZ c k:=by
 have hl:0<(c:):=Qah.mpr h
 have hm:(c:)∈MI c (c:):=yi.mpr ⟨(),FI c⟩
 rcases e:MI c (c:) with _ | ⟨k,r⟩
 ·rw[e]at hm;exact absurd hm Qan
 ·refine ⟨k,r,rfl,.inr ?_⟩
  have hk:k∈MI c (c:):=by rw[e];exact Xh
  obtain ⟨⟨h1,h2⟩,h3⟩:=yi.mp hk
  refine ⟨h1,h2,h3,λj j1 j2 z=>?_⟩
  have hj:j∈MI c (c:):=yi.mpr ⟨(),z⟩
  have hs:=Ca c (c:)
  rw[e]at hj hs
  rcases Qab.mp hj with w | w
  ·lia
  ·have:=Qeu hs w
   lia
noncomputable def OK(w:c5)(s:Nat):List V:=[.str (S (w.take s)),.int (((w:) / s:Nat):Int)]
def DT(_:c6):Sp:=λvs H Q _=>∃l:c5,vs=[.str (S l)]/\(∀c∈l,Lt c)/\(l:)<=1000/\∀p s H',H p=none->H' p=some (.tup (OK (aH l) s))->bT (aH l) s->ay H H'->Q (.ref p) H'
theorem IU(h:DT K vs H Q E):(vs:)=1:=by obtain ⟨c,rfl,_⟩:=h;rfl
theorem wR(h:l.Nodup)(hi:i<(l:))(hj:j<(l:))(e:l[i]=l[j]):i=j:=by
 have hp:=Qcc.mp h
 rcases Nat.lt_trichotomy i j with z | z | z
 ·exact absurd e (hp i j hi hj z)
 ·exact z
 ·exact absurd e.symm (hp j i hj hi z)
theorem aM:∀c∈aV,aD c=true/\PyProof.Rows.lo1 c=c/\aC c∈mV:=⋯
theorem bE:∀c∈mV,aD c=false/\PyProof.Rows.lo1 c=aC c/\c∉aV/\aC c∈aV:=⋯
theorem qa:∀c∈mV,c∉aV:=⋯
theorem gJ(h:Lt c):aD c=decide (c∈aV):=by
 rcases h with h | h
 ·rw[(aM c h).1,decide_eq_true h]
 ·rw[(bE c h).1,decide_eq_false (bE c h).2.2.1]
noncomputable def kept(sm:c5)(c:Nat):Bool:=decide (PyProof.Rows.lo1 c∈sm)
theorem eh{sm:c5}(hs:∀d∈sm,d∈aV)(h:Lt c):kept sm c=(decide (c∈sm)||decide (aC c∈sm)):=by
 unfold kept
 rcases h with h | h
 ·obtain ⟨_,e,e2⟩:=aM c h
  have:aC c∉sm:=λz=>qa _ e2 (hs _ z)
  rw[e,decide_eq_false this,Qfx]
 ·obtain ⟨_,e,e2,_⟩:=bE c h
  have:c∉sm:=λz=>e2 (hs _ z)
  rw[e,decide_eq_false this,Qe8]
theorem IV{sm:c5}(hs:∀d∈sm,d∈aV)(h:Lt c):kept sm (aC c)=kept sm c:=by
 rw[eh hs h,eh hs h.aC,aE h,Bool.or_comm]
variable{y:c5}
theorem Yd.within{sm:c5}(h:Yd y)(hs:∀d∈sm,d∈aV):Yd (y.filter (kept sm)):=
 ⟨h.nd.filter _,λc hc=>h.lt c (Qag.mp hc).1,λc hc=>by
  obtain ⟨h1,h2⟩:=Qag.mp hc
  exact Qag.mpr ⟨h.cl c h1,by rw[IV hs (h.lt c h1)];exact h2⟩⟩
noncomputable def gr(y:c5)(a b c:Nat):Bool:=decide ((((y.idxOf b:Nat):Int) - ((y.idxOf a:Nat):Int))%((y:):Int)<(((y.idxOf c:Nat):Int) - ((y.idxOf a:Nat):Int))%((y:):Int))
def lE(i j k:Nat):Prop:=(i<j/\j<k)\/(j<k/\k<i)\/(k<i/\i<j)
noncomputable instance (i j k:Nat):Decidable (lE i j k):=by unfold lE;infer_instance
theorem kc(hi:i<n)(hj:j<n):((j:Int) - (i:Int))%(n:Int)=if i<=j then (j:Int) - i else (j:Int) - i+n:=by
 split
 ·exact Qbm () ()
 ·rw[<-Qde]
  exact Qbm () ()
theorem gp(hn:y.Nodup)(ha:a∈y)(hb:b∈y)(hc:c∈y)(yj:a≠b)(IW:a≠c)(IX:b≠c):gr y a b c=decide (lE (y.idxOf a) (y.idxOf b) (y.idxOf c)):=by
 have ia:=Qae ha
 have ib:=Qae hb
 have ic:=Qae hc
 have inj:∀{u v:Nat},u∈y->v∈y->u≠v->y.idxOf u≠y.idxOf v:=λ{u v} hu hv h z=>h (by
  have e1:=Qbf (Qae hu)
  have e2:=Qbf (Qae hv)
  rw[<-e1, <-e2]
  congr 1)
 have n1:=inj ha hb yj
 have n2:=inj ha hc IW
 have n3:=inj hb hc IX
 unfold gr
 rw[kc ia ib,kc ia ic]
 generalize y.idxOf a=i at*
 generalize y.idxOf b=j at*
 generalize y.idxOf c=k at*
 refine decide_eq_decide.mpr ?_
 unfold lE
 split<;>split<;>lia
theorem IZ{k:Nat}:lE j k i↔lE i j k:=by unfold lE;lia
theorem MJ{k:Nat}(h1:i≠j)(h2:i≠k)(h3:j≠k):lE i k j↔ ¬lE i j k:=by unfold lE;lia
theorem MK(hn:y.Nodup)(ha:a∈y)(hb:b∈y)(hc:c∈y)(yj:a≠b)(IW:a≠c)(IX:b≠c):gr y b c a=gr y a b c:=by
 rw[gp hn ha hb hc yj IW IX,gp hn hb hc ha IX (Ne.symm yj) (Ne.symm IW)]
 exact decide_eq_decide.mpr IZ
theorem cG{u v:Nat}(hu:u∈y)(hv:v∈y)(h:u≠v):y.idxOf u≠y.idxOf v:=λz=>h (by
 have e1:=Qbf (Qae hu)
 have e2:=Qbf (Qae hv)
 rw[<-e1, <-e2]
 congr 1)
theorem QT(hn:y.Nodup)(ha:a∈y)(hb:b∈y)(hc:c∈y)(yj:a≠b)(IW:a≠c)(IX:b≠c):gr y a c b=!gr y a b c:=by
 rw[gp hn ha hb hc yj IW IX,gp hn ha hc hb IW yj (Ne.symm IX)]
 rw[<-decide_not]
 exact decide_eq_decide.mpr (MJ (cG ha hb yj) (cG ha hc IW) (cG hb hc IX))
theorem m4(d:Nat)(t:c5)(a:Nat):(d::t).idxOf a=if d=a then 0 else t.idxOf a+1:=by
 by_cases h:d=a
 ·subst h;rw[if_pos rfl,List.idxOf_cons_self]
 ·rw[if_neg h,List.idxOf_cons,show (d==a)=false by simp[h]];rfl
theorem gN(p:Nat->Bool):∀{y:c5} {a b:Nat},a∈y->b∈y->p a=true->p b=true->((y.filter p).idxOf a<(y.filter p).idxOf b↔y.idxOf a<y.idxOf b)
 | [],_,_,ha,_,_,_=>absurd ha Qan
 | d::t,a,b,ha,hb,pa,pb=>by
  by_cases hd:p d=true
  ·rw[Qbo hd,m4,m4,m4,m4]
   by_cases e1:d=a
   ·rw[if_pos e1,if_pos e1]
    by_cases e2:d=b
    ·rw[if_pos e2,if_pos e2]
    ·rw[if_neg e2,if_neg e2];lia
   ·rw[if_neg e1,if_neg e1]
    by_cases e2:d=b
    ·rw[if_pos e2,if_pos e2];lia
    ·have Sl:a∈t:=(Qab.mp ha).resolve_left (Ne.symm e1)
     have BY:b∈t:=(Qab.mp hb).resolve_left (Ne.symm e2)
     have ih:=gN p Sl BY pa pb
     rw[if_neg e2,if_neg e2];lia
  ·have e1:d≠a:=λz=>hd (z▸pa)
   have e2:d≠b:=λz=>hd (z▸pb)
   have Sl:a∈t:=(Qab.mp ha).resolve_left (Ne.symm e1)
   have BY:b∈t:=(Qab.mp hb).resolve_left (Ne.symm e2)
   have ih:=gN p Sl BY pa pb
   rw[Qba hd,m4,m4,if_neg e1,if_neg e2]
   lia
theorem FJ{p:Nat->Bool}(hn:y.Nodup)(ha:a∈y.filter p)(hb:b∈y.filter p)(hc:c∈y.filter p)(yj:a≠b)(IW:a≠c)(IX:b≠c):gr (y.filter p) a b c=gr y a b c:=by
 obtain ⟨Zl,ha2⟩:=Qag.mp ha
 obtain ⟨Lq,vC⟩:=Qag.mp hb
 obtain ⟨VT,Mt⟩:=Qag.mp hc
 rw[gp (hn.filter _) ha hb hc yj IW IX,gp hn Zl Lq VT yj IW IX]
 refine decide_eq_decide.mpr ?_
 unfold lE
 rw[gN p Zl Lq ha2 vC,gN p Lq VT vC Mt,gN p VT Zl Mt ha2]
theorem FN{a b:c5}(h:a.Perm b)(ha:a.Pairwise (· <= ·))(hb:b.Pairwise (· <= ·)):a=b:=
 Qe5 (le:=λx y=>x<=y) (λ_ _ _ _ h1 h2=>Qej h1 h2) ha hb h
theorem oj{sm:c5}(h:Yd y)(hs:∀d∈sm,d∈aV)(hn:sm.Nodup)(hy:∀d∈sm,d∈y):((y.filter (kept sm)).filter aD).Perm sm:=by
 refine (Qb6 ((h.nd.filter _).filter _) hn).mpr λc=>?_
 rw[Qag,Qag]
 constructor
 ·rintro ⟨⟨h1,h2⟩,h3⟩
  rw[gJ (h.lt c h1)]at h3
  have hc:c∈aV:=of_decide_eq_true h3
  unfold kept at h2
  rw[(aM c hc).2.1]at h2
  exact of_decide_eq_true h2
 ·intro hc
  have h1:=hs c hc
  refine ⟨⟨hy c hc,?_⟩,(aM c h1).1⟩
  unfold kept
  rw[(aM c h1).2.1]
  exact decide_eq_true hc
def An(_:c6):Sp:=λvs H Q _=>∃l:c5,vs=[.str (S l)]/\(∀c∈l,c<128)/\(l:)<64/\∀l' H',l'.Perm (l.filter aD)->l'.Pairwise (· <= ·)->ay H H'->Q (.str (S l')) H'
theorem FO(h:An K vs H Q E):(vs:)=1:=by obtain ⟨c,rfl,_⟩:=h;rfl
inductive iW(p_:c6)(vs:List V)(H:Hp)(Q:VK)(dN:XK):Prop
 | mk (y:c5) (a b:Nat) (_:vs=[.str (S y),.str (S [a]),.str (S [b])]) (_:a∈y) (_:b∈y) (_:(y:)<=1000) (_:Q (.int ((((y.idxOf b:Nat):Int) - ((y.idxOf a:Nat):Int))%((y:):Int))) H):iW p_ vs H Q dN
def ke(p_:c6):Sp:=iW p_
theorem rm(h:ke K vs H Q E):(vs:)=3:=by obtain ⟨c,_,_,rfl,_⟩:=h;rfl
inductive qP(p_:c6)(vs:List V)(H:Hp)(Q:VK)(dN:XK):Prop
 | mk (y sm:c5) (_:vs=[.str (S y),.str (S sm)]) (_:(∀c∈y,c<128)) (_:(y:)<=1000) (_:∀H',ay H H'->Q (.str (S (y.filter (kept sm)))) H'):qP p_ vs H Q dN
def wU(p_:c6):Sp:=qP p_
theorem Cb(h:wU K vs H Q E):(vs:)=2:=by obtain ⟨c,_,rfl,_⟩:=h;rfl
theorem kf{p:Nat->Bool}(h:l[i]? =some c):(l.take (i+1)).filter p=(l.take i).filter p++if p c=true then [c] else []:=by
 rw[<-take_snoc h,Qb3]
 congr 1
 by_cases z:p c=true
 ·rw[if_pos z,Qbo z];rfl
 ·rw[if_neg z,Qba z];rfl
noncomputable def ones(l:c5):List c5:=l.map λc=>[c]
theorem I_(l:c5):dY l=ck (ones l):=gH l
theorem Ao:∀ws:List c5,PyData.hasDictAll (Ah ws)=false
 | []=>rfl
 | w::ws=>by show (PyData.hasDict (.str (S w))||PyData.hasDictAll (Ah ws))=false;rw[Ao ws];rfl
theorem ML(h:∀c∈l,c<128):∀x∈ones l,∀c∈x,c<128:=λx hx c hc=>by
 obtain ⟨d,hd,rfl⟩:=Qar.mp hx
 rw[U0.mp hc];exact h d hd
theorem fz(h:Yd y):2*(y.filter aD:)=(y:):=by
 have key:∀p q:Nat->Bool,(∀c∈y,p c=true->q (aC c)=true)->(y.filter p:)<=(y.filter q:):=λp q VU=>by
  have hn:((y.filter p).map aC).Nodup:=by
   show ((y.filter p).map aC).Pairwise (· ≠ ·)
   rw[Qb1]
   refine (h.nd.filter p).imp_of_mem λ{a b} ha hb z e=>z ?_
   exact dh (h.lt a (Qag.mp ha).1) (h.lt b (Qag.mp hb).1) e
  have:=hn.length_le_of_subset (l₂:=y.filter q) λc hc=>by
   obtain ⟨d,hd,rfl⟩:=Qar.mp hc
   obtain ⟨d1,d2⟩:=Qag.mp hd
   exact Qag.mpr ⟨h.cl d d1,VU d d1 d2⟩
  rwa [Xi]at this
 have k1:=key aD (λc=>!aD c) λc hc z=>by
  rw[gJ (h.lt c hc)]at z
  have hs:=of_decide_eq_true z
  rw[(bE _ (aM c hs).2.2).1];rfl
 have k2:=key (λc=>!aD c) aD λc hc z=>by
  rcases h.lt c hc with q | q
  ·rw[(aM c q).1]at z;cases z
  ·exact (aM _ (bE c q).2.2.2).1
 have k3:(y.filter aD:)+((y.filter λc=>!aD c):)=(y:):=by
  clear k1 k2 key h
  induction y with
  | nil=>rfl
  | cons a r ih=>
   cases hq:aD a
   ·rw[Qba (by simp[hq]),Qbo (by simp[hq]),Qa4,Qa4];lia
   ·rw[Qbo hq,Qba (by simp[hq]),Qa4,Qa4];lia
 lia
noncomputable def rd(w:c5)(k:Int):Nat:=w.getD (k%((w:):Int)).toNat 0
theorem VV{w:c5}(h:w≠[])(k:Int):(k%((w:):Int)).toNat<(w:):=by
 have:0<(w:):=Qah.mpr h
 have h1:=Qcp k (b:=((w:):Int)) ()
 have h2:=Qcn k (b:=((w:):Int)) ()
 lia
theorem iu{w:c5}(h:w≠[])(k:Int):w[(k%((w:):Int)).toNat]? =some (rd w k):=by
 unfold rd
 rw[Qak,P4 (VV h k)]
 rfl
theorem Cc{w:c5}(h:w≠[])(k:Int):rd w k∈w:=Qaf (iu h k)
theorem gq(w:c5)(k:Int):rd w (k+(w:))=rd w k:=by unfold rd;rw[Qde]
theorem gs(w:c5)(k:Int):rd w (k%(w:))=rd w k:=by unfold rd;rw[Qei _ (Qf9 _)]
theorem jm{w:c5}{k:Nat}(h:k<(w:)):w[k]? =some (rd w k):=by
 have da:w≠[]:=λz=>by rw[z]at h;exact absurd h (Qfk _)
 have:=iu da (k:Int)
 rwa [Qbm () (),Qap]at this
theorem DU{w:c5}{k:Int}(hn:n<(w:))(e:k%((w:):Int)=n)(h:w[n]? =some c):rd w k=c:=by
 have:=jm hn
 rw[h]at this
 rw[<-gs,e]
 exact (Qaz this).symm
theorem Ja{w:c5}{k:Int}(h1: -((w:):Int)<=k)(h2:k<(w:)):q8 w k=some (rd w k):=by
 have da:w≠[]:=λz=>by rw[z]at h1 h2;simp at h1 h2;lia
 unfold q8 Lh
 by_cases h0:0<=k
 ·rw[if_pos h0,if_pos h2]
  have:=iu da k
  rw[Qbm h0 h2]at this
  exact this
 ·rw[if_neg h0,if_pos h1]
  have:=iu da (k+(w:))
  rw[gq,Qbm () ()]at this
  exact this
theorem jn{f:Int->Nat}{p:Nat}(P:∀k,f (k+p)=f k)(k:Int):∀t:Nat,f (k+t*p)=f k
 | 0=>by simp
 | t+1=>by
  have:k+((t+1:Nat):Int)*p=k+t*p+p:=by rw[Qb5,Int.add_mul];simp;lia
  rw[this,P,jn P k t]
variable{p q:Nat}{f g:Int->Nat}
theorem fw(hp:0<p)(hq:0<q)(Pf:∀k,f (k+p)=f k)(Pg:∀k,g (k+q)=g k)(h:∀n:Nat,n<p+q->f n=g n)(k:Int):f k=g k:=by
 have up:∀N n:Nat,n<N->f n=g n:=by
  intro N
  induction N with
  | zero=>intro n hn;lia
  | succ N ih=>
   intro n hn
   by_cases z:n<p+q
   ·exact h n z
   ·have e1:f n=f ((n - p:Nat):Int):=by have:=Pf ((n - p:Nat):Int);rwa [show ((n - p:Nat):Int)+p=n by lia]at this
    have e2:g ((n - p:Nat):Int)=g ((n - p - q:Nat):Int):=by have:=Pg ((n - p - q:Nat):Int);rwa [show ((n - p - q:Nat):Int)+q=((n - p:Nat):Int) by lia]at this
    have e3:f ((n - q:Nat):Int)=f ((n - p - q:Nat):Int):=by have:=Pf ((n - p - q:Nat):Int);rwa [show ((n - p - q:Nat):Int)+p=((n - q:Nat):Int) by lia]at this
    have e4:g n=g ((n - q:Nat):Int):=by have:=Pg ((n - q:Nat):Int);rwa [show ((n - q:Nat):Int)+q=n by lia]at this
    rw[e1,ih (n - p) (),e2, <-ih (n - p - q) (), <-e3,ih (n - q) (), <-e4]
 have HW:∃m:Nat,k+((k.natAbs*q:Nat):Int)*p=m/\k+((k.natAbs*p:Nat):Int)*q=m:=by
  have e1:((k.natAbs*q:Nat):Int)*p=((k.natAbs*(q*p):Nat):Int):=by rw[Nat.mul_assoc k.natAbs q p |>.symm];simp
  have e2:((k.natAbs*p:Nat):Int)*q=((k.natAbs*(q*p):Nat):Int):=by rw[Qc8 q p,Nat.mul_assoc k.natAbs p q |>.symm];simp
  have hle:k.natAbs<=k.natAbs*(q*p):=Nat.le_mul_of_pos_right _ (Nat.mul_pos hq hp)
  generalize k.natAbs*(q*p)=M at e1 e2 hle
  exact ⟨(k+M).toNat,(),()⟩
 obtain ⟨m,h1,h2⟩:=HW
 rw[<-jn Pf k (k.natAbs*q),h1, <-jn Pg k (k.natAbs*p),h2]
 exact up (m+1) m (Qcu m)
noncomputable def vg(f g:Int->Nat):Nat->Nat->Nat
 | 0,i=>i
 | n+1,i=>if f i=g i then vg f g n (i+1) else i
theorem kg(f g:Int->Nat):∀n i:Nat,i<=vg f g n i/\vg f g n i<=i+n/\(∀j:Nat,i<=j->j<vg f g n i->f j=g j)/\(vg f g n i<i+n->f (vg f g n i)≠g (vg f g n i))
 | 0,i=>⟨Qaa _,Qaa _,λj h1 h2=>absurd (Qbl h1 h2) (Qbx _),λh=>absurd h (Qbx _)⟩
 | n+1,i=>by
  unfold vg
  by_cases z:f i=g i
  ·rw[if_pos z]
   obtain ⟨h1,h2,h3,h4⟩:=kg f g n (i+1)
   refine ⟨(),(),λj g1 g2=>?_,λg1=>h4 ()⟩
   by_cases e:j=i
   ·rw[e];exact z
   ·exact h3 j () g2
  ·rw[if_neg z]
   exact ⟨Qaa _,(),λj g1 g2=>absurd (Qbl g1 g2) (Qbx _),λ_=>z⟩
noncomputable def al(y:c5)(f g:Int->Nat)(n:Nat):Nat:=
 if f 0≠g 0\/f (-1)=g (-1) then 0 else
 if gr y (aC (f (-1))) (aC (g (-1))) (f 0)=gr y (f (vg f g n 0)) (g (vg f g n 0)) (aC (f ((vg f g n 0:Nat) - 1))) then vg f g n 0 else 0
noncomputable def ac(y:c5)(a b p q:Nat):Bool:=if p=a\/p=b\/q=a\/q=b then false else (gr y a p b != gr y a q b)
noncomputable def sq(w:c5)(i:Int):Int->Nat:=λn=>rd w (i+n)
noncomputable def bq(v:c5)(j:Int):Int->Nat:=λn=>aC (rd v (j - n))
theorem dS(w:c5)(i k:Int):sq w i (k+(w:))=sq w i k:=by unfold sq;rw[<-Qe7,gq]
theorem Cd(w:c5)(k:Int):rd w (k - (w:))=rd w k:=by rw[<-gq w (k - (w:))];congr 1;lia
theorem ub(w:c5)(i k:Int):bq w i (k+(w:))=bq w i k:=by unfold bq;rw[show i - (k+((w:):Int))=i - k - (w:) by lia,Cd]
theorem jo(h:v≠[])(k:Int):rd (bK v) k=aC (rd v (-1 - k)):=by
 have HW:0<(v:):=Qah.mpr h
 have h1:=Qcp k (b:=((v:):Int)) ()
 have h2:=Qcn k (b:=((v:):Int)) ()
 have e:(-1 - k)%((v:):Int)=(v:) - 1 - k%(v:):=by
  have e1:=Qfo k (v:)
  have: -1 - k=((v:) - 1 - k%(v:))+(v:)*(-(k / (v:)) - 1):=by rw[Int.mul_sub,Int.mul_neg];lia
  rw[this,Int.add_mul_emod_self_left,Qbm () ()]
 generalize hr:k%((v:):Int)=r at h1 h2 e
 obtain ⟨n,rfl⟩:∃n:Nat,r=n:=⟨r.toNat,()⟩
 have hn:n<(v:):=by lia
 have e2:rd v (-1 - k)=v[(v:) - 1 - n]'():=DU (n:=(v:) - 1 - n) () (by rw[e];lia) (P4 ())
 rw[e2]
 refine DU (n:=n) (by rw[bJ];exact hn) (by rw[bJ];exact hr) ?_
 unfold bK
 rw[Qdk (by rw[Xi];exact hn),Xi,Qau,P4 ()]
 rfl
theorem QU(h:v≠[])(j:Nat):sq (bK v) (((v:):Int) - 1 - j)=bq v j:=by
 funext n
 unfold sq bq
 rw[jo h,show -1 - (((v:):Int) - 1 - j+n)=j - n - (v:) by lia,Cd]
structure SW(y w:c5):Prop where
 ne:w≠[]
 aY:∀c∈w,c∈y
 red:∀k:Int,rd w k≠aC (rd w (k - 1))
theorem SW.rd{y w:c5}(h:SW y w)(k:Int):rd w k∈y:=h.aY _ (Cc h.ne k)
theorem lF{w:c5}(hw:w≠[])(hv:v≠[])(pf:∀k,f (k+(w:))=f k)(pg:∀k,g (k+(v:))=g k)(h:f (-1)≠g (-1)):vg f g ((w:)+(v:)) 0<(w:)+(v:)/\f (vg f g ((w:)+(v:)) 0)≠g (vg f g ((w:)+(v:)) 0):=by
 obtain ⟨_,b,c,d⟩:=kg f g ((w:)+(v:)) 0
 by_cases z:vg f g ((w:)+(v:)) 0<(w:)+(v:)
 ·exact ⟨z,d ()⟩
 ·exact absurd (fw (Qah.mpr hw) (Qah.mpr hv) pf pg (λn hn=>c n (Qat _) ()) (-1)) h
noncomputable def Ap(ws:List c5):Nat->List (Nat×Nat)
 | 0=>[]
 | n+1=>Ap ws n++(List.range ((ws|||n):)).map λi=>(n,i)
noncomputable def places(ws:List c5):List (Nat×Nat):=Ap ws (ws:)
theorem yk{ws:List c5}:∀{n:Nat} {o:Nat×Nat},o∈Ap ws n↔o.1<n/\o.2<(ws.getD o.1 []:)
 | 0,o=>by simp[Ap]
 | n+1,o=>by
  unfold Ap
  rw[Qai,yk (n:=n),Qar]
  constructor
  ·rintro (⟨h1,h2⟩ | ⟨i,hi,rfl⟩)
   ·exact ⟨(),h2⟩
   ·exact ⟨by simp,Qb7.mp hi⟩
  ·rintro ⟨h1,h2⟩
   by_cases z:o.1<n
   ·exact .inl ⟨z,h2⟩
   ·have e:o.1=n:=by lia
    exact .inr ⟨o.2,Qb7.mpr (by rw[<-e];exact h2),by rw[<-e]⟩
theorem DV{ws:List c5}:∀n:Nat,(Ap ws n).Pairwise λa b=>Ll a.1 a.2 b.1 b.2=true
 | 0=>List.Pairwise.nil
 | n+1=>by
  unfold Ap
  rw[Qbd]
  refine ⟨DV n,?_,λa ha b hb=>?_⟩
  ·rw[Qb1]
   refine List.pairwise_lt_range.imp λ{a b} h=>?_
   unfold Ll
   rw[if_pos rfl]
   exact decide_eq_true (by show (a:Int)<b;lia)
  ·obtain ⟨i,hi,rfl⟩:=Qar.mp hb
   have:=(yk.mp ha).1
   unfold Ll
   rw[if_neg (by show ¬((a.1:Nat):Int)=(n:Nat);lia)]
   exact decide_eq_true (by show ((a.1:Nat):Int)<(n:Nat);lia)
theorem qb:∀{a b:List Int},bZ a b=true->bZ b a=false/\a≠b
 | [],[],h=>by simp[bZ]at h
 | [],_::_,h=>⟨rfl,by simp⟩
 | _::_,[],h=>by simp[bZ]at h
 | x::r,z::t,h=>by
  simp only[bZ]at h ⊢
  split at h
  ·rename_i e
   obtain ⟨h1,h2⟩:=qb h
   rw[if_pos e.symm]
   exact ⟨h1,λq=>h2 (List.cons.inj q).2⟩
  ·rename_i e
   have h':=of_decide_eq_true h
   rw[if_neg (λq=>e q.symm)]
   exact ⟨decide_eq_false (),λq=>e (List.cons.inj q).1⟩
def Adj(w:c5):Prop:=∀(k a b:Nat),w[k]? =some a->w[k+1]? =some b->b≠aC a
theorem SW.adj{w:c5}(h:SW y w):Adj w:=λk a b h1 h2=>by
 have hk:=(P5.mp h2).1
 have e1:=jm (w:=w) (k:=k) ()
 have e2:=jm (w:=w) (k:=k+1) hk
 rw[h1]at e1
 rw[h2]at e2
 rw[Qaz e1,Qaz e2]
 have:=h.red ((k+1:Nat):Int)
 rwa [show (((k+1:Nat):Int) - 1)=(k:Int) by lia]at this
theorem uc{w:c5}(h:w≠[])(hn:n<=(w:))(k:Int):rd (w.drop n++w.take n) k=rd w (k+n):=by
 have HW:0<(w:):=Qah.mpr h
 have hl:(w.drop n++w.take n:)=(w:):=by rw[kb,Qav,Qad];lia
 have h1:=Qcp k (b:=((w:):Int)) ()
 have h2:=Qcn k (b:=((w:):Int)) ()
 have e:(k+n)%((w:):Int)=(k%(w:)+n)%(w:):=by rw[Qe2]
 generalize hr:k%((w:):Int)=r at h1 h2 e
 obtain ⟨m,rfl⟩:∃m:Nat,r=m:=⟨r.toNat,()⟩
 have hm:m<(w:):=by lia
 by_cases z:m+n<(w:)
 ·have hg:w[m+n]? =some (rd w (k+n)):=by
   have:=iu h (k+n)
   rwa [e,Qbm () (),show ((m:Int)+n).toNat=m+n by lia]at this
  refine DU (n:=m) (by rw[hl];exact hm) (by rw[hl];exact hr) ?_
  rw[Qbg (by rw[Qav];lia),Qce,Nat.add_comm]
  exact hg
 ·have hg:w[m+n - (w:)]? =some (rd w (k+n)):=by
   have:=iu h (k+n)
   have e2:((m:Int)+n)%(w:)=((m+n - (w:):Nat):Int):=by
    have:(m:Int)+n=((m+n - (w:):Nat):Int)+(w:):=by lia
    rw[this,Qde,Qbm () ()]
   rwa [e,e2,Qap]at this
  refine DU (n:=m) (by rw[hl];exact hm) (by rw[hl];exact hr) ?_
  rw[Qa1 (by rw[Qav];lia),Qav,Qes,if_pos (),show m - ((w:) - n)=m+n - (w:) by lia]
  exact hg
theorem SW.b7{w:c5}(h:SW y w)(hn:n<=(w:)):SW y (w.drop n++w.take n):=by
 refine ⟨λz=>h.ne ?_,λc hc=>?_,λk=>?_⟩
 ·have l0:(w.drop n++w.take n:)=0:=by rw[z];rfl
  rw[kb,Qav,Qad]at l0
  exact Qcl.mp ()
 ·exact h.aY c ((Qai.mp hc).elim Qc2 Qbi)
 ·rw[uc h.ne hn,uc h.ne hn,show k - 1+n=k+n - 1 by lia]
  exact h.red _
theorem SW.bK{y w:c5}(hy:Yd y)(h:SW y w):SW y (bK w):=by
 refine ⟨λz=>h.ne ?_,λc hc=>?_,λk=>?_⟩
 ·have:=bJ w
  rw[z]at this
  exact Qcl.mp this.symm
 ·obtain ⟨d,hd,rfl⟩:=Qar.mp (Qbn.mp hc)
  exact hy.cl d (h.aY d hd)
 ·rw[jo h.ne,jo h.ne,show -1 - (k - 1)= -1 - k+1 by lia]
  intro q
  have l1:=hy.lt _ (h.rd (-1 - k))
  have l2:=hy.lt _ (h.rd (-1 - k+1))
  rw[aE l2]at q
  have:=h.red (-1 - k+1)
  rw[show -1 - k+1 - 1= -1 - k by lia]at this
  exact this q.symm
theorem MM{w:c5}(h:w≠[]):w.getLast? =some (rd w (-1)):=by
 have HW:0<(w:):=Qah.mpr h
 have:=iu h (-1)
 have e:(-1:Int)%((w:):Int)=(w:) - 1:=by
  have e2:(-1:Int)=(((w:):Int) - 1)+(w:)*(-1):=by lia
  rw[e2,Int.add_mul_emod_self_left,Qbm () ()]
 rw[e]at this
 rw[List.getLast?_eq_getElem?, show (w:) - 1=(((w:):Int) - 1).toNat by lia]
 exact this
theorem MN{w:c5}(h:w≠[]):w.head? =some (rd w 0):=by
 have:=iu h 0
 rw[List.head?_eq_getElem?]
 simpa using this
theorem FP(w:c5):∃k,mZ w k:=by
 by_cases h:w=[]
 ·exact ⟨0,.inl ⟨h,rfl⟩⟩
 ·obtain ⟨k,_,_,t⟩:=ua h
  exact ⟨k,t⟩
theorem bT.turn{w:c5}(h:bT w s):mZ w s:=by
 obtain ⟨k,t⟩:=FP w
 rw[lD h t];exact t
theorem bT.least{w:c5}(h:bT w s)(j1:1<=j)(j2:j<s)(hp:A_ w j):False:=by
 rcases h.turn with ⟨_,e⟩ | ⟨h1,h2,h3,h4⟩
 ·lia
 ·have hn:w≠[]:=λz=>by rw[z]at h2;simp at h2;lia
  exact h4 j j1 j2 ((hU hn ()).mpr hp)
theorem SW.rdd{w:c5}(hy:Yd y)(h:SW y w):jS w:=B7 λk a b ha hb e=>by
 have BY:b∈y:=h.aY b (Qaf hb)
 have:=h.adj k a b ha hb
 rw[e,aE (hy.lt b BY)]at this
 exact this rfl
theorem SW.core{w:c5}(hy:Yd y)(h:SW y w):My.core (My.red w)=w:=by
 rw[fu (h.rdd hy)]
 by_cases z:(w:)<2
 ·exact fO z
 ·obtain ⟨a,m,e,hw⟩:=DM (l:=w) ()
  have h0:=MN h.ne
  have h1:=MM h.ne
  have hr:=h.red 0
  rw[show (0:Int) - 1= -1 by lia]at hr
  rw[hw]at h0 h1 hr ⊢
  have e0:a=My.rd (a::(m++[e])) 0:=Qaz h0
  have e1:e=My.rd (a::(m++[e])) (-1):=by
   have:(a::(m++[e])).getLast? =some e:=by rw[<-Qdo,List.getLast?_append];rfl
   exact Qaz (this.symm.trans h1)
  exact fN (by rw[<-e0, <-e1]at hr;exact hr)
theorem yl{w:c5}{k:Nat}(hk:k<=(w:))(i:Nat):Fw (b7 w k) i=Fw w (i+k):=by
 by_cases z:w=[]
 ·subst z
  unfold Fw b7
  simp
 ·have hp:0<(w:):=Qah.mpr z
  have e:Fw (b7 w k) i=(b7 w k)[i%(w:)]?:= by unfold Fw;rw[cC]
  rw[e,rT hk (Qdc _ hp),IT]
theorem DW{w:c5}{k:Nat}(hk:k<=(w:))(hn:w≠[]):A_ (b7 w k) s↔A_ w s:=by
 constructor
 ·intro h i
  have h1:=h (i+((w:) - k))
  rw[yl hk,yl hk]at h1
  have e1:i+((w:) - k)+s+k=i+s+(w:):=by lia
  have e2:i+((w:) - k)+k=i+(w:):=by lia
  rw[e1,e2,A_.whole w,A_.whole w]at h1
  exact h1
 ·intro h i
  rw[yl hk,yl hk,show i+s+k=i+k+s by lia]
  exact h _
theorem wV{w:c5}(hn:w≠[])(h:bT w s):mZ w s:=by
 obtain ⟨k,r,_,g⟩:=ua hn
 rw[lD h g]
 exact g
theorem Jb{w:c5}{k:Nat}(hk:k<=(w:))(hn:w≠[])(h:mZ (b7 w k) s):mZ w s:=by
 have ve:b7 w k≠[]:=λz=>hn (Qcl.mp (by have:=cC w k;rw[z]at this;exact this.symm))
 rcases h with ⟨z,_⟩ | ⟨h1,h2,h3,h4⟩
 ·exact absurd z ve
 ·rw[cC]at h2
  refine .inr ⟨h1,h2,(hU hn h2).mpr ((DW hk hn).mp ((hU ve (by rw[cC];exact h2)).mp h3)),λj j1 j2 j3=>h4 j j1 j2 ?_⟩
  exact (hU ve (by rw[cC];lia)).mpr ((DW hk hn).mpr ((hU hn ()).mp j3))
theorem FQ{w:c5}{t:Nat}(hy:Yd y)(h:SW y w)(hr:bT (aH w) s)(hw:bT w t):s=t/\(aH w:)=(w:):=by
 have e:aH w=bR w:=by unfold aH;rw[h.core hy]
 obtain ⟨k,ek⟩:=fQ w
 have Dy:∃k,k<=(w:)/\bR w=b7 w k:=by
  by_cases z:k<=(w:)
  ·exact ⟨k,z,ek⟩
  ·refine ⟨(w:),Qaa _,?_⟩
   rw[ek]
   unfold b7
   rw[Qcf (),Qa7 (),List.drop_length,Qbs]
 obtain ⟨k,hk,ek⟩:=Dy
 rw[e,ek]at hr ⊢
 have ve:b7 w k≠[]:=λz=>h.ne (Qcl.mp (by have:=cC w k;rw[z]at this;exact this.symm))
 refine ⟨?_,cC w k⟩
 exact (lD hw (Jb hk h.ne (wV ve hr))).symm
theorem DX{w:c5}(hn:w≠[]):∃s,bT w s:=by
 obtain ⟨k,r,_,g⟩:=ua hn
 rcases g with ⟨z,_⟩ | ⟨h1,h2,h3,h4⟩
 ·exact absurd z hn
 ·exact ⟨k,.inr ⟨h1,h2,wQ hn h1 h2 h3 h4,λj j1 j2 j3=>h4 j j1 j2 (yh j1 () j3)⟩⟩
theorem Jc{w:c5}{t:Nat}(hn:w≠[])(h:bT w s)(g:bT w t):s=t:=lD h (wV hn g)
structure QV(y:c5)(ws:List c5):Prop where
 sw:∀w∈ws,SW y w/\(w:)<=12
 jR:(ws:)<=4
 all:(places ws:)<=24
theorem getD_in(h:c<(ws:)):(ws|||c)∈ws:=by
 rw[Qak,P4 h];exact Qbk h
inductive iX(p_:c6)(vs:List V)(H:Hp)(Q:VK)(dN:XK):Prop
 | mk (w:c5) (i:Nat) (_:vs=[.str (S w),.int i]) (_:(∀c∈w,Lt c)) (_:(w:)<=1000) (_:i<(w:)) (_:∀q H',H q=none->H' q=some (.tup [.str (S [aC (rd w ((i:Int) - 1))]),.str (S [rd w i])])->ay H H'->Q (.ref q) H'):iX p_ vs H Q dN
def kh(p_:c6):Sp:=iX p_
theorem rq(h:kh K vs H Q E):(vs:)=2:=by obtain ⟨_,_,rfl,_⟩:=h;rfl
theorem ym{ws:List c5}{m:Nat}(h:∀w∈ws,(w:)<=m):∀n:Nat,n<=(ws:)->(Ap ws n:)<=n*m
 | 0,_=>Qat _
 | n+1,hn=>by
  unfold Ap
  have:=ym h n ()
  have h2:=h _ (getD_in (ws:=ws) (c:=n) ())
  rw[kb,Xi,Qe0,Qf1]
  lia
noncomputable def rz(y:c5)(a b:Nat):Int:=((y.idxOf b:Int) - (y.idxOf a:Int))%((y:):Int)
noncomputable def fh(y:c5)(f:Int->Nat)(k:Int):Int:=rz y (aC (f (k - 1))) (f k)
structure iw(y:c5)(f:Int->Nat):Prop where
 aY:∀k,f k∈y
 red:∀k,f k≠aC (f (k - 1))
structure Run(f g:Int->Nat)(a b:Nat):Prop where
 o9:∀k:Int, -(b:Int)<=k->k<=a->f k=g k
 hi:f (a+1)≠g (a+1)
 lo:f (-(b:Int) - 1)≠g (-(b:Int) - 1)
noncomputable def lZ(f:Int->Nat):Int->Nat:=λk=>aC (f (-k))
noncomputable def eJ(f:Int->Nat):Int->Nat:=λk=>f (k - 1)
noncomputable def gZ(y:c5)(f g:Int->Nat)(a:Nat):Bool:=decide (fh y f (a+1)<fh y g (a+1))
noncomputable def g8(y:c5)(f g:Int->Nat)(b:Nat):Bool:=decide (fh y f (-(b:Int))<fh y g (-(b:Int)))
noncomputable def zk(x a b:Nat):Bool:=decide (b<a\/(a=b/\aD x=false))
noncomputable def Ce(y:c5)(f g:Int->Nat)(a b:Nat):Bool:=if zk (f 0) a b=true then g8 y f g b else gZ y f g a
variable{a' b':Nat}
theorem Run.one(h:Run f g a b)(h':Run f g a' b'):a=a'/\b=b':=by
 constructor
 ·by_cases z:a<a'
  ·exact absurd (h'.o9 (a+1) () ()) h.hi
  ·by_cases z2:a'<a
   ·exact absurd (h.o9 (a'+1) () ()) h'.hi
   ·lia
 ·by_cases z:b<b'
  ·exact absurd (h'.o9 (-(b:Int) - 1) () ()) h.lo
  ·by_cases z2:b'<b
   ·exact absurd (h.o9 (-(b':Int) - 1) () ()) h'.lo
   ·lia
theorem Run.bk(h:Run f g a (b+1)):Run (eJ f) (eJ g) (a+1) b:=
 ⟨λk h1 h2=>h.o9 (k - 1) () (),λz=>h.hi (by
  unfold eJ at z
  rwa [show ((a+1:Nat):Int)+1 - 1=a+1 by lia]at z),λz=>h.lo (by
  unfold eJ at z
  rwa [show -(b:Int) - 1 - 1= -((b+1:Nat):Int) - 1 by lia]at z)⟩
theorem Run.fd(h:Run (eJ f) (eJ g) (a+1) b):Run f g a (b+1):=
 ⟨λk h1 h2=>by
  have:=h.o9 (k+1) () ()
  unfold eJ at this
  rwa [show k+1 - 1=k by lia]at this,λz=>h.hi (by
  unfold eJ
  rwa [show ((a+1:Nat):Int)+1 - 1=a+1 by lia]),λz=>h.lo (by
  unfold eJ
  rwa [show -(b:Int) - 1 - 1= -((b+1:Nat):Int) - 1 by lia])⟩
theorem rV(y:c5)(f:Int->Nat)(k:Int):fh y (eJ f) k=fh y f (k - 1):=rfl
theorem om(y:c5)(f g:Int->Nat)(a:Nat):gZ y (eJ f) (eJ g) (a+1)=gZ y f g a:=by
 unfold gZ
 rw[rV,rV,show ((a+1:Nat):Int)+1 - 1=a+1 by lia]
theorem oq(y:c5)(f g:Int->Nat)(b:Nat):g8 y (eJ f) (eJ g) b=g8 y f g (b+1):=by
 unfold g8
 rw[rV,rV,show -(b:Int) - 1= -((b+1:Nat):Int) by lia]
theorem Jd{x z a b:Nat}(h:zk x a (b+1)=true):zk z (a+1) b=true:=by
 unfold zk at h ⊢
 have:=of_decide_eq_true h
 exact decide_eq_true ()
theorem dE(ha:a∈y)(hb:b∈y)(h:a≠b):0<rz y a b/\rz y a b<(y:)/\rz y b a=(y:) - rz y a b:=by
 have ia:=Qae ha
 have ib:=Qae hb
 have n:=cG ha hb h
 unfold rz
 rw[kc ia ib,kc ib ia]
 generalize y.idxOf a=i at*
 generalize y.idxOf b=j at*
 split<;>split<;>lia
theorem lG(ha:a∈y)(hb:b∈y)(hc:c∈y)(h:rz y a b=rz y a c):b=c:=by
 have ia:=Qae ha
 have ib:=Qae hb
 have ic:=Qae hc
 refine Classical.byContradiction λz=>cG hb hc z ?_
 unfold rz at h
 rw[kc ia ib,kc ia ic]at h
 split at h<;>split at h<;>lia
theorem Je(y:c5)(a b c:Nat):decide (rz y a b<rz y a c)=gr y a b c:=rfl
theorem iw.rv(hy:Yd y)(h:iw y f):iw y (lZ f):=⟨λk=>hy.cl _ (h.aY _),λk z=>by
 unfold lZ at z
 have e:=aE (hy.lt _ (h.aY (-(k - 1))))
 rw[e]at z
 have:=h.red (-(k - 1))
 rw[show -(k - 1) - 1= -k by lia]at this
 exact this z.symm⟩
theorem qQ(hy:Yd y)(h:iw y f):lZ (lZ f)=f:=by
 funext k
 unfold lZ
 rw[aE (hy.lt _ (h.aY _)),Int.neg_neg]
theorem kj(hy:Yd y)(h:iw y f)(k:Int):fh y (lZ f) (k+1)=(y:) - fh y f (-k):=by
 unfold fh lZ
 rw[show k+1 - 1=k by lia,aE (hy.lt _ (h.aY _)),show -(k+1)= -k - 1 by lia]
 exact (dE (hy.cl _ (h.aY _)) (h.aY _) (Ne.symm (h.red _))).2.2
theorem Run.rv(hy:Yd y)(hf:iw y f)(hg:iw y g)(h:Run f g a b):Run (lZ f) (lZ g) b a:=
 ⟨λk h1 h2=>by unfold lZ;rw[h.o9 _ () ()],λz=>h.lo (by
  unfold lZ at z
  have:=dh (hy.lt _ (hf.aY _)) (hy.lt _ (hg.aY _)) z
  rwa [show -((b:Int)+1)= -(b:Int) - 1 by lia]at this),λz=>h.hi (by
  unfold lZ at z
  have:=dh (hy.lt _ (hf.aY _)) (hy.lt _ (hg.aY _)) z
  rwa [show -(-(a:Int) - 1)=a+1 by lia]at this)⟩
theorem gE:∀c∈aV++mV,aD (aC c)=!aD c:=⋯
theorem QW(hy:Yd y)(hf:iw y f)(hg:iw y g)(h0:f 0=g 0):Ce y (lZ g) (lZ f) b a=Ce y f g a b:=by
 have e1:g8 y (lZ g) (lZ f) a=gZ y f g a:=by
  unfold g8 gZ
  have h1:=kj hy hf (-(a:Int) - 1)
  have h2:=kj hy hg (-(a:Int) - 1)
  rw[show -(a:Int) - 1+1= -a by lia,show -(-(a:Int) - 1)=a+1 by lia]at h1 h2
  rw[h1,h2]
  exact decide_eq_decide.mpr ()
 have e2:gZ y (lZ g) (lZ f) b=g8 y f g b:=by
  unfold g8 gZ
  rw[kj hy hf,kj hy hg]
  exact decide_eq_decide.mpr ()
 unfold Ce
 rw[e1,e2]
 have e3:zk (lZ g 0) b a=!zk (f 0) a b:=by
  unfold zk lZ
  rw[show (-0:Int)=0 from rfl, <-h0,gE _ (hy.lt _ (hf.aY 0)).mem]
  rw[<-decide_not]
  refine decide_eq_decide.mpr ?_
  cases aD (f 0)
  ·simp;lia
  ·simp;lia
 rw[e3]
 cases zk (f 0) a b<;>rfl
def uB(y:c5)(f g:Int->Nat):Prop:=∃a b,Run f g a b/\zk (f 0) a b=true/\gZ y f g a≠g8 y f g b
def iI(y:c5)(f g:Int->Nat):Prop:=∃a,Run f g a 0/\gZ y f g a≠g8 y f g 0
open Classical in
noncomputable def one(p:Prop):Int:=if p then 1 else 0
theorem gz{p:Prop}(h:p):one p=1:=by unfold one;rw[if_pos h]
theorem bj{p:Prop}(h: ¬p):one p=0:=by unfold one;rw[if_neg h]
theorem bC{p q:Prop}(h:p↔q):one p=one q:=by rw[propext h]
theorem Run.zero(h:Run f g a b):f 0=g 0:=h.o9 0 () ()
theorem Jf{e0 e1:Bool}{m:Prop}
  (r0:f 0=g 0->∃a b,Run f g a b) (r1:f (-1)=g (-1)->∃a b,Run (eJ f) (eJ g) a b)
  (h0:∀a b,Run f g a b->e0=Ce y f g a b) (h1:∀a b,Run (eJ f) (eJ g) a b->e1=Ce y (eJ f) (eJ g) a b)
  (ma:f 0=g 0->f (-1)≠g (-1)->(m↔e0≠g8 y f g 0)) (mb:f (-1)=g (-1)->f 0≠g 0->(m↔e1≠gZ y (eJ f) (eJ g) 0)) (mc:f (-1)=g (-1)->f 0=g 0->(m↔e1≠e0))
  (t:f 0=g 0\/f (-1)=g (-1)):one m=one (iI y f g)+one (uB y (eJ f) (eJ g)) - one (uB y f g):=by
 have hb:∀{a b},Run (eJ f) (eJ g) a b->f (-1)=g (-1):=λh=>h.zero
 by_cases z0:f 0=g 0
 ·obtain ⟨a,b,r⟩:=r0 z0
  have e:=h0 a b r
  unfold Ce at e
  have hu:uB y f g↔(zk (f 0) a b=true/\gZ y f g a≠g8 y f g b):=⟨λ⟨a',b',r',x⟩=>by obtain ⟨rfl,rfl⟩:=r.one r';exact x,λx=>⟨a,b,r,x⟩⟩
  by_cases z1:f (-1)=g (-1)
  ·cases b with
   | zero=>exact absurd z1 r.lo
   | succ b=>
    have r2:=r.bk
    have e2:=h1 _ _ r2
    unfold Ce at e2
    have VW:uB y (eJ f) (eJ g)↔(zk (eJ f 0) (a+1) b=true/\gZ y f g a≠g8 y f g (b+1)):=⟨λ⟨a',b',r',x⟩=>by
     obtain ⟨rfl,rfl⟩:=r2.one r'
     rw[om,oq]at x;exact x,λx=>⟨_,_,r2,by rw[om,oq];exact x⟩⟩
    rw[om,oq]at e2
    have VX: ¬iI y f g:=λ⟨a',r',_⟩=>absurd (r.one r').2 (Qee b)
    rw[bj VX,bC hu,bC VW,bC (mc z1 z0),e,e2]
    have mono:= @Jd (f 0) (eJ f 0) a b
    generalize zk (f 0) a (b+1)=B0 at*
    generalize zk (eJ f 0) (a+1) b=B1 at*
    generalize gZ y f g a=A at*
    generalize g8 y f g (b+1)=C at*
    revert mono
    cases B0<;>cases B1<;>cases A<;>cases C<;>simp[one]
  ·have b0:b=0:=by
    cases b with
    | zero=>rfl
    | succ b=>exact absurd (r.o9 (-1) () ()) z1
   subst b0
   have VW: ¬uB y (eJ f) (eJ g):=λ⟨_,_,r',_⟩=>z1 (hb r')
   have VX:iI y f g↔gZ y f g a≠g8 y f g 0:=⟨λ⟨a',r',x⟩=>by obtain ⟨rfl,_⟩:=r.one r';exact x,λx=>⟨a,r,x⟩⟩
   rw[bj VW,bC VX,bC hu,bC (ma z0 z1),e]
   generalize zk (f 0) a 0=B0 at*
   generalize gZ y f g a=A at*
   generalize g8 y f g 0=C at*
   cases B0<;>cases A<;>cases C<;>simp[one]
 ·have z1:=t.resolve_left z0
  obtain ⟨a,b,r⟩:=r1 z1
  have a0:a=0:=by
   cases a with
   | zero=>rfl
   | succ a=>exact absurd (r.fd.zero) z0
  subst a0
  have e:=h1 _ _ r
  unfold Ce at e
  have Zm: ¬uB y f g:=λ⟨_,_,r',_⟩=>z0 r'.zero
  have VX: ¬iI y f g:=λ⟨_,r',_⟩=>z0 r'.zero
  have VW:uB y (eJ f) (eJ g)↔(zk (eJ f 0) 0 b=true/\gZ y (eJ f) (eJ g) 0≠g8 y (eJ f) (eJ g) b):=⟨λ⟨a',b',r',x⟩=>by
   obtain ⟨rfl,rfl⟩:=r.one r';exact x,λx=>⟨_,_,r,x⟩⟩
  rw[bj Zm,bj VX,bC VW,bC (mb z1 z0),e]
  generalize zk (eJ f 0) 0 b=B0 at*
  generalize gZ y (eJ f) (eJ g) 0=A at*
  generalize g8 y (eJ f) (eJ g) b=C at*
  cases B0<;>cases A<;>cases C<;>simp[one]
theorem eQ(hp:0<p)(hq:0<q)(Pf:∀k,f (k+p)=f k)(Pg:∀k,g (k+q)=g k)(h0:f 0=g 0)(hn:∃k,f k≠g k):∃a b,Run f g a b/\a<p+q/\b<p+q:=by
 obtain ⟨k0,hk0⟩:=hn
 have up:∃a:Nat,a<p+q/\(∀j:Nat,j<a->f (j+1)=g (j+1))/\f (a+1)≠g (a+1):=by
  obtain ⟨_,b,c,d⟩:=kg (λk=>f (k+1)) (λk=>g (k+1)) (p+q) 0
  by_cases z:vg (λk=>f (k+1)) (λk=>g (k+1)) (p+q) 0<p+q
  ·exact ⟨_,z,λj hj=>c j (Qat _) hj,d ()⟩
  ·refine absurd ?_ hk0
   have:=fw (f:=λk=>f (k+1)) (g:=λk=>g (k+1)) hp hq (λk=>by rw[show k+(p:Int)+1=k+1+p by lia];exact Pf _) (λk=>by rw[show k+(q:Int)+1=k+1+q by lia];exact Pg _) (λn hn=>c n (Qat _) ()) (k0 - 1)
   rwa [show k0 - 1+1=k0 by lia]at this
 have Pf':∀k,f (-(k+p))=f (-k):=λk=>by have:=Pf (-(k+p));rw[<-this];congr 1;lia
 have Pg':∀k,g (-(k+q))=g (-k):=λk=>by have:=Pg (-(k+q));rw[<-this];congr 1;lia
 have dn:∃a:Nat,a<p+q/\(∀j:Nat,j<a->f (-(j:Int) - 1)=g (-(j:Int) - 1))/\f (-(a:Int) - 1)≠g (-(a:Int) - 1):=by
  obtain ⟨_,b,c,d⟩:=kg (λk=>f (-k - 1)) (λk=>g (-k - 1)) (p+q) 0
  by_cases z:vg (λk=>f (-k - 1)) (λk=>g (-k - 1)) (p+q) 0<p+q
  ·exact ⟨_,z,λj hj=>c j (Qat _) hj,d ()⟩
  ·refine absurd ?_ hk0
   have:=fw (f:=λk=>f (-k - 1)) (g:=λk=>g (-k - 1)) hp hq (λk=>by have:=Pf' (k+1);rw[show -(k+(p:Int)) - 1= -(k+1+p) by lia,this];congr 1;lia) (λk=>by have:=Pg' (k+1);rw[show -(k+(q:Int)) - 1= -(k+1+q) by lia,this];congr 1;lia) (λn hn=>c n (Qat _) ()) (-k0 - 1)
   rwa [show -(-k0 - 1) - 1=k0 by lia]at this
 obtain ⟨a,ha,a1,a2⟩:=up
 obtain ⟨b,hb,b1,b2⟩:=dn
 refine ⟨a,b,⟨λk h1 h2=>?_,a2,b2⟩,ha,hb⟩
 by_cases z:k=0
 ·rw[z];exact h0
 ·by_cases z2:0<k
  ·obtain ⟨j,rfl⟩:∃j:Nat,k=j+1:=⟨(k - 1).toNat,()⟩
   exact a1 j ()
  ·obtain ⟨j,rfl⟩:∃j:Nat,k= -(j:Int) - 1:=⟨(-k - 1).toNat,()⟩
   exact b1 j ()
theorem Jg{p':Nat}(hy:Yd y)(hp:p∈y)(Cf:p'∈y)(hx:x∈y)(h1:p≠p')(h2:p≠x)(h3:p'≠x):decide (rz y p x<rz y p' x)=!gr y p p' x:=by
 have ip:=Qae hp
 have ip':=Qae Cf
 have ix:=Qae hx
 have n1:=cG hp Cf h1
 have n2:=cG hp hx h2
 have n3:=cG Cf hx h3
 rw[gp hy.nd hp Cf hx h1 h2 h3]
 unfold rz
 rw[kc ip ix,kc ip' ix, <-decide_not]
 refine decide_eq_decide.mpr ?_
 unfold lE
 split<;>split<;>lia
theorem yn(hy:Yd y)(hf:iw y f)(hg:iw y g)(h0:f 0=g 0)(h1:f (-1)≠g (-1)):g8 y f g 0=!gr y (aC (f (-1))) (aC (g (-1))) (f 0):=by
 have e:g8 y f g 0=decide (rz y (aC (f (-1))) (f 0)<rz y (aC (g (-1))) (g 0)):=rfl
 rw[e, <-h0]
 have r1:=hf.red 0
 have r2:=hg.red 0
 rw[show (0:Int) - 1= -1 by lia]at r1 r2
 exact Jg hy (hy.cl _ (hf.aY _)) (hy.cl _ (hg.aY _)) (hf.aY 0) (λz=>h1 (dh (hy.lt _ (hf.aY _)) (hy.lt _ (hg.aY _)) z)) (Ne.symm r1) (by rw[h0];exact Ne.symm r2)
theorem yo(h:f a=g a):gZ y f g a=gr y (aC (f a)) (f (a+1)) (g (a+1)):=by
 unfold gZ fh
 rw[show (a:Int)+1 - 1=a by lia, <-h]
 rfl
theorem DY(hy:Yd y)(hf:iw y f)(hg:iw y g)(hd:f (-1)≠g (-1)->vg f g n 0<n/\f (vg f g n 0)≠g (vg f g n 0)):iI y f g↔0<al y f g n:=by
 unfold al
 by_cases z:f 0≠g 0\/f (-1)=g (-1)
 ·rw[if_pos z]
  refine ⟨λ⟨a,r,_⟩=>?_,λh=>absurd h (Qbx _)⟩
  rcases z with z | z
  ·exact absurd r.zero z
  ·exact absurd z r.lo
 ·rw[if_neg z]
  have z0:f 0=g 0:=Classical.byContradiction λq=>z (.inl q)
  have z1:f (-1)≠g (-1):=λq=>z (.inr q)
  obtain ⟨d1,d2⟩:=hd z1
  obtain ⟨_,_,d3,_⟩:=kg f g n 0
  generalize vg f g n 0=D at*
  cases D with
  | zero=>exact absurd z0 d2
  | succ a=>
   have r:Run f g a 0:=⟨λk h1 h2=>by
    obtain ⟨j,rfl⟩:∃j:Nat,k=j:=⟨k.toNat,()⟩
    exact d3 j (Qat _) (),d2,z1⟩
   have e1:((a+1:Nat):Int)=(a:Int)+1:=by lia
   rw[e1,show (a:Int)+1 - 1=a by lia]
   have Xw:=d3 a (Qat _) (Qcu a)
   have rf:=hf.red (a+1)
   have rg:=hg.red (a+1)
   rw[show (a:Int)+1 - 1=a by lia]at rf rg
   have d2':f (a+1)≠g (a+1):=d2
   have eg:=MK hy.nd (hy.cl _ (hf.aY a)) (hf.aY (a+1)) (hg.aY (a+1)) (Ne.symm rf) (by rw[Xw];exact Ne.symm rg) d2'
   rw[eg, <-yo Xw]
   have eb:=yn hy hf hg z0 z1
   have key:iI y f g↔gZ y f g a≠g8 y f g 0:=⟨λ⟨a',r',x⟩=>by obtain ⟨rfl,_⟩:=r.one r';exact x,λx=>⟨a,r,x⟩⟩
   rw[key,eb]
   generalize gr y (aC (f (-1))) (aC (g (-1))) (f 0)=G
   generalize gZ y f g a=A
   cases G<;>cases A<;>simp
noncomputable def rA(a b a' b':Nat):Bool:=decide (lE a a' b) != decide (lE a b' b)
theorem km(a b a' b':Nat):rA a b a' b'=rA a b b' a':=by unfold rA;generalize decide (lE a a' b)=p;generalize decide (lE a b' b)=q;cases p<;>cases q<;>rfl
theorem Aq(a b:Nat):rA a b a b=false:=by
 unfold rA
 have h1: ¬lE a a b:=by unfold lE;lia
 have h2: ¬lE a b b:=by unfold lE;lia
 rw[decide_eq_false h1,decide_eq_false h2]
 rfl
theorem lH(h:a≠b):decide (b<a)=!decide (a<b):=by
 rcases Qdd h with q | q
 ·rw[decide_eq_true q,decide_eq_false (Qep q)];rfl
 ·rw[decide_eq_true q,decide_eq_false (Qep q)];rfl
theorem OL(h1:a≠b)(h2:b≠c)(h3:a≠c):decide (lE a b c)=!(decide (a<b) ^^ (decide (b<c) ^^ decide (c<a))):=by
 have e:decide (lE a b c)=((decide (a<b)&&decide (b<c))||((decide (b<c)&&decide (c<a))||(decide (c<a)&&decide (a<b)))):=by
  rw[<-Qgf, <-Qgf, <-Qgf, <-Bool.decide_or, <-Bool.decide_or]
  exact decide_eq_decide.mpr Iff.rfl
 rw[e]
 have k1:decide (a<b)=true->decide (b<c)=true->decide (c<a)=true->False:=λp q r=>Qep (Qdn (of_decide_eq_true p) (of_decide_eq_true q)) (of_decide_eq_true r)
 have k2:decide (b<a)=true->decide (c<b)=true->decide (a<c)=true->False:=λp q r=>Qep (Qdn (of_decide_eq_true q) (of_decide_eq_true p)) (of_decide_eq_true r)
 rw[lH h1,lH h2,lH (Ne.symm h3)]at k2
 revert k1 k2
 generalize decide (a<b)=p
 generalize decide (b<c)=q
 generalize decide (c<a)=r
 revert p q r
 decide
theorem Jh(h1:a≠b)(h3:a≠a')(h4:a≠b')(h5:b≠a')(h6:b≠b'):rA a b a' b'=((decide (a<a') ^^ decide (a'<b)) ^^ (decide (a<b') ^^ decide (b'<b))):=by
 unfold rA
 rw[OL h3 (Ne.symm h5) h1,OL h4 (Ne.symm h6) h1]
 generalize decide (a<a')=p
 generalize decide (a'<b)=q
 generalize decide (a<b')=r
 generalize decide (b'<b)=s
 generalize decide (b<a)=t
 revert p q r s t
 decide
theorem oz(h1:a≠b)(h2:a'≠b')(h3:a≠a')(h4:a≠b')(h5:b≠a')(h6:b≠b'):rA a b a' b'=rA a' b' a b:=by
 rw[Jh h1 h3 h4 h5 h6,Jh h2 (Ne.symm h3) (Ne.symm h5) (Ne.symm h4) (Ne.symm h6),lH h3,lH (Ne.symm h6)]
 generalize decide (a<a')=p
 generalize decide (a'<b)=q
 generalize decide (a<b')=r
 generalize decide (b'<b)=s
 revert p q r s
 decide
theorem Ar(h1:a≠b)(h2:a'≠b')(h3:a≠a')(h4:a≠b')(h5:b≠a')(h6:b≠b'):rA b a a' b'=rA a b a' b':=by
 rw[oz (Ne.symm h1) h2 h5 h6 h3 h4,km,oz h2 h1 (Ne.symm h3) (Ne.symm h5) (Ne.symm h4) (Ne.symm h6)]
theorem MO{k:Nat}(n1:i≠j)(n2:i≠k)(n3:j≠k)(h1:i<j->a<b)(h2:j<i->b<a)(h3:i<k->a<c)(h4:k<i->c<a)(h5:j<k->b<c)(h6:k<j->c<b):lE a b c↔lE i j k:=by
 have e:∀{i j a b:Nat},i≠j->(i<j->a<b)->(j<i->b<a)->(i<j↔a<b):=λ{i j a b} n f g=>⟨f,λq=>(Qdd n).elim id λr=>absurd (g r) (Qep q)⟩
 unfold lE
 rw[e n1 h1 h2,e n3 h5 h6,e (Ne.symm n2) h4 h3]
def Sep(y:c5)(ps:List (Nat×Nat)):Prop:=∀p∈ps,∀q∈ps,y.idxOf p.1<y.idxOf q.1->p.2<q.2
theorem Sep.lE{ps:List (Nat×Nat)}(h:Sep y ps){a b c:Nat×Nat}(ha:a∈ps)(hb:b∈ps)(hc:c∈ps)(n1:y.idxOf a.1≠y.idxOf b.1)(n2:y.idxOf a.1≠y.idxOf c.1)(n3:y.idxOf b.1≠y.idxOf c.1):My.lE a.2 b.2 c.2↔My.lE (y.idxOf a.1) (y.idxOf b.1) (y.idxOf c.1):=MO n1 n2 n3 (h a ha b hb) (h b hb a ha) (h a ha c hc) (h c hc a ha) (h b hb c hc) (h c hc b hb)
theorem Sep.gr{ps:List (Nat×Nat)}(h:Sep y ps)(hn:y.Nodup){a b c:Nat×Nat}(ha:a∈ps)(hb:b∈ps)(hc:c∈ps)(ya:a.1∈y)(yb:b.1∈y)(yc:c.1∈y)(n1:a.1≠b.1)(n2:a.1≠c.1)(n3:b.1≠c.1):decide (My.lE a.2 b.2 c.2)=My.gr y a.1 b.1 c.1:=by
 rw[gp hn ya yb yc n1 n2 n3]
 exact decide_eq_decide.mpr (h.lE ha hb hc (cG ya yb n1) (cG ya yc n2) (cG yb yc n3))
theorem Sep.same{ps:List (Nat×Nat)}(h:Sep y ps){a b c:Nat×Nat}(ha:a∈ps)(hb:b∈ps)(hc:c∈ps)(e:b.1=c.1)(n:y.idxOf a.1≠y.idxOf c.1):My.lE a.2 b.2 c.2↔b.2<c.2:=by
 have h1:=h a ha b hb
 have h2:=h b hb a ha
 have h3:=h a ha c hc
 have h4:=h c hc a ha
 rw[e]at h1 h2
 unfold My.lE
 lia
theorem Sep.OM{ps:List (Nat×Nat)}(h:Sep y ps){a b c:Nat×Nat}(ha:a∈ps)(hb:b∈ps)(hc:c∈ps)(e:a.1=b.1)(n:y.idxOf a.1≠y.idxOf c.1):My.lE a.2 b.2 c.2↔a.2<b.2:=by
 have h1:=h b hb c hc
 have h2:=h c hc b hb
 have h3:=h a ha c hc
 have h4:=h c hc a ha
 rw[<-e]at h1 h2
 unfold My.lE
 lia
section
variable{y:c5}{f g:Int->Nat}{a b a' b':Nat}
theorem QX(hy:Yd y)(hf:iw y f)(hg:iw y g)(h:Sep y [(aC (f (-1)),a),(f 0,b),(aC (g (-1)),a'),(g 0,b')])(hb:b≠b')(z0:f 0=g 0)(z1:f (-1)≠g (-1)):rA a b a' b'=true↔decide (b<b')≠g8 y f g 0:=by
 have r1:=hf.red 0
 have r2:=hg.red 0
 rw[show (0:Int) - 1= -1 by lia]at r1 r2
 have ya:=hy.cl _ (hf.aY (-1))
 have Xx:=hy.cl _ (hg.aY (-1))
 have n1:aC (f (-1))≠aC (g (-1)):=λz=>z1 (dh (hy.lt _ (hf.aY _)) (hy.lt _ (hg.aY _)) z)
 have e1:=h.gr hy.nd (a:=(aC (f (-1)),a)) (b:=(aC (g (-1)),a')) (c:=(f 0,b)) (by simp) (by simp) (by simp) ya Xx (hf.aY 0) n1 (Ne.symm r1) (by rw[z0];exact Ne.symm r2)
 walk_at"G"
 unfold rA
 rw[yn hy hf hg z0 z1]
 simp only at e1 e2
 rw[e1]
 generalize gr y (aC (f (-1))) (aC (g (-1))) (f 0)=G
 by_cases q:b<b'
 ·rw[decide_eq_true q,decide_eq_false (by rw[e2];lia)]
  cases G<;>simp
 ·rw[decide_eq_false q,decide_eq_true (by rw[e2];lia)]
  cases G<;>simp
theorem QY(hy:Yd y)(hf:iw y f)(hg:iw y g)(h:Sep y [(aC (f (-1)),a),(f 0,b),(aC (g (-1)),a'),(g 0,b')])(ha:a≠a')(z1:f (-1)=g (-1))(z0:f 0≠g 0):rA a b a' b'=true↔decide (a'<a)≠gZ y (eJ f) (eJ g) 0:=by
 have r1:=hf.red 0
 have r2:=hg.red 0
 rw[show (0:Int) - 1= -1 by lia]at r1 r2
 have ya:=hy.cl _ (hf.aY (-1))
 have Xx:=hy.cl _ (hg.aY (-1))
 walk_at"v"
 have e2:=h.gr hy.nd (a:=(aC (f (-1)),a)) (b:=(g 0,b')) (c:=(f 0,b)) (by simp) (by simp) (by simp) ya (hg.aY 0) (hf.aY 0) (by show aC _≠_;rw[z1];exact Ne.symm r2) (Ne.symm r1) (Ne.symm z0)
 have e3:gZ y (eJ f) (eJ g) 0=gr y (aC (f (-1))) (f 0) (g 0):=yo (f:=eJ f) (g:=eJ g) (a:=0) z1
 have e4:=QT hy.nd ya (hf.aY 0) (hg.aY 0) (Ne.symm r1) (by rw[z1];exact Ne.symm r2) z0
 unfold rA
 simp only at e1 e2
 rw[e3,e2,e4]
 generalize gr y (aC (f (-1))) (f 0) (g 0)=G
 by_cases q:a'<a
 ·rw[decide_eq_true q,decide_eq_false (by rw[e1];lia)]
  cases G<;>simp
 ·rw[decide_eq_false q,decide_eq_true (by rw[e1];lia)]
  cases G<;>simp
theorem yp(hy:Yd y)(hf:iw y f)(hg:iw y g)(h:Sep y [(aC (f (-1)),a),(f 0,b),(aC (g (-1)),a'),(g 0,b')])(ha:a≠a')(hb:b≠b')(z1:f (-1)=g (-1))(z0:f 0=g 0):rA a b a' b'=true↔decide (a'<a)≠decide (b<b'):=by
 have r1:=hf.red 0
 rw[show (0:Int) - 1= -1 by lia]at r1
 have ya:=hy.cl _ (hf.aY (-1))
 walk_at"v"
 walk_at"G"
 unfold rA
 simp only at e1 e2
 rw[decide_eq_decide.mpr e1,decide_eq_decide.mpr e2]
 by_cases q:a'<a<;>by_cases q2:b<b'
 ·rw[decide_eq_true q,decide_eq_true q2,decide_eq_false (show ¬a<a' by lia),decide_eq_false (show ¬b'<b by lia)];simp
 ·rw[decide_eq_true q,decide_eq_false q2,decide_eq_false (show ¬a<a' by lia),decide_eq_true (show b'<b by lia)];simp
 ·rw[decide_eq_false q,decide_eq_true q2,decide_eq_true (show a<a' by lia),decide_eq_false (show ¬b'<b by lia)];simp
 ·rw[decide_eq_false q,decide_eq_false q2,decide_eq_true (show a<a' by lia),decide_eq_true (show b'<b by lia)];simp
theorem QZ(hy:Yd y)(hf:iw y f)(hg:iw y g)(h:Sep y [(aC (f (-1)),a),(f 0,b),(aC (g (-1)),a'),(g 0,b')])(z0:f 0≠g 0)(z1:f (-1)≠g (-1))(z2:aC (f (-1))≠g 0)(z3:aC (g (-1))≠f 0):rA a b a' b'=ac y (aC (f (-1))) (f 0) (aC (g (-1))) (g 0):=by
 have r1:=hf.red 0
 have r2:=hg.red 0
 rw[show (0:Int) - 1= -1 by lia]at r1 r2
 have ya:=hy.cl _ (hf.aY (-1))
 have Xx:=hy.cl _ (hg.aY (-1))
 have n1:aC (f (-1))≠aC (g (-1)):=λz=>z1 (dh (hy.lt _ (hf.aY _)) (hy.lt _ (hg.aY _)) z)
 have e1:=h.gr hy.nd (a:=(aC (f (-1)),a)) (b:=(aC (g (-1)),a')) (c:=(f 0,b)) (by simp) (by simp) (by simp) ya Xx (hf.aY 0) n1 (Ne.symm r1) z3
 have e2:=h.gr hy.nd (a:=(aC (f (-1)),a)) (b:=(g 0,b')) (c:=(f 0,b)) (by simp) (by simp) (by simp) ya (hg.aY 0) (hf.aY 0) z2 (Ne.symm r1) (Ne.symm z0)
 unfold rA ac
 simp only at e1 e2
 rw[e1,e2,if_neg (λq=>q.elim (λq=>n1 q.symm) λq=>q.elim z3 λq=>q.elim (λq=>z2 q.symm) λq=>z0 q.symm)]
end
noncomputable def sm:Nat->(Int->Int)->Int
 | 0,_=>0
 | n+1,h=>sm n h+h n
theorem aK{h g:Int->Int}:∀{n:Nat},(∀i:Nat,i<n->h i=g i)->sm n h=sm n g
 | 0,_=>rfl
 | n+1,e=>by
  show sm n h+h n=sm n g+g n
  rw[aK λi hi=>e i (),e n ()]
theorem ud(h g:Int->Int):∀n:Nat,sm n (λi=>h i+g i)=sm n h+sm n g
 | 0=>rfl
 | n+1=>by
  show sm n _+(h n+g n)=(sm n h+h n)+(sm n g+g n)
  rw[ud h g n];lia
theorem Cg(h g:Int->Int):∀n:Nat,sm n (λi=>h i - g i)=sm n h - sm n g
 | 0=>rfl
 | n+1=>by
  show sm n _+(h n - g n)=(sm n h+h n) - (sm n g+g n)
  rw[Cg h g n];lia
theorem eB:∀n:Nat,sm n (λ_=>0)=0
 | 0=>rfl
 | n+1=>by show sm n _+0=0;rw[eB n];rfl
theorem DZ(h:Int->Int):∀n:Nat,sm n (λi=>h (i - 1))+h ((n:Int) - 1)=sm n h+h (-1)
 | 0=>rfl
 | n+1=>by
  have:=DZ h n
  show sm n _+h ((n:Int) - 1)+h (((n+1:Nat):Int) - 1)=(sm n h+h n)+h (-1)
  rw[show ((n+1:Nat):Int) - 1=n by lia]
  lia
variable{h:Int->Int}
theorem ue(P:∀k,h (k+n)=h k):sm n (λi=>h (i - 1))=sm n h:=by
 have h1:=DZ h n
 have h2:=P (-1)
 rw[show (-1:Int)+n=(n:Int) - 1 by lia]at h2
 lia
theorem D4(h:Int->Int):∀n:Nat,sm n (λi=>h ((n:Int) - 1 - i))=sm n h
 | 0=>rfl
 | n+1=>by
  have e:∀(m:Nat) (g:Int->Int),sm (m+1) g=g 0+sm m (λi=>g (i+1)):=λm=>by
   induction m with
   | zero=>intro g;show (0:Int)+g 0=g 0+0;lia
   | succ m ih=>intro g;show sm (m+1) g+g ((m+1:Nat):Int)=g 0+(sm m (λi=>g (i+1))+g ((m:Int)+1));rw[ih];rw[show ((m+1:Nat):Int)=(m:Int)+1 by lia];lia
  rw[e]
  have:=D4 h n
  show h (((n+1:Nat):Int) - 1 - 0)+sm n (λi=>h (((n+1:Nat):Int) - 1 - (i+1)))=sm n h+h n
  rw[show ((n+1:Nat):Int) - 1 - 0=n by lia, <-this,Int.add_comm]
  congr 1
  exact aK λi _=>by congr 1;lia
theorem rW(P:∀k,h (k+n)=h k):sm n (λi=>h (i+1))=sm n h:=by
 have:=ue (h:=λi=>h (i+1)) (n:=n) (λk=>by show h (k+n+1)=h (k+1);rw[<-P (k+1)];congr 1;lia)
 rw[<-this]
 exact aK λi _=>by show h ((i:Int) - 1+1)=h i;congr 1;lia
theorem uf(P:∀k,h (k+n)=h k):sm n (λi=>h (-i))=sm n h:=by
 rw[<-D4 (λi=>h (-i)) n, <-rW P]
 exact aK λi _=>by
  show h (-((n:Int) - 1 - i))=h (i+1)
  rw[<-P (-((n:Int) - 1 - i))];congr 1;lia
theorem Q0(P:∀k,h (k+n)=h k):sm n (λi=>h (1 - i))=sm n h:=by
 rw[<-rW P, <-uf (h:=λi=>h (i+1)) (λk=>by show h (k+n+1)=h (k+1);rw[<-P (k+1)];congr 1;lia)]
 exact aK λi _=>by show h (1 - (i:Int))=h (-(i:Int)+1);congr 1;lia
noncomputable def b_(n m:Nat)(h:Int->Int->Int):Int:=sm n λi=>sm m λj=>h i j
theorem bz{h g:Int->Int->Int}(e:∀i j:Nat,i<n->j<m->h i j=g i j):b_ n m h=b_ n m g:=aK λi hi=>aK λj hj=>e i j hi hj
theorem cU(n m:Nat)(h g:Int->Int->Int):b_ n m (λi j=>h i j+g i j)=b_ n m h+b_ n m g:=by
 unfold b_
 rw[<-ud]
 exact aK λi _=>ud _ _ _
theorem MP(n m:Nat)(h g:Int->Int->Int):b_ n m (λi j=>h i j - g i j)=b_ n m h - b_ n m g:=by
 unfold b_
 rw[<-Cg]
 exact aK λi _=>Cg _ _ _
theorem wW{h:Int->Int->Int}(P:∀i j,h (i+n) j=h i j)(Q:∀i j,h i (j+m)=h i j):b_ n m (λi j=>h (i - 1) (j - 1))=b_ n m h:=by
 unfold b_
 have e:∀i:Int,sm m (λj=>h i (j - 1))=sm m (h i):=λi=>ue (Q i)
 rw[<-ue (h:=λi=>sm m λj=>h i j) (n:=n) (λk=>aK λj _=>P k j)]
 exact aK λi _=>e _
structure Sm(y:c5)(n:Nat)(F:Int->Int->Nat)(o i:Int->Nat):Prop where
 pos:0<n
 Ci:∀k,iw y (F k)
 bk:∀k,eJ (F k)=F (k - 1)
 VY:∀k,F (k+n)=F k
 own:∀k x,F k (x+n)=F k x
 op:∀k,o (k+n)=o k
 ip:∀k,i (k+n)=i k
structure ON(y:c5)(F:Int->Int->Nat)(o i:Int->Nat)(G:Int->Int->Nat)(o' i':Int->Nat):Prop where
 sep:∀s t,Sep y [(aC (F s (-1)),i (s - 1)),(F s 0,o s),(aC (G t (-1)),i' (t - 1)),(G t 0,o' t)]
 on:∀s t a b,Run (F s) (G t) a b->o s≠o' t/\i s≠i' t/\decide (o s<o' t)=Ce y (F s) (G t) a b/\decide (i' t<i s)=Ce y (F s) (G t) a b
def GL(F G:Int->Int->Nat)(s t:Int):Prop:=F s 0=G t 0\/F s (-1)=G t (-1)
def par(F G:Int->Int->Nat)(s t:Int):Prop:=∀k,F s k=G t k
noncomputable def Lv(o i o' i':Int->Nat)(s t:Int):Bool:=rA (i (s - 1)) (o s) (i' (t - 1)) (o' t)
variable{F G:Int->Int->Nat}{o' i':Int->Nat}
theorem Ji{o i:Int->Nat}(hF:Sm y n F o i)(hG:Sm y m G o' i'){s t:Int}:par F G (s - 1) (t - 1)↔par F G s t:=by
 unfold par
 rw[<-hF.bk, <-hG.bk]
 unfold eJ
 exact ⟨λh k=>by have:=h (k+1);rwa [show k+1 - 1=k by lia]at this,λh k=>h _⟩
theorem D5{o i:Int->Nat}(hy:Yd y)(hF:Sm y n F o i)(hG:Sm y m G o' i')(h:ON y F o i G o' i'):
  b_ n m (λs t=>one (GL F G s t/\Lv o i o' i' s t=true/\ ¬par F G s t))=b_ n m λs t=>one (iI y (F s) (G t)):=by
 have pt:∀s t:Int,one (GL F G s t/\Lv o i o' i' s t=true/\ ¬par F G s t)=one (iI y (F s) (G t))+one (uB y (F (s - 1)) (G (t - 1))) - one (uB y (F s) (G t)):=λs t=>by
  by_cases hp:par F G s t
  ·have nr:∀{a b}, ¬Run (F s) (G t) a b:=λr=>r.hi (hp _)
   have Cf:=(Ji hF hG).mpr hp
   have nr':∀{a b}, ¬Run (F (s - 1)) (G (t - 1)) a b:=λr=>r.hi (Cf _)
   rw[bj (λz=>z.2.2 hp),bj (λ⟨_,r,_⟩=>nr r),bj (λ⟨_,_,r,_⟩=>nr' r),bj (λ⟨_,_,r,_⟩=>nr r)]
   rfl
  ·by_cases ht:GL F G s t
   ·have da:∃k,F s k≠G t k:=Classical.byContradiction λz=>hp λk=>Classical.byContradiction λq=>z ⟨k,q⟩
    have Q3:∃k,F (s - 1) k≠G (t - 1) k:=Classical.byContradiction λz=>hp ((Ji hF hG).mp λk=>Classical.byContradiction λq=>z ⟨k,q⟩)
    have e1:∀s,F (s - 1) 0=F s (-1):=λs=>by rw[<-hF.bk];rfl
    have e2:∀t,G (t - 1) 0=G t (-1):=λs=>by rw[<-hG.bk];rfl
    have ei:one (GL F G s t/\Lv o i o' i' s t=true/\ ¬par F G s t)=one (Lv o i o' i' s t=true):=bC ⟨λz=>z.2.1,λz=>⟨ht,z,hp⟩⟩
    rw[ei, <-hF.bk, <-hG.bk]
    refine Jf (e0:=decide (o s<o' t)) (e1:=decide (i' (t - 1)<i (s - 1))) (λz=>?_) (λz=>?_) (λa b r=>(h.on s t a b r).2.2.1) (λa b r=>?_) (λz0 z1=>?_) (λz1 z0=>?_) (λz1 z0=>?_) ht
    ·obtain ⟨a,b,r,_⟩:=eQ hF.pos hG.pos (hF.own s) (hG.own t) z da
     exact ⟨a,b,r⟩
    ·obtain ⟨a,b,r,_⟩:=eQ hF.pos hG.pos (hF.own (s - 1)) (hG.own (t - 1)) (by rw[e1,e2];exact z) Q3
     rw[hF.bk,hG.bk]
     exact ⟨a,b,r⟩
    ·rw[hF.bk,hG.bk]at r ⊢
     exact (h.on _ _ a b r).2.2.2
    ·obtain ⟨a,b,r,_⟩:=eQ hF.pos hG.pos (hF.own s) (hG.own t) z0 da
     exact QX hy (hF.Ci s) (hG.Ci t) (h.sep s t) (h.on s t a b r).1 z0 z1
    ·obtain ⟨a,b,r,_⟩:=eQ hF.pos hG.pos (hF.own (s - 1)) (hG.own (t - 1)) (by rw[e1,e2];exact z1) Q3
     exact QY hy (hF.Ci s) (hG.Ci t) (h.sep s t) (h.on _ _ a b r).2.1 z1 z0
    ·obtain ⟨a,b,r,_⟩:=eQ hF.pos hG.pos (hF.own s) (hG.own t) z0 da
     obtain ⟨a2,b2,r2,_⟩:=eQ hF.pos hG.pos (hF.own (s - 1)) (hG.own (t - 1)) (by rw[e1,e2];exact z1) Q3
     exact yp hy (hF.Ci s) (hG.Ci t) (h.sep s t) (h.on _ _ a2 b2 r2).2.1 (h.on s t a b r).1 z1 z0
   ·have t0:F s 0≠G t 0:=λz=>ht (.inl z)
    have t1:F (s - 1) 0≠G (t - 1) 0:=by
     rw[<-hF.bk, <-hG.bk]
     exact λz=>ht (.inr z)
    rw[bj (λz=>ht z.1),bj (λ⟨_,r,_⟩=>t0 r.zero),bj (λ⟨_,_,r,_⟩=>t1 r.zero),bj (λ⟨_,_,r,_⟩=>t0 r.zero)]
    rfl
 have e:b_ n m (λs t=>one (GL F G s t/\Lv o i o' i' s t=true/\ ¬par F G s t))=b_ n m (λs t=>(one (iI y (F s) (G t))+one (uB y (F (s - 1)) (G (t - 1)))) - one (uB y (F s) (G t))):=bz λs t _ _=>pt s t
 rw[e,MP,cU,wW (h:=λs t=>one (uB y (F s) (G t))) (λs t=>by rw[hF.VY]) (λs t=>by rw[hG.VY])]
 lia
theorem bf{w:c5}(h:SW y w)(i:Int):iw y (sq w i):=⟨λk=>h.rd _,λk=>by
 unfold sq
 have:=h.red (i+k)
 rwa [show i+k - 1=i+(k - 1) by lia]at this⟩
theorem fA(w:c5)(i:Int):lZ (sq w i)=bq w i:=by
 funext k
 unfold lZ sq bq
 rw[show i+ -k=i - k by lia]
theorem fR{w:c5}(hy:Yd y)(h:SW y w)(i:Int):iw y (bq w i):=by rw[<-fA];exact (bf h i).rv hy
theorem m5(w:c5)(i:Int):sq w (i+(w:))=sq w i:=by
 funext k
 unfold sq
 rw[show i+((w:):Int)+k=i+k+(w:) by lia,gq]
theorem ko(w:c5)(i:Int):bq w (i+(w:))=bq w i:=by rw[<-fA, <-fA,m5]
theorem Q5(w:c5)(i:Int):bq w (i - (w:))=bq w i:=by rw[<-ko w (i - (w:))];congr 1;lia
variable{po pi:Int->Nat}
theorem Cj{w:c5}(h:SW y w)(P:∀k,po (k+(w:))=po k)(Q:∀k,pi (k+(w:))=pi k):Sm y (w:) (sq w) po pi:=
 ⟨Qah.mpr h.ne,bf h,λk=>by funext x;unfold eJ sq;congr 1;lia,m5 w,λk x=>dS w k x,P,Q⟩
theorem D6{h:Int->Nat}(P:∀k,h (k+n)=h k)(k:Int):h (-(k+n))=h (-k):=by rw[<-P (-(k+n))];congr 1;lia
theorem Q6{w:c5}(hy:Yd y)(h:SW y w)(P:∀k,po (k+(w:))=po k)(Q:∀k,pi (k+(w:))=pi k):Sm y (w:) (λk=>bq w (-k)) (λk=>pi (-k)) (λk=>po (-k)):=
 ⟨Qah.mpr h.ne,λk=>fR hy h _,λk=>by funext x;unfold eJ bq;congr 2;lia,λk=>by
  show bq w (-(k+(w:)))=bq w (-k)
  rw[<-ko w (-(k+(w:)))];congr 1;lia,λk x=>ub w _ x,D6 Q,D6 P⟩
section
variable{y w v:c5}{po pi qo qi:Int->Nat}
noncomputable def jd(po pi qo qi:Int->Nat)(i j:Int):Bool:=rA (pi (i - 1)) (po i) (qi (j - 1)) (qo j)
def b8(w v:c5)(i j:Int):Prop:=∀k,sq w i k=sq v j k
def ku(w v:c5)(i j:Int):Prop:=∀k,sq w i k=bq v (j - 1) k
def So(w v:c5)(i j:Int):Prop:=rd w i=rd v j\/rd w (i - 1)=rd v (j - 1)
def Ck(w v:c5)(i j:Int):Prop:=rd w i=aC (rd v (j - 1))\/rd w (i - 1)=aC (rd v j)
theorem MQ(w v:c5)(i j:Int):GL (sq w) (sq v) i j↔So w v i j:=by
 unfold GL So sq
 rw[show i+0=i by lia,show j+0=j by lia]
 rfl
theorem MR(w v:c5)(i k:Int):GL (sq w) (λk=>bq v (-k)) i k↔Ck w v i (1 - k):=by
 unfold GL Ck sq bq
 show rd w (i+0)=aC (rd v (-k - 0))\/rd w (i+ -1)=aC (rd v (-k - -1))↔_
 rw[show i+0=i by lia,show -k - 0=1 - k - 1 by lia,show -k - -1=1 - k by lia]
 rfl
theorem Zn(hy:Yd y)(hw:SW y w)(hv:SW y v){i j:Int}(h:So w v i j)(g:Ck w v i j):False:=by
 have zF:=hw.red i
 have rv':=hv.red j
 have l1:=hy.lt _ (hw.rd (i - 1))
 have l2:=hy.lt _ (hv.rd (j - 1))
 have l3:=hy.lt _ (hv.rd j)
 rcases h with h | h<;>rcases g with g | g
 ·exact rv' (h.symm.trans g)
 ·rw[<-h]at g;exact zF (by rw[g,aE (hy.lt _ (hw.rd i))])
 ·rw[<-h]at g;exact zF g
 ·rw[h]at g;exact rv' (by rw[g,aE l3])
theorem MS(hy:Yd y)(hw:SW y w)(hv:SW y v):b_ (w:) (v:) (λs t=>one (iI y (sq w s) (sq v t)))=b_ (w:) (v:) (λi j=>one (0<al y (sq w i) (sq v j) ((w:)+(v:)))):=bz λi j _ _=>bC (DY hy (bf hw _) (bf hv _) λz=>lF hw.ne hv.ne (λk=>dS w i k) (λk=>dS v j k) z)
theorem MT(hy:Yd y)(hw:SW y w)(hv:SW y v):b_ (w:) (v:) (λs t=>one (iI y (sq w s) (bq v (-t))))=b_ (w:) (v:) (λi j=>one (0<al y (sq w i) (bq v j) ((w:)+(v:)))):=by
 have:b_ (w:) (v:) (λs t=>one (iI y (sq w s) (bq v (-t))))=b_ (w:) (v:) (λs t=>one (iI y (sq w s) (bq v t))):=aK λi _=>uf (h:=λt=>one (iI y (sq w i) (bq v t))) λk=>by rw[ko]
 rw[this]
 exact bz λi j _ _=>bC (DY hy (bf hw _) (fR hy hv _) λz=>lF hw.ne hv.ne (λk=>dS w i k) (λk=>ub v j k) z)
theorem MU(Q1:∀k,qo (k+(v:))=qo k)(Q2:∀k,qi (k+(v:))=qi k):b_ (w:) (v:) (λs t=>one (GL (sq w) (λk=>bq v (-k)) s t/\Lv po pi (λk=>qi (-k)) (λk=>qo (-k)) s t=true/\ ¬par (sq w) (λk=>bq v (-k)) s t))=b_ (w:) (v:) (λi j=>one (Ck w v i j/\jd po pi qo qi i j=true/\ ¬ku w v i j)):=by
 have P:∀i:Int,∀k:Int,(λj=>one (Ck w v i j/\jd po pi qo qi i j=true/\ ¬ku w v i j)) (k+(v:))=(λj=>one (Ck w v i j/\jd po pi qo qi i j=true/\ ¬ku w v i j)) k:=λi k=>by
  show one (Ck w v i (k+(v:))/\jd po pi qo qi i (k+(v:))=true/\ ¬ku w v i (k+(v:)))=_
  unfold Ck jd ku
  rw[show k+((v:):Int) - 1=k - 1+(v:) by lia,gq,gq,Q1,Q2,ko]
 refine aK λi _=>(aK λk _=>?_).trans (Q0 (P i))
 refine bC ?_
 rw[MR]
 have ec:Lv po pi (λk=>qi (-k)) (λk=>qo (-k)) i k=jd po pi qo qi i (1 - k):=by
  unfold Lv jd
  rw[km]
  show rA (pi ((i:Int) - 1)) (po i) (qi (-(k:Int))) (qo (-((k:Int) - 1)))=_
  rw[show -((k:Int) - 1)=1 - k by lia,show (1:Int) - k - 1= -k by lia]
 have ep:par (sq w) (λk=>bq v (-k)) i k↔ku w v i (1 - k):=by
  unfold par ku
  rw[show (1:Int) - k - 1= -k by lia]
 rw[ec,ep]
theorem Cm(hy:Yd y)(hw:SW y w)(hv:SW y v)(sep:∀s t,Sep y [(aC (sq w s (-1)),pi (s - 1)),(sq w s 0,po s),(aC (sq v t (-1)),qi (t - 1)),(sq v t 0,qo t)]):
  b_ (w:) (v:) (λi j=>one (jd po pi qo qi i j=true))=
   b_ (w:) (v:) (λi j=>one (ac y (aC (rd w (i - 1))) (rd w i) (aC (rd v (j - 1))) (rd v j)=true))+b_ (w:) (v:) (λi j=>one (GL (sq w) (sq v) i j/\Lv po pi qo qi i j=true/\ ¬par (sq w) (sq v) i j))+b_ (w:) (v:) (λi j=>one (Ck w v i j/\jd po pi qo qi i j=true/\ ¬ku w v i j))
   +b_ (w:) (v:) (λi j=>one (b8 w v i j/\jd po pi qo qi i j=true))+b_ (w:) (v:) (λi j=>one (ku w v i j/\jd po pi qo qi i j=true)):=by
 rw[<-cU, <-cU, <-cU, <-cU]
 refine bz λi j _ _=>?_
 have hc:Lv po pi qo qi i j=jd po pi qo qi i j:=rfl
 have et:=MQ w v i j
 have pS:b8 w v i j->So w v i j:=λz=> .inl (by have:=z 0;unfold sq at this;rwa [show (i:Int)+0=i by lia,show (j:Int)+0=j by lia]at this)
 have pO:ku w v i j->Ck w v i j:=λz=> .inl (by have:=z 0;unfold sq bq at this;rwa [show (i:Int)+0=i by lia,show (j:Int) - 1 - 0=j - 1 by lia]at this)
 have acS:So w v i j-> ¬ac y (aC (rd w (i - 1))) (rd w i) (aC (rd v (j - 1))) (rd v j)=true:=λz=>by
  unfold ac
  rw[if_pos (z.elim (λz=> .inr (.inr (.inr z.symm))) λz=> .inl (by rw[z]))]
  decide
 have acO:Ck w v i j-> ¬ac y (aC (rd w (i - 1))) (rd w i) (aC (rd v (j - 1))) (rd v j)=true:=λz=>by
  unfold ac
  rw[if_pos (z.elim (λz=> .inr (.inl z.symm)) λz=> .inr (.inr (.inl (by rw[z,aE (hy.lt _ (hv.rd _))]))))]
  decide
 have ep:par (sq w) (sq v) i j↔b8 w v i j:=Iff.rfl
 by_cases tS:So w v i j
 ·have nO: ¬Ck w v i j:=λz=>Zn hy hw hv tS z
  rw[bj (acS tS),bj (p:=Ck w v i j/\_) (λz=>nO z.1),bj (p:=ku w v i j/\_) (λz=>nO (pO z.1))]
  by_cases c:jd po pi qo qi i j=true
  ·by_cases q:b8 w v i j
   ·rw[gz c,bj (λz=>z.2.2 q),gz ⟨q,c⟩];rfl
   ·rw[gz c,gz ⟨et.mpr tS,c,q⟩,bj (λz=>q z.1)];rfl
  ·rw[bj c,bj (λz=>c z.2.1),bj (λz=>c z.2)];rfl
 ·rw[bj (p:=GL _ _ _ _/\_) (λz=>tS (et.mp z.1)),bj (p:=b8 w v i j/\_) (λz=>tS (pS z.1))]
  by_cases tO:Ck w v i j
  ·rw[bj (acO tO)]
   by_cases c:jd po pi qo qi i j=true
   ·by_cases q:ku w v i j
    ·rw[gz c,bj (λz=>z.2.2 q),gz ⟨q,c⟩];rfl
    ·rw[gz c,gz ⟨tO,c,q⟩,bj (λz=>q z.1)];rfl
   ·rw[bj c,bj (λz=>c z.2.1),bj (λz=>c z.2)];rfl
  ·rw[bj (p:=Ck w v i j/\_) (λz=>tO z.1),bj (p:=ku w v i j/\_) (λz=>tO (pO z.1))]
   have l2:=hy.lt _ (hv.rd (j - 1))
   have l3:=hy.lt _ (hv.rd j)
   have l1:=hy.lt _ (hw.rd (i - 1))
   have f0:∀(u:c5) (i:Int),sq u i 0=rd u i:=λu i=>by unfold sq;rw[show i+0=i by lia]
   have f1:∀(u:c5) (i:Int),sq u i (-1)=rd u (i - 1):=λu i=>rfl
   have e:=QZ hy (bf hw i) (bf hv j) (sep i j) (λz=>tS (.inl (by rw[f0,f0]at z;exact z))) (λz=>tS (.inr z)) (λz=>tO (.inr (by rw[f0,f1]at z;rw[<-z,aE l1]))) (λz=>tO (.inl (by rw[f0,f1]at z;exact z.symm)))
   rw[f0,f0,f1,f1]at e
   have e':jd po pi qo qi i j=ac y (aC (rd w (i - 1))) (rd w i) (aC (rd v (j - 1))) (rd v j):=e
   rw[e']
   lia
theorem As(hy:Yd y)(hw:SW y w)(hv:SW y v)(P1:∀k,po (k+(w:))=po k)(P2:∀k,pi (k+(w:))=pi k)(Q1:∀k,qo (k+(v:))=qo k)(Q2:∀k,qi (k+(v:))=qi k)
  (hS:ON y (sq w) po pi (sq v) qo qi) (hO:ON y (sq w) po pi (λk=>bq v (-k)) (λk=>qi (-k)) (λk=>qo (-k))):
  b_ (w:) (v:) (λi j=>one (jd po pi qo qi i j=true))=
   b_ (w:) (v:) (λi j=>one (ac y (aC (rd w (i - 1))) (rd w i) (aC (rd v (j - 1))) (rd v j)=true))+b_ (w:) (v:) (λi j=>one (0<al y (sq w i) (sq v j) ((w:)+(v:))))+b_ (w:) (v:) (λi j=>one (0<al y (sq w i) (bq v j) ((w:)+(v:))))
   +b_ (w:) (v:) (λi j=>one (b8 w v i j/\jd po pi qo qi i j=true))+b_ (w:) (v:) (λi j=>one (ku w v i j/\jd po pi qo qi i j=true)):=by
 have s1:=D5 hy (Cj hw P1 P2) (Cj hv Q1 Q2) hS
 have s2:=D5 hy (Cj hw P1 P2) (Q6 hy hv Q1 Q2) hO
 rw[MS hy hw hv]at s1
 rw[MT hy hw hv,MU Q1 Q2]at s2
 rw[Cm hy hw hv hS.sep,s1,s2]
theorem MV(hy:Yd y)(hw:SW y w)(hv:SW y v)(hS:ON y (sq w) po pi (sq v) qo qi)(D:Bool)
  (h:∀i j,b8 w v i j->po i≠qo j/\pi i≠qi j/\decide (po i<qo j)=D/\decide (qi j<pi i)=D):b_ (w:) (v:) (λi j=>one (b8 w v i j/\jd po pi qo qi i j=true))=0:=by
 have:∀i j:Int, ¬(b8 w v i j/\jd po pi qo qi i j=true):=λi j ⟨p,c⟩=>by
  have p1:b8 w v (i - 1) (j - 1):=λk=>by
   have:=p (k - 1)
   unfold sq at this ⊢
   rw[show i - 1+k=i+(k - 1) by lia,show j - 1+k=j+(k - 1) by lia]
   exact this
  have h0:=h i j p
  have h1:=h _ _ p1
  have:=(yp hy (bf hw i) (bf hv j) (hS.sep i j) h1.2.1 h0.1 (p (-1)) (p 0)).mp c
  exact this (h1.2.2.2.trans h0.2.2.1.symm)
 walk_at"B"
 exact bz λi j _ _=>bj (this i j)
theorem MW(hy:Yd y)(hw:SW y w)(hv:SW y v)(hO:ON y (sq w) po pi (λk=>bq v (-k)) (λk=>qi (-k)) (λk=>qo (-k)))(D:Bool)
  (h:∀i j,(∀k,sq w i k=bq v j k)->po i≠qi j/\pi i≠qo j/\decide (po i<qi j)=D/\decide (qo j<pi i)=D):b_ (w:) (v:) (λi j=>one (ku w v i j/\jd po pi qo qi i j=true))=0:=by
 have:∀i j:Int, ¬(ku w v i j/\jd po pi qo qi i j=true):=λi j ⟨p,c⟩=>by
  have p1:∀k,sq w (i - 1) k=bq v j k:=λk=>by
   have:=p (k - 1)
   unfold sq bq at this ⊢
   rw[show i - 1+k=i+(k - 1) by lia,this]
   congr 2;lia
  have h0:=h i (j - 1) p
  have h1:=h _ _ p1
  have s:=hO.sep i (1 - j)
  simp only[show -(1 - j)=j - 1 by lia,show -(1 - j - 1)=j by lia]at s
  unfold jd at c
  rw[km]at c
  have:=(yp hy (bf hw i) (fR hy hv (j - 1)) s h1.2.1 h0.1 (p (-1)) (p 0)).mp c
  exact this (h1.2.2.2.trans h0.2.2.1.symm)
 walk_at"B"
 exact bz λi j _ _=>bj (this i j)
theorem yq(hy:Yd y)(hw:SW y w)(i j:Int): ¬ ∀k,sq w i k=bq w j k:=λh=>by
 unfold sq bq at h
 rcases (show (j - i)%2=0\/(j - i)%2=1 by lia) with z | z
 ·have:=h ((j - i) / 2)
  rw[show i+(j - i) / 2=j - (j - i) / 2 by lia]at this
  exact j_ (hy.lt _ (hw.rd _)) this.symm
 ·have:=h ((j - i) / 2+1)
  rw[show j - ((j - i) / 2+1)=i+((j - i) / 2+1) - 1 by lia]at this
  exact hw.red _ this
theorem Au(h:Int->Int)(n:Nat):∀m:Nat,sm (n+m) h=sm n h+sm m (λi=>h (n+i))
 | 0=>by show sm n h=sm n h+0;lia
 | m+1=>by
  show sm (n+m) h+h ((n+m:Nat):Int)=sm n h+(sm m (λi=>h (n+i))+h (n+m))
  rw[Au h n m,show ((n+m:Nat):Int)=(n:Int)+m by lia]
  lia
theorem kz{h:Int->Int}:∀{s:Nat},0<s->(∀i:Nat,0<i->i<s->h i=0)->sm s h=h 0
 | 0,h0,_=>absurd h0 (Qbx _)
 | 1,_,_=>by show (0:Int)+h 0=h 0;lia
 | s+2,_,g=>by
  show sm (s+1) h+h ((s+1:Nat):Int)=h 0
  rw[kz (s:=s+1) () (λi h1 h2=>g i h1 ()),g (s+1) () ()]
  lia
theorem D7{h:Int->Int}{s:Nat}(hs:0<s)(g:∀i:Nat,h i=if i%s=0 then 1 else 0):∀k:Nat,sm (k*s) h=k
 | 0=>by rw[Nat.zero_mul];rfl
 | k+1=>by
  rw[Qf1,Au,D7 hs g k,kz hs]
  ·have:=g (k*s)
   rw[if_pos (Nat.mul_mod_left k s)]at this
   show (k:Int)+h (((k*s:Nat):Int)+0)=((k+1:Nat):Int)
   rw[Qea,this]
   lia
  ·intro i h1 h2
   have:=g (k*s+i)
   rw[if_neg (by rw[Qc8,Nat.mul_add_mod,Qct h2];lia)]at this
   rw[<-this]
   congr 1
theorem Jj(hy:Yd y)(hw:SW y w)(hS:ON y (sq w) po pi (sq w) po pi){k:Nat}(hs:0<s)(hn:(w:)=k*s)(hk:0<k)(hr:∀j:Nat,j<(w:)->(b8 w w 0 j↔j%s=0))
  (h:∀i j:Int,b8 w w i j->i%(w:)≠j%(w:)->po i≠po j/\pi i≠pi j/\decide (po i<po j)=decide (i%(w:)<j%(w:))/\decide (pi j<pi i)=decide (i%(w:)<j%(w:))):
  b_ (w:) (w:) (λi j=>one (b8 w w i j/\jd po pi po pi i j=true))=2*((k:Int) - 1):=by
 have pt:∀i j:Nat,i<(w:)->j<(w:)->one (b8 w w i j/\jd po pi po pi i j=true)=(if i=0 then one (j≠0/\b8 w w 0 j) else 0)+(if j=0 then one (i≠0/\b8 w w 0 i) else 0):=λi j hi hj=>by
  have sym:b8 w w 0 i↔b8 w w i 0:=⟨λq k=>(q k).symm,λq k=>(q k).symm⟩
  by_cases e:i=j
  ·subst e
   rw[bj (λq=>by have:=q.2;unfold jd at this;rw[Aq]at this;cases this)]
   by_cases z:i=0
   ·rw[if_pos z,bj (λq=>q.1 z)];rfl
   ·rw[if_neg z];rfl
  ·have key:b8 w w i j->(jd po pi po pi i j=true↔(i=0\/j=0)):=λp=>by
    have p1:b8 w w ((i:Int) - 1) ((j:Int) - 1):=λk=>by
     have:=p (k - 1)
     unfold sq at this ⊢
     rw[show (i:Int) - 1+k=i+(k - 1) by lia,show (j:Int) - 1+k=j+(k - 1) by lia]
     exact this
    have m0:∀i:Nat,i<(w:)->(i:Int)%(w:)=i:=λi hi=>Qbm () ()
    have m1:∀i:Nat,i<(w:)->((i:Int) - 1)%(w:)=if i=0 then ((w:):Int) - 1 else i - 1:=λi hi=>by
     split
     ·rename_i z
      rw[<-Qde,Qbm () ()];lia
     ·exact Qbm () ()
    have h0:=h i j p (by rw[m0 i hi,m0 j hj];lia)
    have h1:=h _ _ p1 (by rw[m1 i hi,m1 j hj];split<;>split<;>lia)
    have c:=yp hy (bf hw i) (bf hw j) (hS.sep i j) h1.2.1 h0.1 (p (-1)) (p 0)
    rw[h0.2.2.1,h1.2.2.2,m0 i hi,m0 j hj,m1 i hi,m1 j hj]at c
    have c':jd po pi po pi i j=true↔_:=c
    rw[c',Ne,decide_eq_decide]
    split<;>split<;>lia
   by_cases z:i=0
   ·have j0:j≠0:=λq=>e (z.trans q.symm)
    rw[if_pos z,if_neg j0]
    rw[z]at key ⊢
    have:one (b8 w w ((0:Nat):Int) j/\jd po pi po pi ((0:Nat):Int) j=true)=one (j≠0/\b8 w w 0 j):=bC ⟨λq=>⟨j0,q.1⟩,λq=>⟨q.2,(key q.2).mpr (.inl rfl)⟩⟩
    rw[this];lia
   ·rw[if_neg z]
    by_cases j0:j=0
    ·rw[if_pos j0]
     rw[j0]at key ⊢
     have:one (b8 w w i ((0:Nat):Int)/\jd po pi po pi i ((0:Nat):Int)=true)=one (i≠0/\b8 w w 0 i):=bC ⟨λq=>⟨z,sym.mpr q.1⟩,λq=>⟨sym.mp q.2,(key (sym.mp q.2)).mpr (.inr rfl)⟩⟩
     rw[this];lia
    ·rw[if_neg j0,bj (λq=>by rcases (key q.1).mp q.2 with q | q<;>contradiction)];rfl
 have cnt:sm (w:) (λj=>one (j≠0/\b8 w w 0 j))=(k:Int) - 1:=by
  have e1:sm (w:) (λj=>one (b8 w w 0 j))=k:=by
   have:sm (w:) (λj=>one (b8 w w 0 j))=sm (w:) (λj=>if j.toNat%s=0 then 1 else 0):=aK λj hj=>by
    rw[bC (hr j hj),Qap]
    by_cases z:j%s=0
    ·rw[gz z,if_pos z]
    ·rw[bj z,if_neg z]
   rw[this,hn]
   exact D7 hs (λi=>by rw[Qap]) k
  have e2:sm (w:) (λj=>one (b8 w w 0 j))=sm (w:) (λj=>one (j≠0/\b8 w w 0 j))+sm (w:) (λj=>if j=0 then 1 else 0):=by
   rw[<-ud]
   refine aK λj hj=>?_
   by_cases z:j=0
   ·subst z
    rw[gz (show b8 w w 0 ((0:Nat):Int) from λk=>rfl),bj (λq=>q.1 rfl)];rfl
   ·rw[if_neg (),Qea]
    exact bC ⟨λq=>⟨(),q⟩,λq=>q.2⟩
  have e3:sm (w:) (λj=>if j=0 then (1:Int) else 0)=1:=by
   rw[kz (Qah.mpr hw.ne) (λi h1 _=>by rw[if_neg ()]),if_pos rfl]
  lia
 have lp:0<(w:):=Qah.mpr hw.ne
 have e:b_ (w:) (w:) (λi j=>one (b8 w w i j/\jd po pi po pi i j=true))=b_ (w:) (w:) (λi j=>(if i=0 then one (j≠0/\b8 w w 0 j) else 0)+(if j=0 then one (i≠0/\b8 w w 0 i) else 0)):=bz λi j hi hj=>by
  rw[pt i j hi hj]
  congr 1
  ·by_cases z:i=0
   ·rw[if_pos z,if_pos ()]
    exact bC ⟨λq=>⟨(),q.2⟩,λq=>⟨(),q.2⟩⟩
   ·rw[if_neg z,if_neg ()]
  ·by_cases z:j=0
   ·rw[if_pos z,if_pos ()]
    exact bC ⟨λq=>⟨(),q.2⟩,λq=>⟨(),q.2⟩⟩
   ·rw[if_neg z,if_neg ()]
 rw[e,cU]
 have a1:b_ (w:) (w:) (λi j=>if i=0 then one (j≠0/\b8 w w 0 j) else 0)=(k:Int) - 1:=by
  unfold b_
  rw[kz lp]
  ·rw[<-cnt]
   exact aK λj _=>if_pos rfl
  ·intro i h1 _
   refine Eq.trans (aK (g:=λ_=>0) λj _=>?_) (eB _)
   have: ¬((i:Int)=0):=by lia
   exact if_neg this
 have a2:b_ (w:) (w:) (λi j=>if j=0 then one (i≠0/\b8 w w 0 i) else 0)=(k:Int) - 1:=by
  unfold b_
  rw[<-cnt]
  refine aK λi _=>?_
  have:∀j:Nat,0<j-> ¬((j:Int)=0):=λj h=>by lia
  rw[kz lp (λj h1 _=>if_neg (this j h1))]
  exact if_pos rfl
 lia
end
noncomputable def kk(y:c5)(f:Int->Nat):Nat->Nat->List Int
 | _,0=>[]
 | k,n+1=>fh y f (k+1)::fh y f (-(k:Int))::kk y f (k+1) n
theorem gg:∀(l r t:List Int),bZ (l++r) (l++t)=bZ r t
 | [],_,_=>rfl
 | a::l,r,t=>by
  show (if a=a then bZ (l++r) (l++t) else _)=_
  rw[if_pos rfl,gg l r t]
theorem qc{y:c5}{f g:Int->Nat}{a b:Nat}(hy:Yd y)(hf:iw y f)(hg:iw y g)(h:Run f g a b)(r t:List Int):∀(n k:Nat),k<=a->k<=b->a<k+n->b<k+n->bZ (kk y f k n++r) (kk y g k n++t)=if a<=b then gZ y f g a else g8 y f g b
 | 0,k,h1,_,h3,_=>by lia
 | n+1,k,h1,h2,h3,h4=>by
  show (if fh y f (k+1)=fh y g (k+1) then (if fh y f (-(k:Int))=fh y g (-(k:Int)) then bZ (kk y f (k+1) n++r) (kk y g (k+1) n++t) else decide (fh y f (-(k:Int))<fh y g (-(k:Int)))) else decide (fh y f (k+1)<fh y g (k+1)))=_
  have e0:=h.o9 k () ()
  have e1:=h.o9 (-(k:Int)) () ()
  by_cases z:k=a
  ·subst z
   rw[if_neg (λq=>h.hi (by
    unfold fh at q
    rw[show (k:Int)+1 - 1=k by lia, <-e0]at q
    exact lG (hy.cl _ (hf.aY _)) (hf.aY _) (hg.aY _) q)),if_pos h2]
   rfl
  ·have e2:=h.o9 (k+1) () ()
   rw[if_pos (by unfold fh;rw[show (k:Int)+1 - 1=k by lia,e0,e2])]
   by_cases z2:k=b
   ·subst z2
    rw[if_neg (λq=>h.lo (by
     unfold fh at q
     rw[<-e1]at q
     have r1:=hf.red (-(k:Int))
     have r2:=hg.red (-(k:Int))
     have c1:=(dE (hy.cl _ (hf.aY (-(k:Int) - 1))) (hf.aY (-(k:Int))) (Ne.symm r1)).2.2
     have c2:=(dE (hy.cl _ (hg.aY (-(k:Int) - 1))) (hf.aY (-(k:Int))) (by rw[e1];exact Ne.symm r2)).2.2
     have:=lG (hf.aY (-(k:Int))) (hy.cl _ (hf.aY (-(k:Int) - 1))) (hy.cl _ (hg.aY (-(k:Int) - 1))) (by rw[c1,c2,q])
     exact dh (hy.lt _ (hf.aY _)) (hy.lt _ (hg.aY _)) this)),if_neg ()]
    rfl
   ·have e3:=h.o9 (-(k:Int) - 1) () ()
    rw[if_pos (by unfold fh;rw[e1,e3])]
    exact qc hy hf hg h r t n (k+1) () () () ()
noncomputable def eE(w:c5)(i:Int):Int->Nat:=if aD (rd w i)=true then sq w i else bq w i
noncomputable def Lw(n r:Nat)(l low:Bool)(c i:Nat):List Int:=if low=l then [(c:Int),(((if low=true then i else n - 1 - i) / r:Nat):Int)] else [-(c:Int), -(((if low=true then n - 1 - i else i) / r:Nat):Int)]
noncomputable def fB(y:c5)(ws:List c5)(L:Nat->Bool)(r:Nat->Nat)(M c i:Nat):List Int:=kk y (eE (ws|||c) i) 0 M++Lw ((ws|||c):) (r c) (L c) (aD (rd (ws|||c) i)) c i
def Dl(w:c5)(i:Int)(f:Int->Nat):Prop:=f=sq w i\/f=bq w i
theorem yr{w:c5}{i:Int}(hy:Yd y)(hw:SW y w)(h:Dl w i f):eE w i=if aD (f 0)=true then f else lZ f:=by
 have s0:sq w i 0=rd w i:=by unfold sq;rw[show i+0=i by lia]
 have b0:bq w i 0=aC (rd w i):=by unfold bq;rw[show i - 0=i by lia]
 have lc:=gE _ (hy.lt _ (hw.rd i)).mem
 unfold eE
 rcases h with rfl | rfl
 ·rw[s0,fA]
 ·rw[b0,lc, <-fA,qQ hy (bf hw i)]
  cases aD (rd w i)<;>rfl
theorem Dl.Ci{w:c5}{i:Int}(hy:Yd y)(hw:SW y w)(h:Dl w i f):iw y f:=by
 rcases h with rfl | rfl
 ·exact bf hw i
 ·exact fR hy hw i
theorem Run.sy(h:Run f g a b):Run g f a b:=⟨λk h1 h2=>(h.o9 k h1 h2).symm,Ne.symm h.hi,Ne.symm h.lo⟩
section
variable{y:c5}{ws:List c5}{L:Nat->Bool}{r:Nat->Nat}{M:Nat}{N:Nat->Nat->Nat->Nat}
structure gO(y:c5)(ws:List c5)(R:Nat->Nat->Nat->Nat->Bool)(N:Nat->Nat->Nat->Nat):Prop where
 sep:∀c i d j e e',c<(ws:)->d<(ws:)->i<((ws|||c):)->j<((ws|||d):)->(e=rd (ws|||c) i\/e=aC (rd (ws|||c) i))->(e'=rd (ws|||d) j\/e'=aC (rd (ws|||d) j))->y.idxOf e<y.idxOf e'->N c i e<N d j e'
 low:∀c i d j x,c<(ws:)->d<(ws:)->i<((ws|||c):)->j<((ws|||d):)->(c,i)≠(d,j)->aD x=true->(rd (ws|||c) i=x\/rd (ws|||c) i=aC x)->(rd (ws|||d) j=x\/rd (ws|||d) j=aC x)->
  N c i x≠N d j x/\N c i (aC x)≠N d j (aC x)/\decide (N c i x<N d j x)=R c i d j/\decide (N d j (aC x)<N c i (aC x))=R c i d j
abbrev Lies(y:c5)(ws:List c5)(L:Nat->Bool)(r:Nat->Nat)(M:Nat)(N:Nat->Nat->Nat->Nat):Prop:=gO y ws (λc i d j=>bZ (fB y ws L r M c i) (fB y ws L r M d j)) N
theorem gO.at{R:Nat->Nat->Nat->Nat->Bool}(hy:Yd y)(hN:gO y ws R N){c i d j:Nat}{f g:Int->Nat}(hc:c<(ws:))(hd:d<(ws:))(hi:i<((ws|||c):))(hj:j<((ws|||d):))(hw:SW y (ws|||c))(hv:SW y (ws|||d))
  (hf:Dl (ws|||c) i f) (hg:Dl (ws|||d) j g) (h0:f 0=g 0) (da:(c,i)≠(d,j)):
  N c i (f 0)≠N d j (f 0)/\N c i (aC (f 0))≠N d j (aC (f 0))/\decide (N c i (f 0)<N d j (f 0))=(if aD (f 0)=true then R c i d j else R d j c i)/\decide (N d j (aC (f 0))<N c i (aC (f 0)))=(if aD (f 0)=true then R c i d j else R d j c i):=by
 walk_at"c"
 walk_at"k"
 have ly:Lt (f 0):=hy.lt _ ((hf.Ci hy hw).aY 0)
 have EO:=aE ly
 have ef:rd (ws|||c) i=f 0\/rd (ws|||c) i=aC (f 0):=by
  rcases hf with rfl | rfl
  ·exact .inl (s0 _ _).symm
  ·exact .inr (by rw[b0,aE (hy.lt _ (hw.rd _))])
 have eg:rd (ws|||d) j=f 0\/rd (ws|||d) j=aC (f 0):=by
  rw[h0]
  rcases hg with rfl | rfl
  ·exact .inl (s0 _ _).symm
  ·exact .inr (by rw[b0,aE (hy.lt _ (hv.rd _))])
 by_cases z:aD (f 0)=true
 ·rw[if_pos z]
  exact hN.low c i d j (f 0) hc hd hi hj da z ef eg
 ·rw[if_neg z]
  have z':aD (aC (f 0))=true:=by rw[gE _ ly.mem];simpa using z
  have:=hN.low d j c i (aC (f 0)) hd hc hj hi (Ne.symm da) z' (by rw[EO];exact eg.symm) (by rw[EO];exact ef.symm)
  rw[EO]at this
  exact ⟨Ne.symm this.2.1,Ne.symm this.1,this.2.2.2,this.2.2.1⟩
theorem Lies.run(hy:Yd y)(hN:Lies y ws L r M N)(hc:c<(ws:))(hd:d<(ws:))(hi:i<((ws|||c):))(hj:j<((ws|||d):))(hw:SW y (ws|||c))(hv:SW y (ws|||d))
  (hf:Dl (ws|||c) i f) (hg:Dl (ws|||d) j g) (hr:Run f g a b) (ha:a<M) (hb:b<M) (da:(c,i)≠(d,j)):
  N c i (f 0)≠N d j (g 0)/\N c i (aC (f 0))≠N d j (aC (g 0))/\decide (N c i (f 0)<N d j (g 0))=Ce y f g a b/\decide (N d j (aC (g 0))<N c i (aC (f 0)))=Ce y f g a b:=by
 have h0:=hr.zero
 have lf:=hf.Ci hy hw
 have lg:=hg.Ci hy hv
 have e:(if aD (f 0)=true then bZ (fB y ws L r M c i) (fB y ws L r M d j) else bZ (fB y ws L r M d j) (fB y ws L r M c i))=Ce y f g a b:=by
  unfold fB
  rw[yr hy hw hf,yr hy hv hg, <-h0]
  by_cases z:aD (f 0)=true
  ·rw[if_pos z,if_pos z,if_pos z,qc hy lf lg hr _ _ M 0 (Qat _) (Qat _) () ()]
   unfold Ce zk
   by_cases q:a<=b
   ·rw[if_pos q,if_neg (by simp[z];lia)]
   ·rw[if_neg q,if_pos (by simp;lia)]
  ·rw[if_neg z,if_neg z,if_neg z,qc hy (lg.rv hy) (lf.rv hy) (hr.rv hy lf lg).sy _ _ M 0 (Qat _) (Qat _) () (), <-QW hy lf lg h0]
   unfold Ce zk
   have z':aD (lZ g 0)=true:=by
    show aD (aC (g 0))=true
    rw[<-h0,gE _ (hy.lt _ (lf.aY 0)).mem];simpa using z
   by_cases q:b<=a
   ·rw[if_pos q,if_neg (by simp[z'];lia)]
   ·rw[if_neg q,if_pos (by simp;lia)]
 have:=hN.at hy hc hd hi hj hw hv hf hg h0 da
 rw[e]at this
 rw[<-h0]
 exact this
end
noncomputable def kA(n:Nat)(k:Int):Nat:=(k%(n:Int)).toNat
theorem bN(h:0<n)(k:Int):kA n k<n:=by
 unfold kA
 have h1:=Qcp k (b:=(n:Int)) ()
 have h2:=Qcn k (b:=(n:Int)) ()
 lia
theorem fD(h:0<n)(k:Int):((kA n k:Nat):Int)=k%n:=by
 unfold kA
 have h1:=Qcp k (b:=(n:Int)) ()
 lia
theorem D8(k:Int):kA n (k+n)=kA n k:=by unfold kA;rw[Qde]
theorem cn{w:c5}(h:w≠[])(k:Int):rd w (kA (w:) k:Nat)=rd w k:=by rw[fD (Qah.mpr h),gs]
theorem di{w:c5}(h:w≠[])(k:Int):sq w (kA (w:) k:Nat)=sq w k:=by
 funext x
 unfold sq
 rw[fD (Qah.mpr h), <-gs w (k%(w:)+x),Qe2,gs]
theorem yt{w:c5}(h:w≠[])(k:Int):bq w (kA (w:) k:Nat)=bq w k:=by rw[<-fA, <-fA,di h]
noncomputable def pO(ws:List c5)(N:Nat->Nat->Nat->Nat)(c:Nat)(k:Int):Nat:=N c (kA ((ws|||c):) k) (rd (ws|||c) k)
noncomputable def pI(ws:List c5)(N:Nat->Nat->Nat->Nat)(c:Nat)(k:Int):Nat:=N c (kA ((ws|||c):) k) (aC (rd (ws|||c) k))
theorem Q7{x x' p p':Int}(h:x≠x'):bZ [x,p] [x',p']=decide (x<x'):=by
 show (if x=x' then _ else decide (x<x'))=_
 rw[if_neg h]
theorem yu{x p p':Int}(h:p≠p'):bZ [x,p] [x,p']=decide (p<p'):=by
 show (if x=x then (if p=p' then bZ [] [] else decide (p<p')) else _)=_
 rw[if_pos rfl,if_neg h]
variable{R:Nat->Nat->Nat->Nat->Bool}
section
variable{y:c5}{ws:List c5}{L:Nat->Bool}{r:Nat->Nat}{M:Nat}{N:Nat->Nat->Nat->Nat}
structure eR(y:c5)(ws:List c5)(L:Nat->Bool)(r:Nat->Nat)(M:Nat):Prop where
 yd:Yd y
 sw:∀c,c<(ws:)->SW y (ws|||c)
 big:∀c d,c<(ws:)->d<(ws:)->((ws|||c):)+((ws|||d):)<=M
 l1:∀c d i j,c<(ws:)->d<(ws:)->b8 (ws|||c) (ws|||d) i j->L c=L d
 l2:∀c d i j,c<(ws:)->d<(ws:)->(∀k,sq (ws|||c) i k=bq (ws|||d) j k)->L d=!L c
 rp:∀c,c<(ws:)->0<r c
 rr:∀c,c<(ws:)->∀i j:Int,(b8 (ws|||c) (ws|||c) i j↔(i - j)%(r c:Int)=0)
theorem gO.Zo(h:eR y ws L r M)(hN:gO y ws R N)(hc:c<(ws:))(hd:d<(ws:))(s t:Int):Sep y [(aC (sq (ws|||c) s (-1)),pI ws N c (s - 1)),(sq (ws|||c) s 0,pO ws N c s),(aC (sq (ws|||d) t (-1)),pI ws N d (t - 1)),(sq (ws|||d) t 0,pO ws N d t)]:=by
 have hw:=h.sw c hc
 have hv:=h.sw d hd
 have lw:=Qah.mpr hw.ne
 have lv:=Qah.mpr hv.ne
 walk_at"c"
 have key:∀p∈[(aC (sq (ws|||c) s (-1)),pI ws N c (s - 1)),(sq (ws|||c) s 0,pO ws N c s),(aC (sq (ws|||d) t (-1)),pI ws N d (t - 1)),(sq (ws|||d) t 0,pO ws N d t)],∃e i:Nat,e<(ws:)/\i<((ws|||e):)/\(p.1=rd (ws|||e) i\/p.1=aC (rd (ws|||e) i))/\p.2=N e i p.1:=by
  intro p hp
  simp only[Qab,Qan,or_false]at hp
  rcases hp with rfl | rfl | rfl | rfl
  ·exact ⟨c,_,hc,bN lw (s - 1),.inr (by rw[cn hw.ne];rfl),rfl⟩
  ·exact ⟨c,_,hc,bN lw s,.inl (by rw[cn hw.ne,s0]),by rw[s0];rfl⟩
  ·exact ⟨d,_,hd,bN lv (t - 1),.inr (by rw[cn hv.ne];rfl),rfl⟩
  ·exact ⟨d,_,hd,bN lv t,.inl (by rw[cn hv.ne,s0]),by rw[s0];rfl⟩
 intro p hp q hq dZ
 obtain ⟨e,i,he,hi,h1,h2⟩:=key p hp
 obtain ⟨e',j,GN,hj,h3,h4⟩:=key q hq
 rw[h2,h4]
 exact hN.sep e i e' j _ _ he GN hi hj h1 h3 dZ
theorem gO.Zp(h:eR y ws L r M)(hN:gO y ws R N)(hc:c<(ws:))(hd:d<(ws:))(s t:Int):Sep y [(aC (sq (ws|||c) s (-1)),pI ws N c (s - 1)),(sq (ws|||c) s 0,pO ws N c s),(aC (bq (ws|||d) (-t) (-1)),pO ws N d (-(t - 1))),(bq (ws|||d) (-t) 0,pI ws N d (-t))]:=by
 have hw:=h.sw c hc
 have hv:=h.sw d hd
 have lw:=Qah.mpr hw.ne
 have lv:=Qah.mpr hv.ne
 walk_at"c"
 walk_at"k"
 have bb:∀t:Int,aC (bq (ws|||d) (-t) (-1))=rd (ws|||d) (-(t - 1)):=λt=>by
  unfold bq
  rw[aE (h.yd.lt _ (hv.rd _))]
  congr 1;lia
 have key:∀p∈[(aC (sq (ws|||c) s (-1)),pI ws N c (s - 1)),(sq (ws|||c) s 0,pO ws N c s),(aC (bq (ws|||d) (-t) (-1)),pO ws N d (-(t - 1))),(bq (ws|||d) (-t) 0,pI ws N d (-t))],∃e i:Nat,e<(ws:)/\i<((ws|||e):)/\(p.1=rd (ws|||e) i\/p.1=aC (rd (ws|||e) i))/\p.2=N e i p.1:=by
  intro p hp
  simp only[Qab,Qan,or_false]at hp
  rcases hp with rfl | rfl | rfl | rfl
  ·exact ⟨c,_,hc,bN lw (s - 1),.inr (by rw[cn hw.ne];rfl),rfl⟩
  ·exact ⟨c,_,hc,bN lw s,.inl (by rw[cn hw.ne,s0]),by rw[s0];rfl⟩
  ·exact ⟨d,_,hd,bN lv (-(t - 1)),.inl (by rw[cn hv.ne];exact bb t),by rw[bb t];rfl⟩
  ·exact ⟨d,_,hd,bN lv (-t),.inr (by rw[cn hv.ne,b0]),by rw[b0];rfl⟩
 intro p hp q hq dZ
 obtain ⟨e,i,he,hi,h1,h2⟩:=key p hp
 obtain ⟨e',j,GN,hj,h3,h4⟩:=key q hq
 rw[h2,h4]
 exact hN.sep e i e' j _ _ he GN hi hj h1 h3 dZ
theorem Lies.two(h:eR y ws L r M)(hN:Lies y ws L r M N)(hc:c<(ws:))(hd:d<(ws:)):ON y (sq (ws|||c)) (pO ws N c) (pI ws N c) (sq (ws|||d)) (pO ws N d) (pI ws N d):=by
 have hw:=h.sw c hc
 have hv:=h.sw d hd
 have lw:=Qah.mpr hw.ne
 have lv:=Qah.mpr hv.ne
 walk_at"c"
 refine ⟨gO.Zo h hN hc hd,λs t a b rn=>?_⟩
 obtain ⟨a',b',Zq,ha,hb⟩:=eQ lw lv (λk=>dS _ s k) (λk=>dS _ t k) rn.zero ⟨_,rn.hi⟩
 obtain ⟨rfl,rfl⟩:=rn.one Zq
 have:=h.big c d hc hd
 have key:=hN.run h.yd hc hd (bN lw s) (bN lv t) hw hv (.inl (di hw.ne s).symm) (.inl (di hv.ne t).symm) rn () () (λz=>rn.hi (by
  obtain ⟨z1,z2⟩:=Prod.mk.inj z
  subst z1
  rw[<-di hw.ne s, <-di hw.ne t,z2]))
 rw[s0,s0]at key
 exact key
theorem Lies.opp(h:eR y ws L r M)(hN:Lies y ws L r M N)(hc:c<(ws:))(hd:d<(ws:)):ON y (sq (ws|||c)) (pO ws N c) (pI ws N c) (λk=>bq (ws|||d) (-k)) (λk=>pI ws N d (-k)) (λk=>pO ws N d (-k)):=by
 have hw:=h.sw c hc
 have hv:=h.sw d hd
 have lw:=Qah.mpr hw.ne
 have lv:=Qah.mpr hv.ne
 walk_at"c"
 walk_at"k"
 have bb:∀t:Int,aC (bq (ws|||d) (-t) (-1))=rd (ws|||d) (-(t - 1)):=λt=>by
  unfold bq
  rw[aE (h.yd.lt _ (hv.rd _))]
  congr 1;lia
 refine ⟨gO.Zp h hN hc hd,λs t a b rn=>?_⟩
 obtain ⟨a',b',Zq,ha,hb⟩:=eQ lw lv (λk=>dS _ s k) (λk=>ub _ (-t) k) rn.zero ⟨_,rn.hi⟩
 obtain ⟨rfl,rfl⟩:=rn.one Zq
 have:=h.big c d hc hd
 have key:=hN.run h.yd hc hd (bN lw s) (bN lv (-t)) hw hv (.inl (di hw.ne s).symm) (.inr (yt hv.ne (-t)).symm) rn () () (λz=>by
  obtain ⟨z1,z2⟩:=Prod.mk.inj z
  subst z1
  have z0:=rn.zero
  rw[s0,b0, <-cn hw.ne s, <-cn hw.ne (-t),z2]at z0
  exact j_ (h.yd.lt _ (hw.rd _)) z0.symm)
 rw[s0,b0,aE (h.yd.lt _ (hv.rd _))]at key
 exact key
theorem yv{n n' r r' c d i j:Nat}{l low Q8:Bool}(h:c≠d):bZ (Lw n r l low c i) (Lw n' r' (if Q8=low then l else !l) Q8 d j)=if low=l then decide (c<d) else decide (d<c):=by
 unfold Lw
 cases low<;>cases Q8<;>cases l<;>simp only[Qfy,Bool.not_false,if_true,if_false,Bool.true_eq_false,Qcr]<;>rw[Q7 ()]<;>exact decide_eq_decide.mpr ()
theorem Lies.Jk(h:eR y ws L r M)(hN:Lies y ws L r M N)(hc:c<(ws:))(hd:d<(ws:))(lX:c≠d)(hi:i<((ws|||c):))(hj:j<((ws|||d):))(hf:Dl (ws|||c) i f)(hg:Dl (ws|||d) j g)(hp:∀k,f k=g k)
  (hl:L d=if aD (rd (ws|||d) j)=aD (rd (ws|||c) i) then L c else !L c) (hs:f=sq (ws|||c) i):
  N c i (f 0)≠N d j (g 0)/\N c i (aC (f 0))≠N d j (aC (g 0))/\decide (N c i (f 0)<N d j (g 0))=(if L c=true then decide (c<d) else decide (d<c))/\decide (N d j (aC (g 0))<N c i (aC (f 0)))=(if L c=true then decide (c<d) else decide (d<c)):=by
 have hw:=h.sw c hc
 have hv:=h.sw d hd
 have e:(if aD (f 0)=true then bZ (fB y ws L r M c i) (fB y ws L r M d j) else bZ (fB y ws L r M d j) (fB y ws L r M c i))=if L c=true then decide (c<d) else decide (d<c):=by
  have es:eE (ws|||c) i=eE (ws|||d) j:=by
   rw[yr h.yd hw hf,yr h.yd hv hg,show f=g from funext hp]
  have f0:f 0=rd (ws|||c) i:=by rw[hs];unfold sq;rw[show (i:Int)+0=i by lia]
  unfold fB
  rw[es,gg,gg,f0]
  have xq:L c=if aD (rd (ws|||c) i)=aD (rd (ws|||d) j) then L d else !L d:=by
   rw[hl]
   cases aD (rd (ws|||d) j)<;>cases aD (rd (ws|||c) i)<;>cases L c<;>rfl
  have e1:= @yv ((ws|||c):) ((ws|||d):) (r c) (r d) c d i j (L c) (aD (rd (ws|||c) i)) (aD (rd (ws|||d) j)) lX
  have e2:= @yv ((ws|||d):) ((ws|||c):) (r d) (r c) d c j i (L d) (aD (rd (ws|||d) j)) (aD (rd (ws|||c) i)) (Ne.symm lX)
  rw[<-hl]at e1
  rw[<-xq]at e2
  rw[e1,e2,hl]
  cases aD (rd (ws|||d) j)<;>cases aD (rd (ws|||c) i)<;>cases L c<;>rfl
 have:=hN.at h.yd hc hd hi hj hw hv hf hg (hp 0) (λz=>lX (Prod.mk.inj z).1)
 rw[e]at this
 rw[<-hp 0]
 exact this
end
theorem Av{k:Nat}(hr:0<r)(hn:n=k*r)(hi:i<n):(n - 1 - i) / r=k - 1 - i / r:=by
 have h1:=Qek i r
 have h2:=Qdc i hr
 have h3:i / r<k:=by
  rw[Qfn hr];lia
 rw[Nat.div_eq_iff hr]
 obtain ⟨t,rfl⟩:∃t,k=i / r+1+t:=⟨k - 1 - i / r,()⟩
 generalize hq:i / r=q at*
 rw[Nat.add_mul,Nat.add_mul,Nat.one_mul,Qc8 q r]at hn
 have e:q+1+t - 1 - q=t:=by lia
 rw[e]
 generalize r*q=A at*
 generalize t*r=B at*
 lia
theorem FR(hr:0<r)(h:i%r=j%r)(da:i≠j):(i / r<j / r↔i<j)/\i / r≠j / r:=by
 have h1:=Qek i r
 have h2:=Qek j r
 have yx:i / r≠j / r:=λz=>da (by rw[<-h1, <-h2,z,h])
 refine ⟨⟨λq=>?_,λq=>?_⟩,yx⟩
 ·have:r*(i / r+1)<=r*(j / r):=Nat.mul_le_mul_left r q
  rw[Nat.mul_add,Nat.mul_one]at this
  lia
 ·refine Classical.byContradiction λz=>?_
  have h3:j / r+1<=i / r:=by lia
  have:r*(j / r+1)<=r*(i / r):=Nat.mul_le_mul_left r h3
  rw[Nat.mul_add,Nat.mul_one]at this
  lia
theorem Cn{n k r c i j:Nat}{l low:Bool}(hr:0<r)(hn:n=k*r)(hi:i<n)(hj:j<n)(h:i%r=j%r)(da:i≠j):(if low=true then bZ (Lw n r l low c i) (Lw n r l low c j) else bZ (Lw n r l low c j) (Lw n r l low c i))=decide (i<j):=by
 obtain ⟨d1,d2⟩:=FR hr h da
 have e1:=Av hr hn hi
 have e2:=Av hr hn hj
 have b1:i / r<k:=by rw[Qfn hr];lia
 have b2:j / r<k:=by rw[Qfn hr];lia
 unfold Lw
 cases low<;>cases l<;>simp only[if_true,if_false,Bool.true_eq_false,Qcr]
 ·rw[e1,e2,yu ()];exact decide_eq_decide.mpr ()
 ·rw[yu ()];exact decide_eq_decide.mpr ()
 ·rw[e1,e2,yu ()];exact decide_eq_decide.mpr ()
 ·rw[yu ()];exact decide_eq_decide.mpr ()
noncomputable def fc(y w v:c5)(i j:Int):Int:=one (ac y (aC (rd w (i - 1))) (rd w i) (aC (rd v (j - 1))) (rd v j)=true)+one (0<al y (sq w i) (sq v j) ((w:)+(v:)))+one (0<al y (sq w i) (bq v j) ((w:)+(v:)))
section
variable{y:c5}{ws:List c5}{L:Nat->Bool}{r:Nat->Nat}{M:Nat}{N:Nat->Nat->Nat->Nat}
theorem yy(ws:List c5)(N:Nat->Nat->Nat->Nat)(c:Nat)(k:Int):pO ws N c (k+((ws|||c):))=pO ws N c k:=by unfold pO;rw[D8,gq]
theorem yA(ws:List c5)(N:Nat->Nat->Nat->Nat)(c:Nat)(k:Int):pI ws N c (k+((ws|||c):))=pI ws N c k:=by unfold pI;rw[D8,gq]
theorem eR.root(h:eR y ws L r M)(hc:c<(ws:)):((ws|||c):)=((ws|||c):) / r c*r c/\0<((ws|||c):) / r c:=by
 have hp:=h.rp c hc
 have hl:=Qah.mpr (h.sw c hc).ne
 have h1:=(h.rr c hc ((ws|||c):) 0).mp (λk=>by
  have:=congrFun (m5 (ws|||c) 0) k
  rwa [Qdp]at this)
 rw[Qd9]at h1
 have h2:((ws|||c):)%r c=0:=by
  have:(((((ws|||c):)%r c:Nat)):Int)=0:=by rw[<-h1];rfl
  lia
 have h3:=Qek ((ws|||c):) (r c)
 rw[h2,Qf3,Qc8]at h3
 refine ⟨h3.symm,Nat.pos_of_ne_zero λz=>?_⟩
 rw[z,Nat.zero_mul]at h3
 lia
theorem FT(h:eR y ws L r M)(hN:Lies y ws L r M N)(hc:c<(ws:))(hd:d<(ws:))(lX:c≠d):
  b_ ((ws|||c):) ((ws|||d):) (λi j=>one (jd (pO ws N c) (pI ws N c) (pO ws N d) (pI ws N d) i j=true))=b_ ((ws|||c):) ((ws|||d):) (fc y (ws|||c) (ws|||d)):=by
 have hw:=h.sw c hc
 have hv:=h.sw d hd
 have lw:=Qah.mpr hw.ne
 have lv:=Qah.mpr hv.ne
 walk_at"c"
 walk_at"k"
 have hS:=hN.two h hc hd
 have hO:=hN.opp h hc hd
 rw[As h.yd hw hv (yy ws N c) (yA ws N c) (yy ws N d) (yA ws N d) hS hO,MV h.yd hw hv hS (if L c=true then decide (c<d) else decide (d<c)),MW h.yd hw hv hO (if L c=true then decide (c<d) else decide (d<c)), <-cU, <-cU]
 ·unfold fc
  lia
 ·intro i j p
  have p0:=p 0
  rw[s0,b0]at p0
  have lo:=gE _ (h.yd.lt _ (hv.rd j)).mem
  have:=hN.Jk h hc hd lX (bN lw i) (bN lv j) (f:=sq (ws|||c) i) (g:=bq (ws|||d) j) (.inl (di hw.ne i).symm) (.inr (yt hv.ne j).symm) p (by
   rw[cn hw.ne,cn hv.ne,p0,lo,h.l2 c d i j hc hd p]
   cases aD (rd (ws|||d) j)<;>rfl) (di hw.ne i).symm
  rw[s0,b0,aE (h.yd.lt _ (hv.rd _))]at this
  exact this
 ·intro i j p
  have p0:=p 0
  rw[s0,s0]at p0
  have:=hN.Jk h hc hd lX (bN lw i) (bN lv j) (f:=sq (ws|||c) i) (g:=sq (ws|||d) j) (.inl (di hw.ne i).symm) (.inl (di hv.ne j).symm) p (by
   rw[cn hw.ne,cn hv.ne,p0,if_pos rfl]
   exact (h.l1 c d i j hc hd p).symm) (di hw.ne i).symm
  rw[s0,s0]at this
  exact this
theorem Co(h:eR y ws L r M)(hN:Lies y ws L r M N)(hc:c<(ws:)):
  b_ ((ws|||c):) ((ws|||c):) (λi j=>one (jd (pO ws N c) (pI ws N c) (pO ws N c) (pI ws N c) i j=true))=b_ ((ws|||c):) ((ws|||c):) (fc y (ws|||c) (ws|||c))+2*((((ws|||c):) / r c:Nat) - 1):=by
 have hw:=h.sw c hc
 have lw:=Qah.mpr hw.ne
 walk_at"c"
 have hS:=hN.two h hc hc
 have hO:=hN.opp h hc hc
 obtain ⟨Lp,Mn⟩:=h.root hc
 have hrp:=h.rp c hc
 have e0:b_ ((ws|||c):) ((ws|||c):) (λi j=>one (ku (ws|||c) (ws|||c) i j/\jd (pO ws N c) (pI ws N c) (pO ws N c) (pI ws N c) i j=true))=0:=by
  rw[show (0:Int)=b_ ((ws|||c):) ((ws|||c):) (λ_ _=>0) by unfold b_;rw[show (λ_:Int=>sm ((ws|||c):) λ_=>0)=λ_=>0 from funext λ_=>eB _,eB]]
  exact bz λi j _ _=>bj λz=>yq h.yd hw _ _ z.1
 rw[As h.yd hw hw (yy ws N c) (yA ws N c) (yy ws N c) (yA ws N c) hS hO,e0,Jj h.yd hw hS hrp Lp Mn, <-cU, <-cU]
 ·unfold fc
  lia
 ·intro j hj
  rw[h.rr c hc]
  constructor
  ·intro q
   have:(j:Int)%(r c:Int)=0:=by
    rw[Qf7]at q
    exact Qff (Int.dvd_neg.mp (Qdx q))
   have h2:((j%r c:Nat):Int)=0:=by rw[<-this];rfl
   lia
  ·intro q
   have:(j:Int)%(r c:Int)=0:=by
    have h2:((j%r c:Nat):Int)=(j:Int)%(r c:Int):=rfl
    rw[<-h2,q];rfl
   rw[Qf7]
   exact Qff (Int.dvd_neg.mpr (Qdx this))
 ·intro i j p da
  have p0:=p 0
  rw[s0,s0]at p0
  have yx:kA ((ws|||c):) i≠kA ((ws|||c):) j:=λz=>da (by rw[<-fD lw, <-fD lw,z])
  have:=hN.at h.yd hc hc (bN lw i) (bN lw j) hw hw (f:=sq (ws|||c) i) (g:=sq (ws|||c) j) (.inl (di hw.ne i).symm) (.inl (di hw.ne j).symm) (p 0) (λz=>yx (Prod.mk.inj z).2)
  have MX:kA ((ws|||c):) i%r c=kA ((ws|||c):) j%r c:=by
   have p':b8 (ws|||c) (ws|||c) (kA ((ws|||c):) i:Nat) (kA ((ws|||c):) j:Nat):=λk=>by rw[di hw.ne,di hw.ne];exact p k
   have q:=(h.rr c hc _ _).mp p'
   have q2:=Qdq.mpr q
   have q3:((kA ((ws|||c):) i%r c:Nat):Int)=((kA ((ws|||c):) j%r c:Nat):Int):=q2
   lia
  have es:eE (ws|||c) (kA ((ws|||c):) i:Nat)=eE (ws|||c) (kA ((ws|||c):) j:Nat):=by
   unfold eE
   rw[cn hw.ne,cn hw.ne,p0,di hw.ne,di hw.ne,yt hw.ne,yt hw.ne,show sq (ws|||c) i=sq (ws|||c) j from funext p, <-fA, <-fA,show sq (ws|||c) i=sq (ws|||c) j from funext p]
  have e:= @Cn ((ws|||c):) _ (r c) c _ _ (L c) (aD (rd (ws|||c) j)) hrp Lp (bN lw i) (bN lw j) MX yx
  unfold fB at this
  rw[es,gg,gg,s0,cn hw.ne,cn hw.ne,p0,e,decide_eq_decide.mpr (show kA ((ws|||c):) i<kA ((ws|||c):) j↔i%(((ws|||c):):Int)<j%(((ws|||c):):Int) by rw[<-fD lw, <-fD lw];lia)]at this
  unfold pO pI
  rw[p0]
  exact this
end
noncomputable def vG:Nat->(Int->Int->Int)->Int
 | 0,_=>0
 | n+1,h=>vG n h+sm n (λj=>h j n)
theorem yB(n m:Nat)(h:Int->Int->Int):b_ (n+1) m h=b_ n m h+sm m (λj=>h n j):=rfl
theorem yC(m:Nat)(h:Int->Int->Int):∀n:Nat,b_ n (m+1) h=b_ n m h+sm n (λi=>h i m)
 | 0=>rfl
 | n+1=>by
  rw[yB,yB,yC m h n]
  show b_ n m h+sm n (λi=>h i m)+(sm m (λj=>h n j)+h n m)=b_ n m h+sm m (λj=>h n j)+(sm n (λi=>h i m)+h n m)
  lia
theorem D9{h:Int->Int->Int}:∀{n:Nat},(∀i j:Nat,i<n->j<n->h i j=h j i)->(∀i:Nat,i<n->h i i=0)->b_ n n h=2*vG n h
 | 0,_,_=>rfl
 | n+1,sy,dg=>by
  rw[yC,yB,D9 (n:=n) (λi j hi hj=>sy i j () ()) (λi hi=>dg i ())]
  show 2*vG n h+sm n (λj=>h n j)+(sm n (λi=>h i n)+h n n)=2*(vG n h+sm n (λj=>h j n))
  rw[dg n (),aK (h:=λj=>h n j) (g:=λj=>h j n) (λj hj=>sy n j () ())]
  lia
theorem lI{h g:Int->Int->Int}:∀{n:Nat},(∀i j:Nat,i<j->j<n->h i j=g i j)->vG n h=vG n g
 | 0,_=>rfl
 | n+1,e=>by
  show vG n h+_=vG n g+_
  rw[lI (n:=n) λi j h1 h2=>e i j h1 (),aK (g:=λj=>g j n) λj hj=>e j n hj ()]
section
variable{y:c5}{ws:List c5}{L:Nat->Bool}{r:Nat->Nat}{M:Nat}{N:Nat->Nat->Nat->Nat}
theorem gO.inj(h:eR y ws L r M)(hN:gO y ws R N){e':Nat}(hc:c<(ws:))(hd:d<(ws:))(hi:i<((ws|||c):))(hj:j<((ws|||d):))(he:e=rd (ws|||c) i\/e=aC (rd (ws|||c) i))(GN:e'=rd (ws|||d) j\/e'=aC (rd (ws|||d) j))
  (da:(c,i,e)≠(d,j,e')):N c i e≠N d j e':=by
 have ly:∀{c i e:Nat},c<(ws:)->(e=rd (ws|||c) i\/e=aC (rd (ws|||c) i))->e∈y:=λhc he=>he.elim (λz=>z▸(h.sw _ hc).rd _) λz=>z▸h.yd.cl _ ((h.sw _ hc).rd _)
 have ye:=ly hc he
 have ye':=ly hd GN
 by_cases z:e=e'
 ·subst z
  have yx:(c,i)≠(d,j):=λq=>da (by rw[(Prod.mk.inj q).1,(Prod.mk.inj q).2])
  have le:=h.yd.lt _ ye
  have lc:=h.yd.lt _ ((h.sw c hc).rd i)
  have ld:=h.yd.lt _ ((h.sw d hd).rd j)
  by_cases l:aD e=true
  ·exact (hN.low c i d j e hc hd hi hj yx l (he.elim (λz=> .inl z.symm) λz=> .inr (by rw[z,aE lc])) (GN.elim (λz=> .inl z.symm) λz=> .inr (by rw[z,aE ld]))).1
  ·have:=(hN.low c i d j (aC e) hc hd hi hj yx (by rw[gE _ le.mem];simpa using l) (by rw[aE le];exact he.elim (λz=> .inr z.symm) λz=> .inl (by rw[z,aE lc])) (by rw[aE le];exact GN.elim (λz=> .inr z.symm) λz=> .inl (by rw[z,aE ld]))).2.1
   rwa [aE le]at this
 ·have n:=cG ye ye' z
  rcases Qdd n with q | q
  ·exact Qa0 (hN.sep c i d j e e' hc hd hi hj he GN q)
  ·exact Qd3 (hN.sep d j c i e' e hd hc hj hi GN he q)
theorem D_{k:Int}(hi:i<n)(hj:j<n)(q:kA n ((i:Int) - k)=kA n ((j:Int) - k)):i=j:=by
 have lw:0<n:=Qbl (Qat _) hi
 have q2:((i:Int) - k)%n=((j:Int) - k)%n:=by rw[<-fD lw, <-fD lw,q]
 have q3:=(Int.emod_sub_cancel_right k).mp q2
 rw[Qbm (Qf0 _) (Int.ofNat_lt.mpr hi),Qbm (Qf0 _) (Int.ofNat_lt.mpr hj)]at q3
 exact Qfv q3
theorem fE(h:eR y ws L r M)(hN:gO y ws R N)(hc:c<(ws:))(hd:d<(ws:))(hi:i<((ws|||c):))(hj:j<((ws|||d):)):
  pI ws N c ((i:Int) - 1)≠pO ws N d j/\((c,i)≠(d,j)->pI ws N c ((i:Int) - 1)≠pI ws N d ((j:Int) - 1)/\pO ws N c i≠pO ws N d j):=by
 have hw:=h.sw c hc
 have hv:=h.sw d hd
 have lw:=Qah.mpr hw.ne
 have lv:=Qah.mpr hv.ne
 have vo:∀{c:Nat} (hw:SW y (ws|||c)) (k:Int),rd (ws|||c) k=rd (ws|||c) (kA ((ws|||c):) k:Nat)\/rd (ws|||c) k=aC (rd (ws|||c) (kA ((ws|||c):) k:Nat)):=λhw k=> .inl (cn hw.ne k).symm
 have vi:∀{c:Nat} (hw:SW y (ws|||c)) (k:Int),aC (rd (ws|||c) k)=rd (ws|||c) (kA ((ws|||c):) k:Nat)\/aC (rd (ws|||c) k)=aC (rd (ws|||c) (kA ((ws|||c):) k:Nat)):=λhw k=> .inr (by rw[cn hw.ne k])
 refine ⟨hN.inj h hc hd (bN lw _) (bN lv _) (vi hw _) (vo hv _) λq=>?_,λda=>⟨hN.inj h hc hd (bN lw _) (bN lv _) (vi hw _) (vi hv _) λq=>?_,hN.inj h hc hd (bN lw _) (bN lv _) (vo hw _) (vo hv _) λq=>?_⟩⟩
 ·obtain ⟨q1,q⟩:=Prod.mk.inj q
  obtain ⟨q2,q3⟩:=Prod.mk.inj q
  subst q1
  rw[<-cn hw.ne ((i:Int) - 1), <-cn hw.ne (j:Int),q2]at q3
  exact j_ (h.yd.lt _ (hw.rd _)) q3
 ·obtain ⟨q1,q⟩:=Prod.mk.inj q
  subst q1
  exact da (by rw[D_ hi hj (Prod.mk.inj q).1])
 ·obtain ⟨q1,q⟩:=Prod.mk.inj q
  subst q1
  exact da (by rw[D_ (k:=0) hi hj (by rw[Qd9,Qd9];exact (Prod.mk.inj q).1)])
theorem MY(h:eR y ws L r M)(hN:gO y ws R N)(hc:c<(ws:))(hd:d<(ws:))(hi:i<((ws|||c):))(hj:j<((ws|||d):)):jd (pO ws N c) (pI ws N c) (pO ws N d) (pI ws N d) i j=jd (pO ws N d) (pI ws N d) (pO ws N c) (pI ws N c) j i:=by
 by_cases z:(c,i)=(d,j)
 ·obtain ⟨rfl,rfl⟩:=Prod.mk.inj z
  rfl
 have n:=fE h hN hc hd hi hj
 exact oz (fE h hN hc hc hi hi).1 (fE h hN hd hd hj hj).1 (n.2 z).1 n.1 (Ne.symm (fE h hN hd hc hj hi).1) (n.2 z).2
theorem Jl(h:eR y ws L r M)(hN:Lies y ws L r M N)(hc:c<(ws:)):
  2*vG ((ws|||c):) (λi j=>one (jd (pO ws N c) (pI ws N c) (pO ws N c) (pI ws N c) i j=true))=b_ ((ws|||c):) ((ws|||c):) (fc y (ws|||c) (ws|||c))+2*((((ws|||c):) / r c:Nat) - 1):=by
 rw[<-Co h hN hc]
 exact (D9 (λi j hi hj=>by rw[MY h hN hc hc hi hj]) (λi hi=>bj (by unfold jd;rw[Aq];decide))).symm
end
theorem Jm(hy:Yd y)(hf:iw y f)(hg:iw y g)(h:f a=g a)(hn:f (a+1)≠g (a+1)):gZ y g f a=!gZ y f g a:=by
 have:fh y f (a+1)≠fh y g (a+1):=λq=>hn (by
  unfold fh at q
  rw[show (a:Int)+1 - 1=a by lia, <-h]at q
  exact lG (hy.cl _ (hf.aY _)) (hf.aY _) (hg.aY _) q)
 unfold gZ
 rw[<-decide_not]
 exact decide_eq_decide.mpr ()
theorem Cp(hy:Yd y)(hf:iw y f)(hg:iw y g)(h:f (-(b:Int))=g (-(b:Int)))(hn:f (-(b:Int) - 1)≠g (-(b:Int) - 1)):g8 y g f b=!g8 y f g b:=by
 have:fh y f (-(b:Int))≠fh y g (-(b:Int)):=λq=>hn (by
  unfold fh at q
  rw[<-h]at q
  have r1:=hf.red (-(b:Int))
  have r2:=hg.red (-(b:Int))
  have c1:=(dE (hy.cl _ (hf.aY (-(b:Int) - 1))) (hf.aY (-(b:Int))) (Ne.symm r1)).2.2
  have c2:=(dE (hy.cl _ (hg.aY (-(b:Int) - 1))) (hf.aY (-(b:Int))) (by rw[h];exact Ne.symm r2)).2.2
  have:=lG (hf.aY (-(b:Int))) (hy.cl _ (hf.aY (-(b:Int) - 1))) (hy.cl _ (hg.aY (-(b:Int) - 1))) (by rw[c1,c2,q])
  exact dh (hy.lt _ (hf.aY _)) (hy.lt _ (hg.aY _)) this)
 unfold g8
 rw[<-decide_not]
 exact decide_eq_decide.mpr ()
theorem OO(hy:Yd y)(hf:iw y f)(hg:iw y g):iI y f g->iI y g f:=λ⟨a,r,x⟩=>⟨a,r.sy,by
 rw[Jm hy hf hg (r.o9 a () ()) r.hi,Cp hy hf hg (r.o9 _ () ()) r.lo]
 exact λq=>x (by simpa using q)⟩
theorem Cq(hy:Yd y)(ha:a∈y)(hb:b∈y)(hp:p∈y)(hq:q∈y)(yj:a≠b)(VU:p≠q):ac y a b p q=ac y p q a b:=by
 unfold ac
 by_cases z:p=a\/p=b\/q=a\/q=b
 ·rw[if_pos z,if_pos (z.elim (λz=> .inl z.symm) λz=>z.elim (λz=> .inr (.inr (.inl z.symm))) λz=>z.elim (λz=> .inr (.inl z.symm)) λz=> .inr (.inr (.inr z.symm)))]
 ·have n1:a≠p:=λq=>z (.inl q.symm)
  have n2:b≠p:=λq=>z (.inr (.inl q.symm))
  have n3:a≠q:=λq=>z (.inr (.inr (.inl q.symm)))
  have n4:b≠q:=λq=>z (.inr (.inr (.inr q.symm)))
  rw[if_neg z,if_neg (λz=>z.elim n1 λz=>z.elim n3 λz=>z.elim n2 n4)]
  rw[gp hy.nd ha hp hb n1 yj (Ne.symm n2),gp hy.nd ha hq hb n3 yj (Ne.symm n4),gp hy.nd hp ha hq (Ne.symm n1) VU n3,gp hy.nd hp hb hq (Ne.symm n2) VU n4]
  exact oz (cG ha hb yj) (cG hp hq VU) (cG ha hp n1) (cG ha hq n3) (cG hb hp n2) (cG hb hq n4)
theorem Jn{Q:Int->Prop}{P:Nat->Bool}:∀{m:Nat},(∀j:Nat,j<m->(Q j↔P j=true))->sm m (λj=>one (Q j))=((List.range m).filter P:)
 | 0,_=>rfl
 | m+1,h=>by
  show sm m _+one (Q m)=_
  rw[Jn (m:=m) λj hj=>h j (),Qcy,Qb3,kb,bC (h m ())]
  cases e:P m
  ·rw[Qba (by rw[e];decide),bj ∅];simp
  ·rw[Qbo e,gz rfl];simp
theorem Ea(n:Nat)(h:Int->Int->Int):∀m:Nat,sm n (λi=>sm m λj=>h i j)=sm m λj=>sm n λi=>h i j
 | 0=>eB n
 | m+1=>by
  show b_ n (m+1) h=sm m (λj=>sm n λi=>h i j)+sm n (λi=>h i m)
  rw[yC, <-Ea n h m]
  rfl
theorem qd(h:Nat->Int):∀n:Nat,((List.range n).map h).sum=sm n (λi=>h i.toNat)
 | 0=>rfl
 | n+1=>by
  rw[Qcy,Qao,List.sum_append,qd h n]
  show _=sm n _+h (((n:Nat):Int).toNat)
  rw[Qap]
  simp
theorem Eb(ws:List c5)(h:Nat×Nat->Int):∀n:Nat,((Ap ws n).map h).sum=sm n λc=>sm (ws.getD c.toNat []:) λi=>h (c.toNat,i.toNat)
 | 0=>rfl
 | n+1=>by
  unfold Ap
  rw[Qao,List.sum_append,Eb ws h n,Qcd]
  show _+((List.range _).map λi=>h (n,i)).sum=_
  rw[qd]
  rfl
noncomputable def cl{α:Type}(p:α->α->Bool):List α->Nat
 | []=>0
 | x::r=>(r.filter (p x):)+cl p r
theorem Cr{α:Type}(p:α->α->Bool)(m:List α):∀l:List α,(cl p (l++m):Int)=cl p l+cl p m+(l.map λx=>((m.filter (p x):):Int)).sum
 | []=>by show (cl p m:Int)=((0:Nat):Int)+cl p m+0;lia
 | a::l=>by
  show ((((l++m).filter (p a):)+cl p (l++m):Nat):Int)=(((l.filter (p a):)+cl p l:Nat):Int)+cl p m+(((a::l).map λx=>((m.filter (p x):):Int)).sum)
  rw[Qb3,kb,Qa2,Qda,Qb5,Qb5,Cr p m l,Qb5]
  lia
theorem Jo(p:Nat×Nat->Nat×Nat->Bool)(c:Nat):∀n:Nat,(cl p ((List.range n).map λi=>(c,i)):Int)=vG n (λi j=>one (p (c,i.toNat) (c,j.toNat)=true))
 | 0=>rfl
 | n+1=>by
  rw[Qcy,Qao,Cr,Jo p c n,Qcd]
  show _+((0:Nat):Int)+((List.range n).map λi=>((([(c,n)]:List (Nat×Nat)).filter (p (c,i)):):Int)).sum=vG n _+sm n _
  rw[qd,Qe7]
  congr 1
  rw[show ((0:Nat):Int)=0 from rfl,Qdp]
  refine aK λi _=>?_
  show (((([(c,n)]:List (Nat×Nat)).filter (p (c,i)):):Int))=one (p (c,((i:Nat):Int).toNat) (c,((n:Nat):Int).toNat)=true)
  rw[Qap,Qap]
  cases e:p (c,i) (c,n)
  ·rw[Qba (by rw[e];decide),bj ∅];rfl
  ·rw[Qbo e,gz rfl];rfl
theorem MZ(P:Nat×Nat->Bool)(c n:Nat):((((List.range n).map λi=>(c,i)).filter P:):Int)=sm n (λj=>one (P (c,j.toNat)=true)):=by
 rw[List.filter_map,Xi,Jn (P:=λj=>P (c,j)) λj _=>by rw[Qap]]
 rfl
theorem Jp(ws:List c5)(p:Nat×Nat->Nat×Nat->Bool):∀n:Nat,(cl p (Ap ws n):Int)=sm n (λc=>vG (ws.getD c.toNat []:) (λi j=>one (p (c.toNat,i.toNat) (c.toNat,j.toNat)=true)))+vG n (λc d=>b_ (ws.getD c.toNat []:) (ws.getD d.toNat []:) λi j=>one (p (c.toNat,i.toNat) (d.toNat,j.toNat)=true))
 | 0=>rfl
 | n+1=>by
  unfold Ap
  rw[Cr,Jp ws p n,Jo,Eb]
  have u:((n:Nat):Int).toNat=n:=Qap n
  show _+_+sm n _=(sm n _+vG (ws.getD ((n:Nat):Int).toNat []:) (λi j=>one (p (((n:Nat):Int).toNat,i.toNat) (((n:Nat):Int).toNat,j.toNat)=true)))+(vG n _+sm n (λc=>b_ (ws.getD c.toNat []:) (ws.getD ((n:Nat):Int).toNat []:) λi j=>one (p (c.toNat,i.toNat) (((n:Nat):Int).toNat,j.toNat)=true)))
  rw[u]
  have:sm n (λc=>sm (ws.getD c.toNat []:) λi=>(((((List.range ((ws|||n):)).map λi=>(n,i)).filter (p (c.toNat,i.toNat)):):Nat):Int))=sm n (λc=>b_ (ws.getD c.toNat []:) ((ws|||n):) λi j=>one (p (c.toNat,i.toNat) (n,j.toNat)=true)):=aK λc _=>aK λi _=>MZ _ _ _
  rw[this]
  lia
section
variable{y:c5}{ws:List c5}{L:Nat->Bool}{r:Nat->Nat}{M:Nat}{N:Nat->Nat->Nat->Nat}
noncomputable def Sq(ws:List c5)(N:Nat->Nat->Nat->Nat)(o p:Nat×Nat):Bool:=jd (pO ws N o.1) (pI ws N o.1) (pO ws N p.1) (pI ws N p.1) o.2 p.2
end
def Lx(f g:Int->Nat):Prop:=∃m:Nat,f m<g m/\∀l:Nat,l<m->f l=g l
theorem yD{w:c5}(hw:w≠[]){k:Nat}(hi:i<=(w:))(hk:k<(w:)):(b7 w i)[k]? =some (rd w ((i:Int)+k)):=by
 rw[rT hi hk]
 unfold Fw
 have:=iu hw ((i:Int)+k)
 rw[<-this]
 congr 1
 have e:(((k+i)%(w:):Nat):Int)=((i:Int)+k)%(w:):=by rw[Qfd,Qb5,Int.add_comm]
 lia
theorem Jq{w:c5}(hw:w≠[])(hl:(u:)=(w:))(hi:i<=(w:))(hj:j<=(w:)):b7 w i<b7 u j↔Lx (sq w i) (sq u j):=by
 have hu:u≠[]:=λz=>hw (by rw[z]at hl;exact Qcl.mp hl.symm)
 have g1:∀{k:Nat} (hk:k<(b7 w i:)),(b7 w i)[k]=sq w i k:=λ{k} hk=>by
  have:=yD hw hi (k:=k) (by rw[cC]at hk;exact hk)
  rw[P4 hk]at this
  exact Qaz this
 have g2:∀{k:Nat} (hk:k<(b7 u j:)),(b7 u j)[k]=sq u j k:=λ{k} hk=>by
  have:=yD hu (i:=j) (k:=k) () (by rw[cC]at hk;exact hk)
  rw[P4 hk]at this
  exact Qaz this
 rw[List.lt_iff_exists]
 constructor
 ·rintro (⟨_,h⟩ | ⟨m,h1,h2,h3,h4⟩)
  ·rw[cC,cC,hl]at h;lia
  ·refine ⟨m,by rw[<-g1 h1, <-g2 h2];exact h4,λl xq=>?_⟩
   rw[<-g1 (), <-g2 ()]
   exact h3 l xq
 ·rintro ⟨m,h1,h2⟩
  have hp:=Qah.mpr hw
  have hm:m<(w:):=by
   refine Classical.byContradiction λz=>?_
   have d:=Qfl m (w:)
   have c1:=jn (f:=sq w i) (p:=(w:)) (λk=>dS w i k) (m%(w:):Nat) (m / (w:))
   have c2:=jn (f:=sq u j) (p:=(w:)) (λk=>by rw[<-hl];exact dS u j k) (m%(w:):Nat) (m / (w:))
   have e:((m%(w:):Nat):Int)+((m / (w:):Nat):Int)*((w:):Nat)=m:=by
    rw[Int.mul_comm];exact_mod_cast d
   rw[e]at c1 c2
   rw[c1,c2,h2 (m%(w:)) (by have:=Qdc m hp;lia)]at h1
   lia
  refine .inr ⟨m,by rw[cC];exact hm,by rw[cC,hl];exact hm,λl xq=>?_,?_⟩
  ·rw[g1,g2];exact h2 l xq
  ·rw[g1,g2];exact h1
theorem kB{w:c5}(hw:w≠[]):∃i:Nat,i<(w:)/\bR w=b7 w i:=by
 have hp:=Qah.mpr hw
 rcases jk (jT w ((w:) - 1)) w with h | h
 ·exact ⟨0,hp,by unfold bR;rw[h,n_]⟩
 ·unfold jT at h
  obtain ⟨k,hk,e⟩:=Qar.mp h
  have:=Qb7.mp hk
  exact ⟨k+1,(),by unfold bR;exact e.symm⟩
theorem qR{w:c5}(hi:i<(w:)): ¬b7 w i<bR w:=by
 unfold bR
 refine jl _ _ _ ?_
 cases i with
 | zero=>rw[n_];exact Xh
 | succ i=>exact Sd _ (Qar.mpr ⟨i,Qb7.mpr (),rfl⟩)
noncomputable def leads(w:c5):Bool:=decide (bR w<bR (bK w))
theorem hV(h:v≠[])(k:Int):sq (bK v) k=bq v (-1 - k):=by
 funext x
 unfold sq bq
 rw[jo h]
 congr 2;lia
theorem qe(h:v≠[]):bK v≠[]:=λz=>h (Qcl.mp (by rw[<-bJ v,z];rfl))
theorem wX{w:c5}(hw:w≠[]):leads w=true↔ ∃i:Int,∀j:Int,Lx (sq w i) (bq w j):=by
 have hp:=Qah.mpr hw
 have hl:=bJ w
 have ht:=qe hw
 unfold leads
 rw[decide_eq_true_iff]
 constructor
 ·intro h
  obtain ⟨i,hi,ei⟩:=kB hw
  refine ⟨i,λj=>?_⟩
  have hj:=bN (n:=(bK w:)) (by rw[hl];exact hp) (-1 - j)
  have h2:bR w<b7 (bK w) (kA (bK w:) (-1 - j)):=List.not_le.mp λz=>by
   have:=List.lt_of_le_of_lt z h
   exact qR hj this
  rw[ei]at h2
  have h3:=(Jq hw hl () ()).mp h2
  rw[di ht,hV hw,show -1 - (-1 - j)=j by lia]at h3
  exact h3
 ·rintro ⟨i,h⟩
  obtain ⟨j,hj,ej⟩:=kB ht
  have h2:=h (-1 - j)
  rw[show (-1:Int) - (j:Int)= -1 - j by lia, <-hV hw, <-di hw]at h2
  have hi:=bN hp i
  have h3:=(Jq hw hl () ()).mpr h2
  rw[<-ej]at h3
  exact List.lt_of_le_of_lt (Qeg.mp (qR hi)) h3
theorem wY{w:c5}(hw:w≠[])(hv:v≠[]){i j:Int}(h:b8 w v i j):leads w=leads v:=by
 have e1:∀k,sq w k=sq v (k - i+j):=λk=>by
  funext x
  have:=h (k - i+x)
  unfold sq at this ⊢
  rw[show k+x=i+(k - i+x) by lia,this]
  congr 1;lia
 have e2:∀k,bq w k=bq v (k - i+j):=λk=>by rw[<-fA, <-fA,e1]
 rw[Qdv,wX hw,wX hv]
 constructor
 ·rintro ⟨a,h⟩
  refine ⟨a - i+j,λb=>?_⟩
  have:=h (b - j+i)
  rwa [e1,e2,show b - j+i - i+j=b by lia]at this
 ·rintro ⟨a,h⟩
  refine ⟨a - j+i,λb=>?_⟩
  rw[e1,e2,show a - j+i - i+j=a by lia]
  exact h _
theorem wZ{w:c5}(hy:Yd y)(hw:SW y w):leads (bK w)=!leads w:=by
 have hl:AllLt w:=λc hc=>hy.lt c (hw.aY c hc)
 have ne:bR w≠bR (bK w):=λz=>by
  obtain ⟨i,hi,ei⟩:=kB hw.ne
  obtain ⟨j,hj,ej⟩:=kB (qe hw.ne)
  rw[bJ]at hj
  have:∀k:Nat,k<(w:)->sq w i k=sq (bK w) j k:=λk hk=>by
   have h1:=yD hw.ne (i:=i) (k:=k) () hk
   have h2:=yD (qe hw.ne) (i:=j) (k:=k) (by rw[bJ];lia) (by rw[bJ];exact hk)
   rw[<-ei,z,ej,h2]at h1
   exact (Qaz h1).symm
  refine yq hy hw i (-1 - j) ?_
  rw[<-hV hw.ne]
  have hp:=Qah.mpr hw.ne
  refine fw (p:=(w:)) (q:=(w:)) hp hp (λk=>dS w i k) (λk=>by rw[<-bJ w];exact dS (bK w) j k) λn hn=>?_
  by_cases q:n<(w:)
  ·exact this n q
  ·have c1:=dS w i ((n - (w:):Nat):Int)
   have c2:=dS (bK w) j ((n - (w:):Nat):Int)
   rw[show ((n - (w:):Nat):Int)+(w:)=n by lia]at c1
   rw[bJ,show ((n - (w:):Nat):Int)+(w:)=n by lia]at c2
   rw[c1,c2]
   exact this _ ()
 unfold leads
 rw[x6 hl, <-decide_not]
 refine decide_eq_decide.mpr ⟨λh z=>?_,λh=>?_⟩
 ·exact Qc6 _ (Qfu h z)
 ·exact List.not_le.mp λz=>ne (Qgc z (Qeg.mp h))
theorem FU{w:c5}(hy:Yd y)(hw:SW y w)(hv:SW y v){i j:Int}(h:∀k,sq w i k=bq v j k):leads v=!leads w:=by
 have:b8 w (bK v) i (-1 - j):=λk=>by rw[hV hv.ne,show -1 - (-1 - j)=j by lia];exact h k
 rw[wY hw.ne (qe hv.ne) this,wZ hy hv,Bool.not_not]
theorem Jr{w:c5}(hw:w≠[]):A_ w d↔ ∀k:Int,rd w (k+d)=rd w k:=by
 have hp:=Qah.mpr hw
 have fr:∀i:Nat,Fw w i=some (rd w i):=λi=>by
  unfold Fw
  rw[<-iu hw (i:Int)]
  congr 1
 constructor
 ·intro h k
  have:=h (kA (w:) k)
  rw[fr,fr]at this
  have:=Qaz this
  rw[cn hw]at this
  rw[<-this, <-gs w (k+d), <-gs w (((kA (w:) k+d:Nat)):Int),Qb5,fD hp,Qe2]
 ·intro h i
  rw[fr,fr,Qb5,h]
theorem gh{w:c5}(hw:w≠[])(h:bT w s):0<s/\∀i j:Int,b8 w w i j↔(i - j)%(s:Int)=0:=by
 rcases h with ⟨z,_⟩ | h'
 ·exact absurd z hw
 have h:bT w s:= .inr h'
 obtain ⟨h1,h2,h3,_⟩:=h'
 have ps:∀k:Int,rd w (k+s)=rd w k:=(Jr hw).mp ((hU hw h2).mp (yh h1 h2 h3))
 have pm:∀(k t:Int),rd w (k+t*s)=rd w k:=λk t=>by
  rcases Int.le_total 0 t with q | q
  ·obtain ⟨n,rfl⟩:∃n:Nat,t=n:=⟨t.toNat,()⟩
   exact jn ps k n
  ·obtain ⟨n,rfl⟩:∃n:Nat,t= -(n:Int):=⟨(-t).toNat,()⟩
   have:=jn ps (k+ -(n:Int)*s) n
   rw[<-this]
   congr 1
   rw[Int.neg_mul];lia
 refine ⟨h1,λi j=>⟨λp=>?_,λp k=>?_⟩⟩
 ·have pd:∀k:Int,rd w (k+(i - j))=rd w k:=λk=>by
   have:=p (k - j)
   unfold sq at this
   rw[show i+(k - j)=k+(i - j) by lia,show j+(k - j)=k by lia]at this
   exact this
  have e:=Qfo (i - j) s
  have hn:=Qcp (i - j) (b:=(s:Int)) ()
  have dZ:=Qcn (i - j) (b:=(s:Int)) ()
  refine Classical.byContradiction λz=>?_
  obtain ⟨d,hd⟩:∃d:Nat,(i - j)%(s:Int)=d:=⟨((i - j)%(s:Int)).toNat,()⟩
  refine bT.least h (j:=d) () () ((Jr hw).mpr λk=>?_)
  have q:=pd k
  rw[<-e,hd,Int.mul_comm, <-Qe7,pm]at q
  exact q
 ·unfold sq
  have e:=Qfo (i - j) s
  rw[p,Qdp,Int.mul_comm]at e
  rw[show i+k=j+k+(i - j) by lia, <-e,pm]
variable{M:Nat}
theorem Js{r:Nat->Nat}(hy:Yd y)(hw:∀c,c<(ws:)->SW y (ws|||c))(hr:∀c,c<(ws:)->bT (ws|||c) (r c))(hM:∀c d,c<(ws:)->d<(ws:)->((ws|||c):)+((ws|||d):)<=M):eR y ws (λc=>leads (ws|||c)) r M:=
 ⟨hy,hw,hM,λc d i j hc hd h=>wY (hw c hc).ne (hw d hd).ne h,λc d i j hc hd h=>FU hy (hw c hc) (hw d hd) h,λc hc=>(gh (hw c hc).ne (hr c hc)).1,λc hc=>(gh (hw c hc).ne (hr c hc)).2⟩
noncomputable def bs(y w v:c5)(i j:Int):Int:=one (ac y (aC (rd w (i - 1))) (rd w i) (aC (rd v (j - 1))) (rd v j)=true)+one (iI y (sq w i) (sq v j))+one (iI y (sq w i) (bq v j))
noncomputable def SS(y w v:c5):Int:=b_ (w:) (v:) (bs y w v)
theorem OP{w:c5}(hy:Yd y)(hw:SW y w)(hv:SW y v):b_ (w:) (v:) (fc y w v)=SS y w v:=bz λi j _ _=>by
 unfold fc bs
 rw[bC (DY (n:=(w:)+(v:)) hy (bf hw i) (bf hv j) λz=>lF hw.ne hv.ne (λk=>dS w i k) (λk=>dS v j k) z),bC (DY (n:=(w:)+(v:)) hy (bf hw i) (fR hy hv j) λz=>lF hw.ne hv.ne (λk=>dS w i k) (λk=>ub v j k) z)]
theorem OQ(w:c5)(i:Int):rd w (i+(w:) - 1)=rd w (i - 1):=by rw[show i+((w:):Int) - 1=i - 1+(w:) by lia,gq]
theorem VZ(y w v:c5)(i j:Int):bs y w v (i+(w:)) j=bs y w v i j:=by unfold bs;rw[m5,gq,OQ]
def Sr(y:c5)(f g:Int->Nat):Prop:=∃b,Run f g 0 b/\gZ y f g 0≠g8 y f g b
theorem Jt(bF:∀k,eJ (F k)=F (k - 1))(bG:∀k,eJ (G k)=G (k - 1))(pF:∀k,F (k+n)=F k)(pG:∀k,G (k+m)=G k):b_ n m (λs t=>one (iI y (F s) (G t)))=b_ n m λs t=>one (Sr y (F s) (G t)):=by
 have key:∀s t:Int,one (iI y (F s) (G t))+one (∃a b,Run (F (s - 1)) (G (t - 1)) (a+1) b/\gZ y (F (s - 1)) (G (t - 1)) (a+1)≠g8 y (F (s - 1)) (G (t - 1)) b)=one (Sr y (F s) (G t))+one (∃a b,Run (F s) (G t) (a+1) b/\gZ y (F s) (G t) (a+1)≠g8 y (F s) (G t) b):=λs t=>by
  rw[<-bF, <-bG]
  generalize F s=f
  generalize G t=g
  by_cases X:∃a b,Run f g a b/\gZ y f g a≠g8 y f g b
  ·obtain ⟨a,b,r,x⟩:=X
   have u:∀{a' b'},Run f g a' b'->a'=a/\b'=b:=λr'=>r'.one r
   have e1:one (iI y f g)+one (∃a b,Run (eJ f) (eJ g) (a+1) b/\gZ y (eJ f) (eJ g) (a+1)≠g8 y (eJ f) (eJ g) b)=1:=by
    cases b with
    | zero=>
     rw[gz ⟨a,r,x⟩,bj (λ⟨a',b',r',_⟩=>absurd (u r'.fd).2 (Qee _))]
     rfl
    | succ b=>
     rw[bj (λ⟨a',r',_⟩=>absurd (u r').2.symm (Qee _)),gz ⟨a,b,r.bk,by rw[om,oq];exact x⟩]
     rfl
   have e2:one (Sr y f g)+one (∃a b,Run f g (a+1) b/\gZ y f g (a+1)≠g8 y f g b)=1:=by
    cases a with
    | zero=>
     rw[gz ⟨b,r,x⟩,bj (λ⟨a',b',r',_⟩=>absurd (u r').1 (Qee _))]
     rfl
    | succ a=>
     rw[bj (λ⟨b',r',_⟩=>absurd (u r').1.symm (Qee _)),gz ⟨a,b,r,x⟩]
     rfl
   rw[e1,e2]
  ·rw[bj (λ⟨a,r,x⟩=>X ⟨a,0,r,x⟩),bj (λ⟨a,b,r,x⟩=>X ⟨a,b+1,r.fd,by rw[om,oq]at x;exact x⟩),bj (λ⟨b,r,x⟩=>X ⟨0,b,r,x⟩),bj (λ⟨a,b,r,x⟩=>X ⟨a+1,b,r,x⟩)]
 have sh:=wW (n:=n) (m:=m) (h:=λs t=>one (∃a b,Run (F s) (G t) (a+1) b/\gZ y (F s) (G t) (a+1)≠g8 y (F s) (G t) b)) (λi j=>by rw[pF]) (λi j=>by rw[pG])
 refine (Int.add_left_inj (b_ n m (λs t=>one (∃a b,Run (F s) (G t) (a+1) b/\gZ y (F s) (G t) (a+1)≠g8 y (F s) (G t) b)))).mp ?_
 rw[<-cU n m (λs t=>one (Sr y (F s) (G t))), <-sh, <-cU]
 exact bz λi j _ _=>key i j
theorem OR(hy:Yd y)(hf:iw y f)(hg:iw y g):Sr y f g↔iI y (lZ g) (lZ f):=by
 have a1:∀b:Nat,gZ y (lZ g) (lZ f) b=g8 y f g b:=λb=>by
  unfold gZ g8
  rw[kj hy hf,kj hy hg]
  exact decide_eq_decide.mpr ⟨λq=>by lia,λq=>by lia⟩
 have a2:g8 y (lZ g) (lZ f) 0=gZ y f g 0:=by
  unfold gZ g8
  have e1:=kj hy hf (-1)
  have e2:=kj hy hg (-1)
  rw[show (-1:Int)+1= -((0:Nat):Int) from rfl]at e1 e2
  rw[e1,e2]
  exact decide_eq_decide.mpr ⟨λq=>by have:((y:):Int) - fh y g 1<(y:) - fh y f 1:=q;show fh y f 1<fh y g 1;lia,λq=>by have:fh y f 1<fh y g 1:=q;show ((y:):Int) - fh y g 1<(y:) - fh y f 1;lia⟩
 constructor
 ·rintro ⟨b,r,x⟩
  exact ⟨b,(r.rv hy hf hg).sy,by rw[a1,a2];exact Ne.symm x⟩
 ·rintro ⟨b,r,x⟩
  have r2:=r.rv hy (hg.rv hy) (hf.rv hy)
  rw[qQ hy hf,qQ hy hg]at r2
  rw[a1,a2]at x
  exact ⟨b,r2.sy,Ne.symm x⟩
theorem yE(hy:Yd y)(hf:iw y f)(hg:iw y g):iI y f g↔iI y g f:=⟨OO hy hf hg,OO hy hg hf⟩
theorem Ju(w:c5)(k:Int):eJ (sq w k)=sq w (k - 1):=by
 funext x
 unfold eJ sq
 congr 1
 lia
theorem V0{w:c5}(hy:Yd y)(h:SW y w)(i:Int):lZ (bq w i)=sq w i:=by rw[<-fA,qQ hy (bf h i)]
theorem M0{w:c5}(hy:Yd y)(hw:SW y w)(hv:SW y v):b_ (w:) (v:) (λi j=>one (iI y (bq w i) (bq v j)))=b_ (w:) (v:) λi j=>one (iI y (sq w i) (sq v j)):=by
 rw[Jt (F:=sq w) (G:=sq v) (Ju w) (Ju v) (m5 w) (m5 v)]
 exact bz λi j _ _=>bC (by rw[OR hy (bf hw i) (bf hv j),fA,fA];exact yE hy (fR hy hw i) (fR hy hv j))
theorem Jv{w:c5}(hy:Yd y)(hw:SW y w)(hv:SW y v):b_ (w:) (v:) (λi j=>one (iI y (bq w i) (sq v j)))=b_ (w:) (v:) λi j=>one (iI y (sq w i) (bq v j)):=by
 have fb:∀k,eJ (bq v (-k))=bq v (-(k - 1)):=λk=>by
  funext x
  unfold eJ bq
  congr 2
  lia
 have fp:∀k:Int,bq v (-(k+(v:)))=bq v (-k):=λk=>by rw[show -(k+((v:):Int))= -k - (v:) by lia,Q5]
 have e:=Jt (y:=y) (n:=(w:)) (m:=(v:)) (F:=sq w) (G:=λk=>bq v (-k)) (Ju w) fb (m5 w) fp
 have n1:∀H:Int->Int->Int,(∀i j,H i (j+(v:))=H i j)->b_ (w:) (v:) (λi j=>H i (-j))=b_ (w:) (v:) H:=λH P=>aK λi _=>uf (h:=H i) λk=>P i k
 rw[n1 (λi j=>one (iI y (sq w i) (bq v j))) (λi j=>by rw[ko]),n1 (λi j=>one (Sr y (sq w i) (bq v j))) (λi j=>by rw[ko])]at e
 rw[e]
 exact bz λi j _ _=>bC (by rw[OR hy (bf hw i) (fR hy hv j),fA,V0 hy hv];exact yE hy (fR hy hw i) (bf hv j))
theorem Aw{w:c5}(hy:Yd y)(h:SW y w)(i:Int):aC (rd w (i - 1))∈y/\rd w i∈y/\aC (rd w (i - 1))≠rd w i:=⟨hy.cl _ (h.rd _),h.rd _,Ne.symm (h.red i)⟩
theorem ug{w:c5}(hy:Yd y)(hw:SW y w)(hv:SW y v):SS y w v=SS y v w:=by
 have sw:∀H:Int->Int->Int,b_ (v:) (w:) (λj i=>H i j)=b_ (w:) (v:) H:=λH=>Ea _ _ _
 have e:∀u z:c5,SS y u z=b_ (u:) (z:) (λi j=>one (ac y (aC (rd u (i - 1))) (rd u i) (aC (rd z (j - 1))) (rd z j)=true))+b_ (u:) (z:) (λi j=>one (iI y (sq u i) (sq z j)))+b_ (u:) (z:) (λi j=>one (iI y (sq u i) (bq z j))):=λu z=>by
  unfold SS bs
  rw[cU,cU]
 rw[e w v,e v w, <-Jv hy hw hv, <-sw, <-sw, <-sw]
 congr 1
 ·congr 1
  ·exact bz λj i _ _=>by
    obtain ⟨a1,a2,a3⟩:=Aw hy hw i
    obtain ⟨b1,b2,b3⟩:=Aw hy hv j
    rw[Cq hy a1 a2 b1 b2 a3 b3]
  ·exact bz λj i _ _=>bC (yE hy (bf hw i) (bf hv j))
 ·exact bz λj i _ _=>bC (yE hy (fR hy hw i) (bf hv j))
theorem OS{h:Int->Int}{n:Nat}(P:∀k,h (k+n)=h k):∀k:Nat,sm n (λi=>h (i+k))=sm n h
 | 0=>aK λi _=>by rw[show (i:Int)+((0:Nat):Int)=i by lia]
 | k+1=>by
  rw[<-OS P k, <-rW (h:=λi=>h (i+k)) (n:=n) (λj=>by rw[show j+(n:Int)+k=j+k+n by lia,P])]
  exact aK λi _=>by rw[show (i:Int)+((k+1:Nat):Int)=i+1+k by lia]
theorem Cs{w:c5}(hw:w≠[]){k:Nat}(hk:k<=(w:)):SS y (b7 w k) v=SS y w v:=by
 have r:∀i,rd (b7 w k) i=rd w (i+k):=uc hw hk
 have ls:(b7 w k:)=(w:):=by unfold b7;rw[kb,Qav,Qad];lia
 have q:∀i,sq (b7 w k) i=sq w (i+k):=λi=>by
  funext x
  unfold sq
  rw[r,show i+x+(k:Int)=i+k+x by lia]
 unfold SS
 rw[ls]
 show sm _ (λi=>sm _ λj=>bs y (b7 w k) v i j)=sm _ λi=>sm _ λj=>bs y w v i j
 rw[<-OS (h:=λi=>sm (v:) λj=>bs y w v i j) (n:=(w:)) (λi=>aK λj _=>VZ y w v i j) k]
 exact aK λi _=>aK λj _=>by
  unfold bs
  rw[q,r,r,show (i:Int) - 1+k=i+k - 1 by lia]
theorem M1(y:c5)(a b p q:Nat):ac y a b q p=ac y a b p q:=by
 unfold ac
 have e:(q=a\/q=b\/p=a\/p=b)↔(p=a\/p=b\/q=a\/q=b):=⟨λh=>by rcases h with h | h | h | h<;>simp[h],λh=>by rcases h with h | h | h | h<;>simp[h]⟩
 by_cases z:p=a\/p=b\/q=a\/q=b
 ·rw[if_pos z,if_pos (e.mpr z)]
 ·rw[if_neg z,if_neg λg=>z (e.mp g)]
  cases gr y a p b<;>cases gr y a q b<;>rfl
theorem Jw{w:c5}(hy:Yd y)(hw:SW y w)(hv:SW y v):SS y (bK w) v=SS y w v:=by
 have e:∀u z:c5,SS y u z=b_ (u:) (z:) (λi j=>one (ac y (aC (rd u (i - 1))) (rd u i) (aC (rd z (j - 1))) (rd z j)=true))+b_ (u:) (z:) (λi j=>one (iI y (sq u i) (sq z j)))+b_ (u:) (z:) (λi j=>one (iI y (sq u i) (bq z j))):=λu z=>by
  unfold SS bs
  rw[cU,cU]
 have n1:∀H:Int->Int->Int,(∀i j,H (i+(w:)) j=H i j)->b_ (w:) (v:) (λi j=>H (-1 - i) j)=b_ (w:) (v:) H:=λH P=>by
  show sm _ (λi=>sm _ λj=>H (-1 - i) j)=sm _ λi=>sm _ λj=>H i j
  rw[<-uf (h:=λi=>sm (v:) λj=>H i j) (n:=(w:)) (λi=>aK λj _=>P i j), <-rW (h:=λi=>sm (v:) λj=>H (-i) j) (n:=(w:)) (λi=>aK λj _=>by rw[<-P (-(i+(w:))),show -(i+((w:):Int))+(w:)= -i by lia])]
  exact aK λi _=>aK λj _=>by rw[show -1 - (i:Int)= -((i:Int)+1) by lia]
 rw[e (bK w) v,e w v,bJ, <-M0 hy hw hv, <-Jv hy hw hv, <-n1 (λi j=>one (iI y (bq w i) (bq v j))) (λi j=>by rw[ko]), <-n1 (λi j=>one (iI y (bq w i) (sq v j))) (λi j=>by rw[ko])]
 rw[show b_ (w:) (v:) (λi j=>one (iI y (sq (bK w) i) (sq v j)))=b_ (w:) (v:) (λi j=>one (iI y (bq w (-1 - i)) (sq v j))) from bz λi j _ _=>by rw[hV hw.ne],show b_ (w:) (v:) (λi j=>one (iI y (sq (bK w) i) (bq v j)))=b_ (w:) (v:) (λi j=>one (iI y (bq w (-1 - i)) (bq v j))) from bz λi j _ _=>by rw[hV hw.ne]]
 have ea:b_ (w:) (v:) (λi j=>one (ac y (aC (rd (bK w) (i - 1))) (rd (bK w) i) (aC (rd v (j - 1))) (rd v j)=true))=b_ (w:) (v:) (λi j=>one (ac y (aC (rd w (i - 1))) (rd w i) (aC (rd v (j - 1))) (rd v j)=true)):=by
  show sm _ (λi=>sm _ λj=>one (ac y (aC (rd (bK w) (i - 1))) (rd (bK w) i) (aC (rd v (j - 1))) (rd v j)=true))=sm _ λi=>sm _ λj=>one (ac y (aC (rd w (i - 1))) (rd w i) (aC (rd v (j - 1))) (rd v j)=true)
  rw[<-uf (h:=λi=>sm (v:) λj=>one (ac y (aC (rd w (i - 1))) (rd w i) (aC (rd v (j - 1))) (rd v j)=true)) (n:=(w:)) (λi=>aK λj _=>by rw[OQ,gq])]
  refine aK λi _=>aK λj _=>?_
  rw[jo hw.ne,jo hw.ne,aE (hy.lt _ (hw.rd _)),show -1 - ((i:Int) - 1)= -(i:Int) by lia,show -1 - (i:Int)= -(i:Int) - 1 by lia]
  obtain ⟨a1,a2,a3⟩:=Aw hy hw (-(i:Int))
  obtain ⟨b1,b2,b3⟩:=Aw hy hv j
  rw[Cq hy a2 a1 b1 b2 (Ne.symm a3) b3,M1, <-Cq hy a1 a2 b1 b2 a3 b3]
 rw[ea,Qe7,Qe7]
 congr 1
 exact Int.add_comm _ _
theorem qf{w:c5}(σ:Nat->Nat)(h:w≠[])(k:Int):rd (w.map σ) k=σ (rd w k):=by
 have hl:=Qah.mpr h
 have h1:=Qcp k (b:=((w:):Int)) ()
 have h2:=Qcn k (b:=((w:):Int)) ()
 have hi:(k%((w:):Int)).toNat<(w:):=by lia
 unfold rd
 rw[Xi,Qak,Qak,Qau,P4 hi]
 rfl
structure M3(y z:c5)(σ:Nat->Nat)(neg:Bool):Prop where
 yd:Yd y
 zd:Yd z
 inz:∀a∈y,σ a∈z
 inj:∀a∈y,∀b∈y,σ a=σ b->a=b
 V1:∀a∈y,σ (aC a)=aC (σ a)
 gr:∀a∈y,∀b∈y,∀c∈y,a≠b->a≠c->b≠c->gr z (σ a) (σ b) (σ c)=(neg ^^ gr y a b c)
section
variable{y z w v:c5}{σ:Nat->Nat}{neg:Bool}
theorem M3.sw(T:M3 y z σ neg)(h:SW y w):SW z (w.map σ):=⟨λq=>h.ne (List.map_eq_nil_iff.mp q),λc hc=>by
 obtain ⟨a,ha,rfl⟩:=Qar.mp hc
 exact T.inz a (h.aY a ha),λk=>by
 rw[qf σ h.ne,qf σ h.ne, <-T.V1 _ (h.rd _)]
 exact λq=>h.red k (T.inj _ (h.rd _) _ (T.yd.cl _ (h.rd _)) q)⟩
theorem M3.bg(T:M3 y z σ neg)(hf:iw y f)(hg:iw y g)(hf':iw z λk=>σ (f k))(L6:iw z λk=>σ (g k)):iI z (λk=>σ (f k)) (λk=>σ (g k))↔iI y f g:=by
 have ne:∀k,f k≠g k->σ (f k)≠σ (g k):=λk h q=>h (T.inj _ (hf.aY k) _ (hg.aY k) q)
 have run:∀{a b},Run (λk=>σ (f k)) (λk=>σ (g k)) a b↔Run f g a b:=λ{a b}=>⟨λr=>⟨λk h1 h2=>T.inj _ (hf.aY k) _ (hg.aY k) (r.o9 k h1 h2),λq=>r.hi (by show σ _=σ _;rw[q]),λq=>r.lo (by show σ _=σ _;rw[q])⟩,λr=>⟨λk h1 h2=>by show σ _=σ _;rw[r.o9 k h1 h2],ne _ r.hi,ne _ r.lo⟩⟩
 have key:∀a,Run f g a 0->gZ z (λk=>σ (f k)) (λk=>σ (g k)) a=(neg ^^ gZ y f g a)/\g8 z (λk=>σ (f k)) (λk=>σ (g k)) 0=(neg ^^ g8 y f g 0):=λa r=>by
  have h0:=r.zero
  have ha:=r.o9 a () ()
  have r1:=hf.red (a+1)
  have r2:=hg.red (a+1)
  rw[show (a:Int)+1 - 1=a by lia]at r1 r2
  have lo:f (-1)≠g (-1):=r.lo
  have r3:=hf.red 0
  have r4:=hg.red 0
  rw[Qf7]at r3 r4
  constructor
  ·rw[yo (by show σ _=σ _;rw[ha]),yo ha]
   show My.gr z (aC (σ (f a))) _ _=_
   rw[<-T.V1 _ (hf.aY a)]
   exact T.gr _ (T.yd.cl _ (hf.aY a)) _ (hf.aY _) _ (hg.aY _) (Ne.symm r1) (by rw[ha];exact Ne.symm r2) r.hi
  ·rw[yn T.zd hf' L6 (by show σ _=σ _;rw[h0]) (ne _ lo),yn T.yd hf hg h0 lo]
   show (!My.gr z (aC (σ (f (-1)))) (aC (σ (g (-1)))) (σ (f 0)))=_
   rw[<-T.V1 _ (hf.aY _), <-T.V1 _ (hg.aY _),T.gr _ (T.yd.cl _ (hf.aY _)) _ (T.yd.cl _ (hg.aY _)) _ (hf.aY 0) (λq=>lo (dh (T.yd.lt _ (hf.aY _)) (T.yd.lt _ (hg.aY _)) q)) (Ne.symm r3) (by rw[h0];exact Ne.symm r4)]
   cases neg<;>cases My.gr y (aC (f (-1))) (aC (g (-1))) (f 0)<;>rfl
 constructor
 ·rintro ⟨a,r,x⟩
  have r':=run.mp r
  obtain ⟨k1,k2⟩:=key a r'
  rw[k1,k2]at x
  exact ⟨a,r',λq=>x (by rw[q])⟩
 ·rintro ⟨a,r,x⟩
  obtain ⟨k1,k2⟩:=key a r
  refine ⟨a,run.mpr r,?_⟩
  rw[k1,k2]
  exact λq=>x (by cases neg<;>cases h1:gZ y f g a<;>cases h2:g8 y f g 0<;>simp[h1,h2]at q ⊢)
theorem M3.ac(T:M3 y z σ neg){a b p q:Nat}(ha:a∈y)(hb:b∈y)(hp:p∈y)(hq:q∈y)(ab:a≠b):ac z (σ a) (σ b) (σ p) (σ q)=ac y a b p q:=by
 have e:∀{a b},a∈y->b∈y->(σ a=σ b↔a=b):=λ{a b} ha hb=>⟨T.inj a ha b hb,λq=>by rw[q]⟩
 unfold My.ac
 have e4:(σ p=σ a\/σ p=σ b\/σ q=σ a\/σ q=σ b)↔(p=a\/p=b\/q=a\/q=b):=by rw[e hp ha,e hp hb,e hq ha,e hq hb]
 by_cases c:p=a\/p=b\/q=a\/q=b
 ·rw[if_pos c,if_pos (e4.mpr c)]
 ·rw[if_neg c,if_neg λz=>c (e4.mp z)]
  have n1:a≠p:=λq=>c (.inl q.symm)
  have n2:p≠b:=λq=>c (.inr (.inl q))
  have n3:a≠q:=λq=>c (.inr (.inr (.inl q.symm)))
  have n4:q≠b:=λq=>c (.inr (.inr (.inr q)))
  rw[T.gr a ha p hp b hb n1 ab n2,T.gr a ha q hq b hb n3 ab n4]
  cases neg<;>cases My.gr y a p b<;>cases My.gr y a q b<;>rfl
theorem M3.same(T:M3 y z σ neg)(hw:SW y w)(hv:SW y v):SS z (w.map σ) (v.map σ)=SS y w v:=by
 have Ba:=T.sw hw
 have Xf:=T.sw hv
 have cm:∀{u:c5} (hu:SW y u) (k:Int),aC (rd (u.map σ) k)=σ (aC (rd u k)):=λ{u} hu k=>by rw[qf σ hu.ne,T.V1 _ (hu.rd k)]
 have es:∀{u:c5} (hu:SW y u) (i:Int),sq (u.map σ) i=λk=>σ (sq u i k):=λ{u} hu i=>by
  funext k
  unfold sq
  exact qf σ hu.ne _
 have eb:∀{u:c5} (hu:SW y u) (i:Int),bq (u.map σ) i=λk=>σ (bq u i k):=λ{u} hu i=>by
  funext k
  unfold bq
  exact cm hu _
 unfold SS
 rw[Xi,Xi]
 refine bz λi j _ _=>?_
 have b1:=T.bg (bf hw i) (bf hv j) (by rw[<-es hw];exact bf Ba i) (by rw[<-es hv];exact bf Xf j)
 have b2:=T.bg (bf hw i) (fR T.yd hv j) (by rw[<-es hw];exact bf Ba i) (by rw[<-eb hv];exact fR T.zd Xf j)
 obtain ⟨a1,a2,a3⟩:=Aw T.yd hw i
 obtain ⟨c1,c2,c3⟩:=Aw T.yd hv j
 unfold bs
 rw[cm hw,cm hv,qf σ hw.ne,qf σ hv.ne,T.ac a1 a2 c1 c2 a3,es hw,es hv,eb hv,bC b1,bC b2]
end
theorem FV{w:c5}{t:Nat}(hw:w≠[])(hv:v≠[])(h:bT w s)(g:bT v t)(e:∀d:Int,b8 w w d 0↔b8 v v d 0):s=t:=by
 obtain ⟨p1,a⟩:=gh hw h
 obtain ⟨p2,b⟩:=gh hv g
 have key:∀d:Nat,d%s=0↔d%t=0:=λd=>by
  have k:=e d
  rw[a,b,Qd9]at k
  have c1:((d%s:Nat):Int)=(d:Int)%(s:Int):=rfl
  have c2:((d%t:Nat):Int)=(d:Int)%(t:Int):=rfl
  rw[<-c1, <-c2]at k
  exact ⟨λq=>Qfv (k.mp (by rw[q];rfl)),λq=>Qfv (k.mpr (by rw[q];rfl))⟩
 exact Qej (Qfs p2 (Qd4 ((key t).mpr (Qfi t)))) (Qfs p1 (Qd4 ((key s).mp (Qfi s))))
theorem oB(w:c5)(d:Int):b8 w w d 0↔ ∀k,rd w (d+k)=rd w k:=by
 unfold b8 sq
 exact ⟨λh k=>by have:=h k;rwa [Qdp]at this,λh k=>by rw[Qdp];exact h k⟩
theorem M4{w:c5}(hw:w≠[])(hn:n<=(w:))(d:Int):b8 (b7 w n) (b7 w n) d 0↔b8 w w d 0:=by
 rw[oB,oB]
 have r:∀i,rd (b7 w n) i=rd w (i+n):=uc hw hn
 constructor
 ·intro h k
  have:=h (k - n)
  rw[r,r,show d+(k - (n:Int))+n=d+k by lia,show k - (n:Int)+n=k by lia]at this
  exact this
 ·intro h k
  rw[r,r,show d+k+(n:Int)=d+(k+n) by lia]
  exact h _
theorem M5{w:c5}(hy:Yd y)(hw:SW y w)(d:Int):b8 (bK w) (bK w) d 0↔b8 w w d 0:=by
 rw[oB,oB]
 simp only[jo hw.ne]
 constructor
 ·intro h k
  have:=h (-1 - d - k)
  rw[show -1 - (d+(-1 - d - k))=k by lia,show -1 - (-1 - d - k)=d+k by lia]at this
  exact (dh (hy.lt _ (hw.rd _)) (hy.lt _ (hw.rd _)) this).symm
 ·intro h k
  have:=h (-1 - (d+k))
  rw[<-this,show d+(-1 - (d+k))= -1 - k by lia]
theorem Q9{p:Nat->Bool}(hy:Yd y)(hz:Yd (y.filter p)):M3 (y.filter p) y id false:=
 ⟨hz,hy,λa ha=>(Qag.mp ha).1,λa _ b _ e=>e,λa _=>rfl,λa ha b hb c hc ab ac bc=>by
  rw[FJ hy.nd ha hb hc ab ac bc]
  show My.gr y a b c=_
  cases My.gr y a b c<;>rfl⟩
noncomputable def gF(y:c5):c5:=(y.filter aD).mergeSort λa b=>decide (a<=b)
theorem lJ(y:c5):(gF y).Perm (y.filter aD):=List.mergeSort_perm _ _
theorem Ax(y:c5):(gF y).Pairwise (· <= ·):=
 (List.pairwise_mergeSort (le:=λa b=>decide (a<=b)) (λa b c h1 h2=>decide_eq_true (Qbb (of_decide_eq_true h1) (of_decide_eq_true h2))) (λa b=>by
  rcases Nat.le_total a b with z | z
  ·rw[decide_eq_true z];rfl
  ·rw[decide_eq_true z,Qga]) (y.filter aD)).imp λz=>of_decide_eq_true z
theorem Ec(h:l.Perm (y.filter aD))(p:l.Pairwise (· <= ·)):l=gF y:=FN (h.trans (lJ y).symm) p (Ax y)
theorem Jx(h:Yd y)(he:e∈y):PyProof.Rows.lo1 e∈gF y:=by
 refine (lJ y).mem_iff.mpr (Qag.mpr ?_)
 rcases h.lt e he with z | z
 ·rw[(aM e z).2.1];exact ⟨he,(aM e z).1⟩
 ·rw[(bE e z).2.1];exact ⟨h.cl e he,(aM _ (bE e z).2.2.2).1⟩
theorem kC(h:Yd y):2*(gF y:)=(y:):=by rw[(lJ y).length_eq];exact fz h
structure Pr where
 t:Addr
 c:Nat
 i:Nat
noncomputable def w4(ps:List Pr):List V:=ps.map λp=>V.ref p.t
theorem yF(ps:List Pr):(w4 ps:)=(ps:):=by unfold w4;rw[Xi]
theorem Jy(a:List Pr)(p:Pr):w4 a++[V.ref p.t]=w4 (a++[p]):=by unfold w4;rw[Qao];rfl
theorem M6(a:List Pr):(w4 a).reverse=w4 a.reverse:=by unfold w4;rw[Qef]
theorem Jz{ps:List Pr}{x:V}(h:(w4 ps)[i]? =some x):∃p,ps[i]? =some p/\x=V.ref p.t:=by
 unfold w4 at h
 rw[Qau]at h
 cases e:ps[i]? with
 | none=>rw[e]at h;cases h
 | some p=>rw[e]at h;cases h;exact ⟨p,rfl,rfl⟩
structure rB(H:Hp)(p:Pr):Prop where
 tp:H p.t=some (.tup [.int p.c,.int p.i])
 cz:p.c<1000
 iz:p.i<1000
theorem rB.same{p:Pr}(h:rB H p)(s:ay H H'):rB H' p:=⟨s _ _ h.tp,h.cz,h.iz⟩
structure Od where
 o:Addr
 ps:List Pr
structure FW(H:Hp)(o:Od):Prop where
 tp:H o.o=some (.tup (w4 o.ps))
 pr:∀p∈o.ps,rB H p
 fw:(o.ps:)<=100
theorem FW.same{o:Od}(h:FW H o)(s:ay H H'):FW H' o:=⟨s _ _ h.tp,λp hp=>(h.pr p hp).same s,h.fw⟩
noncomputable def M7(os:List Od):List V:=os.map λo=>V.ref o.o
theorem JA(a:List Od)(p:Od):M7 a++[V.ref p.o]=M7 (a++[p]):=by unfold M7;rw[Qao];rfl
variable{os:List Od}
theorem Q_{o:Od}(h:os[i]? =some o):(M7 os)[i]? =some (V.ref o.o):=by unfold M7;rw[Qau,h];rfl
structure Ct(H:Hp)(dr:Addr)(ws:List c5)(os:List Od):Prop where
 ex:∃wt ot,H dr=some (.tup [.ref wt,.ref ot])/\H wt=some (.tup (ck ws))/\H ot=some (.tup (M7 os))
 od:∀o∈os,FW H o
theorem Ct.same{dr:Addr}(h:Ct H dr ws os)(s:ay H H'):Ct H' dr ws os:=by
 obtain ⟨⟨wt,ot,h1,h2,h3⟩,g⟩:=h
 exact ⟨⟨wt,ot,s _ _ h1,s _ _ h2,s _ _ h3⟩,λo ho=>(g o ho).same s⟩
noncomputable def Cu(y:c5)(os:List Od)(e:Nat):List Pr:=((os[(gF y).idxOf (PyProof.Rows.lo1 e)]?).map Od.ps).getD []
noncomputable def rX(y:c5)(os:List Od)(e:Nat):List Pr:=if isUp e=true then (Cu y os e).reverse else Cu y os e
theorem kD(h:Yd y)(he:e∈y)(ho:2*(os:)=(y:)):∃o∈os,os[(gF y).idxOf (PyProof.Rows.lo1 e)]? =some o/\Cu y os e=o.ps:=by
 have hi:=Qae (Jx h he)
 have hl:=kC h
 have Ss:(gF y).idxOf (PyProof.Rows.lo1 e)<(os:):=by lia
 exact ⟨os[(gF y).idxOf (PyProof.Rows.lo1 e)],Qbk Ss,P4 Ss,by unfold Cu;rw[P4 Ss];rfl⟩
structure Pt where
 t:Addr
 c:Nat
 i:Nat
 e:Nat
noncomputable def Ly(ps:List Pt):List V:=ps.map λp=>V.ref p.t
theorem Ed(ps:List Pt):(Ly ps:)=(ps:):=by unfold Ly;rw[Xi]
theorem JB(a:List Pt)(p:Pt):Ly a++[V.ref p.t]=Ly (a++[p]):=by unfold Ly;rw[Qao];rfl
noncomputable def Pt.is(p:Pt):Nat×Nat×Nat:=(p.c,p.i,p.e)
structure vH(H:Hp)(p:Pt):Prop where
 tp:H p.t=some (.tup [.int p.c,.int p.i,.str (S [p.e])])
 cz:p.c<1000
 iz:p.i<1000
 ez:p.e<128
theorem vH.same{p:Pt}(h:vH H p)(s:ay H H'):vH H' p:=⟨s _ _ h.tp,h.cz,h.iz,h.ez⟩
theorem vH.upd{p:Pt}{q:Addr}(h:vH H p)(n:p.t≠q):vH (L2.upd H q o) p:=⟨by rw[aq n];exact h.tp,h.cz,h.iz,h.ez⟩
noncomputable def gA(y:c5)(os:List Od)(e:Nat):List (Nat×Nat×Nat):=(rX y os e).map λp=>(p.c,p.i,e)
noncomputable def nz(y:c5)(os:List Od):List (Nat×Nat×Nat):=y.flatMap (gA y os)
noncomputable def Pr.pair(p:Pr):Nat×Nat:=(p.c,p.i)
noncomputable def Cv(band l:Nat):Bool:=decide (l=band)||decide (l=aC band)
noncomputable def jC(band c:Nat)(w:c5)(n:Nat):List (Nat×Nat):=((List.range n).filter λi=>Cv band (w.getD i 0)).map λi=>(c,i)
noncomputable def dU(band:Nat)(ws:List c5)(n:Nat):List (Nat×Nat):=(List.range n).flatMap λc=>jC band c (ws|||c) ((ws|||c):)
theorem Cw{band l:Nat}{w:c5}(h:w[i]? =some l):jC band c w (i+1)=jC band c w i++if Cv band l=true then [(c,i)] else []:=by
 have e:w.getD i 0=l:=by rw[Qak,h];rfl
 unfold jC
 rw[Qcy,Qb3,Qao]
 congr 1
 by_cases z:Cv band l=true
 ·rw[if_pos z,Qbo (by rw[e];exact z)];rfl
 ·rw[if_neg z,Qba (by rw[e];exact z)];rfl
theorem Ay{band:Nat}{w:c5}(h:ws[i]? =some w):dU band ws (i+1)=dU band ws i++jC band i w (w:):=by
 have e:(ws|||i)=w:=by rw[Qak,h];rfl
 unfold dU
 rw[Qcy,Qb4]
 congr 1
 rw[Qbu,Qgd,Qa9,e]
structure V2(y:c5)(ws:List c5):Prop where
 jR:(ws:)<=4
 all:∀w∈ws,(∀c∈w,c∈y)/\(w:)<=12
def uh(y:c5)(ws:List c5)(os:List Od):Prop:=(os:)=(gF y:)/\∀(j:Nat) (o:Od) (b:Nat),os[j]? =some o->(gF y)[j]? =some b->(o.ps.map Pr.pair).Perm (dU b ws (ws:))
inductive jD(p_:c6)(vs:List V)(H:Hp)(Q:VK)(dN:XK):Prop
 | mk (y:c5) (dr:Addr) (ws:List c5) (os:List Od) (e:Nat) (_:vs=[.str (S y),.ref dr,.str (S [e])]) (_:Yd y) (_:(y:)<=8) (_:e∈y) (_:2*(os:)=(y:)) (_:Ct H dr ws os) (_:∀(q:Addr) (H':Hp),H q=none->H' q=some (.lst (w4 (rX y os e)))->ay H H'->Q (.ref q) H'):jD p_ vs H Q dN
def mz(p_:c6):Sp:=jD p_
theorem ui(h:mz K vs H Q E):(vs:)=3:=by obtain ⟨c,_,_,_,_,rfl,_⟩:=h;rfl
inductive qS(p_:c6)(vs:List V)(H:Hp)(Q:VK)(dN:XK):Prop
 | mk (y:c5) (dr:Addr) (ws:List c5) (os:List Od) (_:vs=[.str (S y),.ref dr]) (_:Yd y) (_:(y:)<=8) (_:2*(os:)=(y:)) (_:Ct H dr ws os) (_:∀(q:Addr) (ps:List Pt) (H':Hp),H q=none->H' q=some (.lst (Ly ps))->(∀p∈ps,vH H' p/\p.t≠q)->ps.map Pt.is=nz y os->(ps:)<=800->ay H H'->Q (.ref q) H'):qS p_ vs H Q dN
def w5(p_:c6):Sp:=qS p_
theorem Cy(h:w5 K vs H Q E):(vs:)=2:=by obtain ⟨c,_,_,_,rfl,_⟩:=h;rfl
theorem M8{p:Pr}(h:Yd y)(he:e∈y)(ho:2*(os:)=(y:))(hp:p∈rX y os e):∃o∈os,p∈o.ps:=by
 obtain ⟨o,h1,h2,h3⟩:=kD h he ho
 refine ⟨o,h1,?_⟩
 unfold rX at hp
 rw[h3]at hp
 split at hp
 ·exact Qbn.mp hp
 ·exact hp
theorem M9(h:Yd y)(he:e∈y)(ho:2*(os:)=(y:))(hd:∀o∈os,FW H o):(rX y os e:)<=100:=by
 obtain ⟨o,h1,h2,h3⟩:=kD h he ho
 have:=(hd o h1).fw
 unfold rX
 rw[h3]
 split
 ·rw[Qas];exact this
 ·exact this
theorem rB.ts{p:Pr}(h:rB H p)(s:gw H H'):rB H' p:=⟨s _ _ h.tp,h.cz,h.iz⟩
theorem JC{band l:Nat}(hb:band∈aV)(hl:Lt l):decide (PyProof.Rows.lo1 l=band)=Cv band l:=by
 unfold Cv
 rcases hl with h | h
 ·have e:=(aM l h).2.1
  have n:l≠aC band:=λz=>qa _ (aM band hb).2.2 (z▸h)
  rw[e,decide_eq_false n,Qfx]
 ·have e:=(bE l h).2.1
  have n:l≠band:=λz=>qa l h (z▸hb)
  rw[e,decide_eq_false n,Qe8]
  refine decide_eq_decide.mpr ⟨λz=>by rw[<-z,aE (.inr h)],λz=>by rw[z,aE (.inl hb)]⟩
theorem gix{α:Type}{l:List α}(h:l.Nodup)(hi:i<(l:))(hj:j<(l:))(e:l[i]=l[j]):i=j:=by
 have hp:=Qcc.mp h
 rcases Nat.lt_trichotomy i j with z | z | z
 ·exact absurd e (hp i j hi hj z)
 ·exact z
 ·exact absurd e.symm (hp j i hj hi z)
theorem w6{l:List (Nat×Nat×Nat)}(h:l.Nodup){p:Nat×Nat×Nat}(e:l[n]? =some p):l.idxOf p=n:=by
 obtain ⟨hn,e2⟩:=P5.mp e
 have hm:p∈l:=Qaf e
 have hi:=Qae hm
 exact gix h hi hn ((Qbf hi).trans e2.symm)
theorem uj{α:Type}{f:Nat->List α}(g:α->Nat):∀{l:c5},l.Nodup->(∀e∈l,(f e).Nodup)->(∀e∈l,∀p∈f e,g p=e)->(l.flatMap f).Nodup
 | [],_,_,_=>Qcm
 | a::l,hn,h1,h2=>by
  obtain ⟨n1,n2⟩:=Qa5.mp hn
  rw[Qbu,Qbe]
  refine ⟨h1 a Xh,uj g n2 (λe he=>h1 e (Sd _ he)) (λe he=>h2 e (Sd _ he)),λx hx y hy z=>?_⟩
  subst z
  obtain ⟨e,he,hxe⟩:=Qby.mp hy
  have g1:=h2 a Xh x hx
  have g2:=h2 e (Sd _ he) x hxe
  exact n1 (by rw[<-g1,g2];exact he)
theorem JD(band c:Nat)(w:c5)(n:Nat):(jC band c w n).Nodup:=by
 unfold jC
 show (List.map _ _).Pairwise (· ≠ ·)
 rw[Qb1]
 exact (List.nodup_range.filter _).imp λ{i j} h z=>h (by cases z;rfl)
theorem w9(band:Nat)(ws:List c5)(n:Nat):(dU band ws n).Nodup:=
 uj Prod.fst List.nodup_range (λc _=>JD _ _ _ _) λc _ p hp=>by
  unfold jC at hp
  obtain ⟨i,_,rfl⟩:=Qar.mp hp
  rfl
theorem Cz{band:Nat}(hc:c<n)(hi:i<((ws|||c):))(hb:Cv band ((ws|||c).getD i 0)=true):(c,i)∈dU band ws n:=
 Qby.mpr ⟨c,Qb7.mpr hc,Qar.mpr ⟨i,Qag.mpr ⟨Qb7.mpr hi,hb⟩,rfl⟩⟩
theorem uh.at(h:Yd y)(ho:uh y ws os)(he:e∈y):(((rX y os e).map Pr.pair)).Perm (dU (PyProof.Rows.lo1 e) ws (ws:)):=by
 have hl:=kC h
 have Ra:=ho.1
 obtain ⟨o,o1,o2,o3⟩:=kD (os:=os) h he ()
 have hm:=Jx h he
 have hb:(gF y)[(gF y).idxOf (PyProof.Rows.lo1 e)]? =some (PyProof.Rows.lo1 e):=by
  have hi:=Qae hm
  rw[P4 hi,Qbf hi]
 have p:=ho.2 _ o _ o2 hb
 unfold rX
 rw[o3]
 split
 ·rw[Qef]
  exact (Qex _).trans p
 ·exact p
theorem JE(h:Yd y)(ho:uh y ws os):(nz y os).Nodup:=by
 refine uj (λp=>p.2.2) h.nd (λe he=>?_) λe _ p hp=>?_
 ·have hn:=(ho.at h he).nodup_iff.mpr (w9 _ _ _)
  have e1:gA y os e=((rX y os e).map Pr.pair).map λx=>(x.1,x.2,e):=by unfold gA;rw[Qcd];rfl
  rw[e1]
  show (List.map _ _).Pairwise (· ≠ ·)
  rw[Qb1]
  exact hn.imp λ{a b} g z=>g (by cases a;cases b;cases z;rfl)
 ·unfold gA at hp
  obtain ⟨x,_,rfl⟩:=Qar.mp hp
  rfl
theorem JF{l:Nat}{w:c5}(h:Yd y)(ho:uh y ws os)(hw:ws[c]? =some w)(hl:w[i]? =some l)(Su:l∈y)(he:e=l\/e=aC l):(c,i,e)∈nz y os:=by
 have dZ:=h.lt l Su
 have JG:e∈y:=by rcases he with rfl | rfl;exact Su;exact h.cl l Su
 have e1:PyProof.Rows.lo1 e=PyProof.Rows.lo1 l:=by
  rcases he with rfl | rfl
  ·rfl
  ·rcases dZ with g | g
   ·rw[(bE _ (aM l g).2.2).2.1,(aM l g).2.1,aE (.inl g)]
   ·rw[(aM _ (bE l g).2.2.2).2.1,(bE l g).2.1]
 have hb:PyProof.Rows.lo1 l∈aV:=by
  rcases dZ with g | g
  ·rw[(aM l g).2.1];exact g
  ·rw[(bE l g).2.1];exact (bE l g).2.2.2
 have hon:Cv (PyProof.Rows.lo1 l) l=true:=by rw[<-JC hb dZ];exact decide_eq_true rfl
 have d1:(ws|||c)=w:=by rw[Qak,hw];rfl
 have d2:w.getD i 0=l:=by rw[Qak,hl];rfl
 have hm:(c,i)∈(rX y os e).map Pr.pair:=by
  rw[(ho.at h JG).mem_iff,e1]
  exact Cz (P5.mp hw).1 (by rw[d1];exact (P5.mp hl).1) (by rw[d1,d2];exact hon)
 obtain ⟨p,hp,ep⟩:=Qar.mp hm
 refine Qby.mpr ⟨e,JG,Qar.mpr ⟨p,hp,?_⟩⟩
 have e2:p.c=c:=congrArg Prod.fst ep
 have e3:p.i=i:=congrArg Prod.snd ep
 rw[e2,e3]
noncomputable def yG(p:Nat×Nat×Nat):List Key:=[Sum.inl (p.1:Int),Sum.inl (p.2.1:Int),Sum.inr (S [p.2.2])]
theorem JH{p q:Nat×Nat×Nat}(h:yG p=yG q):p=q:=by
 unfold yG at h
 injection h with h1 h2
 injection h2 with h2 h3
 injection h3 with h3 _
 have a1:(p.1:Int)=q.1:=Sum.inl.inj h1
 have a2:(p.2.1:Int)=q.2.1:=Sum.inl.inj h2
 have a3:[p.2.2]=[q.2.2]:=by
  have:=Sum.inr.inj h3
  rw[<-cf [p.2.2],this,cf]
 have a4:p.2.2=q.2.2:=by simpa using a3
 exact Prod.ext () (Prod.ext () a4)
def Nums(ps:List (Nat×Nat×Nat))(aJ:List (List Key×V))(n:Nat):Prop:=∀p∈ps.take n,dM aJ (yG p)=some (.int (ps.idxOf p:Nat))
variable{ps:List (Nat×Nat×Nat)}
theorem Nums.put{aJ:List (List Key×V)}{p:Nat×Nat×Nat}(h:Nums ps aJ n)(hn:ps.Nodup)(e:ps[n]? =some p):Nums ps (putK aJ (yG p) (.int (n:Nat))) (n+1):=λr hr=>by
 rw[zW]
 by_cases z:r=p
 ·rw[if_pos (by rw[z]),z,w6 hn e]
 ·rw[if_neg λg=>z (JH g)]
  rw[<-take_snoc e]at hr
  exact h r ((Qai.mp hr).resolve_right λg=>z (U0.mp g))
noncomputable def Bb(n i:Nat):Nat:=if i=0 then n - 1 else i - 1
theorem CA(h:i<n):Bb n i<n:=by unfold Bb;split<;>lia
theorem Ee(h:i<n):((i:Int) - 1)%(n:Int)=((Bb n i:Nat):Int):=by
 unfold Bb
 split
 ·rename_i z
  subst z
  have:((0:Nat):Int) - 1+(n:Int)=((n - 1:Nat):Int):=by lia
  rw[<-Qde,this]
  exact Qbm () ()
 ·have:(i:Int) - 1=((i - 1:Nat):Int):=by lia
  rw[this]
  exact Qbm () ()
noncomputable abbrev C4:=Nat×Nat×Nat×Nat
noncomputable def mB(ps:List (Nat×Nat×Nat))(c:Nat)(w:c5)(i:Nat):C4:=(c,i,ps.idxOf (c,Bb (w:) i,aC (w.getD (Bb (w:) i) 0)),ps.idxOf (c,i,w.getD i 0))
noncomputable def qg(ps:List (Nat×Nat×Nat))(c:Nat)(w:c5)(n:Nat):List C4:=(List.range n).map (mB ps c w)
noncomputable def hZ(ps:List (Nat×Nat×Nat))(ws:List c5)(n:Nat):List C4:=(List.range n).flatMap λc=>qg ps c (ws|||c) ((ws|||c):)
theorem Az(ps:List (Nat×Nat×Nat))(c:Nat)(w:c5)(n:Nat):qg ps c w (n+1)=qg ps c w n++[mB ps c w n]:=by unfold qg;rw[Qcy,Qao];rfl
theorem yH{w:c5}(h:ws[i]? =some w):hZ ps ws (i+1)=hZ ps ws i++qg ps i w (w:):=by
 have e:(ws|||i)=w:=by rw[Qak,h];rfl
 unfold hZ
 rw[Qcy,Qb4]
 congr 1
 rw[Qbu,Qgd,Qa9,e]
structure Q4 where
 t:Addr
 v:C4
noncomputable def FX(qs:List Q4):List V:=qs.map λq=>V.ref q.t
theorem Ef(qs:List Q4):(FX qs:)=(qs:):=by unfold FX;rw[Xi]
theorem JI(a:List Q4)(q:Q4):FX a++[V.ref q.t]=FX (a++[q]):=by unfold FX;rw[Qao];rfl
theorem Rb{qs:List Q4}{x:V}(h:(FX qs)[i]? =some x):∃q,qs[i]? =some q/\x=V.ref q.t:=by
 unfold FX at h
 rw[Qau]at h
 cases e:qs[i]? with
 | none=>rw[e]at h;cases h
 | some p=>rw[e]at h;cases h;exact ⟨p,rfl,rfl⟩
def vI(H:Hp)(q:Q4):Prop:=H q.t=some (.tup [.int q.v.1,.int q.v.2.1,.int q.v.2.2.1,.int q.v.2.2.2])
theorem vI.ts{q:Q4}(h:vI H q)(s:gw H H'):vI H' q:=s _ _ h
noncomputable def w_(y:c5)(ws:List c5)(os:List Od):List C4:=hZ (nz y os) ws (ws:)
theorem V3{p:Pt}{ps:List Pt}(h:ps.map Pt.is=nz y os)(hi:ps[i]? =some p):(nz y os)[i]? =some p.is:=by rw[<-h,Qau,hi];rfl
inductive gP(p_:c6)(vs:List V)(H:Hp)(Q:VK)(dN:XK):Prop
 | mk (w:c5) (c i:Nat) (_:vs=[.str (S w),.int c,.int i]) (_:(∀l∈w,l<128)) (_:i<(w:)) (_:(w:)<=1000) (_:∀(t t1 t2:Addr) (H':Hp),H' t=some (.tup [.ref t1,.ref t2])->H' t1=some (.tup ((yG (c,Bb (w:) i,aC (w.getD (Bb (w:) i) 0))).map kV))->H' t2=some (.tup ((yG (c,i,w.getD i 0)).map kV))->ay H H'->Q (.ref t) H'):gP p_ vs H Q dN
def iY(p_:c6):Sp:=gP p_
theorem oE(h:iY K vs H Q E):(vs:)=3:=by obtain ⟨c,_,_,rfl,_⟩:=h;rfl
inductive oF(p_:c6)(vs:List V)(H:Hp)(Q:VK)(dN:XK):Prop
 | mk (y:c5) (dr:Addr) (ws:List c5) (os:List Od) (_:vs=[.str (S y),.ref dr]) (_:Yd y) (_:(y:)<=8) (_:V2 y ws) (_:uh y ws os) (_:Ct H dr ws os) (_:∀(q:Addr) (qs:List Q4) (H':Hp),H q=none->H' q=some (.lst (FX qs))->(∀x∈qs,vI H' x)->qs.map Q4.v=w_ y ws os->ay H H'->Q (.ref q) H'):oF p_ vs H Q dN
def uk(p_:c6):Sp:=oF p_
theorem AA(h:uk K vs H Q E):(vs:)=2:=by obtain ⟨c,_,_,_,rfl,_⟩:=h;rfl
theorem M_{p:Pr}(he:y[i]? =some e)(hp:(rX y os e)[m]? =some p):(nz y os)[((y.take i).flatMap (gA y os):)+m]? =some (p.c,p.i,e):=by
 obtain ⟨hi,e1⟩:=P5.mp he
 have hy:y=y.take i++e::y.drop (i+1):=by
  rw[<-e1, <-Qb0 hi,Qaw]
 have h1:nz y os=(y.take i).flatMap (gA y os)++(gA y os e++(y.drop (i+1)).flatMap (gA y os)):=by
  unfold nz
  conv=>lhs;arg 2;rw[hy]
  rw[Qb4,Qbu]
 have h2:(gA y os e)[m]? =some (p.c,p.i,e):=by unfold gA;rw[Qau,hp];rfl
 rw[h1,Qa1 (Nat.le_add_right _ _),Nat.add_sub_cancel_left,Qbg (P5.mp h2).1]
 exact h2
structure CB(y:c5)(ws:List c5)(L:Nat->Bool)(r:Nat->Nat)(M:Nat)(os:List Od):Prop where
 ok:uh y ws os
 asc:∀o∈os,(o.ps.map Pr.pair).Pairwise λs t=>bZ (fB y ws L r M s.1 s.2) (fB y ws L r M t.1 t.2)=true
theorem CC:∀c∈aV++mV,PyProof.Rows.lo1 (aC c)=PyProof.Rows.lo1 c/\isUp c=!aD c:=⋯
theorem FY{α:Type}(F:Nat->List α){k k':Nat}(he:y[k]? =some e)(h:k<k'):((y.take k).flatMap F:)+(F e:)<=((y.take k').flatMap F:):=by
 have e1:(y.take k').take (k+1)=y.take (k+1):=by rw[Qfp,Qa8 ()]
 have e2:y.take k'=y.take (k+1)++(y.take k').drop (k+1):=by rw[<-e1,Qaw]
 rw[e2,Qb4,kb, <-take_snoc he,Qb4,kb]
 simp
theorem qh(hy:Yd y)(ho:uh y ws os)(hs:∀c,c<(ws:)->∀k:Int,rd (ws|||c) k∈y)(hc:c<(ws:))(hi:i<((ws|||c):))(he:e=rd (ws|||c) i\/e=aC (rd (ws|||c) i)):
  e∈y/\∃(m:Nat) (p:Pr),(rX y os e)[m]? =some p/\p.pair=(c,i)/\(nz y os).idxOf (c,i,e)=((y.take (y.idxOf e)).flatMap (gA y os):)+m:=by
 have hw:=hs c hc
 have ey:e∈y:=he.elim (λz=>z▸hw _) λz=>z▸hy.cl _ (hw _)
 have mC:=JF hy ho (c:=c) (i:=i) (l:=rd (ws|||c) i) (e:=e) (w:=(ws|||c)) (by rw[Qak,P4 hc];rfl) (jm hi) (hw _) he
 unfold nz at mC
 obtain ⟨e',GN,hp⟩:=Qby.mp mC
 unfold gA at hp
 obtain ⟨p,rY,mU⟩:=Qar.mp hp
 obtain ⟨q1,q23⟩:=Prod.mk.inj mU
 obtain ⟨q2,q3⟩:=Prod.mk.inj q23
 clear q23
 subst q3
 obtain ⟨m,hm,em⟩:=Qdu rY
 have OT:(rX y os e')[m]? =some p:=by rw[P4 hm,em]
 refine ⟨ey,m,p,OT,by unfold Pr.pair;rw[q1,q2],?_⟩
 have hk:y[y.idxOf e']? =some e':=by rw[P4 (Qae ey),Qbf]
 have:=M_ (os:=os) hk OT
 rw[q1,q2]at this
 exact w6 (JE hy ho) this
theorem JJ(y:c5)(os:List Od)(e:Nat):(gA y os e:)=(rX y os e:):=by unfold gA;rw[Xi]
theorem JK{l:List Pr}{L:Nat->Bool}{r:Nat->Nat}(h:(l.map Pr.pair).Pairwise λs t=>bZ (fB y ws L r M s.1 s.2) (fB y ws L r M t.1 t.2)=true){p q:Pr}(hp:l[m]? =some p)(hq:l[n]? =some q)(ep:p.pair=(c,i))(eq:q.pair=(d,j))(da:(c,i)≠(d,j)):
  m≠n/\decide (m<n)=bZ (fB y ws L r M c i) (fB y ws L r M d j):=by
 have Xy:m≠n:=λz=>da (by rw[z,hq]at hp;rw[<-ep, <-eq,Qaz hp])
 obtain ⟨hm,em⟩:=P5.mp hp
 obtain ⟨hn,en⟩:=P5.mp hq
 refine ⟨Xy,?_⟩
 have key:=Qcc.mp h
 by_cases z:m<n
 ·have:=key m n (by rw[Xi];exact hm) (by rw[Xi];exact hn) z
  rw[Qfa,Qfa,em,en,ep,eq]at this
  rw[decide_eq_true z]
  exact this.symm
 ·have:=key n m (by rw[Xi];exact hn) (by rw[Xi];exact hm) ()
  rw[Qfa,Qfa,em,en,ep,eq]at this
  rw[decide_eq_false z]
  exact (qb this).1.symm
theorem Eg{α:Type}{l:List α}{p:α}(h:l.reverse[m]? =some p):m<(l:)/\l[(l:) - 1 - m]? =some p:=by
 obtain ⟨hm,_⟩:=P5.mp h
 rw[Qas]at hm
 rw[Qdk hm]at h
 exact ⟨hm,h⟩
theorem Rc(hy:Yd y)(hs:∀c,c<(ws:)->∀k:Int,rd (ws|||c) k∈y)(ho:uh y ws os)(c i d j e e':Nat)(hc:c<(ws:))(hd:d<(ws:))(hi:i<((ws|||c):))(hj:j<((ws|||d):))(he:e=rd (ws|||c) i\/e=aC (rd (ws|||c) i))(GN:e'=rd (ws|||d) j\/e'=aC (rd (ws|||d) j))(dZ:y.idxOf e<y.idxOf e'):(nz y os).idxOf (c,i,e)<(nz y os).idxOf (d,j,e'):=by
 obtain ⟨ey,m,p,hm,_,e1⟩:=qh hy ho hs hc hi he
 obtain ⟨ey',m',p',OT,_,e2⟩:=qh hy ho hs hd hj GN
 rw[e1,e2]
 have hk:y[y.idxOf e]? =some e:=by rw[P4 (Qae ey),Qbf]
 have:=FY (gA y os) hk dZ
 rw[JJ]at this
 have GJ:=(P5.mp hm).1
 lia
theorem pos_at(hy:Yd y)(hs:∀c,c<(ws:)->∀k:Int,rd (ws|||c) k∈y)(ho:uh y ws os)(hc:c<(ws:))(hd:d<(ws:))(hi:i<((ws|||c):))(hj:j<((ws|||d):))(hx:aD x=true)(P_:rd (ws|||c) i=x\/rd (ws|||c) i=aC x)(Zr:rd (ws|||d) j=x\/rd (ws|||d) j=aC x):
  ∃o∈os,∃(m n m' n' A B:Nat) (p q p' q':Pr),o.ps[m]? =some p/\o.ps[n]? =some q/\o.ps[(o.ps:) - 1 - m']? =some p'/\o.ps[(o.ps:) - 1 - n']? =some q'/\m'<(o.ps:)/\n'<(o.ps:)/\p.pair=(c,i)/\q.pair=(d,j)/\p'.pair=(c,i)/\q'.pair=(d,j)/\
   (nz y os).idxOf (c,i,x)=A+m/\(nz y os).idxOf (d,j,x)=A+n/\(nz y os).idxOf (c,i,aC x)=B+m'/\(nz y os).idxOf (d,j,aC x)=B+n':=by
 have ol:2*(os:)=(y:):=by rw[ho.1];exact kC hy
 have lc:Lt (rd (ws|||c) i):=hy.lt _ (hs c hc _)
 have ld:Lt (rd (ws|||d) j):=hy.lt _ (hs d hd _)
 have vi:(x=rd (ws|||c) i\/x=aC (rd (ws|||c) i))/\(aC x=rd (ws|||c) i\/aC x=aC (rd (ws|||c) i))/\Lt x:=by
  rcases P_ with z | z
  ·exact ⟨.inl z.symm,.inr (by rw[z]),z▸lc⟩
  ·have hx0:x<128/\x∈aV:=by
    have h9:97<=x/\x<=122:=by unfold aD at hx;simpa using hx
    refine ⟨(),?_⟩
    have:∀k,k<26->k+97∈aV:=by decide
    have h8:=this (x - 97) ()
    rwa [show x - 97+97=x by lia]at h8
   have lx:Lt x:= .inl hx0.2
   exact ⟨.inr (by rw[z,aE lx]),.inl z.symm,lx⟩
 have lx:=vi.2.2
 have vj:(x=rd (ws|||d) j\/x=aC (rd (ws|||d) j))/\(aC x=rd (ws|||d) j\/aC x=aC (rd (ws|||d) j)):=by
  rcases Zr with z | z
  ·exact ⟨.inl z.symm,.inr (by rw[z])⟩
  ·exact ⟨.inr (by rw[z,aE lx]),.inl z.symm⟩
 obtain ⟨xy,m,p,hm,ep,e1⟩:=qh hy ho hs hc hi vi.1
 obtain ⟨_,n,q,hn,eq,e2⟩:=qh hy ho hs hd hj vj.1
 obtain ⟨_,m',p',OT,Pj,BJ⟩:=qh hy ho hs hc hi vi.2.1
 obtain ⟨_,n',q',W_,Zs,Na⟩:=qh hy ho hs hd hj vj.2
 obtain ⟨o,Xz,_,eo⟩:=kD hy xy ol
 have up0:isUp x=false:=by rw[(CC x lx.mem).2,hx];rfl
 have up1:isUp (aC x)=true:=by rw[(CC _ lx.aC.mem).2,gE x lx.mem,hx];rfl
 have s0:rX y os x=o.ps:=by unfold rX;rw[up0,if_neg ∅,eo]
 have s1:rX y os (aC x)=o.ps.reverse:=by
  unfold rX
  rw[up1,if_pos rfl]
  have:Cu y os (aC x)=Cu y os x:=by unfold Cu;rw[(CC x lx.mem).1]
  rw[this,eo]
 rw[s0]at hm hn
 rw[s1]at OT W_
 obtain ⟨b1,GJ⟩:=Eg OT
 obtain ⟨b2,ve⟩:=Eg W_
 exact ⟨o,Xz,m,n,m',n',_,_,p,q,p',q',hm,hn,GJ,ve,b1,b2,ep,eq,Pj,Zs,e1,e2,BJ,Na⟩
theorem lies_of{L:Nat->Bool}{r:Nat->Nat}(hy:Yd y)(hs:∀c,c<(ws:)->SW y (ws|||c))(h:CB y ws L r M os):Lies y ws L r M λc i e=>(nz y os).idxOf (c,i,e):=by
 refine ⟨Rc hy (λc hc=>(hs c hc).rd) h.ok,λc i d j x hc hd hi hj da hx P_ Zr=>?_⟩
 obtain ⟨o,Xz,m,n,m',n',A,B,p,q,p',q',hm,hn,GJ,ve,b1,b2,ep,eq,Pj,Zs,e1,e2,BJ,Na⟩:=pos_at hy (λc hc=>(hs c hc).rd) h.ok hc hd hi hj hx P_ Zr
 have k1:=JK (h.asc o Xz) hm hn ep eq da
 have k2:=JK (h.asc o Xz) GJ ve Pj Zs da
 rw[e1,e2,BJ,Na]
 refine ⟨(),(),?_,?_⟩
 ·rw[<-k1.2];exact decide_eq_decide.mpr ()
 ·rw[<-k2.2];exact decide_eq_decide.mpr ()
noncomputable def rZ(st:Nat->Nat)(T R:c5):c5:=T.filter λx=>R.any λe=>decide (st e=x)
noncomputable def FZ(st:Nat->Nat)(T R:c5)(p:Nat):Nat:=if st p=p then 0 else (((rZ st T (p::R)).filter λx=>decide (st p<x)):)
noncomputable def Lz(st:Nat->Nat):c5->c5->Nat
 | _,[]=>0
 | T,p::R=>FZ st T R p+Lz st (T++[p]) R
structure JL(ch:List (Nat×Nat))(st:Nat->Nat)(P:c5):Prop where
 lt:∀x∈ch,x.1<x.2
 nd:(ch.flatMap λx=>[x.1,x.2]).Nodup
 pm:P.Perm (ch.flatMap λx=>[x.1,x.2])
 up:P.Pairwise (· < ·)
 st:∀x∈ch,st x.1=x.1/\st x.2=x.1
section
variable{ch:List (Nat×Nat)}{st:Nat->Nat}{P:c5}
theorem JL.pt(h:JL ch st P)(hp:p∈P):∃x∈ch,p=x.1\/p=x.2:=by
 obtain ⟨x,hx,e⟩:=Qby.mp (h.pm.mem_iff.mp hp)
 exact ⟨x,hx,by simpa using e⟩
theorem JL.in1(h:JL ch st P){x:Nat×Nat}(hx:x∈ch):x.1∈P/\x.2∈P:=⟨h.pm.mem_iff.mpr (Qby.mpr ⟨x,hx,by simp⟩),h.pm.mem_iff.mpr (Qby.mpr ⟨x,hx,by simp⟩)⟩
theorem AB:∀{ch:List (Nat×Nat)},(ch.flatMap λx=>[x.1,x.2]).Nodup->∀x∈ch,∀z∈ch,(x.1=z.1\/x.2=z.2\/x.1=z.2)->x=z
 | [],_,x,hx,_,_,_=>absurd hx Qan
 | a::r,nd,x,hx,z,hz,e=>by
  rw[Qbu,Qbe]at nd
  obtain ⟨n1,n2,n3⟩:=nd
  have inr:∀z∈r,z.1∈r.flatMap (λx=>[x.1,x.2])/\z.2∈r.flatMap (λx=>[x.1,x.2]):=λz hz=>⟨Qby.mpr ⟨z,hz,by simp⟩,Qby.mpr ⟨z,hz,by simp⟩⟩
  have a12:a.1≠a.2:=by
   rw[Qa5]at n1
   simpa using n1.1
  rcases Qab.mp hx with rfl | Sf<;>rcases Qab.mp hz with rfl | Sv
  ·rfl
  ·exfalso
   rcases e with e | e | e
   ·exact n3 x.1 (by simp) z.1 (inr z Sv).1 e
   ·exact n3 x.2 (by simp) z.2 (inr z Sv).2 e
   ·exact n3 x.1 (by simp) z.2 (inr z Sv).2 e
  ·exfalso
   rcases e with e | e | e
   ·exact n3 z.1 (by simp) x.1 (inr x Sf).1 e.symm
   ·exact n3 z.2 (by simp) x.2 (inr x Sf).2 e.symm
   ·exact n3 z.2 (by simp) x.1 (inr x Sf).1 e.symm
  ·exact AB n2 x Sf z Sv e
theorem JM(h:JL ch st P){T R:c5}(e:P=T++p::R)(hs:st p=p):rZ st (T++[p]) R=rZ st T (p::R)++[p]:=by
 obtain ⟨x,hx,hp⟩:=h.pt (p:=p) (by rw[e];simp)
 have Rf:p=x.1:=hp.elim id λz=>by rw[z,(h.st x hx).2]at hs;rw[z, <-hs]
 have up:=h.up
 rw[e,Qbd,Qbw]at up
 obtain ⟨u1,⟨u2,u3⟩,u4⟩:=up
 have hR:x.2∈R:=by
  have:=(h.in1 hx).2
  rw[e]at this
  rcases Qai.mp this with q | q
  ·have:=u4 _ q p Xh
   have:=h.lt x hx
   lia
  ·rcases Qab.mp q with q | q
   ·have:=h.lt x hx
    lia
   ·exact q
 unfold rZ
 rw[Qb3]
 congr 1
 ·refine Qdl λz hz=>?_
  rw[Qdh,decide_eq_false (λq=>by have:=u4 z hz p Xh;lia),Qe8]
 ·have:(R.any λe=>decide (st e=p))=true:=Qfc.mpr ⟨x.2,hR,decide_eq_true (by rw[(h.st x hx).2,Rf])⟩
  rw[Qbo (p:=λx=>R.any λe=>decide (st e=x)) this]
  rfl
theorem erase_filter{s:Nat}{p q:Nat->Bool}:∀{T:c5},T.Nodup->q s=true->p s=false->(∀x,x≠s->q x=p x)->(T.filter q).erase s=T.filter p
 | [],_,_,_,_=>rfl
 | a::T,nd,hq,hp,h=>by
  rw[Qa5]at nd
  by_cases z:a=s
  ·subst z
   rw[Qbo hq,List.erase_cons_head,Qba (by rw[hp];decide)]
   exact Qdl λx hx=>h x λq=>nd.1 (q▸hx)
  ·have ih:=erase_filter nd.2 hq hp h
   cases e:p a
   ·rw[Qba (by rw[h a z,e];decide),Qba (by rw[e];decide)]
    exact ih
   ·rw[Qbo (by rw[h a z,e]),Qbo e,List.erase_cons_tail (by simpa using z),ih]
theorem Rg(h:JL ch st P){T R:c5}(e:P=T++p::R)(hs:st p≠p):rZ st (T++[p]) R=(rZ st T (p::R)).erase (st p)/\st p∈rZ st T (p::R):=by
 obtain ⟨x,hx,hp⟩:=h.pt (p:=p) (by rw[e];simp)
 have Rf:p=x.2:=hp.elim (λz=>absurd (by rw[z,(h.st x hx).1]) hs) id
 have qJ:st p=x.1:=by rw[Rf,(h.st x hx).2]
 have up:=h.up
 rw[e,Qbd,Qbw]at up
 obtain ⟨u1,⟨u2,u3⟩,u4⟩:=up
 have only:∀z∈R,st z≠x.1:=λz hz q=>by
  obtain ⟨v,hv,Vk⟩:=h.pt (p:=z) (by rw[e];simp[hz])
  have hzp:=u2 z hz
  rcases Vk with r | r
  ·rw[r,(h.st v hv).1]at q
   have:=AB h.nd v hv x hx (.inl q)
   subst this
   have:=h.lt v hv
   lia
  ·rw[r,(h.st v hv).2]at q
   have:=AB h.nd v hv x hx (.inl q)
   subst this
   lia
 have none:∀z∈R,st z≠p:=λz hz q=>by
  obtain ⟨v,hv,Vk⟩:=h.pt (p:=z) (by rw[e];simp[hz])
  have:st z=v.1:=Vk.elim (λr=>by rw[r,(h.st v hv).1]) λr=>by rw[r,(h.st v hv).2]
  rw[this,Rf]at q
  have:=AB h.nd v hv x hx (.inr (.inr q))
  subst this
  have:=h.lt v hv
  lia
 have hT:x.1∈T:=by
  have:=(h.in1 hx).1
  rw[e]at this
  have l:=h.lt x hx
  rcases Qai.mp this with q | q
  ·exact q
  ·rcases Qab.mp q with q | q
   ·lia
   ·have:=u2 _ q
    lia
 have nd:T.Nodup:=Qf6 (λh=>Qa0 h) u1
 have hq:((p::R).any λe=>decide (st e=x.1))=true:=by rw[Qdh,decide_eq_true qJ];rfl
 refine ⟨?_,?_⟩
 ·rw[qJ]
  unfold rZ
  rw[Qb3,Qba (by
   rw[Bool.not_eq_true,Qf5]
   exact λz hz=>by simpa using none z hz),List.filter_nil,Qa9]
  refine (erase_filter nd hq ?_ λz hz=>?_).symm
  ·rw[Qf5]
   exact λz hz=>by simpa using only z hz
  ·rw[Qdh,decide_eq_false (by rw[qJ];exact Ne.symm hz),Qe8]
 ·rw[qJ]
  exact Qag.mpr ⟨hT,hq⟩
noncomputable def o_(x z:Nat×Nat):Bool:=decide (x.1<z.1)&&(decide (z.1<x.2)&&decide (x.2<z.2))
theorem JN(h:JL ch st P){T R:c5}{x:Nat×Nat}(hx:x∈ch)(e:P=T++x.2::R):FZ st T R x.2=(ch.filter (o_ x):):=by
 have l:=h.lt x hx
 have qJ:=(h.st x hx).2
 have up:=h.up
 rw[e,Qbd,Qbw]at up
 obtain ⟨u1,⟨u2,u3⟩,u4⟩:=up
 unfold FZ
 rw[if_neg (),qJ, <-Xi (as:=ch.filter (o_ x)) (f:=Prod.fst)]
 refine List.Perm.length_eq ((Qb6 ?_ ?_).mpr λa=>?_)
 ·exact (Qf6 (λh=>Qa0 h) ((u1.filter _).filter _))
 ·have nd:(ch.map Prod.fst).Nodup:=by
   have:∀{ch:List (Nat×Nat)},(ch.flatMap λx=>[x.1,x.2]).Nodup->(ch.map Prod.fst).Nodup:=λ{ch}=>by
    induction ch with
    | nil=>exact λ_=>List.Pairwise.nil
    | cons a r ih=>
     intro nd
     rw[Qbu,Qbe]at nd
     rw[Qa2,Qa5]
     refine ⟨λq=>?_,ih nd.2.1⟩
     obtain ⟨z,hz,ez⟩:=Qar.mp q
     exact nd.2.2 a.1 (by simp) z.1 (Qby.mpr ⟨z,hz,by simp⟩) ez.symm
   exact this h.nd
  exact List.Nodup.sublist (List.Sublist.map _ List.filter_sublist) nd
 ·rw[Qag,Qar]
  unfold rZ
  rw[Qag,decide_eq_true_iff,Qfc]
  constructor
  ·rintro ⟨⟨a1,p,hp,ep⟩,a2⟩
   have ep:=of_decide_eq_true ep
   obtain ⟨z,hz,Zt⟩:=h.pt (p:=p) (by rw[e];exact Qal _ hp)
   have:st p=z.1:=Zt.elim (λr=>by rw[r,(h.st z hz).1]) λr=>by rw[r,(h.st z hz).2]
   rw[this]at ep
   have ax:=u4 a a1 x.2 Xh
   have pz:p=z.2:=Zt.elim (λr=>by
    have:=u4 a a1 p hp
    lia) id
   have px:x.2<p:=by
    rcases Qab.mp hp with q | q
    ·rw[q]at pz
     have:=AB h.nd x hx z hz (.inr (.inl pz))
     subst this
     lia
    ·exact u2 p q
   refine ⟨z,Qag.mpr ⟨hz,?_⟩,ep⟩
   unfold o_
   rw[Qb9,Qb9,decide_eq_true_iff,decide_eq_true_iff,decide_eq_true_iff]
   lia
  ·rintro ⟨z,hz,rfl⟩
   obtain ⟨hz,q⟩:=Qag.mp hz
   unfold o_ at q
   rw[Qb9,Qb9,decide_eq_true_iff,decide_eq_true_iff,decide_eq_true_iff]at q
   have i1:=(h.in1 hz).1
   have i2:=(h.in1 hz).2
   rw[e]at i1 i2
   refine ⟨⟨?_,z.2,?_,decide_eq_true (h.st z hz).2⟩,q.1⟩
   ·rcases Qai.mp i1 with r | r
    ·exact r
    ·rcases Qab.mp r with r | r
     ·lia
     ·have:=u2 _ r;lia
   ·rcases Qai.mp i2 with r | r
    ·have:=u4 _ r x.2 Xh;lia
    ·exact r
theorem JO(h:JL ch st P):∀(R T:c5),P=T++R->Lz st T R=(R.map λp=>if st p=p then 0 else (ch.filter (o_ (st p,p)):)).sum
 | [],_,_=>rfl
 | p::R,T,e=>by
  rw[Qa2,Qda, <-JO h R (T++[p]) (by rw[e];simp)]
  show FZ st T R p+_=_
  congr 1
  by_cases z:st p=p
  ·rw[if_pos z];unfold FZ;rw[if_pos z]
  ·rw[if_neg z]
   obtain ⟨x,hx,hp⟩:=h.pt (p:=p) (by rw[e];simp)
   have Rf:p=x.2:=hp.elim (λq=>absurd (by rw[q,(h.st x hx).1]) z) id
   have qJ:st p=x.1:=by rw[Rf,(h.st x hx).2]
   rw[qJ]
   subst Rf
   exact JN h hx e
theorem Rh(h:JL ch st P):Lz st [] P=(ch.map λx=>(ch.filter (o_ x):)).sum:=by
 rw[JO h P [] rfl,(h.pm.map _).sum_nat]
 have:∀l:List (Nat×Nat),(∀x∈l,x∈ch)->(((l.flatMap λx=>[x.1,x.2]).map λp=>if st p=p then 0 else (ch.filter (o_ (st p,p)):)).sum)=(l.map λx=>(ch.filter (o_ x):)).sum:=λl hl=>by
  induction l with
  | nil=>rfl
  | cons a r ih=>
   have ha:=h.st a (hl a Xh)
   have la:=h.lt a (hl a Xh)
   rw[Qbu,Qao,List.sum_append_nat,ih λx hx=>hl x (Sd _ hx),Qa2,Qda]
   congr 1
   show (if st a.1=a.1 then 0 else _)+((if st a.2=a.2 then 0 else (ch.filter (o_ (st a.2,a.2)):))+0)=_
   rw[if_pos ha.1,if_neg (),ha.2,Qd2,Qf3]
 exact this ch λx hx=>hx
theorem F_{α:Type}(X:α->α->Bool)(hd:∀x,X x x=false)(ha:∀x z,X x z=true->X z x=false):∀l:List α,(l.map λx=>(l.filter (X x):)).sum=cl (λx z=>X x z||X z x) l:=λl=>by
 have key:∀(a:α) (l:List α),((l.filter λz=>X a z||X z a):)=(l.filter (X a):)+(l.map λz=>if X z a=true then 1 else 0).sum:=λa l=>by
  induction l with
  | nil=>rfl
  | cons b r ih=>
   have:=ha a b
   simp only[Qfb,Qa2,Qda]
   cases e1:X a b<;>cases e2:X b a
   ·simp[ih]
   ·simp[ih];lia
   ·simp[ih];lia
   ·rw[this e1]at e2;cases e2
 induction l with
 | nil=>rfl
 | cons a r ih=>
  show (((a::r).map λx=>((a::r).filter (X x):)).sum)=((r.filter λz=>X a z||X z a):)+cl _ r
  rw[Qa2,Qda,Qba (by rw[hd a];decide),key a r, <-ih]
  have e:∀l:List α,(l.map λx=>((a::r).filter (X x):)).sum=(l.map λz=>if X z a=true then 1 else 0).sum+(l.map λx=>(r.filter (X x):)).sum:=λl=>by
   induction l with
   | nil=>rfl
   | cons b l ih2=>
    rw[Qa2,Qda,ih2,Qa2,Qda,Qa2,Qda]
    cases e1:X b a
    ·rw[Qba (by rw[e1];decide)]
     simp;lia
    ·rw[Qbo e1]
     simp;lia
  rw[e r]
  lia
theorem V4(h:JL ch st P):Lz st [] P=cl (λx z=>o_ x z||o_ z x) ch:=by
 rw[Rh h,F_]
 ·intro x;unfold o_;rw[decide_eq_false (Qbx _)];rfl
 ·intro x z q
  unfold o_ at q ⊢
  rw[Qb9,Qb9,decide_eq_true_iff,decide_eq_true_iff,decide_eq_true_iff]at q
  rw[decide_eq_false ()]
  rfl
end
noncomputable def OU(p q:Nat):Int:=if (q:Int)<p then q else p
noncomputable def fG(cs:List C4):c5:=cs.flatMap λx=>[x.2.2.1,x.2.2.2]
noncomputable def g9(cs:List C4):List (Key×V):=cs.flatMap λx=>[(Sum.inl (x.2.2.1:Int),V.int (OU x.2.2.1 x.2.2.2)),(Sum.inl (x.2.2.2:Int),V.int (OU x.2.2.1 x.2.2.2))]
noncomputable def um(cs:List C4):List (Nat×Nat):=cs.map λx=>(min x.2.2.1 x.2.2.2,max x.2.2.1 x.2.2.2)
theorem iZ:∀cs:List C4,(g9 cs).map (·.1)=(fG cs).map λn:Nat=>(Sum.inl (n:Int):Key)
 | []=>rfl
 | x::r=>by
  unfold g9 fG
  rw[Qbu,Qbu,Qao,Qao]
  exact congrArg _ (iZ r)
variable{aJ:List (Key×V)}
theorem AD{k:Key}(h:k∉aJ.map (·.1)):dM aJ k=none:=by
 induction aJ with
 | nil=>rfl
 | cons a r ih=>
  rw[Qa2,Qab,not_or]at h
  rw[cY (λe=>h.1 e.symm),ih h.2]
theorem JP(nd:(aJ.map (·.1)).Nodup){k:Key}{v:V}(h:(k,v)∈aJ):dM aJ k=some v:=by
 induction aJ with
 | nil=>exact absurd h Qan
 | cons a r ih=>
  rw[Qa2,Qa5]at nd
  rcases Qab.mp h with e | e
  ·subst e;exact dB rfl
  ·rw[cY (λz=>nd.1 (Qar.mpr ⟨_,e,z.symm⟩))]
   exact ih nd.2 e
theorem Ri:∀{l:c5},l.Nodup->(l.map λn:Nat=>(Sum.inl (n:Int):Key)).Nodup:=λ{l} h=>Qb1.mpr (h.imp λyj z=>yj (by have:=Sum.inl.inj z;lia))
noncomputable def ins(l:c5):List V:=l.map λn=>V.int (n:Nat)
theorem oG(l:c5):(ins l:)=(l:):=by unfold ins;rw[Xi]
theorem JQ(l:c5)(n:Nat):ins l++[V.int (n:Nat)]=ins (l++[n]):=by unfold ins;rw[Qao];rfl
theorem JR(h:l[i]? =some n):(ins l)[i]? =some (V.int (n:Nat)):=by unfold ins;rw[Qau,h];rfl
inductive h7(p_:c6)(vs:List V)(H:Hp)(Q:VK)(dN:XK):Prop
 | mk (a:Addr) (qs:List Q4) (_:vs=[.ref a]) (_:H a=some (.lst (FX qs))) (_:(∀x∈qs,vI H x)) (_:(qs:)<=1000) (_:(fG (qs.map Q4.v)).Nodup) (_:∀d H',H d=none->H' d=some (.dK (g9 (qs.map Q4.v)))->ay H H'->Q (.ref d) H'):h7 p_ vs H Q dN
def jE(p_:c6):Sp:=h7 p_
theorem qj(h:jE K vs H Q E):(vs:)=1:=by obtain ⟨_,_,rfl,_⟩:=h;rfl
inductive kE(p_:c6)(vs:List V)(H:Hp)(Q:VK)(dN:XK):Prop
 | mk (a:Addr) (l:c5) (p:Nat) (_:vs=[.ref a,.int p]) (_:H a=some (.lst (ins l))) (_:l.Pairwise (· < ·)) (_:p∈l) (_:(l:)<=100000) (_:Q (.int (l.idxOf p:Nat)) H):kE p_ vs H Q dN
def oH(p_:c6):Sp:=kE p_
theorem vJ(h:oH K vs H Q E):(vs:)=2:=by obtain ⟨_,_,_,rfl,_⟩:=h;rfl
inductive gB(p_:c6)(vs:List V)(H:Hp)(Q:VK)(dN:XK):Prop
 | mk (a:Addr) (qs:List Q4) (_:vs=[.ref a]) (_:H a=some (.lst (FX qs))) (_:(∀x∈qs,vI H x)) (_:(qs:)<=24) (_:(fG (qs.map Q4.v)).Nodup) (_:∀H',ay H H'->Q (.int (cl (λx z=>o_ x z||o_ z x) (um (qs.map Q4.v)):Nat)) H'):gB p_ vs H Q dN
def h_(p_:c6):Sp:=gB p_
theorem m6(h:h_ K vs H Q E):(vs:)=1:=by obtain ⟨_,_,rfl,_⟩:=h;rfl
theorem Ga(cs:List C4)(x:C4):fG (cs++[x])=fG cs++[x.2.2.1,x.2.2.2]:=by unfold fG;rw[Qb4,Qd6]
theorem Gb(cs:List C4)(x:C4):g9 (cs++[x])=g9 cs++[(Sum.inl (x.2.2.1:Int),V.int (OU x.2.2.1 x.2.2.2)),(Sum.inl (x.2.2.2:Int),V.int (OU x.2.2.1 x.2.2.2))]:=by unfold g9;rw[Qb4,Qd6]
theorem AE(cs:List C4):(g9 cs:)=2*(cs:):=by
 induction cs with
 | nil=>rfl
 | cons x r ih=>
  unfold g9 at ih ⊢
  rw[Qbu,kb,ih,Qa4]
  show 2+2*(r:)=2*((r:)+1)
  lia
variable{cs:List C4}
theorem Nb{x:C4}(nd:(fG (cs++[x])).Nodup):putK (putK (g9 cs) (Sum.inl (x.2.2.1:Int)) (V.int (OU x.2.2.1 x.2.2.2))) (Sum.inl (x.2.2.2:Int)) (V.int (OU x.2.2.1 x.2.2.2))=g9 (cs++[x]):=by
 rw[Ga,Qbe]at nd
 obtain ⟨n1,n2,n3⟩:=nd
 have k:∀n:Nat,n∉fG cs->(Sum.inl (n:Int):Key)∉(g9 cs).map (·.1):=λn hn z=>by
  rw[iZ]at z
  obtain ⟨m,hm,e⟩:=Qar.mp z
  have:m=n:=by have:=Sum.inl.inj e;lia
  exact hn (this▸hm)
 have h1:x.2.2.1∉fG cs:=λz=>n3 _ z _ (by simp) rfl
 have h2:x.2.2.2∉fG cs:=λz=>n3 _ z _ (by simp) rfl
 have h3:x.2.2.1≠x.2.2.2:=by
  rw[Qa5]at n2
  simpa using n2.1
 rw[zX _ (AD (k _ h1)),zX,Gb,Qam]
 ·rfl
 ·refine AD λz=>?_
  rw[Qao,Qai]at z
  rcases z with z | z
  ·exact k _ h2 z
  ·have:=Sum.inl.inj (U0.mp z)
   lia
noncomputable def dj(cs:List C4)(p:Nat):Nat:=(((dM (g9 cs) (Sum.inl (p:Int))).map λv=>match v with | .int i=>i.toNat | _=>0).getD 0)
theorem JS(p q:Nat):OU p q=(min p q:Nat):=by unfold OU;split<;>lia
theorem OV(nd:(fG cs).Nodup){x:C4}(hx:x∈cs):(dM (g9 cs) (Sum.inl (x.2.2.1:Int))=some (.int (min x.2.2.1 x.2.2.2:Nat))/\dM (g9 cs) (Sum.inl (x.2.2.2:Int))=some (.int (min x.2.2.1 x.2.2.2:Nat)))/\dj cs x.2.2.1=min x.2.2.1 x.2.2.2/\dj cs x.2.2.2=min x.2.2.1 x.2.2.2:=by
 have kn:((g9 cs).map (·.1)).Nodup:=by rw[iZ];exact Ri nd
 have e1:dM (g9 cs) (Sum.inl (x.2.2.1:Int))=some (.int (min x.2.2.1 x.2.2.2:Nat)):=by
  rw[<-JS]
  exact JP kn (Qby.mpr ⟨x,hx,by simp⟩)
 have e2:dM (g9 cs) (Sum.inl (x.2.2.2:Int))=some (.int (min x.2.2.1 x.2.2.2:Nat)):=by
  rw[<-JS]
  exact JP kn (Qby.mpr ⟨x,hx,by simp⟩)
 refine ⟨⟨e1,e2⟩,?_,?_⟩
 ·unfold dj;rw[e1];exact Qap _
 ·unfold dj;rw[e2];exact Qap _
theorem Eh(cs:List C4):((um cs).flatMap λx=>[x.1,x.2]).Perm (fG cs):=by
 induction cs with
 | nil=>exact .nil
 | cons x r ih=>
  unfold um fG at ih ⊢
  rw[Qa2,Qbu,Qbu]
  refine List.Perm.append ?_ ih
  show [min x.2.2.1 x.2.2.2,max x.2.2.1 x.2.2.2].Perm [x.2.2.1,x.2.2.2]
  by_cases z:x.2.2.1<=x.2.2.2
  ·rw[Qa8 z,Qdm z]
  ·rw[Qco (),Qdf ()]
   exact List.Perm.swap _ _ _
theorem Rj{P:c5}(nd:(fG cs).Nodup)(hp:P.Perm (fG cs))(up:P.Pairwise (· < ·)):JL (um cs) (dj cs) P:=by
 refine ⟨λx hx=>?_,((Eh cs).nodup_iff).mpr nd,hp.trans (Eh cs).symm,up,λx hx=>?_⟩
 ·obtain ⟨c,hc,rfl⟩:=Qar.mp hx
  have da:c.2.2.1≠c.2.2.2:=λz=>by
   have:∀{cs:List C4},(fG cs).Nodup->∀c∈cs,c.2.2.1≠c.2.2.2:=λ{cs}=>by
    induction cs with
    | nil=>exact λ_ _ h=>absurd h Qan
    | cons a r ih=>
     intro nd c hc
     unfold fG at nd
     rw[Qbu,Qbe]at nd
     rcases Qab.mp hc with e | e
     ·subst e
      have:=nd.1
      rw[Qa5]at this
      simpa using this.1
     ·exact ih nd.2.1 c e
   exact this nd c hc z
  show min c.2.2.1 c.2.2.2<max c.2.2.1 c.2.2.2
  lia
 ·obtain ⟨c,hc,rfl⟩:=Qar.mp hx
  obtain ⟨_,e1,e2⟩:=OV nd hc
  show dj cs (min c.2.2.1 c.2.2.2)=min c.2.2.1 c.2.2.2/\dj cs (max c.2.2.1 c.2.2.2)=min c.2.2.1 c.2.2.2
  by_cases z:c.2.2.1<=c.2.2.2
  ·rw[Qa8 z,Qdm z]at*
   exact ⟨e1,e2⟩
  ·rw[Qco (),Qdf ()]at*
   exact ⟨e2,e1⟩
theorem JT(h:p∈l):l.eraseIdx (l.idxOf p)=l.erase p:=(List.erase_eq_eraseIdx_of_idxOf rfl).symm
theorem behind(up:l.Pairwise (· < ·))(h:p∈l):(l.erase p:) - l.idxOf p=((l.filter λx=>decide (p<x)):):=by
 induction l with
 | nil=>exact absurd h Qan
 | cons a r ih=>
  rw[Qbw]at up
  by_cases z:a=p
  ·subst z
   rw[List.erase_cons_head,List.idxOf_cons_self,Qba (by simp),Qc5.mpr (λx hx=>decide_eq_true (up.1 x hx))]
   rfl
  ·have hr:=(Qab.mp h).resolve_left (Ne.symm z)
   rw[List.erase_cons_tail (by simpa using z),m4,if_neg z,Qba (by
    have:=up.1 p hr
    simp;lia), <-ih up.2 hr,Qa4]
   lia
variable{st:Nat->Nat}
theorem Rk{P T R:c5}(h:P.Pairwise (· < ·))(e:P=T++R)(R':c5):(rZ st T R').Pairwise (· < ·):=by
 rw[e,Qbd]at h
 exact h.1.filter _
theorem Nd{T R:c5}:(rZ st T R:)<=T.length:=Qcz _ _
theorem Rl(nd:(fG cs).Nodup)(hp:p∈fG cs):dM (g9 cs) (Sum.inl (p:Int))=some (.int (dj cs p:Nat)):=by
 unfold fG at hp
 obtain ⟨x,hx,e⟩:=Qby.mp hp
 obtain ⟨⟨e1,e2⟩,e3,e4⟩:=OV nd hx
 have e':p=x.2.2.1\/p=x.2.2.2:=by simpa using e
 rcases e' with rfl | rfl
 ·rw[e1,e3]
 ·rw[e2,e4]
theorem CD{ms:List Int}(nd:l.Nodup)(hp:ms.Perm (l.map λn:Nat=>(n:Int)))(hw:ms.Pairwise λa b=> ¬b<a):∃P:c5,ms.map V.int=ins P/\P.Perm l/\P.Pairwise (· < ·):=by
 have mC:∀m∈ms,∃n:Nat,m=n:=λm hm=>by
  obtain ⟨n,_,rfl⟩:=Qar.mp (hp.mem_iff.mp hm)
  exact ⟨n,rfl⟩
 have e1:ms=(ms.map Int.toNat).map λn:Nat=>(n:Int):=by
  rw[Qcd]
  refine (Qez ms).symm.trans (Qdt λm hm=>?_)
  obtain ⟨n,rfl⟩:=mC m hm
  exact (congrArg _ (Qap n)).symm
 have p1:(ms.map Int.toNat).Perm l:=by
  have:=hp.map Int.toNat
  rw[Qcd]at this
  have e2:l.map (Int.toNat ∘ λn:Nat=>(n:Int))=l:=(Qdt λn _=>Qap n).trans (Qez l)
  rwa [e2]at this
 refine ⟨ms.map Int.toNat,?_,p1,?_⟩
 ·unfold ins
  conv=>lhs;rw[e1]
  rw[Qcd]
  rfl
 ·have QO:(ms.map Int.toNat).Nodup:=p1.nodup_iff.mpr nd
  have hw2:(ms.map Int.toNat).Pairwise λa b=> ¬b<a:=by
   rw[e1,Qb1]at hw
   exact hw.imp λh z=>h ()
  refine Qf6 (λ{a b} h=>?_) (List.Pairwise.and hw2 QO)
  have:=h.1
  have:=h.2
  lia
theorem JU{P:c5}{k:Nat}(h:P[k]? =some p):Lz st (P.take k) (P.drop k)=FZ st (P.take k) (P.drop (k+1)) p+Lz st (P.take (k+1)) (P.drop (k+1)):=by
 obtain ⟨hk,e⟩:=P5.mp h
 rw[Qb0 hk,e]
 show FZ st _ _ p+Lz st (P.take k++[p]) _=_
 rw[take_snoc h]
theorem V5{k:Nat}(h:k<n):seqIndex? (k:Int) n=some k:=by
 unfold seqIndex?
 simp
 lia
theorem xa:∀(l:c5) (k:Nat),(ins l).eraseIdx k=ins (l.eraseIdx k)
 | [],_=>rfl
 | _::_,0=>rfl
 | a::l,k+1=>congrArg (V.int (a:Nat):: ·) (xa l k)
noncomputable def cst(y w:c5)(i:Int):Int:=rz y (aC (rd w (i - 1))) (rd w i)
theorem JV(y w:c5)(p k:Int):fh y (sq w p) k=cst y w (p+k):=by
 unfold fh cst sq
 rw[show p+(k - 1)=p+k - 1 by lia]
noncomputable def Bc(n:Int):Nat:=(48+n).toNat
noncomputable def stx(y w:c5):c5:=(List.range (w:)).map λi:Nat=>Bc (cst y w i)
theorem eF(y w:c5):(stx y w:)=(w:):=by unfold stx;rw[Xi,Qe0]
theorem Rm:∀n:Nat,n<10->dg n=[48+n]:=⋯
noncomputable def kF(lg n:Nat):Nat:=3+lg / max n 1
noncomputable def qk(y u:c5)(lg r:Nat):List (Str×V):=fj "backward" (.str (S (fo (kF lg (u:)) (stx y u).reverse))) (fj "onward" (.str (S (fo (kF lg (u:)) (stx y u)))) (fj "leads" (.bl (leads u)) (fj "root_size" (.int r) (fj "size" (.int (u:)) []))))
noncomputable def OW(t w:Addr)(p:Nat):List (Str×V):=fj "place" (.int p) (fj "way" (.ref w) (fj "strand" (.ref t) []))
section
variable{y u:c5}{lg r:Nat}{t w:Addr}{p:Nat}
theorem Ei:(qk y u lg r).lookup ("size":Str)=some (.int (u:)):=by
 unfold qk
 rw[aO,if_neg ⋯,aO,if_neg ⋯,aO,if_neg ⋯,aO,if_neg ⋯,aO,if_pos rfl]
theorem r6:(qk y u lg r).lookup ("root_size":Str)=some (.int r):=by
 unfold qk
 rw[aO,if_neg ⋯,aO,if_neg ⋯,aO,if_neg ⋯,aO,if_pos rfl]
theorem JW:(qk y u lg r).lookup ("leads":Str)=some (.bl (leads u)):=by
 unfold qk
 rw[aO,if_neg ⋯,aO,if_neg ⋯,aO,if_pos rfl]
theorem V6:(qk y u lg r).lookup ("onward":Str)=some (.str (S (fo (kF lg (u:)) (stx y u)))):=by
 unfold qk
 rw[aO,if_neg ⋯,aO,if_pos rfl]
theorem Nf:(qk y u lg r).lookup ("backward":Str)=some (.str (S (fo (kF lg (u:)) (stx y u).reverse))):=by
 unfold qk
 rw[aO,if_pos rfl]
theorem oI:(OW t w p).lookup ("place":Str)=some (.int p):=by unfold OW;rw[aO,if_pos rfl]
theorem ql:(OW t w p).lookup ("way":Str)=some (.ref w):=by unfold OW;rw[aO,if_neg ⋯,aO,if_pos rfl]
theorem xb:(OW t w p).lookup ("strand":Str)=some (.ref t):=by unfold OW;rw[aO,if_neg ⋯,aO,if_neg ⋯,aO,if_pos rfl]
end
theorem dW(f:Str)(v:V):∀fs:List (Str×V),(fj f v fs:)<=(fs:)+1
 | []=>Qaa _
 |(g,x)::r=>by
  unfold fj
  split
  ·exact Qcx _
  ·exact Qc1 (dW f v r)
structure Sn where
 a:Addr
 t:Addr
 wy:Addr
 c:Nat
 i:Nat
 u:c5
 p:Nat
 r:Nat
structure Gd(H:Hp)(C a:Addr)(y u:c5)(lg r:Nat):Prop where
 ob:∃dx,H a=some (.ins C dx (qk y u lg r))
 sw:SW y u
 uz:(u:)<=lg
 lz:lg<=1000
 rt:bT u r
variable{C:Addr}{lg:Nat}
theorem Gd.same{a:Addr}(h:Gd H C a y u lg r)(s:ay H H'):Gd H' C a y u lg r:=by
 obtain ⟨dx,e⟩:=h.ob
 exact ⟨⟨dx,s _ _ e⟩,h.sw,h.uz,h.lz,h.rt⟩
structure kG(H:Hp)(CW CS:Addr)(y:c5)(lg:Nat)(s:Sn):Prop where
 ob:∃dx,H s.a=some (.ins CS dx (OW s.t s.wy s.p))
 st:H s.t=some (.tup [.int s.c,.int s.i])
 wy:Gd H CW s.wy y s.u lg s.r
 pz:s.p<(s.u:)
variable{CW CS:Addr}
theorem kG.same{s:Sn}(h:kG H CW CS y lg s)(sm:ay H H'):kG H' CW CS y lg s:=by
 obtain ⟨dx,e⟩:=h.ob
 exact ⟨⟨dx,sm _ _ e⟩,sm _ _ h.st,h.wy.same sm,h.pz⟩
noncomputable def GO(y:c5)(lg:Nat)(s:Sn):c5:=(fo (kF lg (s.u:)) (stx y s.u)).drop (s.p+1)
noncomputable def GP(y:c5)(lg:Nat)(s:Sn):c5:=(fo (kF lg (s.u:)) (stx y s.u).reverse).drop ((s.u:) - 1 - s.p)
noncomputable def seg(l:c5)(x z:Nat):c5:=(l.drop x).take (z - x)
inductive ie(p_:c6)(vs:List V)(H:Hp)(Q:VK)(dN:XK):Prop
 | mk (y w:c5) (i:Nat) (_:vs=[.str (S y),.str (S w),.int i]) (_:Yd y) (_:(y:)<=8) (_:SW y w) (_:(w:)<=1000) (_:i<(w:)) (_:∀(n:Nat) H',cst y w i=n->n<8->ay H H'->Q (.int n) H'):ie p_ vs H Q dN
def jF(p_:c6):Sp:=ie p_
theorem qm(h:jF K vs H Q E):(vs:)=3:=by obtain ⟨_,_,_,rfl,_⟩:=h;rfl
inductive uo(p_:c6)(C:Addr)(vs:List V)(H:Hp)(Q:VK)(dN:XK):Prop
 | mk (x dx:Addr) (y w:c5) (lg:Nat) (_:vs=[.ref x,.str (S y),.str (S w),.int lg]) (_:H x=some (.ins C dx [])) (_:Yd y) (_:(y:)<=8) (_:SW y w) (_:(w:)<=lg) (_:lg<=1000) (_:∀(r:Nat) H',bT w r->H' x=some (.ins C dx (qk y w lg r))->bA x H H'->Q .gk H'):uo p_ C vs H Q dN
def AF(p_:c6)(C:Addr):Sp:=uo p_ C
theorem Ge(h:AF K C vs H Q E):(vs:)=4:=by obtain ⟨_,_,_,_,_,rfl,_⟩:=h;rfl
inductive qT(p_:c6)(C:Addr)(vs:List V)(H:Hp)(Q:VK)(dN:XK):Prop
 | mk (x dx t w:Addr) (p:Nat) (_:vs=[.ref x,.ref t,.ref w,.int p]) (_:H x=some (.ins C dx [])) (_:∀H',H' x=some (.ins C dx (OW t w p))->bA x H H'->Q .gk H'):qT p_ C vs H Q dN
def xc(p_:c6)(C:Addr):Sp:=qT p_ C
theorem CF(h:xc K C vs H Q E):(vs:)=4:=by obtain ⟨_,_,_,_,_,rfl,_⟩:=h;rfl
inductive i0(p_:c6)(CW CS:Addr)(vs:List V)(H:Hp)(Q:VK)(dN:XK):Prop
 | mk (y:c5) (lg:Nat) (s:Sn) (x z:Nat) (_:vs=[.ref s.a,.int x,.int z]) (_:(y:)<=8) (_:kG H CW CS y lg s) (_:x<=z) (_:Q (.str (S (seg (GO y lg s) x z))) H):i0 p_ CW CS vs H Q dN
def gQ(p_:c6)(CW CS:Addr):Sp:=i0 p_ CW CS
theorem rC(h:gQ K CW CS vs H Q E):(vs:)=3:=by obtain ⟨_,_,_,_,_,rfl,_⟩:=h;rfl
inductive jG(p_:c6)(CW CS:Addr)(vs:List V)(H:Hp)(Q:VK)(dN:XK):Prop
 | mk (y:c5) (lg:Nat) (s:Sn) (x z:Nat) (_:vs=[.ref s.a,.int x,.int z]) (_:(y:)<=8) (_:kG H CW CS y lg s) (_:x<=z) (_:Q (.str (S (seg (GP y lg s) x z))) H):jG p_ CW CS vs H Q dN
def iA(p_:c6)(CW CS:Addr):Sp:=jG p_ CW CS
theorem uq(h:iA K CW CS vs H Q E):(vs:)=3:=by obtain ⟨_,_,_,_,_,rfl,_⟩:=h;rfl
theorem Ng(h:a<=b):cut l (some (a:Int)) (some (b:Int))=(l.drop a).take (b - a):=by
 unfold cut
 rw[HT.lh,HT.lh]
 by_cases z:a<=(l:)
 ·rw[Qa8 z]
  by_cases z2:b<=(l:)
  ·rw[Qa8 z2]
  ·rw[Qco (),Qa7 (by rw[Qav];lia),Qa7 (by rw[Qav];lia)]
 ·rw[Qco (),Qco (),Qcf (Qaa _),Qcf ()]
  simp
variable{z:Nat}
theorem Ej{f:Nat}(h:x<=z):cut l (some ((f:Int)+x)) (some ((f:Int)+z))=seg (l.drop f) x z:=by
 rw[show (f:Int)+x=((f+x:Nat):Int) by lia,show (f:Int)+z=((f+z:Nat):Int) by lia,Ng ()]
 unfold seg
 rw[List.drop_drop,show f+z - (f+x)=z - x by lia]
theorem oJ(h:1<=n):n*kF lg n<=3*n+lg/\2*n+lg<n*kF lg n:=by
 unfold kF
 rw[Qdf h,Nat.mul_add]
 have h1:=Qek lg n
 have h2:=Qdc lg (show 0<n by lia)
 lia
theorem xf(m:Nat)(l:c5):(fo m l:)=(l:)*m:=by
 unfold fo
 rw[List.length_flatten,List.map_replicate,List.sum_replicate_nat,Qc8]
theorem SW.aH{w:c5}(hy:Yd y)(h:SW y w):My.aH w=bR w:=by unfold My.aH;rw[h.core hy]
theorem yI(l:c5)(x z j:Nat):(seg l x z)[j]? =if j<z - x then l[x+j]? else none:=by
 unfold seg
 rw[Qes]
 split
 ·rw[Qce]
 ·rfl
theorem CG{m:c5}:seg l x (x+z)=seg m x (x+z)↔ ∀k,x<=k->k<x+z->l[k]? =m[k]?:= by
 constructor
 ·intro h k h1 h2
  have:=congrArg (·[k - x]?) h
  simp only[yI]at this
  rwa [if_pos (),if_pos (),show x+(k - x)=k by lia]at this
 ·intro h
  refine Qd7 λj=>?_
  rw[yI,yI]
  by_cases z':j<x+z - x
  ·rw[if_pos z',if_pos z',h (x+j) () ()]
  ·rw[if_neg z',if_neg z']
noncomputable def Rn(b:Bool)(y:c5)(lg:Nat)(s:Sn):c5:=if b=true then GO y lg s else GP y lg s
def kH(l m:c5)(n:Nat):Prop:=∀k,k<n->l[k]? =m[k]?
inductive oK(p_:c6)(CW CS fa fb:Addr)(vs:List V)(H:Hp)(Q:VK)(dN:XK):Prop
 | mk (y:c5) (lg:Nat) (s t:Sn) (b:Bool) (en:Nat) (_:vs=[.ref (if b=true then fa else fb),.ref s.a,.ref t.a,.int en]) (_:(y:)<=8) (_:kG H CW CS y lg s) (_:kG H CW CS y lg t) (_:en<=100000) (_:∀m:Nat,kH (Rn b y lg s) (Rn b y lg t) m->(en<=m\/(Rn b y lg s)[m]?≠ (Rn b y lg t)[m]?)->Q (.int m) H):oK p_ CW CS fa fb vs H Q dN
def ur(p_:c6)(CW CS fa fb:Addr):Sp:=oK p_ CW CS fa fb
variable{fa:Addr}
theorem AG{fb:Addr}(h:ur K CW CS fa fb vs H Q E):(vs:)=4:=by obtain ⟨_,_,_,_,_,_,rfl,_⟩:=h;rfl
theorem kH.more{m:c5}(h:kH l m x)(e:seg l x (x+z)=seg m x (x+z)):kH l m (x+z):=λk hk=>by
 by_cases q:k<x
 ·exact h k q
 ·exact CG.mp e k () hk
theorem JX{m:c5}(h:seg l x (x+z)≠seg m x (x+z)):∃k,x<=k/\k<x+z/\l[k]?≠ m[k]?:= Classical.byContradiction λq=>h (CG.mpr λk h1 h2=>Classical.byContradiction λr=>q ⟨k,h1,h2,r⟩)
noncomputable def CH(s:Sn):Int×Int:=if leads s.u=true then ((s.c:Int),((s.p / s.r:Nat):Int)) else (-(s.c:Int), -((((s.u:) - 1 - s.p) / s.r:Nat):Int))
inductive oM(p_:c6)(CW CS:Addr)(vs:List V)(H:Hp)(Q:VK)(dN:XK):Prop
 | mk (y:c5) (lg:Nat) (s:Sn) (_:vs=[.ref s.a]) (_:kG H CW CS y lg s) (_:∀p H',H p=none->H' p=some (.tup [.int (CH s).1,.int (CH s).2])->ay H H'->Q (.ref p) H'):oM p_ CW CS vs H Q dN
def uu(p_:c6)(CW CS:Addr):Sp:=oM p_ CW CS
theorem AH(h:uu K CW CS vs H Q E):(vs:)=1:=by obtain ⟨_,_,_,rfl,_⟩:=h;rfl
noncomputable def l_(y:c5)(M:Nat)(s:Sn):List Int:=kk y (sq s.u s.p) 0 M++[(CH s).1,(CH s).2]
inductive i4(p_:c6)(CW CS:Addr)(vs:List V)(H:Hp)(Q:VK)(dN:XK):Prop
 | mk (y:c5) (lg:Nat) (s t:Sn) (_:vs=[.ref s.a,.ref t.a]) (_:Yd y) (_:(y:)<=8) (_:kG H CW CS y lg s) (_:kG H CW CS y lg t) (_:rd s.u s.p=rd t.u t.p) (_:∀H',ay H H'->Q (.bl (bZ (l_ y (2*lg) s) (l_ y (2*lg) t))) H'):i4 p_ CW CS vs H Q dN
def kI(p_:c6)(CW CS:Addr):Sp:=i4 p_ CW CS
theorem rD(h:kI K CW CS vs H Q E):(vs:)=2:=by obtain ⟨_,_,_,_,rfl,_⟩:=h;rfl
theorem kJ(hn:u≠[])(h:bT u r):1<=r/\r<=(u:):=by
 rcases h with ⟨z,_⟩ | ⟨h1,h2,_⟩
 ·exact absurd z hn
 ·exact ⟨h1,h2⟩
theorem Ek(h:i<(u:)):(stx y u)[i]? =some (Bc (cst y u i)):=by
 unfold stx
 rw[Qau,List.getElem?_range h]
 rfl
theorem yJ(y u:c5)(i:Int):cst y u (i%(u:))=cst y u i:=by
 unfold cst
 rw[gs, <-gs u (i%(u:) - 1),Qf8,Qei _ (Qf9 _), <-Qf8,gs]
theorem JY{s:Sn}(hn:s.u≠[]){k:Nat}(h:s.p+1+k<(s.u:)*kF lg (s.u:)):(GO y lg s)[k]? =some (Bc (fh y (sq s.u s.p) (k+1))):=by
 have hp:=Qah.mpr hn
 unfold GO
 rw[Qce,oh _ _ _ (by rw[eF,Qc8];exact h),eF,Ek (Qdc _ hp),JV,Qfd,yJ]
 congr 3
 lia
theorem JZ{s:Sn}(hn:s.u≠[])(hp:s.p<(s.u:)){k:Nat}(h:(s.u:) - 1 - s.p+k<(s.u:)*kF lg (s.u:)):(GP y lg s)[k]? =some (Bc (fh y (sq s.u s.p) (-(k:Int)))):=by
 have hl:=Qah.mpr hn
 unfold GP
 rw[Qce,oh _ _ _ (by rw[Qas,eF,Qc8];exact h),Qas,eF]
 have hm:=Qdc ((s.u:) - 1 - s.p+k) hl
 rw[Qdk (by rw[eF];exact hm),eF,Ek (),JV]
 congr 2
 rw[<-yJ y s.u (s.p+ -(k:Int)), <-yJ y s.u (((s.u:) - 1 - ((s.u:) - 1 - s.p+k)%(s.u:):Nat):Int)]
 congr 1
 have e:(((s.u:) - 1 - ((s.u:) - 1 - s.p+k)%(s.u:):Nat):Int)=((s.u:):Int) - 1 - (((s.u:):Int) - 1 - s.p+k)%(s.u:):=by
  have:((((s.u:) - 1 - s.p+k)%(s.u:):Nat):Int)=(((s.u:):Int) - 1 - s.p+k)%(s.u:):=by
   rw[Qfd];congr 1;lia
  lia
 rw[e,Qf8,Qei _ (Qf9 _), <-Qf8]
 congr 1
 lia
variable{en:Nat}
theorem xg{s:Sn}(hp:s.p<(s.u:))(he:en<=(s.u:)+lg):s.p+1+en<(s.u:)*kF lg (s.u:)+1/\(s.u:) - 1 - s.p+en<(s.u:)*kF lg (s.u:):=by
 have:=(oJ (lg:=lg) (n:=(s.u:)) ()).2
 lia
theorem El(hn:u≠[])(h:bT u r)(p k:Int):sq u p (k+r)=sq u p k:=by
 have:=((gh hn h).2 (p+r) p).mpr (by rw[show p+(r:Int) - p=r by lia,Qfw])
 have e:=this k
 unfold sq at e ⊢
 rw[show p+(k+r)=p+r+k by lia]
 exact e
theorem Em{a b:Int}(ha:0<=a)(hb:0<=b)(h:Bc a=Bc b):a=b:=by unfold Bc at h;lia
theorem J0{a b:Int}(ha:0<=a)(hb:0<=b):Bc a<Bc b↔a<b:=by unfold Bc;lia
theorem En(hy:Yd y)(h:iw y f)(k:Int):0<=fh y f k:=by
 have:=(dE (hy.cl _ (h.aY (k - 1))) (h.aY k) (Ne.symm (h.red k))).1
 unfold fh
 lia
theorem Eo{m:c5}(ha:a<en)(h1:∀k,k<a->l[k]? =m[k]?)(h2:l[a]?≠ m[a]?)(g1:kH l m n)(g2:en<=n\/l[n]?≠ m[n]?):n=a:=by
 by_cases z:a<n
 ·exact absurd (g1 a z) h2
 ·by_cases z2:n<a
  ·rcases g2 with g2 | g2
   ·lia
   ·exact absurd (h1 n z2) g2
  ·lia
theorem Ep{m:c5}(h1:∀k,k<en->l[k]? =m[k]?)(g2:en<=n\/l[n]?≠ m[n]?):en<=n:=by
 rcases g2 with g2 | g2
 ·exact g2
 ·exact Classical.byContradiction λz=>g2 (h1 n ())
theorem r9(h:l[a]? =some x):seg l a (a+1)=[x]:=by
 obtain ⟨ha,e⟩:=P5.mp h
 unfold seg
 rw[Qb0 ha,e,show a+1 - a=1 by lia]
 rfl
theorem J1(x z:Nat):decide ([x]<[z])=decide (x<z):=decide_eq_decide.mpr ⟨λh=>(Qed.mp h).elim id λq=>absurd q.2 (Qc6 _),λh=>Qed.mpr (.inl h)⟩
theorem Nh(a b c d:Int):Ll a b c d=bZ [a,b] [c,d]:=by
 unfold Ll
 show _=if a=c then (if b=d then bZ [] [] else decide (b<d)) else decide (a<c)
 by_cases z:a=c
 ·rw[if_pos z,if_pos z]
  by_cases q:b=d
  ·rw[if_pos q,q];simp[bZ]
  ·rw[if_neg q]
 ·rw[if_neg z,if_neg z]
noncomputable def Er(ss:List Sn):List V:=ss.map λs=>V.ref s.a
theorem oN(ss:List Sn):(Er ss:)=(ss:):=by unfold Er;rw[Xi]
theorem Ro{ss:List Sn}{s:Sn}(h:ss[i]? =some s):(Er ss)[i]? =some (V.ref s.a):=by unfold Er;rw[Qau,h];rfl
theorem Ni{ss:List Sn}{x:V}(h:(Er ss)[i]? =some x):∃s,ss[i]? =some s/\x=V.ref s.a:=by
 unfold Er at h
 rw[Qau]at h
 cases e:ss[i]? with
 | none=>rw[e]at h;cases h
 | some p=>rw[e]at h;cases h;exact ⟨p,rfl,rfl⟩
def Gf(y:c5)(M:Nat)(ss:List Sn):Prop:=ss.Pairwise λs t=>bZ (l_ y M t) (l_ y M s)=false
inductive ig(p_:c6)(CW CS:Addr)(vs:List V)(H:Hp)(Q:VK)(dN:XK):Prop
 | mk (y:c5) (lg:Nat) (a:Addr) (ss:List Sn) (t:Sn) (_:vs=[.ref a,.ref t.a]) (_:Yd y) (_:(y:)<=8) (_:H a=some (.lst (Er ss))) (_:(∀s∈ss,kG H CW CS y lg s/\rd s.u s.p=rd t.u t.p)) (_:kG H CW CS y lg t) (_:Gf y (2*lg) ss) (_:(ss:)<=100000) (_:∀(n:Nat) H',n<=(ss:)->(∀k s,ss[k]? =some s->k<n->bZ (l_ y (2*lg) s) (l_ y (2*lg) t)=true)->(∀k s,ss[k]? =some s->n<=k->bZ (l_ y (2*lg) s) (l_ y (2*lg) t)=false)->ay H H'->Q (.int n) H'):ig p_ CW CS vs H Q dN
def jH(p_:c6)(CW CS:Addr):Sp:=ig p_ CW CS
theorem qp(h:jH K CW CS vs H Q E):(vs:)=2:=by obtain ⟨_,_,_,_,_,rfl,_⟩:=h;rfl
structure Wp where
 t:Addr
 a:Addr
 b:Addr
 r:Nat
 q:Nat
noncomputable def LA(l:List Wp):List V:=l.map λp=>V.ref p.t
theorem J2{l:List Wp}{p:Wp}(h:l[i]? =some p):(LA l)[i]? =some (V.ref p.t):=by unfold LA;rw[Qau,h];rfl
theorem J3(l:List Wp)(p:Wp):LA l++[V.ref p.t]=LA (l++[p]):=by unfold LA;rw[Qao];rfl
structure yK(H:Hp)(C:Addr)(y:c5)(lg:Nat)(w:c5)(p:Wp):Prop where
 tp:H p.t=some (.tup [.ref p.a,.ref p.b])
 on:Gd H C p.a y w lg p.r
 bk:Gd H C p.b y (bK w) lg p.q
theorem yK.same{w:c5}{p:Wp}(h:yK H C y lg w p)(s:ay H H'):yK H' C y lg w p:=⟨s _ _ h.tp,h.on.same s,h.bk.same s⟩
structure CI(w:c5)(c i:Nat)(s:Sn):Prop where
 ec:s.c=c
 ei:s.i=i
 eu:s.u=if aD (rd w i)=true then w else bK w
 ep:s.p=if aD (rd w i)=true then i else (w:) - 1 - i
inductive i5(p_:c6)(CW CS:Addr)(vs:List V)(H:Hp)(Q:VK)(dN:XK):Prop
 | mk (y:c5) (lg:Nat) (wt vt st:Addr) (w:c5) (ws:List c5) (ph:List Wp) (p:Wp) (c i:Nat) (_:vs=[.ref wt,.ref vt,.ref st]) (_:Yd y) (_:H wt=some (.tup (ck ws))) (_:H vt=some (.lst (LA ph))) (_:H st=some (.tup [.int c,.int i])) (_:ws[c]? =some w) (_:ph[c]? =some p) (_:yK H CW y lg w p) (_:i<(w:)) (_:∀(s:Sn) H',CI w c i s->s.t=st->kG H' CW CS y lg s->H s.a=none->ay H H'->Q (.ref s.a) H'):i5 p_ CW CS vs H Q dN
def kK(p_:c6)(CW CS:Addr):Sp:=i5 p_ CW CS
theorem rE(h:kK K CW CS vs H Q E):(vs:)=3:=by obtain ⟨_,_,_,_,_,_,_,_,_,_,_,rfl,_⟩:=h;rfl
inductive jI(p_:c6)(vs:List V)(H:Hp)(Q:VK)(dN:XK):Prop
 | mk (wt:Addr) (ws:List c5) (band:Nat) (_:vs=[.ref wt,.str (S [band])]) (_:H wt=some (.tup (ck ws))) (_:(ws:)<=4) (_:(∀w∈ws,(∀c∈w,Lt c)/\(w:)<=12)) (_:band∈aV) (_:∀(q:Addr) (ps:List Pr) (H':Hp),H q=none->H' q=some (.lst (w4 ps))->(∀p∈ps,rB H' p)->ps.map Pr.pair=dU band ws (ws:)->ay H H'->Q (.ref q) H'):jI p_ vs H Q dN
def mD(p_:c6):Sp:=jI p_
theorem uv(h:mD K vs H Q E):(vs:)=2:=by obtain ⟨c,_,_,rfl,_⟩:=h;rfl
open Classical in
noncomputable def J4(w:c5):Nat:=if h:∃s,bT w s then choose h else 0
theorem ux{w:c5}(hn:w≠[]):bT w (J4 w):=by
 have h:=DX hn
 unfold J4
 rw[dif_pos h]
 exact Classical.choose_spec h
theorem J5{w:c5}(hy:Yd y)(hw:SW y w)(h:bT w r)(g:bT (bK w) q):q=r:=by
 have hn:=hw.ne
 have ht:=qe hn
 have p1:=kJ hn h
 have p2:=kJ ht g
 have key:∀d:Nat,(d:Int)%(r:Int)=0↔(d:Int)%(q:Int)=0:=λd=>by
  have a:=(gh hn h).2 d 0
  have b:=(gh ht g).2 d 0
  rw[Qd9]at a b
  rw[<-a, <-b]
  constructor
  ·intro p k
   rw[hV hn,hV hn]
   unfold bq
   have:=p (-1 - (d:Int) - k)
   unfold sq at this
   have e1:rd w (-1 - (0:Int) - k)=rd w ((d:Int)+(-1 - (d:Int) - k)):=by congr 1;lia
   have e2:rd w (-1 - (d:Int) - k)=rd w (0+(-1 - (d:Int) - k)):=by congr 1;lia
   rw[e1,e2,this]
  ·intro p k
   have e:∀x:Int,rd w x=aC (rd (bK w) (-1 - x)):=λx=>by
    rw[jo hn,show -1 - (-1 - x)=x by lia,aE (hy.lt _ (hw.rd _))]
   unfold sq
   rw[e,e]
   have:=p (-1 - (d:Int) - k)
   unfold sq at this
   rw[show -1 - ((d:Int)+k)=0+(-1 - (d:Int) - k) by lia, <-this]
   congr 2
   lia
 have a:=(key r).mp (Qfw)
 have b:=(key q).mpr (Qfw)
 have a':r%q=0:=by
  have:((r%q:Nat):Int)=0:=by rw[<-a];rfl
  lia
 have b':q%r=0:=by
  have:((q%r:Nat):Int)=0:=by rw[<-b];rfl
  lia
 exact Qej (Qfs () (Qd4 a')) (Qfs () (Qd4 b'))
noncomputable def GQ(ws:List c5)(c:Nat):Bool:=leads (ws|||c)
noncomputable def GR(ws:List c5)(c:Nat):Nat:=J4 (ws|||c)
noncomputable def XA(y:c5)(ws:List c5)(M:Nat)(x:Nat×Nat):List Int:=fB y ws (GQ ws) (GR ws) M x.1 x.2
theorem CI.line{w:c5}{s:Sn}(hy:Yd y)(hw:SW y w)(hi:i<(w:))(h:CI w c i s):sq s.u s.p=eE w i:=by
 rw[h.eu,h.ep]
 unfold eE
 by_cases z:aD (rd w i)=true
 ·rw[if_pos z,if_pos z,if_pos z]
 ·rw[if_neg z,if_neg z,if_neg z, <-QU hw.ne,show (((w:) - 1 - i:Nat):Int)=((w:):Int) - 1 - i by lia]
theorem Es{w:c5}{s:Sn}(hy:Yd y)(hw:SW y w)(hi:i<(w:))(e:(ws|||c)=w)(h:CI w c i s)(rt:bT s.u s.r):l_ y M s=XA y ws M (c,i):=by
 unfold l_ XA fB
 rw[h.line hy hw hi]
 simp only[e]
 congr 1
 unfold CH Lw GQ GR
 rw[e,h.ec]
 have zF:=ux hw.ne
 by_cases z:aD (rd w i)=true
 ·have eu:s.u=w:=by rw[h.eu,if_pos z]
  have ep:s.p=i:=by rw[h.ep,if_pos z]
  rw[eu]at rt ⊢
  have er:=Jc hw.ne rt zF
  rw[er,ep,z]
  by_cases l:leads w=true
  ·rw[if_pos l,l];rfl
  ·rw[if_neg l,if_neg (λq=>l q.symm)];rfl
 ·have eu:s.u=bK w:=by rw[h.eu,if_neg z]
  have ep:s.p=(w:) - 1 - i:=by rw[h.ep,if_neg z]
  rw[eu]at rt ⊢
  have er:=J5 hy hw zF rt
  have z':aD (rd w i)=false:=by simpa using z
  rw[er,ep,z',wZ hy hw,bJ]
  have ei:(w:) - 1 - ((w:) - 1 - i)=i:=by lia
  rw[ei]
  cases leads w<;>rfl
theorem CI.band{y w:c5}{c i band:Nat}{s:Sn}(hy:Yd y)(hw:SW y w)(hi:i<(w:))(hb:band∈aV)(ho:Cv band (rd w i)=true)(h:CI w c i s):rd s.u s.p=band:=by
 have lb:Lt band:= .inl hb
 have lo:aD band=true:=by rw[gJ lb];exact decide_eq_true hb
 have GZ:rd w i=band\/rd w i=aC band:=by
  unfold Cv at ho
  simpa using ho
 rw[h.eu,h.ep]
 rcases GZ with e | e
 ·rw[if_pos (by rw[e];exact lo),if_pos (by rw[e];exact lo)]
  exact e
 ·have z: ¬aD (rd w i)=true:=by rw[e,gE _ lb.mem,lo];decide
  rw[if_neg z,if_neg z,jo hw.ne,show -1 - (((w:) - 1 - i:Nat):Int)=i - (w:) by lia,Cd,e,aE lb]
def Gg(y:c5)(ws:List c5)(M:Nat)(l:List (Nat×Nat)):Prop:=l.Pairwise λs t=>bZ (XA y ws M t) (XA y ws M s)=false
inductive jJ(p_:c6)(CW CS:Addr)(vs:List V)(H:Hp)(Q:VK)(dN:XK):Prop
 | mk (y:c5) (lg:Nat) (wt vt:Addr) (ws:List c5) (ph:List Wp) (band:Nat) (_:vs=[.ref wt,.ref vt,.str (S [band])]) (_:Yd y) (_:(y:)<=8) (_:H wt=some (.tup (ck ws))) (_:(ws:)<=4) (_:(∀w∈ws,SW y w/\(w:)<=12)) (_:band∈aV) (_:H vt=some (.lst (LA ph))) (_:(ph:)=(ws:)) (_:(∀(c:Nat) (w:c5) (p:Wp),ws[c]? =some w->ph[c]? =some p->yK H CW y lg w p)) (_:∀(q:Addr) (ps:List Pr) (H':Hp),H q=none->H' q=some (.tup (w4 ps))->(∀p∈ps,rB H' p)->(ps.map Pr.pair).Perm (dU band ws (ws:))->Gg y ws (2*lg) (ps.map Pr.pair)->ay H H'->Q (.ref q) H'):jJ p_ CW CS vs H Q dN
def mE(p_:c6)(CW CS:Addr):Sp:=jJ p_ CW CS
theorem uA(h:mE K CW CS vs H Q E):(vs:)=3:=by obtain ⟨_,_,_,_,_,_,_,rfl,_⟩:=h;rfl
theorem Rp{ss:List Sn}{t:Sn}(up:Gf y M ss)(h1:∀k s,ss[k]? =some s->k<n->bZ (l_ y M s) (l_ y M t)=true)(h2:∀k s,ss[k]? =some s->n<=k->bZ (l_ y M s) (l_ y M t)=false):Gf y M (ss.take n++t::ss.drop n):=by
 have tk:∀s∈ss.take n,bZ (l_ y M s) (l_ y M t)=true:=λs hs=>by
  obtain ⟨k,hk,e⟩:=Qdu hs
  rw[Qad]at hk
  rw[List.getElem_take]at e
  exact h1 k s (by rw[<-e];exact P4 ()) ()
 have dr:∀s∈ss.drop n,bZ (l_ y M s) (l_ y M t)=false:=λs hs=>by
  obtain ⟨k,hk,e⟩:=Qdu hs
  rw[Qav]at hk
  rw[List.getElem_drop]at e
  exact h2 (n+k) s (by rw[<-e];exact P4 ()) ()
 have Zu:Gf y M (ss.take n++ss.drop n):=by rw[Qaw];exact up
 unfold Gf at Zu ⊢
 rw[Qbd]at Zu ⊢
 rw[Qbw]
 obtain ⟨u1,u2,u3⟩:=Zu
 refine ⟨u1,⟨λs hs=>dr s hs,u2⟩,λa ha b hb=>?_⟩
 rcases Qab.mp hb with e | e
 ·rw[e];exact (qb (tk a ha)).1
 ·exact u3 a ha b e
theorem kL(band:Nat){ws:List c5}(hw:∀w∈ws,(w:)<=12):∀n,n<=(ws:)->(dU band ws n:)<=12*n
 | 0,_=>Qat _
 | n+1,h=>by
  have ih:=kL band hw n ()
  unfold dU at ih ⊢
  rw[Qcy,Qb4,kb,Qd6]
  have h1:(jC band n (ws|||n) ((ws|||n):):)<=12:=by
   unfold jC
   rw[Xi]
   refine Qbb (Qcz _ _) ?_
   rw[Qe0]
   exact hw _ (getD_in ())
  lia
theorem CJ{band:Nat}{x:Nat×Nat}(h:x∈dU band ws (ws:)):∃w,ws[x.1]? =some w/\x.2<(w:)/\Cv band (rd w x.2)=true:=by
 unfold dU at h
 obtain ⟨c,hc,h⟩:=Qby.mp h
 have vn:=Qb7.mp hc
 unfold jC at h
 obtain ⟨i,hi,e⟩:=Qar.mp h
 obtain ⟨i1,i2⟩:=Qag.mp hi
 have i1':=Qb7.mp i1
 subst e
 refine ⟨(ws|||c),by rw[Qak,P4 vn];rfl,i1',?_⟩
 have:(ws|||c).getD i 0=rd (ws|||c) i:=by
  have:=jm i1'
  rw[Qak,this];rfl
 show Cv band (rd (ws|||c) i)=true
 rw[<-this]
 exact i2
theorem xh{x dx:Addr}(nx:H x=none)(Rq:H dx=none)(sm:bA x (L2.upd (L2.upd H dx (.own x)) x (.ins C dx [])) H'):ay H H':=λa o e=>by
 refine sm a o ?_ (az e nx)
 rw[aq (az e nx),aq (az e Rq)]
 exact e
noncomputable def Nj(ws:List c5):List Int:=ws.map λw=>((w:):Int)
theorem Nk(l:List Int):∀a:Int,a<=l.foldl (λx y=>if y>x then y else x) a/\(∀x∈l,x<=l.foldl (λx y=>if y>x then y else x) a)/\(l.foldl (λx y=>if y>x then y else x) a=a\/l.foldl (λx y=>if y>x then y else x) a∈l):=by
 induction l with
 | nil=>exact λa=>⟨Int.le_refl _,λ_ h=>absurd h Qan,.inl rfl⟩
 | cons b r ih=>
  intro a
  rw[Qc4]
  obtain ⟨h1,h2,h3⟩:=ih (if b>a then b else a)
  have h4:a<=(if b>a then b else a)/\b<=(if b>a then b else a):=by split<;>lia
  refine ⟨(),λx hx=>?_,?_⟩
  ·rcases Qab.mp hx with e | e
   ·rw[e];lia
   ·exact h2 x e
  ·rcases h3 with e | e
   ·rw[e]
    split
    ·exact .inr Xh
    ·exact .inl rfl
   ·exact .inr (Sd _ e)
theorem CK(h:∀w∈ws,(w:)<=12):∃lg:Nat,Qx 0 (Nj ws)=lg/\lg<=12/\∀w∈ws,(w:)<=lg:=by
 cases ws with
 | nil=>exact ⟨0,rfl,∅,λ_ h=>absurd h Qan⟩
 | cons v r=>
  obtain ⟨h1,h2,h3⟩:=Nk (Nj r) ((v:):Int)
  have e:Qx 0 (Nj (v::r))=(Nj r).foldl (λx y=>if y>x then y else x) ((v:):Int):=rfl
  rw[e]
  generalize (Nj r).foldl (λx y=>if y>x then y else x) ((v:):Int)=m at*
  have hm:∃w∈v::r,m=((w:):Int):=by
   rcases h3 with q | q
   ·exact ⟨v,Xh,q⟩
   ·obtain ⟨w,hw,e'⟩:=Qar.mp q
    exact ⟨w,Sd _ hw,e'.symm⟩
  obtain ⟨w,hw,rfl⟩:=hm
  refine ⟨(w:),rfl,h w hw,λu hu=>?_⟩
  rcases Qab.mp hu with q | q
  ·rw[q];lia
  ·have:=h2 _ (Qar.mpr ⟨u,q,rfl⟩)
   lia
def yL(y:c5)(ws:List c5)(os:List Od):Prop:=∃M,(∀w∈ws,∀v∈ws,(w:)+(v:)<=M)/\uh y ws os/\∀o∈os,Gg y ws M (o.ps.map Pr.pair)
inductive xi(p_:c6)(vs:List V)(H:Hp)(Q:VK)(dN:XK):Prop
 | mk (y:c5) (wt:Addr) (ws:List c5) (_:vs=[.str (S y),.ref wt]) (_:Yd y) (_:(y:)<=8) (_:H wt=some (.tup (ck ws))) (_:(ws:)<=4) (_:(∀w∈ws,SW y w/\(w:)<=12)) (_:∀(dr:Addr) (os:List Od) (H':Hp),Ct H' dr ws os->yL y ws os->ay H H'->Q (.ref dr) H'):xi p_ vs H Q dN
def Et(p_:c6):Sp:=xi p_
theorem J6(h:Et K vs H Q E):(vs:)=2:=by obtain ⟨_,_,_,rfl,_⟩:=h;rfl
theorem Nl{ph:List Wp}{w:c5}{p:Wp}(hl:(ph:)=i)(h:∀(c:Nat) (w:c5) (p:Wp),ws[c]? =some w->ph[c]? =some p->yK H C y lg w p)(hw:ws[i]? =some w)(hp:yK H C y lg w p):∀(c:Nat) (w:c5) (q:Wp),ws[c]? =some w->(ph++[p])[c]? =some q->yK H C y lg w q:=λc v q hv hq=>by
 by_cases z:c<(ph:)
 ·rw[Qbg z]at hq
  exact h c v q hv hq
 ·rw[Qa1 ()]at hq
  have:c=i:=by
   have:=(P5.mp hq).1
   simp at this
   lia
  subst this
  rw[hl,Qeo]at hq
  rw[hw]at hv
  cases hv
  cases hq
  exact hp
theorem AI(h:Yd y)(hb:b∈gF y):b∈aV:=by
 obtain ⟨h1,h2⟩:=Qag.mp ((lJ y).mem_iff.mp hb)
 rw[gJ (h.lt b h1)]at h2
 exact of_decide_eq_true h2
theorem J9{L:Nat->Bool}{r:Nat->Nat}(h:eR y ws L r M)(hc:c<(ws:))(hd:d<(ws:))(hi:i<((ws|||c):))(hj:j<((ws|||d):))(da:(c,i)≠(d,j))(hx:aD x=true)(e1:rd (ws|||c) i=x\/rd (ws|||c) i=aC x)(e2:rd (ws|||d) j=x\/rd (ws|||d) j=aC x):
  bZ (fB y ws L r M c i) (fB y ws L r M d j)=true\/bZ (fB y ws L r M d j) (fB y ws L r M c i)=true:=by
 have hw:=h.sw c hc
 have hv:=h.sw d hd
 have hy:=h.yd
 have lw:=Qah.mpr hw.ne
 have lv:=Qah.mpr hv.ne
 have xs:∀{w:c5} {k:Nat},SW y w->(rd w k=x\/rd w k=aC x)->Lt x:=λ{w k} hw e=>by
  have h9:97<=x/\x<=122:=by unfold aD at hx;simpa using hx
  refine .inl ?_
  have:∀k,k<26->k+97∈aV:=by decide
  have h8:=this (x - 97) ()
  rwa [show x - 97+97=x by lia]at h8
 have lx:=xs hw e1
 have Ci:∀{w:c5} {k:Nat},SW y w->Dl w k (eE w k)/\((rd w k=x\/rd w k=aC x)->eE w k 0=x)/\(eE w k=if aD (rd w k)=true then sq w k else bq w k):=λ{w k} hw=>by
  refine ⟨?_,λe=>?_,rfl⟩
  ·unfold eE
   by_cases z:aD (rd w k)=true
   ·rw[if_pos z];exact .inl rfl
   ·rw[if_neg z];exact .inr rfl
  ·unfold eE
   rcases e with e | e
   ·rw[if_pos (by rw[e];exact hx)]
    unfold sq
    rw[Qea];exact e
   ·have z: ¬aD (rd w k)=true:=by rw[e,gE _ lx.mem,hx];decide
    rw[if_neg z]
    unfold bq
    rw[Qd9,e,aE lx]
 obtain ⟨df,f0,fe⟩:=Ci (k:=i) hw
 obtain ⟨dg',g0,ge⟩:=Ci (k:=j) hv
 have lf:=df.Ci hy hw
 have lg:=dg'.Ci hy hv
 by_cases par:∀k,eE (ws|||c) i k=eE (ws|||d) j k
 ·unfold fB
  rw[show eE (ws|||c) i=eE (ws|||d) j from funext par,gg,gg]
  by_cases cd:c=d
  ·subst cd
   have ij:i≠j:=λz=>da (by rw[z])
   obtain ⟨h1,h2⟩:=h.root hc
   have hr:=h.rp c hc
   -- one and N_ same way
   have low:aD (rd (ws|||c) i)=aD (rd (ws|||c) j):=by
    by_cases z1:aD (rd (ws|||c) i)=true<;>by_cases z2:aD (rd (ws|||c) j)=true
    ·rw[z1,z2]
    ·exfalso
     rw[fe,ge,if_pos z1,if_neg z2]at par
     exact yq hy hw _ _ par
    ·exfalso
     rw[fe,ge,if_neg z1,if_pos z2]at par
     exact yq hy hw _ _ λk=>(par k).symm
    ·rw[show aD (rd (ws|||c) i)=false by simpa using z1,show aD (rd (ws|||c) j)=false by simpa using z2]
   have ps:b8 (ws|||c) (ws|||c) i j:=by
    by_cases z1:aD (rd (ws|||c) i)=true
    ·have z2:aD (rd (ws|||c) j)=true:=by rw[<-low];exact z1
     rw[fe,ge,if_pos z1,if_pos z2]at par
     exact par
    ·have z2: ¬aD (rd (ws|||c) j)=true:=by rw[<-low];exact z1
     rw[fe,ge,if_neg z1,if_neg z2]at par
     have e:=congrArg lZ (funext par)
     rw[<-fA, <-fA,qQ hy (bf hw _),qQ hy (bf hw _)]at e
     exact λk=>congrFun e k
   have q:=(h.rr c hc _ _).mp ps
   have MX:i%r c=j%r c:=by
    have q2:=Qdq.mpr q
    have q3:((i%r c:Nat):Int)=((j%r c:Nat):Int):=q2
    lia
   have k1:= @Cn ((ws|||c):) _ (r c) c i j (L c) (aD (rd (ws|||c) j)) hr h1 hi hj MX ij
   have k2:= @Cn ((ws|||c):) _ (r c) c j i (L c) (aD (rd (ws|||c) j)) hr h1 hj hi MX.symm (Ne.symm ij)
   rw[low]
   by_cases z:aD (rd (ws|||c) j)=true
   ·rw[if_pos z]at k1 k2
    rw[k1,k2,decide_eq_true_iff,decide_eq_true_iff]
    lia
   ·rw[if_neg z]at k1 k2
    rw[k1,k2,decide_eq_true_iff,decide_eq_true_iff]
    lia
  ·have hl:L d=if aD (rd (ws|||d) j)=aD (rd (ws|||c) i) then L c else !L c:=by
    by_cases z1:aD (rd (ws|||c) i)=true<;>by_cases z2:aD (rd (ws|||d) j)=true
    ·rw[z1,z2,if_pos rfl]
     rw[fe,ge,if_pos z1,if_pos z2]at par
     exact (h.l1 c d i j hc hd par).symm
    ·rw[if_neg (λq=>z2 (q.trans z1))]
     rw[fe,ge,if_pos z1,if_neg z2]at par
     exact h.l2 c d i j hc hd par
    ·rw[if_neg (λq=>z1 (q.symm.trans z2))]
     rw[fe,ge,if_neg z1,if_pos z2]at par
     have:=h.l2 d c j i hd hc λk=>(par k).symm
     rw[this,Bool.not_not]
    ·rw[show aD (rd (ws|||c) i)=false by simpa using z1,show aD (rd (ws|||d) j)=false by simpa using z2,if_pos rfl]
     rw[fe,ge,if_neg z1,if_neg z2]at par
     have e:=congrArg lZ (funext par)
     rw[<-fA, <-fA,qQ hy (bf hw _),qQ hy (bf hv _)]at e
     exact (h.l1 c d i j hc hd λk=>congrFun e k).symm
   have BJ:= @yv ((ws|||c):) ((ws|||d):) (r c) (r d) c d i j (L c) (aD (rd (ws|||c) i)) (aD (rd (ws|||d) j)) cd
   have xq:L c=if aD (rd (ws|||c) i)=aD (rd (ws|||d) j) then L d else !L d:=by
    rw[hl]
    cases aD (rd (ws|||d) j)<;>cases aD (rd (ws|||c) i)<;>cases L c<;>rfl
   have Na:= @yv ((ws|||d):) ((ws|||c):) (r d) (r c) d c j i (L d) (aD (rd (ws|||d) j)) (aD (rd (ws|||c) i)) (Ne.symm cd)
   rw[<-hl]at BJ
   rw[<-xq]at Na
   rw[BJ,Na,hl]
   cases aD (rd (ws|||d) j)<;>cases aD (rd (ws|||c) i)<;>cases L c<;>simp<;>lia
 ·have yx:∃k,eE (ws|||c) i k≠eE (ws|||d) j k:=Classical.byContradiction λz=>par λk=>Classical.byContradiction λw=>z ⟨k,w⟩
  have VY:∀{w:c5} {k:Nat} (z:Int),eE w k (z+(w:))=eE w k z:=λ{w k} z=>by
   unfold eE
   split
   ·exact dS w k z
   ·exact ub w k z
  obtain ⟨a,b,rn,ha,hb⟩:=eQ lw lv VY VY ((f0 e1).trans (g0 e2).symm) yx
  have big:=h.big c d hc hd
  unfold fB
  rw[qc hy lf lg rn _ _ M 0 (Qat _) (Qat _) () (),qc hy lg lf rn.sy _ _ M 0 (Qat _) (Qat _) () (),Jm hy lf lg (rn.o9 a () ()) rn.hi,Cp hy lf lg (rn.o9 _ () ()) rn.lo]
  by_cases z:a<=b
  ·rw[if_pos z,if_pos z]
   cases gZ y (eE (ws|||c) i) (eE (ws|||d) j) a
   ·exact .inr rfl
   ·exact .inl rfl
  ·rw[if_neg z,if_neg z]
   cases g8 y (eE (ws|||c) i) (eE (ws|||d) j) b
   ·exact .inr rfl
   ·exact .inl rfl
theorem Nm(hy:Yd y)(hw:∀w∈ws,SW y w)(hM:∀w∈ws,∀v∈ws,(w:)+(v:)<=M)(ok:uh y ws os)(up:∀o∈os,Gg y ws M (o.ps.map Pr.pair)):eR y ws (GQ ws) (GR ws) M/\CB y ws (GQ ws) (GR ws) M os:=by
 have hs:∀c,c<(ws:)->SW y (ws|||c):=λc hc=>hw _ (getD_in hc)
 have hC:eR y ws (GQ ws) (GR ws) M:=Js hy hs (λc hc=>ux (hs c hc).ne) λc d hc hd=>hM _ (getD_in hc) _ (getD_in hd)
 refine ⟨hC,ok,λo ho=>?_⟩
 obtain ⟨j,hj,ej⟩:=Qdu ho
 have hj':j<(gF y:):=by rw[<-ok.1];exact hj
 have pm:=ok.2 j o (gF y)[j] (by rw[P4 hj,ej]) (P4 hj')
 have bs:=AI hy (Qbk hj')
 have lb:Lt (gF y)[j]:= .inl bs
 have lo:aD (gF y)[j]=true:=by rw[gJ lb];exact decide_eq_true bs
 have nd:(o.ps.map Pr.pair).Nodup:=pm.nodup_iff.mpr (w9 _ _ _)
 have u:=up o ho
 unfold Gg at u
 refine Qe6 (λ{s t} h1 h2 h=>?_) (List.Pairwise.and u nd)
 obtain ⟨w1,e1,i1,o1⟩:=CJ (pm.mem_iff.mp h1)
 obtain ⟨w2,e2,i2,o2⟩:=CJ (pm.mem_iff.mp h2)
 have c1:=(P5.mp e1).1
 have c2:=(P5.mp e2).1
 have g1:ws.getD s.1 []=w1:=by rw[Qak,e1];rfl
 have g2:ws.getD t.1 []=w2:=by rw[Qak,e2];rfl
 have on:∀{l:Nat},Cv (gF y)[j] l=true->l=(gF y)[j]\/l=aC (gF y)[j]:=λ{l} q=>by unfold Cv at q;simpa using q
 have tr:=J9 hC (c:=s.1) (i:=s.2) (d:=t.1) (j:=t.2) c1 c2 (by rw[g1];exact i1) (by rw[g2];exact i2) h.2 lo (by rw[g1];exact on o1) (by rw[g2];exact on o2)
 rcases tr with q | q
 ·exact q
 ·have hf:bZ (fB y ws (GQ ws) (GR ws) M t.1 t.2) (fB y ws (GQ ws) (GR ws) M s.1 s.2)=false:=h.1
  rw[hf]at q
  cases q
theorem Rr(hy:Yd y)(hw:∀w∈ws,SW y w)(h:yL y ws os):∃M,eR y ws (GQ ws) (GR ws) M/\CB y ws (GQ ws) (GR ws) M os:=by
 obtain ⟨M,hM,ok,up⟩:=h
 exact ⟨M,Nm hy hw hM ok up⟩
theorem J_{α β:Type}(p:β->β->Bool)(f:α->β):∀l:List α,cl p (l.map f)=cl (λa b=>p (f a) (f b)) l
 | []=>rfl
 | a::l=>by
  show ((l.map f).filter (p (f a)):)+cl p (l.map f)=((l.filter λb=>p (f a) (f b)):)+cl _ l
  rw[J_ p f l,List.filter_map,Xi]
  rfl
theorem AJ{α:Type}{p q:α->α->Bool}:∀{l:List α},l.Pairwise (λa b=>p a b=q a b)->cl p l=cl q l
 | [],_=>rfl
 | a::l,h=>by
  rw[Qbw]at h
  show (l.filter (p a):)+cl p l=(l.filter (q a):)+cl q l
  rw[AJ h.2,Qdl λb hb=>h.1 b hb]
theorem Ka(h1:a<b)(h2:a'<b')(h4:a<a')(h5:b≠a')(h6:b≠b'):(o_ (a,b) (a',b')||o_ (a',b') (a,b))=rA a b a' b':=by
 have g4:=Qdn h4 h2
 rw[Jh (Qa0 h1) (Qa0 h4) (Qa0 g4) h5 h6]
 unfold o_
 rw[decide_eq_true h4,decide_eq_true g4,decide_eq_false (Qep h4),lH (Ne.symm h6)]
 have k:decide (b'<b)=true->decide (a'<b)=true:=λq=>decide_eq_true (Qdn h2 (of_decide_eq_true q))
 revert k
 generalize decide (a'<b)=p
 generalize decide (b'<b)=q
 revert p q
 decide
theorem yM(h1:a<b)(h2:a'<b')(h3:a≠a')(h4:a≠b')(h5:b≠a')(h6:b≠b'):(o_ (a,b) (a',b')||o_ (a',b') (a,b))=rA a b a' b':=by
 rcases Qdd h3 with q | q
 ·exact Ka h1 h2 q h5 h6
 ·rw[Bool.or_comm,Ka h2 h1 q (Ne.symm h4) (Ne.symm h6),oz (Qa0 h2) (Qa0 h1) (Ne.symm h3) (Ne.symm h5) (Ne.symm h4) (Ne.symm h6)]
theorem Nn(h1:a≠b)(h2:a'≠b')(h3:a≠a')(h4:a≠b')(h5:b≠a')(h6:b≠b'):(o_ (min a b,max a b) (min a' b',max a' b')||o_ (min a' b',max a' b') (min a b,max a b))=rA a b a' b':=by
 rcases Qdd h1 with q | q<;>rcases Qdd h2 with r | r
 ·rw[Qa8 (Qbp q),Qdm (Qbp q),Qa8 (Qbp r),Qdm (Qbp r)]
  exact yM q r h3 h4 h5 h6
 ·rw[Qa8 (Qbp q),Qdm (Qbp q),Qco (Qbp r),Qdf (Qbp r),km]
  exact yM q r h4 h3 h6 h5
 ·rw[Qco (Qbp q),Qdf (Qbp q),Qa8 (Qbp r),Qdm (Qbp r), <-Ar h1 h2 h3 h4 h5 h6]
  exact yM q r h5 h6 h3 h4
 ·rw[Qco (Qbp q),Qdf (Qbp q),Qco (Qbp r),Qdf (Qbp r), <-Ar h1 h2 h3 h4 h5 h6,km]
  exact yM q r h6 h5 h4 h3
section
variable{y:c5}{ws:List c5}{L:Nat->Bool}{r:Nat->Nat}{M:Nat}
noncomputable def rF(ps:List (Nat×Nat×Nat))(c i e:Nat):Nat:=ps.idxOf (c,i,e)
theorem Np(h:i<n):kA n ((i:Int) - 1)=Bb n i/\kA n (i:Int)=i:=by
 have h1:=fD (n:=n) () ((i:Int) - 1)
 have h2:=fD (n:=n) () (i:Int)
 rw[Ee h]at h1
 rw[Qbm () ()]at h2
 lia
theorem oO(hi:i<((ws|||c):)):(mB ps c (ws|||c) i).2.2.1=pI ws (rF ps) c ((i:Int) - 1)/\(mB ps c (ws|||c) i).2.2.2=pO ws (rF ps) c i:=by
 obtain ⟨e1,e2⟩:=Np hi
 have g:∀k,k<((ws|||c):)->(ws|||c).getD k 0=rd (ws|||c) k:=λk hk=>by
  rw[Qak,jm hk];rfl
 have da:(ws|||c)≠[]:=λz=>by rw[z]at hi;exact absurd hi (Qfk _)
 unfold mB pI pO rF
 rw[e1,e2,g _ (CA hi),g _ hi]
 refine ⟨?_,rfl⟩
 have:rd (ws|||c) (Bb ((ws|||c):) i:Nat)=rd (ws|||c) ((i:Int) - 1):=by rw[<-e1,cn da]
 rw[this]
theorem qq(ps:List (Nat×Nat×Nat))(ws:List c5):∀n,hZ ps ws n=(Ap ws n).map λx=>mB ps x.1 (ws.getD x.1 []) x.2
 | 0=>rfl
 | n+1=>by
  have ih:=qq ps ws n
  unfold hZ at ih ⊢
  unfold Ap
  rw[Qcy,Qb4,ih,Qao,Qd6,Qcd]
  rfl
theorem Kb(ws:List c5)(n:Nat):(Ap ws n).Nodup:=(DV n).imp λ{a b} h z=>by
 rw[z]at h
 unfold Ll at h
 simp at h
theorem Kc(h:eR y ws L r M)(hN:gO y ws R (rF ps))(l:List (Nat×Nat))(hl:l.Nodup)(mC:∀x∈l,x.1<(ws:)/\x.2<(ws.getD x.1 []:)):(fG (l.map λx=>mB ps x.1 (ws.getD x.1 []) x.2)).Nodup:=by
 unfold fG
 induction l with
 | nil=>exact List.Pairwise.nil
 | cons x t ih=>
  rw[Qa5]at hl
  rw[Qa2,Qbu,Qbe]
  obtain ⟨x1,x2⟩:=mC x Xh
  have ex:=oO (ps:=ps) (ws:=ws) (c:=x.1) x2
  refine ⟨?_,ih hl.2 λz hz=>mC z (Sd _ hz),λa ha b hb e=>?_⟩
  ·rw[ex.1,ex.2,Qa5]
   exact ⟨by simpa using (fE h hN x1 x1 x2 x2).1,by simp⟩
  ·obtain ⟨c4,hc4,BY⟩:=Qby.mp hb
   obtain ⟨z,hz,rfl⟩:=Qar.mp hc4
   obtain ⟨z1,z2⟩:=mC z (Sd _ hz)
   have ez:=oO (ps:=ps) (ws:=ws) (c:=z.1) z2
   have da:(x.1,x.2)≠(z.1,z.2):=λq=>hl.1 (by
    have:x=z:=Prod.ext (Prod.mk.inj q).1 (Prod.mk.inj q).2
    rw[this];exact hz)
   have n1:=fE h hN x1 z1 x2 z2
   have n2:=fE h hN z1 x1 z2 x2
   rw[ex.1,ex.2]at ha
   rw[ez.1,ez.2]at BY
   have Sl:a=pI ws (rF ps) x.1 ((x.2:Int) - 1)\/a=pO ws (rF ps) x.1 x.2:=by simpa using ha
   have vC:b=pI ws (rF ps) z.1 ((z.2:Int) - 1)\/b=pO ws (rF ps) z.1 z.2:=by simpa using BY
   rw[e]at Sl
   rcases Sl with p | p<;>rcases vC with q | q<;>rw[p]at q
   ·exact (n1.2 da).1 q
   ·exact n1.1 q
   ·exact n2.1 q.symm
   ·exact (n1.2 da).2 q
theorem Kd(h:eR y ws L r M)(hN:gO y ws R (rF ps))(l:List (Nat×Nat))(hl:l.Nodup)(mC:∀x∈l,x.1<(ws:)/\x.2<(ws.getD x.1 []:)):cl (λx z=>o_ x z||o_ z x) (um (l.map λx=>mB ps x.1 (ws.getD x.1 []) x.2))=cl (Sq ws (rF ps)) l:=by
 unfold um
 rw[Qcd,J_]
 refine AJ (Qe6 (λ{a b} ha hb yj=>?_) hl)
 obtain ⟨a1,a2⟩:=mC a ha
 obtain ⟨b1,b2⟩:=mC b hb
 have ea:=oO (ps:=ps) (ws:=ws) (c:=a.1) a2
 have eb:=oO (ps:=ps) (ws:=ws) (c:=b.1) b2
 have da:(a.1,a.2)≠(b.1,b.2):=yj
 have n1:=fE h hN a1 b1 a2 b2
 have n2:=fE h hN b1 a1 b2 a2
 have n3:=fE h hN a1 a1 a2 a2
 have n4:=fE h hN b1 b1 b2 b2
 show (o_ (min _ _,max _ _) (min _ _,max _ _)||o_ (min _ _,max _ _) (min _ _,max _ _))=Sq ws (rF ps) a b
 rw[ea.1,ea.2,eb.1,eb.2,Nn n3.1 n4.1 (n1.2 da).1 n1.1 (Ne.symm n2.1) (n1.2 da).2]
 rfl
end
noncomputable def kr(w:c5):Int:=(((w:) / J4 w:Nat):Int)
theorem AK{w:c5}(hw:w≠[])(hv:v≠[])(e:∀d:Int,b8 w w d 0↔b8 v v d 0):J4 w=J4 v:=FV hw hv (ux hw) (ux hv) e
theorem uC{w:c5}(hn:n<=(w:)):(b7 w n:)=(w:):=by
 unfold b7
 rw[kb,Qav,Qad,Qa8 hn,Nat.sub_add_cancel hn]
theorem Ke{w:c5}(h:w≠[])(e:(v:)=(w:)):v≠[]:=λz=>h (Qcl.mp (by rw[<-e,z];rfl))
theorem Kf{w:c5}(hw:w≠[])(hn:n<=(w:)):kr (b7 w n)=kr w:=by
 unfold kr
 rw[uC hn,AK (Ke hw (uC hn)) hw (M4 hw hn)]
theorem Rt{w:c5}(hy:Yd y)(hw:SW y w):kr (bK w)=kr w:=by
 unfold kr
 rw[bJ,AK (qe hw.ne) hw.ne (M5 hy hw)]
noncomputable def uD(y w:c5):Int:=SS y w w+2*(kr w - 1)
noncomputable def CL(y:c5)(ws:List c5):Int:=sm (ws:) (λc=>uD y (ws.getD c.toNat []))+2*vG (ws:) (λc d=>SS y (ws.getD c.toNat []) (ws.getD d.toNat []))
theorem Ru(h:Int->Int)(n:Nat):2*sm n h=sm n λi=>2*h i:=by
 rw[show (λi=>2*h i)=λi=>h i+h i from funext λi=>Int.two_mul _,ud,Int.two_mul]
theorem Rv{N:Nat->Nat->Nat->Nat}(h:eR y ws (GQ ws) (GR ws) M)(hN:Lies y ws (GQ ws) (GR ws) M N):2*(cl (Sq ws N) (places ws):Int)=CL y ws:=by
 unfold places CL
 rw[Jp,Int.mul_add,Ru]
 congr 1
 ·refine aK λc hc=>?_
  rw[Qap]
  have a:=Jl h hN hc
  rw[OP h.yd (h.sw c hc) (h.sw c hc)]at a
  rw[show vG ((ws|||c):) (λi j=>one (Sq ws N (c,i.toNat) (c,j.toNat)=true))=vG ((ws|||c):) (λi j=>one (jd (pO ws N c) (pI ws N c) (pO ws N c) (pI ws N c) i j=true)) from lI λi j _ _=>by
   unfold Sq
   rw[Qap,Qap],a]
  rfl
 ·congr 1
  refine lI λc d lX hd=>?_
  rw[Qap,Qap, <-OP h.yd (h.sw c (Qdn lX hd)) (h.sw d hd), <-FT h hN (c:=c) (d:=d) (Qdn lX hd) hd (Qa0 lX)]
  exact bz λi j _ _=>by
   unfold Sq
   rw[Qap,Qap]
theorem Gh(hy:Yd y)(hw:∀w∈ws,SW y w)(h:yL y ws os):(fG (w_ y ws os)).Nodup/\2*(cl (λx z=>o_ x z||o_ z x) (um (w_ y ws os)):Int)=CL y ws:=by
 obtain ⟨M,hC,hT⟩:=Rr hy hw h
 have hN:Lies y ws (GQ ws) (GR ws) M (rF (nz y os)):=lies_of hy hC.sw hT
 have mC:∀x∈places ws,x.1<(ws:)/\x.2<(ws.getD x.1 []:):=λx hx=>yk.mp hx
 unfold w_
 rw[qq]
 refine ⟨Kc hC hN _ (Kb ws _) mC,?_⟩
 rw[Kd hC hN _ (Kb ws _) mC]
 exact Rv hC hN
theorem Kg(y w:c5):CL y [w]=uD y w:=by
 show (0+uD y w)+2*(0+0)=_
 lia
theorem QV.ok(h:QV y ws):V2 y ws:=⟨h.jR,λw hw=>⟨(h.sw w hw).1.aY,(h.sw w hw).2⟩⟩
theorem Gi(h:QV y ws):(w_ y ws os:)<=24:=by
 unfold w_
 rw[qq,Xi]
 exact h.all
theorem Nq{w:c5}(h:SW y w)(hz:(w:)<=12):QV y [w]:=⟨λv hv=>by rw[U0.mp hv];exact ⟨h,hz⟩,by show 1<=4;decide,by
 have:=ym (ws:=[w]) (m:=12) (λv hv=>by rw[U0.mp hv];exact hz) 1 (Qaa _)
 unfold places
 show (Ap [w] 1:)<=24
 lia⟩
inductive uE(p_:c6)(vs:List V)(H:Hp)(Q:VK)(dN:XK):Prop
 | mk (y:c5) (wt:Addr) (ws:List c5) (_:vs=[.str (S y),.ref wt]) (_:Yd y) (_:(y:)<=8) (_:QV y ws) (_:H wt=some (.tup (ck ws))) (_:∀(n:Nat) H',ay H H'->2*(n:Int)=CL y ws->Q (.int n) H'):uE p_ vs H Q dN
def AL(p_:c6):Sp:=uE p_
theorem Gj(h:AL K vs H Q E):(vs:)=2:=by obtain ⟨_,_,_,rfl,_⟩:=h;rfl
inductive AM(p_:c6)(vs:List V)(H:Hp)(Q:VK)(dN:XK):Prop
 | mk (y w:c5) (_:vs=[.str (S y),.str (S w)]) (_:Yd y) (_:(y:)<=8) (_:SW y w) (_:(w:)<=12) (_:∀(n:Nat) H',ay H H'->2*(n:Int)=uD y w->Q (.int n) H'):AM p_ vs H Q dN
def Kh(p_:c6):Sp:=AM p_
theorem len_own(h:Kh K vs H Q E):(vs:)=2:=by obtain ⟨_,_,rfl,_⟩:=h;rfl
theorem oP(h:i<n):(i+1)%n=if i+1=n then 0 else i+1:=by
 by_cases z:i+1=n
 ·rw[if_pos z,z,Qfi]
 ·rw[if_neg z];exact Qct ()
noncomputable def gu(y:c5)(e:Nat):Nat:=y.getD ((y.idxOf e+1)%(y:)) 0
theorem jq(h:e∈y):∃hk:(y.idxOf e+1)%(y:)<(y:),gu y e=y[(y.idxOf e+1)%(y:)]:=by
 have hp:=Qd5 h
 have hk:(y.idxOf e+1)%(y:)<(y:):=Qdc _ hp
 exact ⟨hk,by unfold gu;rw[Qak,P4 hk];rfl⟩
theorem lK(h:e∈y):gu y e∈y:=by
 obtain ⟨hk,e2⟩:=jq h
 rw[e2];exact Qbk hk
theorem Eu(hn:y.Nodup)(ha:a∈y)(hb:b∈y)(e:gu y a=gu y b):a=b:=by
 obtain ⟨k1,e1⟩:=jq ha
 obtain ⟨k2,e2⟩:=jq hb
 rw[e1,e2]at e
 have ix:=wR hn k1 k2 e
 have ia:=Qae ha
 have ib:=Qae hb
 rw[oP ia,oP ib]at ix
 have:y.idxOf a=y.idxOf b:=by split at ix<;>split at ix<;>lia
 have g1:=Qbf ia
 have g2:=Qbf ib
 rw[<-g1, <-g2]
 congr 1
theorem kM(hn:y.Nodup)(ha:a∈y)(h2:2<=(y:)):gu y a≠a:=by
 obtain ⟨k1,e1⟩:=jq ha
 have ia:=Qae ha
 intro z
 rw[e1]at z
 have g1:=Qbf ia
 have ix:=wR hn k1 ia (z.trans g1.symm)
 rw[oP ia]at ix
 split at ix<;>lia
noncomputable def cD(y:c5)(e:Nat):Nat:=gu y (aC e)
theorem oQ(h:Yd y)(he:e∈y):cD y e∈y:=lK (h.cl e he)
theorem Nr(h:Yd y)(ha:a∈y)(hb:b∈y)(e:cD y a=cD y b):a=b:=
 dh (h.lt a ha) (h.lt b hb) (Eu h.nd (h.cl a ha) (h.cl b hb) e)
def Path(f:Nat->Nat):c5->Nat->Prop
 | [],_=>True
 | a::r,z=>f a=r.headD z/\Path f r z
theorem oR(a b:c5)(z:Nat):(a++b).headD z=a.headD (b.headD z):=by cases a<;>rfl
theorem dD{f:Nat->Nat}:∀{a b:c5} {z:Nat},Path f (a++b) z↔Path f a (b.headD z)/\Path f b z
 | [],b,z=>⟨λh=>⟨trivial,h⟩,λh=>h.2⟩
 | c::a,b,z=>by
  show (f c=(a++b).headD z/\Path f (a++b) z)↔(f c=a.headD (b.headD z)/\Path f a (b.headD z))/\Path f b z
  rw[oR,dD (a:=a),and_assoc]
theorem r_{f:Nat->Nat}:∀{w:c5} {z k a b:Nat},Path f w z->w[k]? =some a->w[k+1]? =some b->b=f a
 | [],z,k,a,b,_,h,_=>by cases h
 | c::r,z,0,a,b,h,h1,h2=>by
  have e1:c=a:=by simpa using h1
  have e2:r[0]? =some b:=by simpa using h2
  cases r with
  | nil=>cases e2
  | cons d r=>
   have e3:d=b:=by simpa using e2
   have:=h.1
   rw[<-e3, <-e1]
   exact this.symm
 | c::r,z,k+1,a,b,h,h1,h2=>r_ h.2 (by simpa using h1) (by simpa using h2)
theorem AN{f:Nat->Nat}:∀{w:c5} {z c:Nat},Path f w z->c∈w->f c∈w\/f c=z
 | [],z,c,_,h=>absurd h Qan
 | a::r,z,c,h,hc=>by
  rcases Qab.mp hc with e | e
  ·subst e
   rw[h.1]
   cases r with
   | nil=>exact .inr rfl
   | cons d r=>exact .inl (Sd _ Xh)
  ·rcases AN h.2 e with z | z
   ·exact .inl (Sd _ z)
   ·exact .inr z
structure fJ(f:Nat->Nat)(w:c5):Prop where
 ne:w≠[]
 nd:w.Nodup
 pa:Path f w (w.headD 0)
theorem fJ.closed{f:Nat->Nat}{w:c5}(h:fJ f w)(hc:c∈w):f c∈w:=by
 rcases AN h.pa hc with z | z
 ·exact z
 ·rw[z]
  cases w with
  | nil=>exact absurd hc Qan
  | cons a r=>exact Xh
theorem xj{f:Nat->Nat}{c:Nat}:∀{r s:c5},Path f r c->Path f s c->c∉r->c∉s->r.headD c=s.headD c->r=s
 | [],[],_,_,_,_,_=>rfl
 | [],b::s,_,_,_,hs,e=>absurd (show c=b from e) λz=>hs (z▸Xh)
 | a::r,[],_,_,hr,_,e=>absurd (show a=c from e) λz=>hr (z▸Xh)
 | a::r,b::s,h1,h2,hr,hs,e=>by
  have e':a=b:=e
  subst e'
  rw[xj h1.2 h2.2 (λz=>hr (Sd _ z)) (λz=>hs (Sd _ z)) (h1.1.symm.trans h2.1)]
theorem fJ.begun{f:Nat->Nat}{a b:c5}(h:fJ f (a++c::b)):fJ f (c::b++a):=by
 refine ⟨by simp,(Qcj.nodup_iff).mp h.nd,?_⟩
 have hp:=h.pa
 rw[oR]at hp
 rw[dD]at hp
 show Path f (c::b++a) c
 rw[dD]
 exact ⟨hp.2,hp.1⟩
theorem fJ.one{f:Nat->Nat}{r s:c5}(h:fJ f (c::r))(g:fJ f (c::s)):r=s:=
 xj h.pa.2 g.pa.2 (Qa5.mp h.nd).1 (Qa5.mp g.nd).1 (h.pa.1.symm.trans g.pa.1)
theorem fJ.ring{f:Nat->Nat}(h:fJ f u)(g:fJ f v)(hu:c∈u)(hv:c∈v)(lu:AllLt u)(lv:AllLt v):aH u=aH v/\∀d,d∈u↔d∈v:=by
 obtain ⟨a,b,rfl⟩:=Qcq hu
 obtain ⟨a2,b2,rfl⟩:=Qcq hv
 have e:b++a=b2++a2:=h.begun.one g.begun
 constructor
 ·rw[gI lu.left lu.right,gI lv.left lv.right]
  show aH (c::(b++a))=aH (c::(b2++a2))
  rw[e]
 ·intro d
  have m1:d∈a++c::b↔d=c\/d∈b++a:=by simp only[Qai,Qab];constructor<;>(intro z;rcases z with z | z | z<;>simp[z])
  have m2:d∈a2++c::b2↔d=c\/d∈b2++a2:=by simp only[Qai,Qab];constructor<;>(intro z;rcases z with z | z | z<;>simp[z])
  rw[m1,m2,e]
theorem fJ.shortest{w:c5}(h:Yd y)(h2:2<=(y:))(o:fJ (cD y) w)(hw:∀c∈w,c∈y):core (red w)=w:=by
 have key:∀{a b:Nat},a∈w->b=cD y a->a≠aC b:=λ{a b} ha e z=>by
  have hy:=hw a ha
  have e2:aC a=b:=by rw[z,aE (by rw[e];exact h.lt _ (oQ h hy))]
  exact kM h.nd (h.cl a hy) h2 (show cD y a=aC a by rw[e2,e])
 have hr:red w=w:=fu (B7 λk a b e1 e2=>key (Qaf e1) (r_ o.pa e1 e2))
 rw[hr]
 refine p9 λa m z e=>?_
 have hp:=o.pa
 rw[e]at hp
 have mU:Path (cD y) ((a::m)++[z]) a:=hp
 rw[dD]at mU
 have e3:cD y z=a:=mU.2.1
 have hz:z∈w:=by rw[e];simp
 intro q
 have hzy:=hw z hz
 exact kM h.nd (h.cl z hzy) h2 (by show cD y z=aC z;rw[e3,q])
theorem fJ.bR{y w:c5}(h:Yd y)(h2:2<=(y:))(o:fJ (cD y) w)(hw:∀c∈w,c∈y):aH w=bR w:=by rw[iT,o.shortest h h2 hw]
theorem qr(w:c5)(c:Nat):c∈bR w↔c∈w:=by
 obtain ⟨k,e⟩:=fQ w
 rw[e]
 unfold b7
 constructor
 ·intro z;exact (Qai.mp z).elim Qc2 Qbi
 ·intro z
  rw[<-Qaw k w]at z
  exact (Qai.mp z).elim (Qal _) (Qbj _)
structure Parts(y:c5)(ws:List c5):Prop where
 g7:∀w∈ws,fJ (cD y) w/\∀c∈w,c∈y
 CM:ws.Pairwise λu v=>∀c,c∈u->c∉v
 all:∀c∈y,∃w∈ws,c∈w
theorem Parts.Ki(h:Yd y)(h2:2<=(y:))(g7:∀w∈ws,fJ (cD y) w/\∀c∈w,c∈y)(CM:ws.Pairwise λu v=>∀c,c∈u->c∉v):(ws.map aH).Nodup:=by
 show (ws.map aH).Pairwise (· ≠ ·)
 rw[Qb1]
 refine CM.imp_of_mem λ{u v} hu hv d e=>?_
 obtain ⟨ou,uy⟩:=g7 u hu
 obtain ⟨ov,vy⟩:=g7 v hv
 cases hq:u with
 | nil=>exact ou.ne hq
 | cons c r=>
  have hc:c∈u:=by rw[hq];exact Xh
  rw[ou.bR h h2 uy,ov.bR h h2 vy]at e
  have:=(qr u c).mpr hc
  rw[e,qr]at this
  exact d c hc this
variable{us:List c5}
theorem Parts.perm(h:Yd y)(h2:2<=(y:))(a:Parts y ws)(b:Parts y us):(ws.map aH).Perm (us.map aH):=by
 have lt:∀{w:c5},(∀c∈w,c∈y)->AllLt w:=λ{w} hw c hc=>h.lt c (hw c hc)
 have one:∀{ws us:List c5},Parts y ws->Parts y us->∀x∈ws.map aH,x∈us.map aH:=λ{ws us} a b x hx=>by
  obtain ⟨w,hw,rfl⟩:=Qar.mp hx
  obtain ⟨ow,wy⟩:=a.g7 w hw
  cases hq:w with
  | nil=>exact absurd hq ow.ne
  | cons c r=>
   have hc:c∈w:=by rw[hq];exact Xh
   obtain ⟨u,hu,cu⟩:=b.all c (wy c hc)
   obtain ⟨ou,uy⟩:=b.g7 u hu
   rw[<-hq,(ow.ring ou hc cu (lt wy) (lt uy)).1]
   exact Qar.mpr ⟨u,hu,rfl⟩
 exact (Qb6 (Parts.Ki h h2 a.g7 a.CM) (Parts.Ki h h2 b.g7 b.CM)).mpr λx=>⟨one a b x,one b a x⟩
structure Way(y w:c5):Prop where
 nd:w.Nodup
 aY:∀c∈w,c∈y
 pa:∀z,w≠[]->cD y (w.getLastD 0)=z->Path (cD y) w z
theorem fW(w:c5)(c d:Nat):(w++[c]).getLastD d=c:=by simp[List.getLastD_eq_getLast?]
theorem Way.more{w:c5}(h:Yd y)(o:Way y w)(da:w≠[])(hb:cD y (w.getLastD 0)≠w.headD 0):Way y (w++[cD y (w.getLastD 0)]):=by
 obtain ⟨m,l,e⟩:∃m l,w=m++[l]:=by
  rcases snoc_cases w with z | z
  ·exact absurd z da
  ·exact z
 have hl:w.getLastD 0=l:=by rw[e,fW]
 rw[hl]at hb ⊢
 have hlw:l∈w:=by rw[e];simp
 have Su:=o.aY l hlw
 have hP:=o.pa (cD y l) da (by rw[hl])
 have Zv:cD y l∉w:=λz=>by
  -- Yk comes there a second time comes from N_ same one
  obtain ⟨i,hi,ei⟩:=List.mem_iff_getElem.mp z
  cases i with
  | zero=>
   apply hb
   cases w with
   | nil=>exact absurd rfl da
   | cons a r=>exact ei.symm
  | succ i=>
   have e1:w[i]? =some w[i]:=P4 ()
   have e2:w[i+1]? =some w[i+1]:=P4 hi
   have e3:=r_ hP e1 e2
   rw[ei]at e3
   have e4:=Nr h Su (o.aY _ (Qbk _)) e3
   have hlen:(w:)=(m:)+1:=by rw[e];simp
   have e5:w[(m:)]'()=l:=by simp[e]
   have:=wR o.nd () () (e5.trans e4)
   lia
 refine ⟨?_,λc hc=>?_,λz _ hz=>?_⟩
 ·rw[Qbe]
  refine ⟨o.nd,Qa5.mpr ⟨Qan,Qcm⟩,λa ha b vC q=>?_⟩
  rw[U0.mp vC]at q
  exact Zv (q▸ha)
 ·rcases Qai.mp hc with q | q
  ·exact o.aY c q
  ·rw[U0.mp q];exact oQ h Su
 ·rw[dD]
  rw[fW]at hz
  exact ⟨hP,hz,trivial⟩
theorem Way.one(hc:c∈y):Way y [c]:=⟨Qa5.mpr ⟨Qan,Qcm⟩,λd hd=>by rw[U0.mp hd];exact hc,λz _ hz=>⟨hz,trivial⟩⟩
theorem Way.back{w:c5}(o:Way y w)(da:w≠[])(hb:cD y (w.getLastD 0)=w.headD 0):fJ (cD y) w:=⟨da,o.nd,o.pa _ da hb⟩
theorem Way.len{w:c5}(o:Way y w):(w:)<=(y:):=o.nd.length_le_of_subset λc hc=>o.aY c hc
theorem Ew{f:Nat->Nat}:∀{w:c5} {z:Nat},(∀i a,w[i]? =some a->f a=(w[i+1]?).getD z)->Path f w z
 | [],_,_=>trivial
 | a::r,z,h=>by
  refine ⟨?_,Ew λi b hb=>h (i+1) b (by simpa using hb)⟩
  have:=h 0 a rfl
  rw[this]
  cases r with
  | nil=>rfl
  | cons b r=>rfl
theorem oS{f g:Nat->Nat}:∀{w:c5} {z:Nat},Path f w z->Path g w z->∀c∈w,f c=g c
 | [],_,_,_,_,h=>absurd h Qan
 | a::r,z,h1,h2,c,hc=>by
  rcases Qab.mp hc with e | e
  ·rw[e,h1.1,h2.1]
  ·exact oS h1.2 h2.2 c e
theorem m7{f g:Nat->Nat}:∀{w:c5} {z:Nat},Path f w z->(∀c∈w,g c=f c)->Path g w z
 | [],_,_,_=>trivial
 | a::r,z,h,e=>⟨by rw[e a Xh];exact h.1,m7 h.2 λc hc=>e c (Sd _ hc)⟩
theorem lL(hn:y.Nodup)(hy:y≠[]):fJ (gu y) y:=by
 refine ⟨hy,hn,Ew λi a h=>?_⟩
 obtain ⟨hi,e⟩:=P5.mp h
 have ha:a∈y:=Qaf h
 obtain ⟨hk,e2⟩:=jq ha
 have hx:y.idxOf a=i:=wR hn (Qae ha) hi ((Qbf _).trans e.symm)
 have e3:gu y a=y[(i+1)%(y:)]'(Qdc _ ()):=by rw[e2];congr 2;rw[hx]
 rw[e3]
 by_cases z:i+1<(y:)
 ·rw[P4 z]
  show _=y[i+1]
  congr 1
  exact Qct z
 ·rw[Qc0 ()]
  have e4:(i+1)%(y:)=0:=by rw[show i+1=(y:) by lia,Qfi]
  cases y with
  | nil=>exact absurd rfl hy
  | cons b r=>
   show (b::r)[(i+1)%((b::r):)]'_=b
   simp only[e4]
   rfl
theorem Ho{a b:c5}(h:S a=S b):a=b:=by rw[<-cf a,h,cf]
noncomputable def tk(e:Nat):Key:=Sum.inr (S [e])
theorem Rw(h:tk a=tk b):a=b:=by
 have:=Ho (Sum.inr.inj h)
 simpa using this
inductive mF(p_:c6)(vs:List V)(H:Hp)(Q:VK)(dN:XK):Prop
 | mk (y:c5) (e:Nat) (_:vs=[.str (S y),.str (S [e])]) (_:e∈y) (_:(y:)<=1000) (_:Q (.str (S [gu y e])) H):mF p_ vs H Q dN
def qU(p_:c6):Sp:=mF p_
theorem yN(h:qU K vs H Q E):(vs:)=2:=by obtain ⟨c,_,rfl,_⟩:=h;rfl
inductive jK(p_:c6)(vs:List V)(H:Hp)(Q:VK)(dN:XK):Prop
 | mk (y:c5) (e:Nat) (_:vs=[.str (S y),.str (S [e])]) (_:Yd y) (_:e∈y) (_:(y:)<=100) (_:∀w,fJ (cD y) w->(∀c∈w,c∈y)->aC e∈w->Q (.str (S w)) H):jK p_ vs H Q dN
def mG(p_:c6):Sp:=jK p_
theorem uF(h:mG K vs H Q E):(vs:)=2:=by obtain ⟨c,_,rfl,_⟩:=h;rfl
def eG(y:c5)(L:List c5):Prop:=∃ws,Parts y ws/\L.Perm (ws.map aH)/\L.Pairwise λa b=> ¬b<a
variable{L:List c5}
theorem eG.lt(h:Yd y)(a:eG y L):∀l∈L,∀c∈l,c<128:=λl hl c hc=>by
 obtain ⟨ws,p,q,r⟩:=a
 obtain ⟨w,hw,rfl⟩:=Qar.mp (q.mem_iff.mp hl)
 exact (IJ (λd hd=>h.lt d ((p.g7 w hw).2 d hd)) c hc).lt
theorem eG.jR(a:eG y L):L.length<=(y:)/\∀l∈L,(l:)<=(y:):=by
 obtain ⟨ws,p,q,r⟩:=a
 constructor
 ·rw[q.length_eq,Xi]
  have key:∀(ws:List c5),(∀w∈ws,w≠[]/\w.Nodup/\∀c∈w,c∈y)->(ws.Pairwise λu v=>∀c,c∈u->c∉v)->ws.flatten.Nodup/\(∀c∈ws.flatten,c∈y)/\(ws:)<=(ws.flatten:):=by
   intro ws
   induction ws with
   | nil=>intro _ _;exact ⟨Qcm,λ_ h=>absurd h Qan,Qaa _⟩
   | cons w ws ih=>
    intro h d
    obtain ⟨h1,h2⟩:=Qbw.mp d
    obtain ⟨i1,i2,i3⟩:=ih (λu hu=>h u (Sd _ hu)) h2
    obtain ⟨g1,g2,g3⟩:=h w Xh
    refine ⟨?_,λc hc=>?_,?_⟩
    ·rw[Qc3,Qbe]
     refine ⟨g2,i1,λa ha b hb z=>?_⟩
     subst z
     obtain ⟨u,hu,hau⟩:=List.mem_flatten.mp hb
     exact h1 u hu a ha hau
    ·rw[Qc3]at hc
     exact (Qai.mp hc).elim (g3 c) (i2 c)
    ·rw[Qc3,kb,Qa4]
     have:=Qah.mpr g1
     lia
  obtain ⟨k1,k2,k3⟩:=key ws (λw hw=>⟨(p.g7 w hw).1.ne,(p.g7 w hw).1.nd,(p.g7 w hw).2⟩) p.CM
  exact Qbb k3 (k1.length_le_of_subset λc hc=>k2 c hc)
 ·intro l hl
  obtain ⟨w,hw,rfl⟩:=Qar.mp (q.mem_iff.mp hl)
  exact Qbb (p8 w) ((p.g7 w hw).1.nd.length_le_of_subset λc hc=>(p.g7 w hw).2 c hc)
def Ex(_:c6):Sp:=λvs H Q _=>∃y:c5,vs=[.str (S y)]/\Yd y/\2<=(y:)/\(y:)<=8/\∀(q:Addr) (L:List c5) (H':Hp),eG y L->H q=none->H' q=some (.lst (ck L))->ay H H'->Q (.ref q) H'
theorem Kj(h:Ex K vs H Q E):(vs:)=1:=by obtain ⟨c,rfl,_⟩:=h;rfl
def uG(_:c6):Sp:=λvs H Q _=>∃y:c5,vs=[.str (S y)]/\Yd y/\2<=(y:)/\(y:)<=8/\∀(L:List c5) (H':Hp),eG y L->ay H H'->Q (.int (((((y:):Int) / 2)+1 - (L.length:Int)) / 2)) H'
theorem AO(h:uG K vs H Q E):(vs:)=1:=by obtain ⟨c,rfl,_⟩:=h;rfl
structure yO(y:c5)(e:Nat)(w:c5)(pl:Nat):Prop where
 way:Way y w
 Sw:pl∈y
 no:w=[]->pl=e
 hd:w≠[]->w.headD 0=gu y e/\pl=aC (w.getLastD 0)
theorem Way.nil(y:c5):Way y []:=⟨Qcm,λ_ h=>absurd h Qan,λ_ h _=>absurd rfl h⟩
theorem yO.start(he:e∈y):yO y e [] e:=⟨Way.nil y,he,λ_=>rfl,λh=>absurd rfl h⟩
theorem Gk{w:c5}(h:w≠[]):(w++[c]).headD d=w.headD d:=by cases w with
 | nil=>exact absurd rfl h
 | cons a r=>rfl
theorem yO.turn{w:c5}{pl:Nat}(h:Yd y)(he:e∈y)(r:yO y e w pl)(go:w=[]\/pl≠e):yO y e (w++[gu y pl]) (aC (gu y pl)):=by
 have hm:=lK r.Sw
 by_cases z:w=[]
 ·have e1:=r.no z
  subst z
  exact ⟨Way.one hm,h.cl _ hm,λq=>absurd q (by simp),λ_=>⟨by rw[<-e1];rfl,rfl⟩⟩
 ·obtain ⟨h1,h2⟩:=r.hd z
  have da:=go.resolve_left z
  have e1:gu y pl=cD y (w.getLastD 0):=by rw[h2];rfl
  have hb:cD y (w.getLastD 0)≠w.headD 0:=λq=>da (Eu h.nd r.Sw he (by rw[e1,q,h1]))
  rw[e1]
  refine ⟨r.way.more h z hb,h.cl _ (by rw[<-e1];exact hm),λq=>absurd q (by simp),λ_=>⟨by rw[Gk z,h1],by rw[fW]⟩⟩
theorem yO.stop{w:c5}(h:Yd y)(r:yO y e w e)(da:w≠[]):fJ (cD y) w/\aC e∈w:=by
 obtain ⟨h1,h2⟩:=r.hd da
 have hl:w.getLastD 0∈w:=by
  rcases snoc_cases w with z | ⟨m,a,z⟩
  ·exact absurd z da
  ·rw[z,fW];simp
 refine ⟨r.way.back da ?_,?_⟩
 ·rw[h1];unfold cD;rw[<-h2]
 ·rw[h2,aE (h.lt _ (r.way.aY _ hl))];exact hl
structure jL(y:c5)(i:Nat)(ws:List c5):Prop where
 g7:∀w∈ws,fJ (cD y) w/\∀c∈w,c∈y
 CM:ws.Pairwise λu v=>∀c,c∈u->c∉v
 Zw:∀e∈y.take i,∃w∈ws,aC e∈w
 jR:(ws:)<=i
theorem jL.start(y:c5):jL y 0 []:=⟨λ_ h=>absurd h Qan,List.Pairwise.nil,λ_ h=>absurd h (by simp),Qaa _⟩
theorem jL.skip(r:jL y i ws)(he:y[i]? =some e)(z:∃w∈ws,aC e∈w):jL y (i+1) ws:=
 ⟨r.g7,r.CM,λd hd=>by
  rw[<-take_snoc he]at hd
  rcases Qai.mp hd with q | q
  ·exact r.Zw d q
  ·rw[U0.mp q];exact z,Qev r.jR⟩
theorem Kk{c:c5}(h:Yd y)(g7:∀w∈ws,fJ (cD y) w/\∀c∈w,c∈y)(CM:ws.Pairwise λu v=>∀c,c∈u->c∉v)(o:fJ (cD y) c)(hc:∀d∈c,d∈y)(he:e∈c)(no:∀w∈ws,e∉w):(ws++[c]).Pairwise λu v=>∀c,c∈u->c∉v:=by
 rw[Qbd]
 refine ⟨CM,Qbt _ _,λu hu v hv d du dv=>?_⟩
 rw[U0.mp hv]at dv
 obtain ⟨ou,uy⟩:=g7 u hu
 exact no u hu (((ou.ring o du dv (λd hd=>h.lt d (uy d hd)) (λd hd=>h.lt d (hc d hd))).2 e).mpr he)
theorem jL.turn{w:c5}(h:Yd y)(r:jL y i ws)(he:y[i]? =some e)(no: ¬ ∃w∈ws,aC e∈w)(o:fJ (cD y) w)(hw:∀c∈w,c∈y)(hc:aC e∈w):jL y (i+1) (ws++[w]):=by
 refine ⟨λu hu=>?_,Kk h r.g7 r.CM o hw hc λu hu z=>no ⟨u,hu,z⟩,λd hd=>?_,by rw[kb];exact Qc1 r.jR⟩
 ·rcases Qai.mp hu with q | q
  ·exact r.g7 u q
  ·rw[U0.mp q];exact ⟨o,hw⟩
 ·rw[<-take_snoc he]at hd
  rcases Qai.mp hd with q | q
  ·obtain ⟨u,hu,z⟩:=r.Zw d q
   exact ⟨u,Qbj _ hu,z⟩
  ·rw[U0.mp q];exact ⟨w,by simp,hc⟩
theorem jL.done(h:Yd y)(r:jL y (y:) ws):Parts y ws:=⟨r.g7,r.CM,λc hc=>by
 obtain ⟨w,hw,z⟩:=r.Zw (aC c) (by rw[Qbs];exact h.cl c hc)
 rw[aE (h.lt c hc)]at z
 exact ⟨w,hw,z⟩⟩
theorem fJ.congr{f g:Nat->Nat}{w:c5}(h:fJ f w)(e:∀c∈w,g c=f c):fJ g w:=⟨h.ne,h.nd,m7 h.pa e⟩
theorem Nt{a b:c5}(hn:(a++b).Nodup)(c:Nat)(hc:c∈a++b):gu (b++a) c=gu (a++b) c:=by
 cases b with
 | nil=>rw[Qa9,Qel]
 | cons d b=>
  have o1:=(lL hn (by simp)).begun
  have o2:fJ (gu (d::b++a)) (d::b++a):=lL (Qcj.nodup_iff.mp hn) (by simp)
  exact oS o2.pa o1.pa c (Qcj.mem_iff.mp hc)
theorem Yd.b7{a b:c5}(h:Yd (a++b)):Yd (b++a):=h.perm Qcj
theorem Gm{a b:c5}(h:Yd (a++b))(p:Parts (a++b) ws):Parts (b++a) ws:=
 ⟨λw hw=>⟨(p.g7 w hw).1.congr λc hc=>Nt h.nd _ (h.cl c ((p.g7 w hw).2 c hc)),λc hc=>Qcj.mem_iff.mp ((p.g7 w hw).2 c hc)⟩,p.CM,λc hc=>p.all c (Qcj.mem_iff.mp hc)⟩
theorem oT{w:c5}(h:Yd y)(h2:2<=(y:))(o:fJ (cD y) w)(hw:∀c∈w,c∈y):fJ (cD y) (aH w)/\∀c,c∈aH w↔c∈w:=by
 rw[o.bR h h2 hw]
 refine ⟨?_,qr w⟩
 obtain ⟨k,e⟩:=fQ w
 rw[e]
 unfold b7
 have o2:=o
 rw[<-Qaw k w]at o2
 cases q:w.drop k with
 | nil=>
  rw[q,Qa9]at o2
  rw[Qel]
  exact o2
 | cons d b=>
  rw[q]at o2
  exact o2.begun
theorem Nu(hn:y.Nodup)(he:e∈y):y.reverse.idxOf e=(y:) - 1 - y.idxOf e:=by
 have hi:=Qae he
 have hr:=Qbn.mpr he
 have hj:=Qae hr
 have ve:y.reverse.Nodup:=(Qex y).nodup_iff.mpr hn
 refine wR ve hj (by rw[Qas];lia) ?_
 rw[Qbf,List.getElem_reverse]
 have:(y:) - 1 - ((y:) - 1 - y.idxOf e)=y.idxOf e:=by lia
 simp only[this]
 exact (Qbf _).symm
theorem Ey(hn:y.Nodup)(he:e∈y):gu y.reverse (gu y e)=e:=by
 have hm:=lK he
 obtain ⟨hk,e1⟩:=jq he
 obtain ⟨Dy,e2⟩:=jq (Qbn.mpr hm)
 have hi:=Qae he
 have hx:y.idxOf (gu y e)=(y.idxOf e+1)%(y:):=wR hn (Qae hm) hk ((Qbf _).trans e1)
 have hr:=Nu hn hm
 rw[hx]at hr
 rw[e2,List.getElem_reverse]
 have key:(y:) - 1 - (y.reverse.idxOf (gu y e)+1)%(y.reverse:)=y.idxOf e:=by
  rw[Qas,hr]
  rw[oP hi]
  split
  ·rename_i q
   rw[show (y:) - 1 - 0+1=(y:) by lia,Qfi]
   lia
  ·rename_i q
   rw[show (y:) - 1 - (y.idxOf e+1)+1=(y:) - (y.idxOf e+1) by lia,Qct ()]
   lia
 simp only[key]
 exact Qbf _
theorem Yd.over(h:Yd y):Yd y.reverse:=h.perm (Qex y).symm
theorem AQ{f F h:Nat->Nat}:∀{w:c5} {z t:Nat},w≠[]->Path f w z->(∀c∈w,F (h (f c))=h c)->F (h (w.headD 0))=t->Path F (w.map h).reverse t
 | [],_,_,n,_,_,_=>absurd rfl n
 | [a],z,t,_,_,_,e=>⟨e,trivial⟩
 | a::b::r,z,t,_,p,e,q=>by
  have ih:=AQ (z:=z) (t:=h a) (w:=b::r) (by simp) p.2 (λc hc=>e c (Sd _ hc)) (by
   have:=e a Xh
   rw[p.1]at this
   exact this)
  rw[Qa2,Qey,dD]
  exact ⟨ih,q,trivial⟩
theorem Gn{f:Nat->Nat}{w:c5}(p:Path f (w++[a]) z):f a=z:=(dD.mp p).2.1
structure Sh(y w c:c5):Prop where
 lt:∀l∈w,Lt l
 jR:(w:)<=100
 is:core (red w)=c
 sw:SW y c
 len:(c:)<=12
noncomputable def V7(y c:c5):Bool:=decide (uD y c=0)
noncomputable def Sx(y:c5)(cs:List c5):Bool:=decide (CL y cs=0)
theorem Sh.of{w:c5}(hy:Yd y)(h:SW y w)(hz:(w:)<=12):Sh y w w:=⟨λl hl=>hy.lt l (h.aY l hl),(),h.core hy,h,hz⟩
inductive oU(p_:c6)(vs:List V)(H:Hp)(Q:VK)(dN:XK):Prop
 | mk (y w c:c5) (_:vs=[.str (S y),.str (S w)]) (_:Yd y) (_:(y:)<=8) (_:Sh y w c) (_:∀H',ay H H'->Q (.bl (V7 y c)) H'):oU p_ vs H Q dN
def uH(p_:c6):Sp:=oU p_
theorem AR(h:uH K vs H Q E):(vs:)=2:=by obtain ⟨_,_,_,rfl,_⟩:=h;rfl
def Ez(y:c5):List c5->List c5->Prop
 | [],[]=>True
 | w::ws,c::cs=>Sh y w c/\Ez y ws cs
 | _,_=>False
inductive kN(p_:c6)(vs:List V)(H:Hp)(Q:VK)(dN:XK):Prop
 | mk (y:c5) (wt:Addr) (ws cs:List c5) (_:vs=[.str (S y),.ref wt]) (_:Yd y) (_:(y:)<=8) (_:H wt=some (.tup (ck ws))) (_:Ez y ws cs) (_:QV y cs) (_:∀H',ay H H'->Q (.bl (Sx y cs)) H'):kN p_ vs H Q dN
def oV(p_:c6):Sp:=kN p_
theorem vK(h:oV K vs H Q E):(vs:)=2:=by obtain ⟨_,_,_,_,rfl,_⟩:=h;rfl
theorem uI(a:c5):∀ls:List c5,Lj (.str (S a)) (ck ls)=decide (a∈ls)
 | []=>by simp[Lj,ck]
 | l::ls=>by
  have ih:=uI a ls
  have e:Lj (.str (S a)) (ck (l::ls))=(Li (.str (S l)) (.str (S a))||Lj (.str (S a)) (ck ls)):=rfl
  rw[e,ih]
  have e2:Li (.str (S l)) (.str (S a))=decide (a=l):=by
   show (S l==S a)=_
   by_cases z:a=l
   ·subst z;simp
   ·rw[decide_eq_false z]
    exact beq_eq_false_iff_ne.mpr λq=>z (by rw[<-cf l,q,cf])
  rw[e2]
  by_cases z:a=l
  ·subst z;simp
  ·simp[z]
noncomputable def over(f:Nat->Nat)(a c:Nat):Nat:=if f c=a then f a else f c
theorem qt{f:Nat->Nat}{a:Nat}:∀{w:c5} {z:Nat},Path f w z->a∉w->Path (over f a) w (if z=a then f a else z)
 | [],_,_,_=>trivial
 | c::r,z,h,n=>by
  refine ⟨?_,qt h.2 λg=>n (Sd _ g)⟩
  unfold over
  rw[h.1]
  cases r with
  | nil=>rfl
  | cons d r=>
   show (if d=a then f a else d)=d
   rw[if_neg λg=>n (by rw[g];exact Sd _ Xh)]
theorem Kl{f:Nat->Nat}{l1 l2:c5}(h:fJ f (l1++a::l2))(da:l1++l2≠[]):fJ (over f a) (l1++l2):=by
 have Rx:=h.nd
 rw[Qbe]at Rx
 obtain ⟨g1,g2,g3⟩:=Rx
 obtain ⟨g4,g5⟩:=Qa5.mp g2
 have n1:a∉l1:=λz=>g3 a z a Xh rfl
 have hp:=h.pa
 rw[oR]at hp
 have hz:∀d,l1.headD ((a::l2).headD d)=l1.headD a:=λd=>rfl
 rw[hz,dD]at hp
 obtain ⟨p1,p2,p3⟩:=hp
 have q1:=qt p1 n1
 have q2:=qt p3 g4
 have e1:((a::l2).headD (l1.headD a))=a:=rfl
 rw[e1,if_pos rfl]at q1
 refine ⟨da,by rw[Qbe];exact ⟨g1,g5,λx hx y hy=>g3 x hx y (Sd _ hy)⟩,?_⟩
 have e2:(l1++l2).headD 0=if l1.headD a=a then f a else l1.headD a:=by
  cases l1 with
  | nil=>
   show l2.headD 0=if a=a then f a else a
   rw[if_pos rfl,p2]
   cases l2 with
   | nil=>exact absurd rfl da
   | cons b r=>rfl
  | cons c r=>
   show c=if c=a then f a else c
   rw[if_neg λg=>n1 (by rw[g];exact Xh)]
 rw[e2,dD]
 refine ⟨?_,q2⟩
 have e3:l2.headD (if l1.headD a=a then f a else l1.headD a)=f a:=by
  rw[p2]
  cases l2 with
  | nil=>
   show (if l1.headD a=a then l1.headD a else l1.headD a)=l1.headD a
   split<;>rfl
  | cons b r=>rfl
 rw[e3]
 exact q1
theorem AS(hn:y.Nodup)(ha:a∈y)(hc:c∈y)(hca:c≠a):gu (y.filter λd=>decide (d≠a)) c=over (gu y) a c:=by
 obtain ⟨l1,l2,rfl⟩:=Qcq ha
 have Rx:=hn
 rw[Qbe]at Rx
 obtain ⟨g1,g2,g3⟩:=Rx
 obtain ⟨g4,g5⟩:=Qa5.mp g2
 have n1:a∉l1:=λz=>g3 a z a Xh rfl
 have hf:((l1++a::l2).filter λd=>decide (d≠a))=l1++l2:=by
  rw[Qb3,Qba (by simp)]
  congr 1
  ·exact Qc5.mpr λd hd=>decide_eq_true λg=>n1 (g▸hd)
  ·exact Qc5.mpr λd hd=>decide_eq_true λg=>g4 (g▸hd)
 have hm:c∈l1++l2:=by
  rcases Qai.mp hc with z | z
  ·exact Qbj _ z
  ·exact Qal _ ((Qab.mp z).resolve_left hca)
 have da:l1++l2≠[]:=Qer hm
 rw[hf]
 have o1:=Kl (lL hn (Qer ha)) da
 have o2:=lL o1.nd da
 exact oS o2.pa o1.pa c hm
noncomputable def less(y:c5)(a:Nat):c5:=(y.filter λd=>decide (d≠a)).filter λd=>decide (d≠aC a)
theorem cA:c∈less y a↔c∈y/\c≠a/\c≠aC a:=by
 unfold less
 rw[Qag,Qag]
 simp[and_assoc]
theorem Nv(h:Yd y)(ha:a∈y):Yd (less y a):=by
 refine ⟨(h.nd.filter _).filter _,λc hc=>h.lt c (cA.mp hc).1,λc hc=>?_⟩
 obtain ⟨h1,h2,h3⟩:=cA.mp hc
 refine cA.mpr ⟨h.cl c h1,λz=>h3 ?_,λz=>h2 (dh (h.lt c h1) (h.lt a ha) z)⟩
 rw[<-z,aE (h.lt c h1)]
theorem kO(h:Yd y)(ha:a∈y)(he:e∈less y a):cD (less y a) e=(let g:=if cD y e=a then cD y (aC a) else cD y e;if g=aC a then (if cD y a=a then cD y (aC a) else cD y a) else g):=by
 have Lu:=cA.mp ((Nv h ha).cl e he)
 have hA:=h.cl a ha
 have Sy:aC a≠a:=j_ (h.lt a ha)
 have hcA:aC e∈y.filter λd=>decide (d≠a):=Qag.mpr ⟨Lu.1,decide_eq_true Lu.2.1⟩
 have hAm:aC a∈y.filter λd=>decide (d≠a):=Qag.mpr ⟨hA,decide_eq_true Sy⟩
 have k1:∀c∈y.filter (λd=>decide (d≠a)),gu (y.filter λd=>decide (d≠a)) c=over (gu y) a c:=λc hc=>by
  obtain ⟨m1,m2⟩:=Qag.mp hc
  exact AS h.nd ha m1 (of_decide_eq_true m2)
 have t1:gu y a=cD y (aC a):=by unfold cD;rw[aE (h.lt a ha)]
 show gu (less y a) (aC e)=_
 unfold less
 rw[AS (h.nd.filter _) hAm hcA Lu.2.2]
 unfold over
 rw[k1 _ hcA,k1 _ hAm]
 unfold over
 rw[t1]
 rfl
theorem fJ.same{f g:Nat->Nat}{w:c5}(o:fJ f w)(e:∀c∈w,g c=f c):fJ g w:=⟨o.ne,o.nd,m7 o.pa e⟩
theorem AU(h:Yd y)(ha:a∈y)(he:e∈less y a)(h1:cD y e≠a)(h2:cD y e≠aC a):cD (less y a) e=cD y e:=by
 rw[kO h ha he]
 simp only[if_neg h1,if_neg h2]
theorem i6{y:c5}{a:Nat}(h:Yd y)(ha:a∈y):∀{w:c5} {z z':Nat},Path (cD y) w z->(∀c∈w,c∈less y a)->(∀c∈w,cD y c=z->(∀d∈w,d≠z)->cD (less y a) c=z')->(∀d∈w,d≠z)->Path (cD (less y a)) w z'
 | [],_,_,_,_,_,_=>trivial
 | c::r,z,z',hp,hw,hl,hn=>by
  refine ⟨?_,?_⟩
  ·cases r with
   | nil=>exact hl c Xh hp.1 hn
   | cons d r=>
    have hd:=cA.mp (hw d (Sd _ Xh))
    have e1:cD y c=d:=hp.1
    show cD (less y a) c=d
    rw[AU h ha (hw c Xh) (by rw[e1];exact hd.2.1) (by rw[e1];exact hd.2.2),e1]
  ·exact i6 h ha hp.2 (λd hd=>hw d (Sd _ hd)) (λd hd e _=>hl d (Sd _ hd) e hn) λd hd=>hn d (Sd _ hd)
theorem qv(h:Yd y)(h4:3<=(y:))(ha:a∈y)(P:Parts y ws):∃us rs,Parts (less y a) us/\((∃w u v,ws.Perm (w::rs)/\a∈w/\aC a∈w/\us=u::v::rs)\/∃w x t,ws.Perm (w::x::rs)/\a∈w/\a∉x/\aC a∈x/\us=t::rs):=by
 have hA:=h.cl a ha
 have XB:=h.lt a ha
 have Sy:aC a≠a:=j_ XB
 have h2:2<=(y:):=by lia
 have hta:cD y a≠aC a:=kM h.nd hA h2
 have htA:cD y (aC a)≠a:=by
  have:=kM h.nd ha h2
  unfold cD
  rw[aE XB]
  exact this
 obtain ⟨w,hw,Sz⟩:=P.all a ha
 obtain ⟨r1,r2,er⟩:=Qcq hw
 have iN:ws.Perm (w::(r1++r2)):=by rw[er];exact Qgb
 have CM:(w::(r1++r2)).Pairwise λu v=>∀c,c∈u->c∉v:=iN.pairwise P.CM (λ{u v} g c hc hd=>g c hd hc)
 obtain ⟨dw,dr⟩:=Qbw.mp CM
 have Nw:∀u∈w::(r1++r2),fJ (cD y) u/\∀c∈u,c∈y:=λu hu=>P.g7 u (iN.mem_iff.mpr hu)
 have zH:∀c∈y,∃u∈w::(r1++r2),c∈u:=λc hc=>by
  obtain ⟨u,hu,V8⟩:=P.all c hc
  exact ⟨u,iN.mem_iff.mp hu,V8⟩
 have hlen:(ws:)=(r1++r2:)+1:=by rw[iN.length_eq];rfl
 generalize r1++r2=rs at dw dr Nw zH hlen iN
 obtain ⟨ow,wy⟩:=Nw w Xh
 -- w begun at a
 obtain ⟨x1,x2,ew⟩:=Qcq Sz
 rw[ew]at ow
 have oa:=ow.begun
 have mw:∀d,d∈w↔d∈a::(x2++x1):=λd=>by
  rw[ew]
  simp only[Qai,Qab]
  constructor<;>(intro z;rcases z with z | z | z<;>simp[z])
 have V9:fJ (cD y) (a::(x2++x1)):=oa
 generalize x2++x1=t at mw V9
 clear oa ow ew
 -- a V_ without a and aN contrary stays
 have pA:∀u∈rs,aC a∉u->fJ (cD (less y a)) u/\∀c∈u,c∈less y a:=λu hu nA=>by
  obtain ⟨ou,uy⟩:=Nw u (Sd _ hu)
  have na:a∉u:=λz=>dw u hu a Sz z
  have ul:∀c∈u,c∈less y a:=λc hc=>cA.mpr ⟨uy c hc,λz=>na (z▸hc),λz=>nA (z▸hc)⟩
  exact ⟨ou.same λc hc=>AU h ha (ul c hc) (λz=>na (z▸ou.closed hc)) (λz=>nA (z▸ou.closed hc)),ul⟩
 have OX:=Qa5.mp V9.nd
 by_cases Wa:aC a∈t
 ·-- of one V_ two
  obtain ⟨u,v,et⟩:=Qcq Wa
  subst et
  have hp:=V9.pa
  obtain ⟨p1,p2⟩:=(show cD y a=(u++aC a::v).headD a/\Path (cD y) (u++aC a::v) a from hp)
  rw[dD]at p2
  obtain ⟨p3,p4,p5⟩:=p2
  have QO:=OX.2
  rw[Qbe]at QO
  obtain ⟨nu,nv0,nuv⟩:=QO
  obtain ⟨nAv,nv⟩:=Qa5.mp nv0
  have nAu:aC a∉u:=λz=>nuv _ z _ Xh rfl
  have nau:a∉u:=λz=>OX.1 (Qbj _ z)
  have XC:a∉v:=λz=>OX.1 (Qal _ (Sd _ z))
  have Ry:u≠[]:=λz=>hta (by rw[p1,z];rfl)
  have Rz:v≠[]:=λz=>htA (by rw[p4,z];rfl)
  have uw:∀c∈u,c∈w:=λc hc=>(mw c).mpr (Sd _ (Qbj _ hc))
  have vw:∀c∈v,c∈w:=λc hc=>(mw c).mpr (Sd _ (Qal _ (Sd _ hc)))
  have ul:∀c∈u,c∈less y a:=λc hc=>cA.mpr ⟨wy c (uw c hc),λz=>nau (z▸hc),λz=>nAu (z▸hc)⟩
  have vl:∀c∈v,c∈less y a:=λc hc=>cA.mpr ⟨wy c (vw c hc),λz=>XC (z▸hc),λz=>nAv (z▸hc)⟩
  have ea:cD y a=u.headD 0:=by rw[p1];cases u with
   | nil=>exact absurd rfl Ry
   | cons b r=>rfl
  have eA:cD y (aC a)=v.headD 0:=by rw[p4];cases v with
   | nil=>exact absurd rfl Rz
   | cons b r=>rfl
  have Zm:u.headD 0∈u:=by cases u with
   | nil=>exact absurd rfl Ry
   | cons b r=>exact Xh
  have hv0:v.headD 0∈v:=by cases v with
   | nil=>exact absurd rfl Rz
   | cons b r=>exact Xh
  have ou:fJ (cD (less y a)) u:=⟨Ry,nu,i6 h ha p3 ul (λc hc e _=>by
   have e':cD y c=aC a:=e
   rw[kO h ha (ul c hc)]
   simp only[e',if_neg Sy,if_true]
   rw[if_neg (by rw[ea];exact λz=>nau (z▸Zm)),ea]) λd hd z=>nAu (by rw[show aC a=d from z.symm];exact hd)⟩
  have ov:fJ (cD (less y a)) v:=⟨Rz,nv,i6 h ha p5 vl (λc hc e _=>by
   have e':cD y c=a:=e
   rw[kO h ha (vl c hc)]
   simp only[e',if_true]
   rw[if_neg (by rw[eA];exact λz=>nAv (z▸hv0)),eA]) λd hd z=>XC (z▸hd)⟩
  refine ⟨u::v::rs,rs,⟨λx hx=>?_,?_,λc hc=>?_⟩,.inl ⟨w,u,v,iN,Sz,(mw _).mpr (Sd _ Wa),rfl⟩⟩
  ·rcases Qab.mp hx with rfl | hx
   ·exact ⟨ou,ul⟩
   ·rcases Qab.mp hx with rfl | hx
    ·exact ⟨ov,vl⟩
    ·exact pA x hx λz=>dw x hx _ ((mw _).mpr (Sd _ Wa)) z
  ·refine Qbw.mpr ⟨λx hx c hc=>?_,Qbw.mpr ⟨λx hx c hc=>dw x hx c (vw c hc),dr⟩⟩
   rcases Qab.mp hx with rfl | hx
   ·exact λz=>nuv c hc c (Sd _ z) rfl
   ·exact dw x hx c (uw c hc)
  ·obtain ⟨c1,c2,c3⟩:=cA.mp hc
   obtain ⟨x,hx,Ox⟩:=zH c c1
   rcases Qab.mp hx with rfl | hx
   ·have:=(mw c).mp Ox
    rcases Qai.mp ((Qab.mp this).resolve_left c2) with z | z
    ·exact ⟨u,Xh,z⟩
    ·exact ⟨v,Sd _ Xh,(Qab.mp z).resolve_left c3⟩
   ·exact ⟨x,Sd _ (Sd _ hx),Ox⟩
 ·-- of two Zx one
  obtain ⟨x,hx,Wb⟩:=zH _ hA
  have hx:x∈rs:=(Qab.mp hx).resolve_left λz=>by
   rw[z,mw]at Wb
   exact Wa ((Qab.mp Wb).resolve_left Sy)
  obtain ⟨q1,q2,eq⟩:=Qcq hx
  have pq:rs.Perm (x::(q1++q2)):=by rw[eq];exact Qgb
  have dq:(x::(q1++q2)).Pairwise λu v=>∀c,c∈u->c∉v:=pq.pairwise dr (λ{u v} g c hc hd=>g c hd hc)
  obtain ⟨dx,dqs⟩:=Qbw.mp dq
  have Wc:(rs:)=(q1++q2:)+1:=by rw[pq.length_eq];rfl
  have Zy:∀u∈q1++q2,u∈rs:=λu hu=>pq.mem_iff.mpr (Sd _ hu)
  have Wd:∀u∈rs,u=x\/u∈q1++q2:=λu hu=>Qab.mp (pq.mem_iff.mp hu)
  generalize q1++q2=qs at dx dqs Wc Zy Wd pq
  obtain ⟨ox,xy⟩:=Nw x (Sd _ hx)
  obtain ⟨y1,y2,ex⟩:=Qcq Wb
  have mx:∀d,d∈x↔d∈aC a::(y2++y1):=λd=>by
   rw[ex]
   simp only[Qai,Qab]
   constructor<;>(intro z;rcases z with z | z | z<;>simp[z])
  have oA:fJ (cD y) (aC a::(y2++y1)):=by
   rw[ex]at ox
   exact ox.begun
  generalize y2++y1=v at mx oA
  have XD:=Qa5.mp oA.nd
  have tw:∀c∈t,c∈w:=λc hc=>(mw c).mpr (Sd _ hc)
  have vx:∀c∈v,c∈x:=λc hc=>(mx c).mpr (Sd _ hc)
  have XC:a∉v:=λz=>dw x hx a Sz (vx a z)
  have tl:∀c∈t,c∈less y a:=λc hc=>cA.mpr ⟨wy c (tw c hc),λz=>OX.1 (z▸hc),λz=>Wa (z▸hc)⟩
  have vl:∀c∈v,c∈less y a:=λc hc=>cA.mpr ⟨xy c (vx c hc),λz=>XC (z▸hc),λz=>XD.1 (z▸hc)⟩
  have ea:cD y a=t.headD a:=V9.pa.1
  have eA:cD y (aC a)=v.headD (aC a):=oA.pa.1
  have pt:Path (cD y) t a:=V9.pa.2
  have pv:Path (cD y) v (aC a):=oA.pa.2
  have da:t++v≠[]:=λz=>by
   obtain ⟨zt,zv⟩:=List.append_eq_nil_iff.mp z
   have e1:gu y (aC a)=a:=by have:=ea;rw[zt]at this;exact this
   have e2:gu y a=aC a:=by
    have:=eA
    rw[zv]at this
    unfold cD at this
    rw[aE XB]at this
    exact this
   have o2:fJ (gu y) [a,aC a]:=⟨by simp,by simp[Ne.symm Sy],⟨e2,e1,trivial⟩⟩
   have o1:=lL h.nd (Qer ha)
   have mm:=(o1.ring o2 ha Xh h.lt (λc hc=>by
    rcases Qab.mp hc with g | g
    ·rw[g];exact XB
    ·rw[U0.mp g];exact h.lt _ hA)).2
   have:=h.nd.length_le_of_subset (l₂:=[a,aC a]) λc hc=>(mm c).mp hc
   simp at this
   lia
  have h1:t.headD (v.headD 0)=(t++v).headD 0:=(oR t v 0).symm
  -- behind t comes v,or t again;behind v comes t,or v again
  have oo:fJ (cD (less y a)) (t++v):=by
   refine ⟨da,?_,?_⟩
   ·rw[Qbe]
    exact ⟨OX.2,XD.2,λc hc d hd z=>by subst z;exact dw x hx c (tw c hc) (vx c hd)⟩
   ·rw[dD]
    constructor
    ·refine i6 h ha pt tl (λc hc e _=>?_) λd hd z=>OX.1 (z▸hd)
     rw[kO h ha (tl c hc)]
     simp only[e,if_true]
     rw[eA,ea]
     cases v with
     | nil=>
      cases t with
      | nil=>exact absurd hc Qan
      | cons b r=>
       show (if aC a=aC a then (if b=a then aC a else b) else aC a)=b
       rw[if_pos rfl,if_neg (λ(z:b=a)=>OX.1 (by rw[<-z];exact Xh))]
     | cons b r=>
      show (if b=aC a then _ else b)=b
      rw[if_neg (λ(z:b=aC a)=>XD.1 (by rw[<-z];exact Xh))]
    ·refine i6 h ha pv vl (λc hc e _=>?_) λd hd z=>XD.1 (z▸hd)
     rw[kO h ha (vl c hc)]
     simp only[e,if_neg Sy,if_true]
     rw[ea,eA]
     cases t with
     | nil=>
      cases v with
      | nil=>exact absurd hc Qan
      | cons b r=>
       show (if a=a then b else a)=b
       rw[if_pos rfl]
     | cons b r=>
      show (if b=a then _ else b)=b
      rw[if_neg (λ(z:b=a)=>OX.1 (by rw[<-z];exact Xh))]
  refine ⟨(t++v)::qs,qs,⟨λu hu=>?_,?_,λc hc=>?_⟩,.inr ⟨w,x,t++v,iN.trans (pq.cons w),Sz,λz=>dw x hx a Sz z,Wb,rfl⟩⟩
  ·rcases Qab.mp hu with rfl | hu
   ·exact ⟨oo,λc hc=>(Qai.mp hc).elim (tl c) (vl c)⟩
   ·exact pA u (Zy u hu) λz=>dx u hu _ Wb z
  ·refine Qbw.mpr ⟨λu hu c hc=>?_,dqs⟩
   rcases Qai.mp hc with g | g
   ·exact dw u (Zy u hu) c (tw c g)
   ·exact dx u hu c (vx c g)
  ·obtain ⟨c1,c2,c3⟩:=cA.mp hc
   obtain ⟨u,hu,V8⟩:=zH c c1
   rcases Qab.mp hu with rfl | hu
   ·exact ⟨t++v,Xh,Qbj _ ((Qab.mp ((mw c).mp V8)).resolve_left c2)⟩
   ·rcases Wd u hu with rfl | hu
    ·exact ⟨t++v,Xh,Qal _ ((Qab.mp ((mx c).mp V8)).resolve_left c3)⟩
    ·exact ⟨u,Sd _ hu,V8⟩
theorem AV(h:Yd y)(h4:3<=(y:))(ha:a∈y)(P:Parts y ws):∃us,Parts (less y a) us/\((us:)=(ws:)+1\/(us:)+1=(ws:)):=by
 obtain ⟨us,rs,p,⟨w,u,v,e,_,_,rfl⟩ | ⟨w,x,t,e,_,_,_,rfl⟩⟩:=qv h h4 ha P
 ·exact ⟨_,p,.inl (by rw[e.length_eq];rfl)⟩
 ·exact ⟨_,p,.inr (by rw[e.length_eq];rfl)⟩
theorem Km(h:Yd y)(ha:a∈y):(less y a:)+2=(y:):=by
 have one:∀{l:c5} {b:Nat},l.Nodup->b∈l->((l.filter λd=>decide (d≠b)):)+1=(l:):=λ{l b} hn hb=>by
  obtain ⟨l1,l2,rfl⟩:=Qcq hb
  rw[Qbe]at hn
  obtain ⟨g1,g2,g3⟩:=hn
  obtain ⟨g4,g5⟩:=Qa5.mp g2
  have n1:b∉l1:=λz=>g3 b z b Xh rfl
  have hf:((l1++b::l2).filter λd=>decide (d≠b))=l1++l2:=by
   rw[Qb3,Qba (by simp)]
   congr 1
   ·exact Qc5.mpr λd hd=>decide_eq_true λg=>n1 (g▸hd)
   ·exact Qc5.mpr λd hd=>decide_eq_true λg=>g4 (g▸hd)
  rw[hf]
  simp
  lia
 have h1:=one h.nd ha
 have h2:=one (h.nd.filter λd=>decide (d≠a)) (Qag.mpr ⟨h.cl a ha,decide_eq_true (j_ (h.lt a ha))⟩)
 unfold less
 lia
theorem RA(h:Lt c)(hl:aD c=true):c∈aV:=by rw[gJ h]at hl;exact of_decide_eq_true hl
structure bV(y sm:c5):Prop where
 nd:sm.Nodup
 eE:∀d∈sm,d∈aV
 aY:∀d∈sm,d∈y
theorem bV.of(h:Yd y)(hp:l.Perm (y.filter aD)):bV y l:=
 ⟨hp.nodup_iff.mpr (h.nd.filter _),λd hd=>by
  have:=Qag.mp (hp.mem_iff.mp hd)
  exact RA (h.lt d this.1) this.2,λd hd=>(Qag.mp (hp.mem_iff.mp hd)).1⟩
theorem bV.len(h:Yd y)(s:bV y l):(y.filter (kept l):)=2*(l:):=by
 rw[<-fz (h.within s.eE),(oj h s.eE s.nd s.aY).length_eq]
theorem oW(h:Yd y)(hl:(y:)=2)(hc:c∈y)(hs:c∈aV):eG y [[aC c],[c]]:=by
 have hA:=h.cl c hc
 have da:=j_ (h.lt c hc)
 have two:∀d∈y,d=c\/d=aC c:=λd hd=>by
  have hn:less y c=[]:=by
   have:=Km h hc
   exact Qcb ()
  by_cases z1:d=c
  ·exact .inl z1
  ·by_cases z2:d=aC c
   ·exact .inr z2
   ·have:=cA.mpr ⟨hd,z1,z2⟩
    rw[hn]at this
    cases this
 have t1:cD y c=c:=(two _ (oQ h hc)).resolve_right (kM h.nd hA ())
 have t2:cD y (aC c)=aC c:=(two _ (oQ h hA)).resolve_left (by
  have:=kM h.nd hc ()
  unfold cD
  rw[aE (h.lt c hc)]
  exact this)
 have o1:fJ (cD y) [c]:=⟨by simp,by simp,⟨t1,trivial⟩⟩
 have o2:fJ (cD y) [aC c]:=⟨by simp,by simp,⟨t2,trivial⟩⟩
 have i1:∀d∈[c],d∈y:=λd hd=>by rw[U0.mp hd];exact hc
 have i2:∀d∈[aC c],d∈y:=λd hd=>by rw[U0.mp hd];exact hA
 refine ⟨[[aC c],[c]],⟨λw hw=>?_,by simp[da],λd hd=>?_⟩,?_,?_⟩
 ·rcases Qab.mp hw with rfl | hw
  ·exact ⟨o2,i2⟩
  ·rw[U0.mp hw];exact ⟨o1,i1⟩
 ·rcases two d hd with z | z
  ·exact ⟨[c],by simp,by rw[z];simp⟩
  ·exact ⟨[aC c],by simp,by rw[z];simp⟩
 ·rw[Qa2,Qa2,List.map_nil,o1.bR h () i1,o2.bR h () i2]
  have r1:∀d,bR [d]=[d]:=λd=>by
   obtain ⟨k,hk,e⟩:=gM [d]
   rw[e]
   have:k=0\/k=1:=by simp at hk;lia
   rcases this with z | z<;>subst z<;>rfl
  rw[r1,r1]
 ·have:aC c<c:=(show ∀d∈aV,aC d<d by decide+kernel) c hs
  refine Qbw.mpr ⟨λw hw=>?_,Qbt _ _⟩
  rw[U0.mp hw]
  intro z
  rcases Qed.mp z with g | ⟨g,_⟩
  ·lia
  ·lia
theorem Kn{f:Nat->Nat}{w:c5}(h:fJ f w)(k:Int):rd w (k+1)=f (rd w k):=by
 have hl:=Qah.mpr h.ne
 have h1:=Qcp k (b:=((w:):Int)) ()
 have h2:=Qcn k (b:=((w:):Int)) ()
 obtain ⟨n,en⟩:∃n:Nat,k%((w:):Int)=n:=⟨(k%((w:):Int)).toNat,()⟩
 have hn:n<(w:):=by lia
 have e1:rd w k=rd w n:=by rw[<-gs w k,en]
 have e2:rd w (k+1)=rd w ((n+1:Nat):Int):=by
  rw[<-gs w (k+1), <-Qe2,en,gs]
  rfl
 have g:∀m,m<(w:)->w[m]? =some (rd w m):=λm hm=>jm hm
 rw[e1,e2]
 by_cases z:n+1<(w:)
 ·exact r_ h.pa (g n hn) (g (n+1) z)
 ·have ez:n+1=(w:):=by lia
  rw[ez,show (((w:):Nat):Int)=0+((w:):Int) by lia,gq]
  have pa:=h.pa
  obtain ⟨u,c,rfl⟩:∃u c,w=u++[c]:=⟨w.dropLast,w.getLast h.ne,(List.dropLast_concat_getLast h.ne).symm⟩
  have p2:=(dD.mp pa).2
  have hc:rd (u++[c]) n=c:=by
   have:=g n hn
   have e:n=(u:):=by rw[kb]at ez;simp at ez;exact ez
   rw[e,Qa1 (Qaa _),Qeo]at this
   rw[e]
   exact (Qaz this).symm
  have hh:(u++[c]).headD 0=rd (u++[c]) 0:=by
   have:=g 0 hl
   cases hu:u++[c] with
   | nil=>simp at hu
   | cons a l=>rw[hu]at this;exact Qaz this
  rw[hc, <-hh]
  exact p2.1.symm
theorem Ny(hn:y.Nodup)(ha:a∈y)(h2:2<=(y:)):rz y a (gu y a)=1:=by
 obtain ⟨hk,e⟩:=jq ha
 have hi:y.idxOf (gu y a)=(y.idxOf a+1)%(y:):=by rw[e];exact hn.idxOf_getElem _ hk
 unfold rz
 rw[hi,Qfd,Int.emod_sub_emod,show ((y.idxOf a+1:Nat):Int) - (y.idxOf a:Int)=1 by lia]
 exact Qbm () ()
structure uJ(y r:c5):Prop where
 sw:SW y r
 st:∀k:Int,rz y (aC (rd r (k - 1))) (rd r k)=1
 kr:kr r=1
 len:(r:)<=(y:)
theorem Ko{w:c5}(hw:w≠[])(hn:w.Nodup):kr w=1:=by
 have hr:=ux hw
 obtain ⟨p,a⟩:=gh hw hr
 obtain ⟨q1,q2⟩:1<=J4 w/\J4 w<=(w:):=by
  rcases hr with h | h
  ·exact absurd h.1 hw
  ·exact ⟨h.1,h.2.1⟩
 have k:=(a (J4 w) 0).mpr (by rw[Qd9];exact Qfw) 0
 have e:J4 w=(w:):=Classical.byContradiction λz=>by
  have hl:J4 w<(w:):=Nat.lt_of_le_of_ne q2 z
  unfold sq at k
  rw[Qea,Qea]at k
  have g1:=jm hl
  have g2:w[0]? =some (rd w 0):=jm (w:=w) ()
  rw[k, <-g2]at g1
  have:=(List.getElem?_inj () hn).mp g1
  lia
 unfold My.kr
 rw[e,Nat.div_self ()]
 rfl
theorem Kp(hy:Yd y)(h2:2<=(y:))(p:Parts y ws){w:c5}(hw:w∈ws):uJ y (aH w):=by
 obtain ⟨o,iy⟩:=p.g7 w hw
 have jR:=Qbb (p8 w) (o.nd.length_le_of_subset λc hc=>iy c hc)
 have er:=o.bR hy h2 iy
 obtain ⟨i,hi,ei⟩:=kB o.ne
 rw[er,ei]at jR ⊢
 have rr:∀k,rd (b7 w i) k=rd w (k+i):=uc o.ne (Qbp hi)
 have rn:b7 w i≠[]:=Ke o.ne (uC (Qbp hi))
 have wy:∀k,rd w k∈y:=λk=>iy _ (Cc o.ne k)
 have st:∀k:Int,rd (b7 w i) k=gu y (aC (rd (b7 w i) (k - 1))):=λk=>by
  rw[rr,rr,show k+(i:Int)=k - 1+i+1 by lia,Kn o]
  rfl
 have cy:∀k,aC (rd (b7 w i) k)∈y:=λk=>by rw[rr];exact hy.cl _ (wy _)
 have pm:(b7 w i).Perm w:=by
  unfold b7
  exact Qcj.trans (by rw[Qaw])
 refine ⟨⟨rn,λc hc=>iy c (pm.mem_iff.mp hc),λk=>?_⟩,λk=>?_,Ko rn (pm.nodup_iff.mpr o.nd),jR⟩
 ·rw[st]
  exact kM hy.nd (cy _) h2
 ·rw[st k]
  exact Ny hy.nd (cy _) h2
theorem Kq(ha:a∈y)(hb:b∈y)(h:rz y a c=rz y b c):a=b:=by
 unfold rz at h
 have ia:=Qae ha
 have ib:=Qae hb
 have e:=Qei ((y.idxOf a:Int) - y.idxOf b) (Qf9 ((y:):Int))
 have k:((y.idxOf a:Int) - (y.idxOf b:Int))%((y:):Int)=0:=by
  have:=Qdq.mp h
  rw[show (y.idxOf c:Int) - y.idxOf a - (y.idxOf c - y.idxOf b)= -((y.idxOf a:Int) - y.idxOf b) by lia]at this
  exact Qff (Int.dvd_neg.mp (Qdx this))
 have d:=Qdx k
 obtain ⟨z,hz⟩:=d
 have:y.idxOf a=y.idxOf b:=by
  have h0:z=0:=by
   rcases Int.lt_trichotomy z 0 with q | q | q
   ·have:=Int.mul_le_mul_of_nonneg_left (show z<= -1 by lia) (show (0:Int)<=(y:) by lia)
    lia
   ·exact q
   ·have:=Int.mul_le_mul_of_nonneg_left (show 1<=z by lia) (show (0:Int)<=(y:) by lia)
    lia
  rw[h0,Int.mul_zero]at hz
  lia
 exact (Qbf (Qae ha)).symm.trans ((by congr 1:y[y.idxOf a]=y[y.idxOf b]).trans (Qbf (Qae hb)))
theorem Kr{r:c5}(hy:Yd y)(h:uJ y r)(hg:iw y g)(i:Int): ¬iI y (sq r i) g:=by
 rintro ⟨a,run,x⟩
 have sf:∀k,fh y (sq r i) k=1:=λk=>by
  unfold fh sq
  have:=h.st (i+k)
  rwa [show i+k - 1=i+(k - 1) by lia]at this
 have pos:∀k,1<=fh y g k:=λk=>(dE (hy.cl _ (hg.aY (k - 1))) (hg.aY k) (Ne.symm (hg.red k))).1
 have lf:=bf h.sw i
 refine x ?_
 have e1:gZ y (sq r i) g a=true:=by
  unfold gZ
  rw[sf]
  refine decide_eq_true (Int.lt_iff_le_and_ne.mpr ⟨pos _,λq=>run.hi ?_⟩)
  have ha:=run.o9 a () ()
  have k1:=sf (a+1)
  unfold fh at k1 q
  rw[show (a:Int)+1 - 1=a by lia]at k1 q
  rw[<-ha]at q
  exact lG (hy.cl _ (lf.aY a)) (lf.aY _) (hg.aY _) (k1.trans q)
 have e2:g8 y (sq r i) g 0=true:=by
  unfold g8
  rw[sf]
  refine decide_eq_true (Int.lt_iff_le_and_ne.mpr ⟨pos _,λq=>run.lo ?_⟩)
  have h0:=run.zero
  have k1:=sf 0
  have q':1=fh y g 0:=q
  unfold fh at k1 q'
  rw[Qf7]at k1 q'
  rw[<-h0]at q'
  have:=Kq (hy.cl _ (lf.aY _)) (hy.cl _ (hg.aY _)) (k1.trans q')
  exact dh (hy.lt _ (lf.aY _)) (hy.lt _ (hg.aY _)) this
 rw[e1,e2]
theorem Ks{r:c5}(hy:Yd y)(h:uJ y r)(hv:SW y v):SS y r v=0:=by
 unfold SS
 rw[show (0:Int)=b_ (r:) (v:) (λ_ _=>0) by unfold b_;rw[show (λ_:Int=>sm (v:) λ_=>0)=λ_=>0 from funext λ_=>eB _,eB]]
 refine bz λi j _ _=>?_
 unfold bs
 rw[bj (Kr hy h (bf hv j) i),bj (Kr hy h (fR hy hv j) i),bj]
 ·rfl
 obtain ⟨a1,a2,a3⟩:=Aw hy h.sw i
 obtain ⟨b1,b2,b3⟩:=Aw hy hv j
 have st:=h.st i
 generalize aC (rd r ((i:Int) - 1))=a at a1 a3 st ⊢
 generalize rd r (i:Int)=b at a2 a3 st ⊢
 generalize aC (rd v ((j:Int) - 1))=p at b1 b3 ⊢
 generalize rd v (j:Int)=q at b2 b3 ⊢
 unfold ac
 by_cases z:p=a\/p=b\/q=a\/q=b
 ·rw[if_pos z]
  decide
 ·rw[if_neg z]
  have n1:a≠p:=λe=>z (.inl e.symm)
  have n3:a≠q:=λe=>z (.inr (.inr (.inl e.symm)))
  rw[<-Je, <-Je,st,decide_eq_false (by have:=(dE a1 b1 n1).1;lia),decide_eq_false (by have:=(dE a1 b2 n3).1;lia)]
  decide
theorem Kt{r:c5}{p:Nat->Bool}(hy:Yd y)(hz:Yd (y.filter p))(h:uJ (y.filter p) r)(hv:SW (y.filter p) v):SS y r v=0:=by
 have:=(Q9 hy hz).same h.sw hv
 rw[Qez,Qez,Ks hz h hv]at this
 exact this
theorem SW.up{z w:c5}(h:SW y w)(k:∀c∈y,c∈z):SW z w:=⟨h.ne,λc hc=>k c (h.aY c hc),h.red⟩
theorem EA{w:c5}(h:Yd y)(o:fJ (cD y) w)(aY:∀c∈w,c∈y):fJ (cD y.reverse) (bK w):=by
 refine ⟨by unfold bK;simp[o.ne],?_,?_⟩
 ·unfold bK
  rw[(Qex _).nodup_iff]
  show (w.map aC).Pairwise (· ≠ ·)
  rw[Qb1]
  exact o.nd.imp_of_mem λ{a b} ha hb z e=>z (dh (h.lt a (aY a ha)) (h.lt b (aY b hb)) e)
 ·unfold bK
  have step:∀c∈w,cD y.reverse (aC (cD y c))=aC c:=λc hc=>by
   show gu y.reverse (aC (aC (cD y c)))=_
   rw[aE (h.lt _ (oQ h (aY c hc)))]
   exact Ey h.nd (h.cl c (aY c hc))
  refine AQ (f:=cD y) o.ne o.pa step ?_
  rcases snoc_cases w with z | ⟨m,a,z⟩
  ·exact absurd z o.ne
  ·have hl:=o.pa
   have ha:a∈w:=by rw[z];simp
   have e1:cD y a=w.headD 0:=by
    have:=hl
    rw[z]at this ⊢
    exact Gn this
   rw[<-e1,step a ha,z,Qao,List.reverse_append]
   rfl
theorem yP{w:c5}(h:Yd y)(aY:∀c∈w,c∈y):∀c∈bK w,c∈y:=λc hc=>by
 obtain ⟨d,hd,rfl⟩:=Qar.mp (Qbn.mp hc)
 exact h.cl d (aY d hd)
theorem uK{w x:c5}(h:Yd y)(h2:2<=(y:))(ow:fJ (cD y) w)(wy:∀c∈w,c∈y)(ox:fJ (cD y) x)(xy:∀c∈x,c∈y)(e:aH w=aH (bK x)):(y:)<=2:=by
 have ot:=EA h ox xy
 obtain ⟨o1,m1⟩:=oT h h2 ow wy
 obtain ⟨o2,m2⟩:=oT h.over (by rw[Qas];exact h2) ot λc hc=>Qbn.mpr (yP h xy c hc)
 rw[<-e]at o2
 obtain ⟨c,r,q⟩:=List.exists_cons_of_ne_nil o1.ne
 have hc:c∈aH w:=by rw[q];exact Xh
 have OB:=wy c ((m1 c).mp hc)
 have EO:=h.cl c OB
 have t:cD y c=cD y.reverse c:=oS o1.pa o2.pa c hc
 have k:gu y (gu y (aC c))=aC c:=by
  have:=Ey (y:=y.reverse) h.over.nd (Qbn.mpr EO)
  rw[List.reverse_reverse]at this
  have t':gu y (aC c)=gu y.reverse (aC c):=t
  rw[t']
  exact this
 have ne:=kM h.nd EO h2
 have o4:fJ (gu y) [aC c,gu y (aC c)]:=⟨by simp,by simp[Ne.symm ne],⟨rfl,k,trivial⟩⟩
 have mm:=((lL h.nd (Qer EO)).ring o4 EO Xh h.lt λd hd=>by
  rcases Qab.mp hd with g | g
  ·rw[g];exact h.lt _ EO
  ·rw[U0.mp g];exact h.lt _ (lK EO)).2
 have:=h.nd.length_le_of_subset (l₂:=[aC c,gu y (aC c)]) λd hd=>(mm d).mp hd
 simpa using this
theorem lM(a b:c5):bI a b=a\/bI a b=b:=by
 unfold bI
 split
 ·exact .inr rfl
 ·exact .inl rfl
theorem sg{w:c5}(h:Yd y)(aY:∀c∈w,c∈y)(hc:c∈y):aC c∈bK w↔c∈w:=by
 constructor
 ·intro z
  obtain ⟨d,hd,e⟩:=Qar.mp (Qbn.mp z)
  rw[<-dh (h.lt d (aY d hd)) (h.lt c hc) e];exact hd
 ·intro z
  exact Qbn.mpr (Qar.mpr ⟨c,z,rfl⟩)
theorem lN{w:c5}(h:Yd y)(h2:2<=(y:))(o:fJ (cD y) w)(aY:∀c∈w,c∈y):(∀c,c∈aH w↔c∈w)/\∀c,c∈aH (bK w)↔c∈bK w:=
 ⟨(oT h h2 o aY).2,(oT h.over (by rw[Qas];exact h2) (EA h o aY) λc hc=>Qbn.mpr (yP h aY c hc)).2⟩
theorem EB{w:c5}(h:Yd y)(h2:2<=(y:))(o:fJ (cD y) w)(aY:∀c∈w,c∈y)(hc:c∈y):(c∈aZ w\/aC c∈aZ w)↔c∈w\/aC c∈w:=by
 obtain ⟨m1,m2⟩:=lN h h2 o aY
 have e1:=sg h aY hc
 have e2:=sg h aY (h.cl c hc)
 rw[aE (h.lt c hc)]at e2
 rcases lM (aH w) (aH (bK w)) with g | g
 ·unfold aZ;rw[g,m1,m1]
 ·unfold aZ;rw[g,m2,m2,e1,e2,or_comm]
theorem CN{w x:c5}(h:Yd y)(h3:3<=(y:))(ow:fJ (cD y) w)(wy:∀c∈w,c∈y)(ox:fJ (cD y) x)(xy:∀c∈x,c∈y)(ha:a∈w)(hx:a∉x):aZ w≠aZ x:=λe=>by
 have h2:2<=(y:):=by lia
 obtain ⟨w1,w2⟩:=lN h h2 ow wy
 obtain ⟨x1,x2⟩:=lN h h2 ox xy
 have CO:=wy a ha
 unfold aZ at e
 rcases lM (aH w) (aH (bK w)) with g1 | g1<;>rcases lM (aH x) (aH (bK x)) with g2 | g2<;>rw[g1,g2]at e
 ·exact hx ((x1 a).mp (by rw[<-e];exact (w1 a).mpr ha))
 ·have:=uK h h2 ow wy ox xy e
  lia
 ·have:=uK h h2 ox xy ow wy e.symm
  lia
 ·exact hx ((sg h xy CO).mp ((x2 _).mp (by rw[<-e];exact (w2 _).mpr ((sg h wy CO).mpr ha))))
theorem Gp{w:c5}(h:AllLt w)(k:Nat):aZ (b7 w k)=aZ w:=by
 have hr:AllLt (b7 w k):=λc hc=>h c (by
  unfold b7 at hc
  rcases Qai.mp hc with g | g
  ·exact Qc2 g
  ·exact Qbi g)
 unfold aZ
 rw[<-og hr,Ak h,og h]
theorem i7{w:c5}(h:Yd y)(h2:2<=(y:))(o:fJ (cD y) w)(aY:∀c∈w,c∈y):aZ (aH w)=aZ w:=by
 rw[o.bR h h2 aY]
 obtain ⟨k,e⟩:=fQ w
 rw[e,Gp (λc hc=>h.lt c (aY c hc))]
theorem m8(h:Yd y)(h2:2<=(y:))(a:Parts y ws)(b:Parts y us){w:c5}(hw:w∈ws):∃u∈us,aZ w=aZ u:=by
 obtain ⟨o,aY⟩:=a.g7 w hw
 have m:aH w∈us.map aH:=(a.perm h h2 b).mem_iff.mp (Qar.mpr ⟨w,hw,rfl⟩)
 obtain ⟨u,hu,e⟩:=Qar.mp m
 obtain ⟨ou,uy⟩:=b.g7 u hu
 exact ⟨u,hu,by rw[<-i7 h h2 o aY, <-e,i7 h h2 ou uy]⟩
def FL(y nm:c5)(k:Nat)(v:c5):Prop:=∃j,1<=j/\j<=k/\∃ws,Parts (y.filter (kept (nm.take j))) ws/\∃w∈ws,v=aZ w
variable{nm:c5}
theorem i8{k:Nat}(h:j<=k):∀c∈y.filter (kept (nm.take j)),c∈y.filter (kept (nm.take k)):=λc hc=>by
 obtain ⟨h1,h2⟩:=Qag.mp hc
 refine Qag.mpr ⟨h1,?_⟩
 unfold kept at h2 ⊢
 have:=of_decide_eq_true h2
 refine decide_eq_true ?_
 rw[show nm.take j=(nm.take k).take j by rw[Qfp,Qa8 h]]at this
 exact Qbi this
theorem bV.take(s:bV y nm)(k:Nat):bV y (nm.take k):=⟨s.nd.sublist (Qf4 k nm),λd hd=>s.eE d (Qbi hd),λd hd=>s.aY d (Qbi hd)⟩
theorem i9{k:Nat}(h:Yd y)(s:bV y nm)(ha:nm[k]? =some a):less (y.filter (kept (nm.take (k+1)))) a=y.filter (kept (nm.take k)):=by
 have si:=Qaf ha
 have has:=s.eE a si
 have lta:=h.lt a (s.aY a si)
 have hn:a∉nm.take k:=λz=>by
  have:=s.nd
  rw[<-Qaw (k+1) nm, <-take_snoc ha]at this
  rw[Qbe]at this
  have:=this.1
  rw[Qbe]at this
  exact this.2.2 a z a Xh rfl
 unfold less
 rw[Qfz,Qfz]
 refine Qdl λd hd=>?_
 have Zz:=h.lt d hd
 rw[<-take_snoc ha,eh (λe he=>by
  rcases Qai.mp he with z | z
  ·exact s.eE e (Qbi z)
  ·rw[U0.mp z];exact has) Zz,eh (λe he=>s.eE e (Qbi he)) Zz]
 have na:aC a∉nm.take k:=λz=>by
  have:=aM a has
  have h3:=bE _ this.2.2
  exact h3.2.2.1 (s.eE _ (Qbi z))
 by_cases z1:d=a
 ·subst z1;simp[hn,na]
 ·by_cases z2:d=aC a
  ·rw[z2,aE lta];simp[hn,na]
  ·have z3:aC d≠a:=λe=>z2 (by rw[<-e,aE Zz])
   simp[z1,z2,z3]
theorem FL.mono{k:Nat}(h:j<=k)(g:FL y nm j v):FL y nm k v:=let ⟨i,h1,h2,r⟩:=g;⟨i,h1,Qbb h2 h,r⟩
theorem qw{y nm:c5}(h:Yd y)(s:bV y nm):∀{k:Nat},k+1<=(nm:)->∀{ws:List c5},Parts (y.filter (kept (nm.take (k+1)))) ws->∃N:List c5,N.Nodup/\(∀v,v∈N↔FL y nm (k+1) v)/\2*N.length+3=3*(k+1)+(ws:)
 | 0,hk,ws,p=>by
  obtain ⟨a,ha⟩:∃a,nm[0]? =some a:=⟨nm[0],P4 ()⟩
  have si:=Qaf ha
  walk_at"M"
  have st:=s.take 1
  have hz:=h.within st.eE
  have hlen:=st.len h
  have l1:(nm.take 1:)=1:=by rw[e1];rfl
  have h2:(y.filter (kept (nm.take 1)):)=2:=by lia
  have mC:a∈y.filter (kept (nm.take 1)):=Qag.mpr ⟨s.aY a si,by rw[eh st.eE (h.lt a (s.aY a si)),e1];simp⟩
  obtain ⟨us,pu,eu,_⟩:=oW hz h2 mC (s.eE a si)
  have pe:=(p.perm hz () pu).trans eu.symm
  have hl:(ws:)=2:=by have:=pe.length_eq;simpa using this
  have one:∀w∈ws,aZ w=aZ [a]:=λw hw=>by
   obtain ⟨o,aY⟩:=p.g7 w hw
   rw[<-i7 hz () o aY]
   have m:=pe.mem_iff.mp (Qar.mpr ⟨w,hw,rfl⟩)
   have la:AllLt [a]:=λc hc=>by rw[U0.mp hc];exact h.lt a (s.aY a si)
   rcases Qab.mp m with g | g
   ·rw[g];exact Am la
   ·rw[U0.mp g]
  refine ⟨[aZ [a]],Qa5.mpr ⟨Qan,Qcm⟩,λv=>?_,by rw[hl];rfl⟩
  rw[U0]
  constructor
  ·intro e
   obtain ⟨w,r,q⟩:=List.exists_cons_of_ne_nil (l:=ws) λz=>by rw[z]at hl;cases hl
   have hw:w∈ws:=by rw[q];exact Xh
   exact ⟨1,Qaa _,Qaa _,ws,p,w,hw,by rw[one w hw,e]⟩
  ·rintro ⟨j,j1,j2,us,pu,w,hw,rfl⟩
   obtain rfl:j=1:=by lia
   obtain ⟨u,hu,e⟩:=m8 hz () pu p hw
   rw[e,one u hu]
 | k+1,hk,ws,p=>by
  obtain ⟨a,ha⟩:∃a,nm[k+1]? =some a:=⟨nm[k+1],P4 ()⟩
  have si:=Qaf ha
  have CO:=s.aY a si
  have st:=s.take (k+1+1)
  have hz:=h.within st.eE
  have hlen:=st.len h
  rw[Qad,Qa8 hk]at hlen
  have mC:a∈y.filter (kept (nm.take (k+1+1))):=Qag.mpr ⟨CO,by rw[eh st.eE (h.lt a CO), <-take_snoc ha];simp⟩
  have hl:=i9 h s ha
  obtain ⟨us,rs,pu,cs⟩:=qv hz () mC p
  rw[hl]at pu
  obtain ⟨N,nd,mem,len⟩:=qw h s (k:=k) () pu
  have ZA:∀j,j<=k+1->∀c∈y.filter (kept (nm.take j)),c≠a/\c≠aC a:=λj hj c hc=>by
   have:=i8 hj c hc
   rw[<-hl]at this
   exact (cA.mp this).2
  have grow:∀new:List c5,ws.Perm (new++rs)->(∀r∈rs,r∈us)->(∀w∈new,a∈w\/aC a∈w)->(new.map aZ).Nodup->(N++new.map aZ).Nodup/\∀v,v∈N++new.map aZ↔FL y nm (k+1+1) v:=λnew pm ru hn nn=>by
   have nw:∀w∈new,w∈ws:=λw hw=>pm.mem_iff.mpr (Qbj _ hw)
   constructor
   ·refine Qbe.mpr ⟨nd,nn,λv hv u hu e=>?_⟩
    subst e
    obtain ⟨w,hw,e⟩:=Qar.mp hu
    obtain ⟨j,j1,j2,We,Ku,w',Ba,e'⟩:=(mem v).mp hv
    obtain ⟨o,aY⟩:=p.g7 w (nw w hw)
    obtain ⟨o',RB⟩:=Ku.g7 w' Ba
    have stj:=s.take j
    have hzj:=h.within stj.eE
    have hlj:=stj.len h
    rw[Qad,Qa8 ()]at hlj
    have hj:=ZA j j2
    have g:=(EB hz () o aY mC).mpr (hn w hw)
    rw[e,e']at g
    have inj:∀c∈aZ w',c∈y.filter (kept (nm.take j)):=λc hc=>by
     obtain ⟨m1,m2⟩:=lN hzj () o' RB
     unfold aZ at hc
     rcases lM (aH w') (aH (bK w')) with q | q<;>rw[q]at hc
     ·exact RB c ((m1 c).mp hc)
     ·exact yP hzj RB c ((m2 c).mp hc)
    rcases g with g | g
    ·exact (hj _ (inj _ g)).1 rfl
    ·exact (hj _ (inj _ g)).2 rfl
   ·intro v
    rw[Qai,mem]
    constructor
    ·rintro (g | g)
     ·exact g.mono (Qcx _)
     ·obtain ⟨w,hw,rfl⟩:=Qar.mp g
      exact ⟨k+1+1,(),Qaa _,ws,p,w,nw w hw,rfl⟩
    ·rintro ⟨j,j1,j2,We,Ku,w',Ba,rfl⟩
     by_cases z:j<=k+1
     ·exact .inl ⟨j,j1,z,We,Ku,w',Ba,rfl⟩
     ·obtain rfl:j=k+1+1:=by lia
      obtain ⟨u,hu,e⟩:=m8 hz () Ku p Ba
      rw[e]
      rcases Qai.mp (pm.mem_iff.mp hu) with q | q
      ·exact .inr (Qar.mpr ⟨u,q,rfl⟩)
      ·exact .inl ⟨k+1,(),Qaa _,us,pu,u,ru u q,rfl⟩
  rcases cs with ⟨w,u,v,e,a1,a2,rfl⟩ | ⟨w,x,t,e,a1,a2,a3,rfl⟩
  ·obtain ⟨g1,g2⟩:=grow [w] e (λr hr=>Sd _ (Sd _ hr)) (λu hu=>by rw[U0.mp hu];exact .inl a1) (Qa5.mpr ⟨Qan,Qcm⟩)
   refine ⟨_,g1,g2,?_⟩
   have el:=e.length_eq
   simp only[kb,Xi,Qa4,Qem]at len el ⊢
   lia
  ·have ww:w∈ws:=e.mem_iff.mpr Xh
   have xw:x∈ws:=e.mem_iff.mpr (Sd _ Xh)
   have un:=CN hz () (p.g7 w ww).1 (p.g7 w ww).2 (p.g7 x xw).1 (p.g7 x xw).2 a1 a2
   obtain ⟨g1,g2⟩:=grow [w,x] e (λr hr=>Sd _ hr) (λu hu=>by
    rcases Qab.mp hu with q | q
    ·rw[q];exact .inl a1
    ·rw[U0.mp q];exact .inr a3) (by simp[un])
   refine ⟨_,g1,g2,?_⟩
   have el:=e.length_eq
   simp only[kb,Xi,Qa4,Qem]at len el ⊢
   lia
theorem Kv{d:c5}(hy:Yd y)(h:SW y d):∃k,k<=(d:)/\(aZ d=b7 d k\/aZ d=b7 (bK d) k):=by
 have key:∀{v:c5},SW y v->∃k,k<=(v:)/\aH v=b7 v k:=λ{v} hv=>by
  rw[iT,hv.core hy]
  obtain ⟨k,e⟩:=fQ v
  by_cases z:k<=(v:)
  ·exact ⟨k,z,e⟩
  ·refine ⟨0,Qat _,?_⟩
   rw[e]
   unfold b7
   rw[Qcf (),Qa7 ()]
   simp
 unfold aZ bI
 obtain ⟨k,a,b⟩:=key h
 obtain ⟨j,c,e⟩:=key (h.bK hy)
 rw[bJ]at c
 split
 ·exact ⟨j,c,.inr e⟩
 ·exact ⟨k,a,.inl b⟩
theorem Kw(h:aJ.map (·.1)=ws.map λl=>Sum.inr (S l))(nd:ws.Nodup)(w:c5)(v:V):
  ∃o8:List c5,(putK aJ (Sum.inr (S w):Key) v).map (·.1)=o8.map (λl=>Sum.inr (S l))/\o8.Nodup/\(∀u,u∈o8↔u∈ws\/u=w)/\(o8:)<=(ws:)+1:=by
 have inj:∀a b:c5,(Sum.inr (S a):Key)=Sum.inr (S b)->a=b:=λa b e=>by
  have e2:S a=S b:=Sum.inr.inj e
  rw[<-cf a,e2,cf]
 have Wf:(aJ.any λkv=>decide (kv.1=(Sum.inr (S w):Key)))=true↔w∈ws:=by
  rw[Qfc]
  constructor
  ·rintro ⟨kv,hk,e⟩
   have e':=of_decide_eq_true e
   have hm:kv.1∈aJ.map (·.1):=List.mem_map_of_mem hk
   rw[h,e']at hm
   obtain ⟨u,hu,eu⟩:=Qar.mp hm
   rw[<-inj u w eu];exact hu
  ·intro hw
   have hm:(Sum.inr (S w):Key)∈aJ.map (·.1):=by rw[h];exact List.mem_map_of_mem (f:=λl=>(Sum.inr (S l):Key)) hw
   obtain ⟨kv,hk,e⟩:=Qar.mp hm
   exact ⟨kv,hk,decide_eq_true e⟩
 unfold putK
 by_cases hw:w∈ws
 ·rw[if_pos (Wf.mpr hw)]
  refine ⟨ws,?_,nd,λu=>⟨.inl,λz=>z.elim id λe=>e▸hw⟩,()⟩
  rw[Qcd, <-h]
  refine Qdt λkv _=>?_
  show (if kv.1=_ then (kv.1,v) else kv).1=kv.1
  split<;>rfl
 ·rw[if_neg λz=>hw (Wf.mp z)]
  refine ⟨ws++[w],?_,?_,λu=>?_,by rw[kb];exact Qaa _⟩
  ·rw[Qao,Qao,h];rfl
  ·refine Qbe.mpr ⟨nd,Qa5.mpr ⟨Qan,Qcm⟩,λa ha b hb e=>hw ?_⟩
   rw[<-U0.mp hb, <-e];exact ha
  ·rw[Qai,U0]
theorem sortedK{a b:List c5}(h:a.Perm b)(p1:a.Pairwise λx y=>ml y x=false)(p2:b.Pairwise λx y=>ml y x=false):a=b:=
 Qe5 (le:=λx y=>ml y x=false) (λx y _ _ g1 g2=>Ms x y g2 g1) p1 p2 h
theorem yQ{w:c5}(h:SW y w){k:Nat}(hk:k<=(w:)):SW y (b7 w k):=h.b7 hk
theorem EC{d e:c5}(hy:Yd y)(hd:SW y d)(he:SW y e)(hi:i<=(e:)):SS y d (b7 e i)=SS y d e:=by
 rw[ug hy hd (yQ he hi),Cs he.ne hi,ug hy he hd]
theorem Nz{d e:c5}(hy:Yd y)(hd:SW y d)(he:SW y e):SS y d (bK e)=SS y d e:=by
 rw[ug hy hd (he.bK hy),Jw hy he hd,ug hy he hd]
def GS(d v:c5):Prop:=∃k,k<=(d:)/\(v=b7 d k\/v=b7 (bK d) k)
theorem GS.sw{d:c5}(hy:Yd y)(h:GS d v)(hd:SW y d):SW y v:=by
 obtain ⟨k,hk,rfl | rfl⟩:=h
 ·exact yQ hd hk
 ·exact yQ (hd.bK hy) (by rw[bJ];exact hk)
theorem GS.ss{d e:c5}(hy:Yd y)(h:GS d v)(g:GS e u)(hd:SW y d)(he:SW y e):SS y v u=SS y d e:=by
 have hv:=h.sw hy hd
 have r:SS y v u=SS y v e:=by
  obtain ⟨k,hk,rfl | rfl⟩:=g
  ·exact EC hy hv he hk
  ·rw[EC hy hv (he.bK hy) (by rw[bJ];exact hk),Nz hy hv he]
 rw[r]
 obtain ⟨k,hk,rfl | rfl⟩:=h
 ·exact Cs hd.ne hk
 ·rw[Cs (hd.bK hy).ne (by rw[bJ];exact hk),Jw hy hd he]
theorem GS.kr{y d v:c5}(hy:Yd y)(h:GS d v)(hd:SW y d):kr v=kr d:=by
 obtain ⟨k,hk,rfl | rfl⟩:=h
 ·exact Kf hd.ne hk
 ·rw[Kf (hd.bK hy).ne (by rw[bJ];exact hk),Rt hy hd]
theorem GS.len{d:c5}(h:GS d v):(v:)=(d:):=by
 obtain ⟨k,hk,rfl | rfl⟩:=h
 ·unfold b7;rw[kb,Qav,Qad];lia
 ·have:=bJ d
  unfold b7;rw[kb,Qav,Qad];lia
theorem FL.of{k:Nat}(hy:Yd y)(s:bV y nm)(hk:k<=(nm:))(g:FL y nm k v):∃j d,1<=j/\j<=k/\Yd (y.filter (kept (nm.take j)))/\uJ (y.filter (kept (nm.take j))) d/\GS d v:=by
 obtain ⟨j,j1,j2,ws,p,w,hw,rfl⟩:=g
 have st:=s.take j
 walk_at"D"
 have hlen:=st.len hy
 rw[Qad,Qa8 ()]at hlen
 obtain ⟨o,aY⟩:=p.g7 w hw
 have ok:=Kp hz () p hw
 refine ⟨j,aH w,j1,j2,hz,ok,?_⟩
 rw[<-i7 hz () o aY]
 exact Kv hz ok.sw
theorem FL.sw{y nm v:c5}{k:Nat}(hy:Yd y)(s:bV y nm)(hk:k<=(nm:))(g:FL y nm k v):SW y v/\(v:)<=(y:)/\uD y v=0:=by
 obtain ⟨j,d,_,_,hz,ok,am⟩:=g.of hy s hk
 have up:∀c∈y.filter (kept (nm.take j)),c∈y:=λc hc=>(Qag.mp hc).1
 have sw:=ok.sw.up up
 refine ⟨am.sw hy sw,?_,?_⟩
 ·rw[am.len]
  exact Qbb ok.len (Qcz _ _)
 ·unfold uD
  rw[am.ss hy am sw sw,am.kr hy sw,Kt hy hz ok ok.sw,ok.kr]
  rfl
theorem FL.ss{k:Nat}(hy:Yd y)(s:bV y nm)(hk:k<=(nm:))(g:FL y nm k v)(h:FL y nm k u):SS y v u=0:=by
 have key:∀{v u:c5} {i j:Nat} {d e:c5},i<=j->Yd (y.filter (kept (nm.take i)))->Yd (y.filter (kept (nm.take j)))->uJ (y.filter (kept (nm.take i))) d->uJ (y.filter (kept (nm.take j))) e->GS d v->GS e u->SS y v u=0/\SS y u v=0:=λ{v u i j d e} Vy zi zj od oe av au=>by
  have up:∀{i},∀c∈y.filter (kept (nm.take i)),c∈y:=λc hc=>(Qag.mp hc).1
  have sd:=od.sw.up up
  have se:=oe.sw.up up
  have z:=Kt hy zj oe (od.sw.up (i8 Vy))
  rw[av.ss hy au sd se,au.ss hy av se sd,ug hy sd se]
  exact ⟨z,z⟩
 obtain ⟨i,d,_,_,zi,od,av⟩:=g.of hy s hk
 obtain ⟨j,e,_,_,zj,oe,au⟩:=h.of hy s hk
 by_cases q:i<=j
 ·exact (key q zi zj od oe av au).1
 ·exact (key () zj zi oe od au av).2
theorem FL.b7{a b:c5}{k:Nat}(hy:Yd (a++b))(s:bV (a++b) nm)(g:FL (a++b) nm k v):FL (b++a) nm k v:=by
 obtain ⟨j,j1,j2,ws,p,w,hw,e⟩:=g
 refine ⟨j,j1,j2,ws,?_,w,hw,e⟩
 have hz:=hy.within (s.take j).eE
 rw[Qb3]at p hz ⊢
 exact Gm hz p
theorem bV.b7{a b:c5}(s:bV (a++b) nm):bV (b++a) nm:=⟨s.nd,s.eE,λd hd=>Qcj.mem_iff.mp (s.aY d hd)⟩
structure fi(y:c5)(ws:List c5):Prop where
 nd:ws.Nodup
 ord:ws.Pairwise λa b=>ml b a=false
 mem:∃nm:c5,nm.Perm (y.filter aD)/\nm.Pairwise (· <= ·)/\∀v,v∈ws↔FL y nm (nm:) v
theorem sj{m z:c5}(a:l.Perm (y.filter aD))(b:m.Perm (z.filter aD))(hz:y.Perm z)(pa:l.Pairwise (· <= ·))(pb:m.Pairwise (· <= ·)):l=m:=
 Qe5 (le:=λa b=>a<=b) (λ_ _ _ _ h1 h2=>Qej h1 h2) pa pb ((a.trans (hz.filter _)).trans b.symm)
theorem fi.one{a b:c5}(hy:Yd (a++b))(h:fi (a++b) ws)(g:fi (b++a) us):ws=us:=by
 obtain ⟨nm,n1,n2,n3⟩:=h.mem
 obtain ⟨nm',m1,m2,m3⟩:=g.mem
 obtain rfl:=sj n1 m1 Qcj n2 m2
 have s:=bV.of hy n1
 refine sortedK ((Qb6 h.nd g.nd).mpr λw=>?_) h.ord g.ord
 rw[n3,m3]
 exact ⟨λz=>z.b7 hy s,λz=>z.b7 hy.b7 s.b7⟩
theorem fi.same(hy:Yd y)(h:fi y ws)(g:fi y us):ws=us:=by
 have:=fi.one (a:=[]) (b:=y) (ws:=ws) (us:=us) hy h (by rw[Qa9];exact g)
 exact this
theorem fi.many(hy:Yd y)(h2:2<=(y:))(h:fi y ws){rs:List c5}(p:Parts y rs):4*(ws:)+6=3*(y:)+2*(rs:):=by
 obtain ⟨nm,n1,n2,n3⟩:=h.mem
 have s:=bV.of hy n1
 have hl:=fz hy
 have nl:=n1.length_eq
 obtain ⟨k,hk⟩:∃k,(nm:)=k+1:=⟨(nm:) - 1,()⟩
 have e:y.filter (kept (nm.take (k+1)))=y:=by
  rw[<-hk,Qbs]
  refine Qc5.mpr λc hc=>?_
  rw[eh s.eE (hy.lt c hc)]
  rcases hy.lt c hc with q | q
  ·rw[decide_eq_true (show c∈nm from n1.mem_iff.mpr (Qag.mpr ⟨hc,(aM c q).1⟩))];rfl
  ·rw[decide_eq_true (show aC c∈nm from n1.mem_iff.mpr (Qag.mpr ⟨hy.cl c hc,(aM _ (bE c q).2.2.2).1⟩))];exact Qga _
 have p':Parts (y.filter (kept (nm.take (k+1)))) rs:=by rw[e];exact p
 obtain ⟨N,nd,mem,len⟩:=qw hy s (k:=k) () p'
 have:=((Qb6 h.nd nd).mpr λw=>by rw[n3,mem,hk]).length_eq
 lia
theorem fi.sw(hy:Yd y)(h:fi y ws):∀w∈ws,SW y w/\(w:)<=(y:)/\uD y w=0:=λw hw=>by
 obtain ⟨nm,n1,n2,n3⟩:=h.mem
 exact ((n3 w).mp hw).sw hy (bV.of hy n1) (Qaa _)
theorem fi.ss(hy:Yd y)(h:fi y ws):∀w∈ws,∀v∈ws,SS y w v=0:=λw hw v hv=>by
 obtain ⟨nm,n1,n2,n3⟩:=h.mem
 exact ((n3 w).mp hw).ss hy (bV.of hy n1) (Qaa _) ((n3 v).mp hv)
theorem fi.lay(hy:Yd y)(h:fi y ws):PyData.canLayAll0 (Ah ws)=true:=yf λl hl=>mq λc hc=>hy.lt c ((h.sw hy l hl).1.aY c hc)
theorem FL.last{k:Nat}(hy:Yd y)(s:bV y nm)(ha:nm[k]? =some a)(k1:1<=k)(g:FL y nm (k+1) v):FL y nm k v\/a∈v\/aC a∈v:=by
 have hk:=(P5.mp ha).1
 have si:=Qaf ha
 have CO:=s.aY a si
 have st:=s.take (k+1)
 walk_at"D"
 have hlen:=st.len hy
 rw[Qad,Qa8 ()]at hlen
 have mC:a∈y.filter (kept (nm.take (k+1))):=Qag.mpr ⟨CO,by rw[eh st.eE (hy.lt a CO), <-take_snoc ha];simp⟩
 obtain ⟨j,j1,j2,We,Ku,w',Ba,rfl⟩:=g
 by_cases z:j<=k
 ·exact .inl ⟨j,j1,z,We,Ku,w',Ba,rfl⟩
 ·obtain rfl:j=k+1:=by lia
  obtain ⟨us,rs,pu,cs⟩:=qv hz () mC Ku
  rw[i9 hy s ha]at pu
  obtain ⟨o,aY⟩:=Ku.g7 w' Ba
  have new:a∈w'\/aC a∈w'->FL y nm k (aZ w')\/a∈aZ w'\/aC a∈aZ w':=λq=> .inr ((EB hz () o aY mC).mpr q)
  have old:w'∈us->FL y nm k (aZ w')\/a∈aZ w'\/aC a∈aZ w':=λq=> .inl ⟨k,k1,Qaa _,us,pu,w',q,rfl⟩
  rcases cs with ⟨w,u,v,e,a1,a2,rfl⟩ | ⟨w,x,t,e,a1,a2,a3,rfl⟩
  ·rcases Qab.mp (e.mem_iff.mp Ba) with q | q
   ·exact new (.inl (by rw[q];exact a1))
   ·exact old (Sd _ (Sd _ q))
  ·rcases Qab.mp (e.mem_iff.mp Ba) with q | q
   ·exact new (.inl (by rw[q];exact a1))
   ·rcases Qab.mp q with q | q
    ·exact new (.inr (by rw[q];exact a3))
    ·exact old (Sd _ q)
theorem FL.in_{k:Nat}(hy:Yd y)(s:bV y nm)(hk:k<=(nm:))(g:FL y nm k v):∀c∈v,c∈y.filter (kept (nm.take k)):=λc hc=>by
 obtain ⟨j,d,_,j2,hz,ok,am⟩:=g.of hy s hk
 exact i8 j2 c ((am.sw hz ok.sw).aY c hc)
theorem NA{k:Nat}(hy:Yd y)(s:bV y nm)(hkj:k<=j)(ha:nm[j]? =some a):a∉y.filter (kept (nm.take k))/\aC a∉y.filter (kept (nm.take k)):=by
 have e:=i9 hy s ha
 have sub:∀c∈y.filter (kept (nm.take k)),c≠a/\c≠aC a:=λc hc=>by
  have:=i8 hkj c hc
  rw[<-e]at this
  exact (cA.mp this).2
 exact ⟨λh=>(sub _ h).1 rfl,λh=>(sub _ h).2 rfl⟩
theorem FL.low{k:Nat}(hy:Yd y)(s:bV y nm)(k1:1<=k)(mC:∀c∈v,c∈y.filter (kept (nm.take k))):∀{m:Nat},k+m<=(nm:)->FL y nm (k+m) v->FL y nm k v
 | 0,_,g=>g
 | m+1,h,g=>by
  obtain ⟨a,ha⟩:∃a,nm[k+m]? =some a:=⟨nm[k+m],P4 ()⟩
  obtain ⟨n1,n2⟩:=NA hy s (Nat.le_add_right k m) ha
  rcases g.last hy s ha () with q | q | q
  ·exact FL.low hy s k1 mC () q
  ·exact absurd (mC _ q) n1
  ·exact absurd (mC _ q) n2
theorem uL{k:Nat}(h:j<=k):(nm.take k).take j=nm.take j:=by rw[Qfp,Qa8 h]
theorem xk{k:Nat}(h:j<=k):(y.filter (kept (nm.take k))).filter (kept (nm.take j))=y.filter (kept (nm.take j)):=by
 rw[Qfz]
 refine Qdl λc hc=>?_
 by_cases z:kept (nm.take j) c=true
 ·have:=(Qag.mp (i8 (y:=y) (nm:=nm) h c (Qag.mpr ⟨hc,z⟩))).2
  rw[z,this];rfl
 ·rw[Bool.not_eq_true]at z
  rw[z];rfl
theorem FL.own{k:Nat}:FL (y.filter (kept (nm.take k))) (nm.take k) k v↔FL y nm k v:=by
 constructor
 ·rintro ⟨j,j1,j2,ws,p,r⟩
  rw[uL j2,xk j2]at p
  exact ⟨j,j1,j2,ws,p,r⟩
 ·rintro ⟨j,j1,j2,ws,p,r⟩
  exact ⟨j,j1,j2,ws,by rw[uL j2,xk j2];exact p,r⟩
theorem fi.part{D:c5}{k:Nat}(hy:Yd y)(lO:nm.Perm (y.filter aD))(rG:nm.Pairwise (· <= ·))(hk:k<=(nm:))(h:fi (y.filter (kept (nm.take k))) ws):∀v,v∈ws↔FL y nm k v:=λv=>by
 have s:=bV.of hy lO
 obtain ⟨m,m1,m2,m3⟩:=h.mem
 have st:=s.take k
 obtain rfl:m=nm.take k:=sj m1 (oj hy st.eE st.nd st.aY).symm (Qet _) m2 (rG.sublist (Qf4 k nm))
 rw[m3,Qad,Qa8 hk]
 exact FL.own
theorem CP{p:c5->Bool}(h:ws.Pairwise λa b=>ml b a=false):(ws.filter p).Pairwise λa b=>ml b a=false:=h.sublist List.filter_sublist
theorem Kx{A B:List c5}(a:A.Nodup)(b:B.Nodup)(h:∀v∈A,v∈B):((B.filter λv=>!decide (v∈A)):)+A.length=B.length:=by
 have p:(A++B.filter λv=>!decide (v∈A)).Perm B:=(Qb6 (Qbe.mpr ⟨a,b.filter _,λx hx z hz e=>by
  have:=(Qag.mp hz).2
  rw[<-e,decide_eq_true hx]at this
  cases this⟩) b).mpr λv=>by
   rw[Qai,Qag]
   constructor
   ·rintro (g | g)
    ·exact h v g
    ·exact g.1
   ·intro g
    by_cases z:v∈A
    ·exact .inl z
    ·exact .inr ⟨g,by rw[decide_eq_false z];rfl⟩
 have:=p.length_eq
 rw[kb]at this
 lia
theorem AW(ls:List c5):(ck ls).all md=true:=by unfold ck;rw[List.all_map,Qb8];intro x _;rfl
theorem Ky(ls:List c5):(PyData.list (Ah ls)).depth<=60:=by show PyData.depthAll (Ah ls)+1<=60;rw[p7];decide
theorem Kz(ls:List c5):PyData.eqv (.list (Ah ls)) (.list (Ah ls))=true:=eqv_refl (.list (Ah ls)) (by show PyData.hasDictAll (Ah ls)=false;exact Ao _)
theorem lQ{x:V}(h:(ck ws)[i]? =some x):∃w,ws[i]? =some w/\x= .str (S w):=by
 unfold ck at h
 rw[Qau]at h
 cases e:ws[i]? with
 | none=>rw[e]at h;cases h
 | some p=>rw[e]at h;cases h;exact ⟨p,rfl,rfl⟩
theorem FL.succ(hy:Yd y)(s:bV y nm)(hi:i<(nm:))(p:Parts (y.filter (kept (nm.take (i+1)))) ws):FL y nm (i+1) v↔FL y nm i v\/∃w∈ws,v=aZ w:=by
 have st:=s.take (i+1)
 walk_at"D"
 have hlen:=st.len hy
 rw[Qad,Qa8 ()]at hlen
 constructor
 ·rintro ⟨j,j1,j2,us,pu,u,hu,rfl⟩
  by_cases z:j<=i
  ·exact .inl ⟨j,j1,z,us,pu,u,hu,rfl⟩
  ·obtain rfl:j=i+1:=by lia
   obtain ⟨w,hw,e⟩:=m8 hz () pu p hu
   exact .inr ⟨w,hw,e⟩
 ·rintro (g | ⟨w,hw,e⟩)
  ·exact g.mono (Qcx _)
  ·exact ⟨i+1,(),Qaa _,ws,p,w,hw,e⟩
theorem FL.rims(hy:Yd y)(s:bV y nm)(hi:i<(nm:))(r:eG (y.filter (kept (nm.take (i+1)))) L):FL y nm (i+1) v↔FL y nm i v\/∃w∈L,v=aZ w:=by
 obtain ⟨ws,p,q,_⟩:=r
 have st:=s.take (i+1)
 walk_at"D"
 have hlen:=st.len hy
 rw[Qad,Qa8 ()]at hlen
 rw[FL.succ hy s hi p]
 refine or_congr_right ⟨?_,?_⟩
 ·rintro ⟨w,hw,e⟩
  exact ⟨aH w,q.mem_iff.mpr (Qar.mpr ⟨w,hw,rfl⟩),by rw[e,i7 hz () (p.g7 w hw).1 (p.g7 w hw).2]⟩
 ·rintro ⟨r,hr,e⟩
  obtain ⟨w,hw,rfl⟩:=Qar.mp (q.mem_iff.mp hr)
  exact ⟨w,hw,by rw[e,i7 hz () (p.g7 w hw).1 (p.g7 w hw).2]⟩
theorem FL.zero: ¬FL y nm 0 v:=λ⟨_,a,b,_⟩=>by lia
structure GU(y nm:c5)(i:Nat)(R:c5->Prop)(ws:List c5):Prop where
 nd:ws.Nodup
 mem:∀w,w∈ws↔FL y nm i w\/R w
theorem GU.congr{R R':c5->Prop}(h:GU y nm i R ws)(e:∀w,R w↔R' w):GU y nm i R' ws:=⟨h.nd,λw=>by rw[h.mem,e]⟩
theorem GU.next{R:c5->Prop}(h:GU y nm i R ws)(e:∀v,FL y nm (i+1) v↔FL y nm i v\/R v):GU y nm (i+1) (λ_=>False) ws:=⟨h.nd,λw=>by rw[h.mem,e,or_false]⟩
theorem GU.done(n1:nm.Perm (y.filter aD))(n2:nm.Pairwise (· <= ·))(h:GU y nm (nm:) (λ_=>False) ws)(p:us.Perm ws)(o:us.Pairwise λa b=>ml b a=false):fi y us:=
 ⟨p.nodup_iff.mpr h.nd,o,nm,n1,n2,λv=>by rw[p.mem_iff,h.mem,or_false]⟩
theorem GU.len{R:c5->Prop}(hy:Yd y)(s:bV y nm)(hi:i<=(nm:))(h:GU y nm i R ws)(r:∀w,R w->FL y nm (nm:) w):∀w∈ws,SW y w/\(w:)<=(y:):=λw hw=>by
 rcases (h.mem w).mp hw with g | g
 ·exact ⟨(g.sw hy s hi).1,(g.sw hy s hi).2.1⟩
 ·exact ⟨((r w g).sw hy s (Qaa _)).1,((r w g).sw hy s (Qaa _)).2.1⟩
inductive oX(K:c6)(vs:List V)(H:Hp)(Q:VK)(dN:XK):Prop
 | mk (d:Addr) (aJ:List (Key×V)) (ws:List c5) (_:vs=[.ref d]) (_:H d=some (.dK aJ)) (_:(aJ.map (·.1)=ws.map λl=>Sum.inr (S l))) (_:(ws:)<=63) (_:(∀w∈ws,(w:)<=1000)) (_:bS K H) (_:∀(t:Addr) (us:List c5) H',bQ (TabAt K "by_size") H H'->bS K H'->H t=none->H' t=some (.lst (ck us))->us.Perm ws->(us.Pairwise λa b=>ml b a=false)->Q (.ref t) H'):oX K vs H Q dN
def uM(K:c6):Sp:=oX K
theorem AX(h:uM K vs H Q E):(vs:)=1:=by obtain ⟨_,_,_,rfl,_⟩:=h;rfl
def qV(K:c6):Sp:=λvs H Q _=>∃y:c5,vs=[.str (S y)]/\Yd y/\2<=(y:)/\(y:)<=8/\bS K H/\∀(t:Addr) (ws:List c5) H',bQ (TabAt K "by_size") H H'->bS K H'->H t=none->H' t=some (.lst (ck ws))->fi y ws->(ws:)<=100->Q (.ref t) H'
theorem yR(h:qV K vs H Q E):(vs:)=1:=by obtain ⟨_,rfl,_⟩:=h;rfl
def ED(_:c6):Sp:=λvs H Q _=>∃y:c5,vs=[.str (S y)]/\Yd y/\2<=(y:)/\(y:)<=8/\∀(L:List c5) (H':Hp),eG y L->ay H H'->Q (.int (2*(((y:):Int) / 2) - 1 - (((((y:):Int) / 2)+1 - (L.length:Int)) / 2))) H'
theorem KA(h:ED K vs H Q E):(vs:)=1:=by obtain ⟨_,rfl,_⟩:=h;rfl
theorem xl{y nm:c5}(hy:Yd y)(s:bV y nm){k:Nat}(k1:1<=k){us:List c5}(pu:Parts (y.filter (kept (nm.take k))) us):∀{m:Nat},k+m<=(nm:)->∀{ws:List c5},Parts (y.filter (kept (nm.take (k+m)))) ws->(ws:)<=(us:)+m
 | 0,h,ws,p=>by
  have st:=s.take k
  walk_at"D"
  have hlen:=st.len hy
  rw[Qad,Qa8 ()]at hlen
  have:=(p.perm hz (by show 2<=(y.filter (kept (nm.take k)):);lia) pu).length_eq
  rw[Xi,Xi]at this
  lia
 | m+1,h,ws,p=>by
  obtain ⟨a,ha⟩:∃a,nm[k+m]? =some a:=⟨nm[k+m],P4 ()⟩
  have CO:=s.aY a (Qaf ha)
  have st:=s.take (k+m+1)
  walk_at"D"
  have hlen:=st.len hy
  rw[Qad,Qa8 ()]at hlen
  have mC:a∈y.filter (kept (nm.take (k+m+1))):=Qag.mpr ⟨CO,by rw[eh st.eE (hy.lt a CO), <-take_snoc ha];simp⟩
  obtain ⟨vs,pv,e⟩:=AV hz () mC p
  rw[i9 hy s ha]at pv
  have:=xl hy s k1 pu (m:=m) () pv
  lia
theorem KD(hy:Yd y)(lO:nm.Perm (y.filter aD)):y.filter (kept (nm.take (nm:)))=y:=by
 have s:=bV.of hy lO
 rw[Qbs]
 refine Qc5.mpr λc hc=>?_
 rw[eh s.eE (hy.lt c hc)]
 rcases hy.lt c hc with q | q
 ·rw[decide_eq_true (show c∈nm from lO.mem_iff.mpr (Qag.mpr ⟨hc,(aM c q).1⟩))];rfl
 ·rw[decide_eq_true (show aC c∈nm from lO.mem_iff.mpr (Qag.mpr ⟨hy.cl c hc,(aM _ (bE c q).2.2.2).1⟩))];exact Qga _
theorem Gq(hy:Yd y)(lO:nm.Perm (y.filter aD)){k:Nat}(k1:1<=k)(hk:k<=(nm:)){M:List c5}(a:eG (y.filter (kept (nm.take k))) L)(b:eG y M):((((y.filter (kept (nm.take k)):):Int) / 2)+1 - (L.length:Int)) / 2<=((((y:):Int) / 2)+1 - (M.length:Int)) / 2:=by
 have s:=bV.of hy lO
 obtain ⟨us,pu,eu,_⟩:=a
 obtain ⟨ws,pw,ew,_⟩:=b
 have l1:=eu.length_eq
 have l2:=ew.length_eq
 rw[Xi]at l1 l2
 obtain ⟨m,hm⟩:∃m,(nm:)=k+m:=⟨(nm:) - k,()⟩
 have g:=xl hy s k1 pu (m:=m) () (ws:=ws) (by rw[<-hm,KD hy lO];exact pw)
 have st:=s.take k
 have hlen:=st.len hy
 rw[Qad,Qa8 hk]at hlen
 have hh:=fz hy
 have hl:=lO.length_eq
 lia
theorem qx(h:a∈aV):aZ [a]=[aC a]:=by
 have key:∀a∈aV,aZ [a]=[aC a]:=by decide+kernel
 exact key a h
theorem fi.oW(hy:Yd y)(lO:nm.Perm (y.filter aD))(rG:nm.Pairwise (· <= ·))(ha:nm[0]? =some a)(h:fi (y.filter (kept (nm.take 1))) ws):ws=[[aC a]]:=by
 have s:=bV.of hy lO
 have hk:=(P5.mp ha).1
 have m:=h.part (D:=[]) hy lO rG ()
 have si:=Qaf ha
 walk_at"M"
 have st:=s.take 1
 walk_at"D"
 have hlen:=st.len hy
 have l1:(nm.take 1:)=1:=by rw[e1];rfl
 have mC:a∈y.filter (kept (nm.take 1)):=Qag.mpr ⟨s.aY a si,by rw[eh st.eE (hy.lt a (s.aY a si)),e1];simp⟩
 have r:=My.oW hz () mC (s.eE a si)
 have mm:∀v,v∈ws↔v=[aC a]:=λv=>by
  rw[m v,FL.rims hy s (i:=0) hk r]
  have lt:AllLt [a]:=λc hc=>by rw[U0.mp hc];exact hy.lt a (s.aY a si)
  have e2:aZ [aC a]=[aC a]:=by rw[<-qx (s.eE a si)];exact FG lt
  constructor
  ·rintro (g | ⟨w,hw,e⟩)
   ·exact absurd g FL.zero
   ·rcases Qab.mp hw with q | q
    ·rw[e,q,e2]
    ·rw[e,U0.mp q,qx (s.eE a si)]
  ·intro e
   exact .inr ⟨[a],by simp,by rw[e,qx (s.eE a si)]⟩
 have pm:=(Qb6 h.nd (Qa5.mpr ⟨Qan,Qcm⟩:[[aC a]].Nodup)).mpr λv=>by rw[mm,U0]
 exact List.perm_singleton.mp pm
noncomputable def NB(sm:c5)(D:List c5):List c5:=D.filter λw=>w.all (kept sm)
variable{D:List c5}
theorem fi.low{k:Nat}(hy:Yd y)(lO:nm.Perm (y.filter aD))(rG:nm.Pairwise (· <= ·))(k1:1<=k)(hk:k<=(nm:))(hD:fi y D)(h:fi (y.filter (kept (nm.take k))) ws):ws=NB (nm.take k) D:=by
 have s:=bV.of hy lO
 obtain ⟨m,m1,m2,m3⟩:=hD.mem
 obtain rfl:=sj lO m1 (Qet _) rG m2
 have mw:=h.part (D:=[]) hy lO rG hk
 refine sortedK ((Qb6 h.nd (hD.nd.filter _)).mpr λv=>?_) h.ord (CP hD.ord)
 rw[mw,Qag,m3,Qb8]
 constructor
 ·intro g
  exact ⟨g.mono hk,λc hc=>(Qag.mp (g.in_ hy s hk c hc)).2⟩
 ·rintro ⟨g,q⟩
  obtain ⟨m,hm⟩:∃m,(nm:)=k+m:=⟨(nm:) - k,()⟩
  have sw:=(g.sw hy s (Qaa _)).1
  rw[hm]at g
  exact FL.low hy s k1 (λc hc=>Qag.mpr ⟨sw.aY c hc,q c hc⟩) () g
noncomputable def KG(y nm:c5)(k:Nat)(v:c5):Bool:= @decide (FL y nm k v) (Classical.propDecidable _)
theorem KH{k:Nat}(h:∀v,v∈D↔FL y nm k v)(v:c5):KG y nm k v=decide (v∈D):=by
 unfold KG
 by_cases z:v∈D
 ·rw[decide_eq_true z];exact @decide_eq_true _ (Classical.propDecidable _) ((h v).mp z)
 ·rw[decide_eq_false z];exact @decide_eq_false _ (Classical.propDecidable _) λg=>z ((h v).mpr g)
theorem RC{k:Nat}(h:KG y nm k v=false): ¬FL y nm k v:=by
 unfold KG at h
 exact @of_decide_eq_false _ (Classical.propDecidable _) h
theorem AY:∀n:Nat,vG n (λ_ _=>(0:Int))=0
 | 0=>rfl
 | n+1=>by
  show vG n (λ_ _=>(0:Int))+sm n (λ_=>0)=0
  rw[AY n,eB];rfl
theorem NC{cs:List c5}(h1:∀w∈cs,uD y w=0)(h2:∀w∈cs,∀v∈cs,SS y w v=0):Sx y cs=true:=by
 unfold Sx CL
 have g:∀i:Nat,i<(cs:)->(cs|||i)∈cs:=λi hi=>by rw[Qak,P4 hi];exact Qbk hi
 have a:sm (cs:) (λc=>uD y (cs.getD c.toNat []))=0:=(aK (g:=λ_=>0) λi hi=>by
  show uD y (cs.getD ((i:Int).toNat) [])=0
  rw[Qap];exact h1 _ (g i hi)).trans (eB _)
 have b:vG (cs:) (λc d=>SS y (cs.getD c.toNat []) (cs.getD d.toNat []))=0:=(lI (g:=λ_ _=>0) λi j hi hj=>by
  show SS y (cs.getD ((i:Int).toNat) []) (cs.getD ((j:Int).toNat) [])=0
  rw[Qap,Qap];exact h2 _ (g i ()) _ (g j hj)).trans (AY _)
 rw[a,b]
 rfl
theorem uN{y:c5}(hy:Yd y):∀{ws:List c5},(∀w∈ws,SW y w/\(w:)<=8)->Ez y ws ws
 | [],_=>trivial
 | w::ws,h=>⟨Sh.of hy (h w Xh).1 (by have:=(h w Xh).2;lia),uN hy λv hv=>h v (Sd _ hv)⟩
theorem KI(h:∀w∈ws,SW y w/\(w:)<=8)(n:(ws:)<=3):QV y ws:=⟨λw hw=>⟨(h w hw).1,by have:=(h w hw).2;lia⟩,(),by
 have:=ym (ws:=ws) (m:=8) (λw hw=>(h w hw).2) (ws:) (Qaa _)
 unfold places
 lia⟩
def eK(p:Addr->Prop)(b:Addr)(H H':Hp):Prop:=∀a o,H a=some o->a≠b->H' a=some o\/(p a/\(∃ps,o= .o7 ps)/\∃ps,H' a=some (.o7 ps))
theorem eK.of{p:Addr->Prop}{b:Addr}(s:bQ p H H'):eK p b H H':=λa o e _=>s a o e
theorem eK.ofB{p:Addr->Prop}{b:Addr}(s:bA b H H'):eK p b H H':=λa o e n=> .inl (s a o e n)
theorem eK.get{p:Addr->Prop}{b:Addr}(s:eK p b H H'){a:Addr}(h:H a=some o)(nb:a≠b)(n:∀ps,o≠ .o7 ps:=by exact λ_ z=>nomatch z):H' a=some o:=by
 rcases s a o h nb with g | ⟨_,⟨ps,e⟩,_⟩
 ·exact g
 ·exact absurd e (n ps)
theorem eK.trans{p:Addr->Prop}{b:Addr}{H1:Hp}(x:eK p b H H1)(y:eK p b H1 H2):eK p b H H2:=λa o h n=>by
 rcases x a o h n with g | ⟨g1,g2,ps,g3⟩
 ·exact y a o g n
 ·rcases y a _ g3 n with q | ⟨_,_,q⟩
  ·exact .inr ⟨g1,g2,ps,q⟩
  ·exact .inr ⟨g1,g2,q⟩
variable{pos:Pos}
theorem ND{x:Str}{q:Str}{b:Addr}(h:Tab K x pos q H)(hb:dR H b)(s:bA b H H'):Tab K x pos q H':=λc P e=>by
 obtain ⟨u,v,hb⟩:=hb
 rcases h c P e with g | ⟨c',g1,g2⟩
 ·exact .inl (s _ _ g λz=>by rw[z,hb]at g;cases g)
 ·exact .inr ⟨c',s _ _ g1 (λz=>by rw[z,hb]at g1;cases g1),s _ _ g2 (λz=>by rw[z,hb]at g2;cases g2)⟩
def BS(K:c6):Addr->Prop:=TabAt K "by_size"
inductive jM(p_:c6)(vs:List V)(H:Hp)(Q:VK)(dN:XK):Prop
 | mk (p:Addr) (D:List c5) (sm:c5) (_:vs=[.ref p,.str (S sm)]) (_:H p=some (.lst (ck D))) (_:D.length<=100) (_:(∀w∈D,(∀c∈w,Lt c)/\(w:)<=12)) (_:(∀d∈sm,d∈aV)) (_:∀t H',H t=none->H' t=some (.lst (ck (NB sm D)))->ay H H'->Q (.ref t) H'):jM p_ vs H Q dN
def mH(p_:c6):Sp:=jM p_
theorem uO(h:mH K vs H Q E):(vs:)=2:=by obtain ⟨_,_,_,rfl,_⟩:=h;rfl
inductive jN(K:c6)(vs:List V)(H:Hp)(Q:VK)(dN:XK):Prop
 | mk (y nm:c5) (k:Nat) (_:vs=[.str (S y),.str (S nm),.int (k+1:Nat)]) (_:Yd y) (_:(y:)<=8) (_:nm.Perm (y.filter aD)) (_:nm.Pairwise (· <= ·)) (_:1<=k) (_:k<(nm:)) (_:bS K H) (_:∀H',bQ (BS K) H H'->bS K H'->Q (.bl true) H'):jN K vs H Q dN
def mI(K:c6):Sp:=jN K
theorem uQ(h:mI K vs H Q E):(vs:)=3:=by obtain ⟨_,_,_,rfl,_⟩:=h;rfl
inductive qW(K:c6)(vs:List V)(H:Hp)(Q:VK)(dN:XK):Prop
 | mk (b:Addr) (y:c5) (_:vs=[.ref b,.str (S y)]) (_:dR H b) (_:Yd y) (_:2<=(y:)) (_:(y:)<=8) (_:bS K H) (_:∀H',eK (BS K) b H H'->dR H' b->bS K H'->Q (.bl true) H'):qW K vs H Q dN
def xm(K:c6):Sp:=qW K
theorem CQ(h:xm K vs H Q E):(vs:)=2:=by obtain ⟨_,_,rfl,_⟩:=h;rfl
def Itm(pf:Addr)(H:Hp)(u:Addr):Prop:=∃(b:Addr) (y:c5),H u=some (.tup [.ref b,.str (S y)])/\dR H b/\b≠pf/\Yd y/\2<=(y:)/\(y:)<=8
variable{pf:Addr}
theorem Itm.same{u:Addr}(h:Itm pf H u)(s:ay H H'):Itm pf H' u:=let ⟨b,y,e,hb,r⟩:=h;⟨b,y,s _ _ e,hb.same s,r⟩
theorem Itm.BU{u:Addr}{xs zs:List V}(h:Itm pf H u)(hp:H pf=some (.lst xs)):Itm pf (upd H pf (.lst zs)) u:=by
 obtain ⟨b,y,e,⟨x,z,g⟩,n,r⟩:=h
 exact ⟨b,y,by rw[aq (λq=>by rw[q,hp]at e;cases e)];exact e,⟨x,z,by rw[aq n];exact g⟩,n,r⟩
theorem Itm.next{p:Addr->Prop}{u b0:Addr}(h:Itm pf H u)(s:eK p b0 H H')(h0:dR H b0)(h1:dR H' b0):Itm pf H' u:=by
 obtain ⟨b,y,e,⟨x,z,g⟩,n,r⟩:=h
 obtain ⟨x0,z0,g0⟩:=h0
 refine ⟨b,y,s.get e (λq=>by rw[q,g0]at e;cases e),?_,n,r⟩
 by_cases q:b=b0
 ·rw[q];exact h1
 ·exact ⟨x,z,s.get g q⟩
theorem NF{pc b:Addr}{vs:List Addr}(h:H pc=some (.lst (vs.map V.ref)))(hb:dR H b):pc≠b:=λq=>by
 obtain ⟨x,z,g⟩:=hb
 rw[q,g]at h
 cases vs with
 | nil=>cases h
 | cons v r=>cases h
local macro_rules | `(tactic| walk_at "rd") => `(tactic| repeat (first
 | refine ⟨_,rfl,?_⟩
 | refine ⟨_,_,rfl,rfl,?_⟩
 | refine ⟨rfl,?_⟩
 | refine And.intro (by first | decide | omega | assumption | exact Nat.le_of_ble_eq_true rfl | exact .inl ⟨∅,∅⟩ | exact .inr ⟨∅,∅⟩ | exact ⟨∅,∅⟩ | exact ⟨by omega,by omega⟩) ?_))
local macro_rules | `(tactic| walk_at "wk") => `(tactic| repeat (first
 | refine ⟨_,rfl,?_⟩
 | refine ⟨_,_,rfl,rfl,?_⟩
 | refine ⟨_,_,_,rfl,rfl,by first | assumption | omega,by assumption,?_⟩
 | refine ⟨rfl,?_⟩
 | refine And.intro (by first | decide | omega | assumption | exact Nat.le_of_ble_eq_true rfl | exact .inl ⟨∅,∅⟩ | exact .inr ⟨∅,∅⟩ | exact ⟨∅,∅⟩ | exact ⟨by omega,by omega⟩) ?_))
local macro_rules | `(tactic| walk_at "bd") => `(tactic| first | assumption | exact aay _ | exact apl (by walk_at "bd") (by walk_at "bd"))
noncomputable def top(i:Nat):Stmt:=PySem.Challenge.pw_mustmeet_k73_whole_yards_within_one_by_o.main.body.getD i (.Pass ⟨0,0,0,0⟩)
noncomputable abbrev m9:Stmt:=top 1
noncomputable abbrev uR:Stmt:=top 2
noncomputable abbrev yS:Stmt:=top 4
noncomputable abbrev iB:Stmt:=top 5
noncomputable abbrev uS:Stmt:=top 6
noncomputable abbrev jr:Stmt:=top 8
noncomputable abbrev uT:Stmt:=top 9
noncomputable abbrev gv:Stmt:=top 10
noncomputable abbrev qy:Stmt:=top 11
noncomputable abbrev gR:Stmt:=top 12
noncomputable abbrev kP:Stmt:=top 13
noncomputable abbrev fS:Stmt:=top 14
noncomputable abbrev js:Stmt:=top 16
noncomputable abbrev iC:Stmt:=top 18
noncomputable abbrev kQ:Stmt:=top 20
noncomputable abbrev m_:Stmt:=top 21
noncomputable abbrev CT:Stmt:=top 22
noncomputable abbrev CU:Stmt:=top 23
noncomputable abbrev CV:Stmt:=top 24
noncomputable abbrev lR:Stmt:=top 25
noncomputable abbrev gS:Stmt:=top 27
noncomputable abbrev iD:Stmt:=top 30
noncomputable abbrev jt:Stmt:=top 31
noncomputable abbrev qz:Stmt:=top 32
noncomputable abbrev qA:Stmt:=top 33
noncomputable abbrev iE:Stmt:=top 34
noncomputable abbrev gT:Stmt:=top 35
noncomputable abbrev iF:Stmt:=top 36
noncomputable abbrev ju:Stmt:=top 37
noncomputable abbrev CY:Stmt:=top 38
noncomputable abbrev yT:Stmt:=top 40
noncomputable abbrev KJ:Stmt:=top 41
noncomputable abbrev ng:Stmt:=top 43
noncomputable abbrev jv:Stmt:=top 44
noncomputable abbrev CZ:Stmt:=top 45
noncomputable abbrev qB:Stmt:=top 46
noncomputable abbrev kR:Stmt:=top 48
noncomputable abbrev C0:Stmt:=top 49
noncomputable abbrev nh:Stmt:=top 50
noncomputable abbrev qC:Stmt:=top 52
noncomputable abbrev C1:Stmt:=top 54
noncomputable abbrev yU:Stmt:=top 55
noncomputable abbrev uU:Stmt:=top 56
noncomputable abbrev yV:Stmt:=top 57
noncomputable abbrev jw:Stmt:=top 58
noncomputable abbrev jx:Stmt:=top 59
noncomputable abbrev uV:Stmt:=top 60
noncomputable abbrev KL:Stmt:=top 61
structure bp(K:c6)(mg:Str->Option Value)(x:Str)(st:Stmt)(ps:List Str)(f:Addr)(fd:FuncData):Prop where
 fn:LV K x x st f fd
 mg:mg x=some (.ref f)
 bd:Binds K fd ps []
variable{X:Cx}
theorem ah{ss:List Stmt}(Z:TS)(h:zf X ss Z):zf X ss Z:=h
variable{mg:Str->Option Value}
theorem ak{k:Nat}{f:Addr}{fd:FuncData}{ps:List Str}{sp:Sp}{x:Str}{st:Stmt}{e:Expr}{es:List Expr}{t:TA}{p:Pos}(G:bD X.prog X.w X.K X.mg X.base eM k f fd ps sp)(F:bp K mg x st ps f fd)(hr:c_ j X.A)(ha:PA X (e::es) t)(hK:X.K=K:=by rfl)(hm:X.mg=mg:=by rfl)(hg:Gl X x:=by rfl)(hj:k<=j:=by decide)(hd:(x==("__debug__":Str))=false:=by decide)(he:starEach (e::es) X.env=(false,eval e X.env)::starEach es X.env:=by rfl)(hp:(backTo pos (starEach es X.env)).any (·.1)=false:=by rfl):PE X (.Call (.Name x p) (e::es) [] pos) (Of sp [] E0 t):=by
 subst hK;subst hm;exact k_ G (hr.mono hj) hg F.mg F.fn.kp F.bd .nil hJ ha hd he hp
variable{te:TE}
theorem aB{x:Str}{e:Expr}{p:Pos}(hN:X.N.Nodup)(he:PE X e te)(hi:X.N[i]? =some x:=by rfl)(hx:Loc X.env.scope x:=by first | exact .inl rfl | exact .inr rfl)(hs:swapsWith e (some (.Name x p)) pos.line X.env=pure false:=by rfl)(hf:X.fn x=true\/X.env.scope.names.lookup x=some .local:=by first | exact .inl rfl | exact .inr rfl):PS X (.Assign [.Name x p] e pos) (G3 te (vY i)):=Bk hN hi hx he hs hf
theorem ae{e:Expr}(he:PE X e te)(hs:starEach [e] X.env=(false,eval e X.env)::starEach [] X.env:=by rfl):PA X [e] (G9 te PD):=ai he bL hs
theorem cM(K:c6){e:Expr}{p:Pos}(hm:X.mg "len"=none)(he:PE X e te)(hK:X.K=K:=by rfl)(hg:Gl X "len":=by rfl)(hs:starEach [e] X.env=(false,eval e X.env)::starEach [] X.env:=by rfl)(hp:(backTo pos (starEach [] X.env)).any (·.1)=false:=by rfl):PE X (.Call (.Name "len" p) [e] [] pos) (Yv (Ov K) (G9 te PD)):=aQ (vA K hK) hg hm Qbr (ai he bL hs) ∅ ∅ hs hp
noncomputable abbrev lS:Stmt:=inC (top 28) 0
noncomputable abbrev i_:Stmt:=inC (top 29) 0
structure Txt(K:c6)(mg:Str->Option Value)(f0 f1 f2 f3 f4 f5 f6 f7 f8 f9 SA SD SE SF SG SH SI SJ SK RD SM KN KO SN SO SQ SR SU SV SX SY S0 S3 S4 S5 S6 S7 S8 S9 S_ Ta Tb Tc Td Te Tf Tg Th aP a_ mJ iG e_:Addr)(d0 d1 d2 d3 d4 d5 d6 d7 d8 d9 Ti Tj Tn To Tp Tq Tr Ts Tt RE Tu Tv Tw Tx Tz TB TC TF TH TJ TK TL TM TN TQ TR TU TV TX TY TZ T1 T3 T4 T5 T6 T7 T8 AZ uW:FuncData):Prop where
 F0:bp K mg "contrary" m9 ["letter"] f0 d0
 F1:bp K mg "turned" uR ["word"] f1 d1
 F2:bp K mg "bands" yS ["yard"] f2 d2
 F3:bp K mg "steps_round" iB ["yard","start","end"] f3 d3
 F4:bp K mg "within" uS ["yard","some"] f4 d4
 F5:bp K mg "strands_at" jr ["yard","drawing","end"] f5 d5
 F6:bp K mg "points" uT ["yard","drawing"] f6 d6
 F7:bp K mg "corner_points" gv ["word","cord","place"] f7 d7
 F8:bp K mg "corners" qy ["yard","drawing"] f8 d8
 F9:bp K mg "chord_starts" gR ["some"] f9 d9
 F10:bp K mg "number_in" kP ["rising","point"] SA Ti
 F11:bp K mg "count_meetings" fS ["some"] SD Tj
 F12:bp K mg "strands_in" js ["words","band"] SE Tn
 F13:bp K mg "corner_ends" iC ["word","place"] SF To
 F14:bp K mg "shortened" kQ ["word"] SG Tp
 XE:bp K mg "shortest" m_ ["word"] SH Tq
 KP:bp K mg "ring" CT ["word"] SI Tr
 ZC:bp K mg "loop" CU ["word"] SJ Ts
 XF:bp K mg "root" CV ["word"] SK Tt
 F19:bp K mg "by_size" lR ["words"] RD RE
 XG:bp K mg "corner_steps" gS ["yard","word","place"] SM Tu
 GV:bp K mg "steps_ahead" iD ["seen","start","end"] KN Tv
 GW:bp K mg "steps_back" jt ["seen","start","end"] KO Tw
 ZD:bp K mg "parting" qz ["steps","one","other","enough"] SN Tx
 ZE:bp K mg "side_of" qA ["seen"] SO Tz
 F25:bp K mg "comes_ahead" iE ["one","other"] SQ TB
 F26:bp K mg "number_among" gT ["order","seen"] SR TC
 F27:bp K mg "seen_strand" iF ["words","ways","strand"] SU TF
 F28:bp K mg "taut_order" ju ["words","ways","band"] SV TH
 F29:bp K mg "taut" CY ["yard","words"] SX TJ
 ZF:bp K mg "least" yT ["yard","words"] SY TK
 F31:bp K mg "own" KJ ["yard","word"] S0 TL
 F32:bp K mg "next_end" ng ["yard","end"] S3 TM
 F33:bp K mg "rim_behind" jv ["yard","start"] S4 TN
 T9:bp K mg "rims" CZ ["yard"] S5 TQ
 T_:bp K mg "handles" qB ["yard"] S6 TR
 ZG:bp K mg "lie_apart" kR ["yard","words"] S7 TU
 F37:bp K mg "most" C0 ["yard"] S8 TV
 RF:bp K mg "full_set" nh ["yard"] S9 TX
 F39:bp K mg "is_lone" qC ["yard","word"] S_ TY
 F40:bp K mg "_law_box" C1 ["_law_script","_law_k"] Ta TZ
 Wg:bp K mg "_law_take" yU ["_law_box_here","_law_many"] Tb T1
 Wh:bp K mg "_law_other" uU ["_law_letter"] Tc T3
 F43:bp K mg "_law_yard" yV ["_law_box_here","_law_few","_law_top"] Td T4
 F44:bp K mg "_law_of_letters" jw ["_law_words","_law_some"] Te T5
 F45:bp K mg "_law_step_right" jx ["_law_yard_here","_law_names","_law_k"] Tf T6
 F46:bp K mg "_law_right" uV ["_law_box_here","_law_yard_here"] Tg T7
 F47:bp K mg "law" KL ["_law_script"] Th T8
 L19:IA K "by_size" "by_size" lR RD RE e_
 qD:TabAt K "by_size" e_
 tn:([e_]:List Addr).Nodup
 KQ:mg "Seen"=some (.ref aP)
 eV:Oe K aP
 n_Seen_strand:fk K aP "strand"
 n_Seen_way:fk K aP "way"
 n_Seen_place:fk K aP "place"
 OY:mg "Way"=some (.ref a_)
 ik:Oe K a_
 n_Way_size:fk K a_ "size"
 n_Way_root_size:fk K a_ "root_size"
 n_Way_leads:fk K a_ "leads"
 n_Way_onward:fk K a_ "onward"
 n_Way_backward:fk K a_ "backward"
 OZ:Mk K a_ mJ
 Wi:LV K "__init__" "Way.__init__" lS mJ AZ
 O0:Binds K AZ ["self","yard","word","longest"] []
 KR:Mk K aP iG
 RG:LV K "__init__" "Seen.__init__" i_ iG uW
 KS:Binds K uW ["self","strand","way","place"] []
 z_all:mg "all"=none
 z_enumerate:mg "enumerate"=none
 z_int:mg "int"=none
 z_len:mg "len"=none
 z_list:mg "list"=none
 z_max:mg "max"=none
 z_min:mg "min"=none
 z_range:mg "range"=none
 z_reversed:mg "reversed"=none
 z_sorted:mg "sorted"=none
 z_str:mg "str"=none
 z_tuple:mg "tuple"=none
theorem A0:aG ["letter"] ["letter"] (aA m9):=⟨rfl,rfl,rfl,⋯,rfl,⋯,⋯⟩
theorem Gr:aG ["word"] ["word"] (aA uR):=⟨rfl,rfl,rfl,⋯,rfl,⋯,⋯⟩
theorem KU:aG ["yard"] ["yard"] (aA yS):=⟨rfl,rfl,rfl,⋯,rfl,⋯,⋯⟩
theorem uX:aG ["yard","start","end"] ["yard","start","end"] (aA iB):=⟨rfl,rfl,rfl,⋯,rfl,⋯,⋯⟩
theorem Gs:aG ["yard","some"] ["yard","some"] (aA uS):=⟨rfl,rfl,rfl,⋯,rfl,⋯,⋯⟩
theorem mK:aG ["yard","drawing","end","order"] ["yard","drawing","end"] (aA jr):=⟨rfl,rfl,rfl,⋯,rfl,⋯,⋯⟩
theorem lT:aG ["yard","drawing","told","end","strand"] ["yard","drawing"] (aA uT):=⟨rfl,rfl,rfl,⋯,rfl,⋯,⋯⟩
theorem ja:aG ["word","cord","place","ahead"] ["word","cord","place"] (aA gv):=⟨rfl,rfl,rfl,⋯,rfl,⋯,⋯⟩
theorem dk:aG ["yard","drawing","numbers","number","point","told","cord","word","place","pair"] ["yard","drawing"] (aA qy):=⟨rfl,rfl,rfl,⋯,rfl,⋯,⋯⟩
theorem eU:aG ["some","starts","corner","first"] ["some"] (aA gR):=⟨rfl,rfl,rfl,⋯,rfl,⋯,⋯⟩
theorem eI:aG ["rising","point","low","high","middle"] ["rising","point"] (aA kP):=⟨rfl,rfl,rfl,⋯,rfl,⋯,⋯⟩
theorem bM:aG ["some","starts","begun","many","point","number"] ["some"] (aA fS):=⟨rfl,rfl,rfl,⋯,rfl,⋯,⋯⟩
theorem dF:aG ["words","band","found","cord","word","place","letter"] ["words","band"] (aA js):=⟨rfl,rfl,rfl,⋯,rfl,⋯,⋯⟩
theorem uY:aG ["word","place"] ["word","place"] (aA iC):=⟨rfl,rfl,rfl,⋯,rfl,⋯,⋯⟩
theorem jy:aG ["word","kept","letter"] ["word"] (aA kQ):=⟨rfl,rfl,rfl,⋯,rfl,⋯,⋯⟩
theorem ff:aG ["word","left","start","end"] ["word"] (aA m_):=⟨rfl,rfl,rfl,⋯,rfl,⋯,⋯⟩
theorem lU:aG ["word","whole","least","start","begun"] ["word"] (aA CT):=⟨rfl,rfl,rfl,⋯,rfl,⋯,⋯⟩
theorem NG:aG ["word"] ["word"] (aA CU):=⟨rfl,rfl,rfl,⋯,rfl,⋯,⋯⟩
theorem so:aG ["word","whole","size","times"] ["word"] (aA CV):=⟨rfl,rfl,rfl,⋯,rfl,⋯,⋯⟩
theorem C2:aG ["words"] ["words"] (aA lR):=⟨rfl,rfl,rfl,⋯,rfl,⋯,⋯⟩
theorem jO:aG ["yard","word","place","ends"] ["yard","word","place"] (aA gS):=⟨rfl,rfl,rfl,⋯,rfl,⋯,⋯⟩
theorem kT:aG ["seen","start","end","first"] ["seen","start","end"] (aA iD):=⟨rfl,rfl,rfl,⋯,rfl,⋯,⋯⟩
theorem mL:aG ["seen","start","end","first"] ["seen","start","end"] (aA jt):=⟨rfl,rfl,rfl,⋯,rfl,⋯,⋯⟩
theorem eW:aG ["steps","one","other","enough","many","size"] ["steps","one","other","enough"] (aA qz):=⟨rfl,rfl,rfl,⋯,rfl,⋯,⋯⟩
theorem ni:aG ["seen","way","cord"] ["seen"] (aA qA):=⟨rfl,rfl,rfl,⋯,rfl,⋯,⋯⟩
theorem fH:aG ["one","other","enough","ahead","back"] ["one","other"] (aA iE):=⟨rfl,rfl,rfl,⋯,rfl,⋯,⋯⟩
theorem cH:aG ["order","seen","low","high","middle"] ["order","seen"] (aA gT):=⟨rfl,rfl,rfl,⋯,rfl,⋯,⋯⟩
theorem gU:aG ["words","ways","strand","word","place"] ["words","ways","strand"] (aA iF):=⟨rfl,rfl,rfl,⋯,rfl,⋯,⋯⟩
theorem fX:aG ["words","ways","band","order","strand","seen"] ["words","ways","band"] (aA ju):=⟨rfl,rfl,rfl,⋯,rfl,⋯,⋯⟩
theorem yW:aG ["yard","words","longest","ways"] ["yard","words"] (aA CY):=⟨rfl,rfl,rfl,⋯,rfl,⋯,⋯⟩
theorem KW:aG ["yard","words"] ["yard","words"] (aA yT):=⟨rfl,rfl,rfl,⋯,rfl,⋯,⋯⟩
theorem RH:aG ["yard","word"] ["yard","word"] (aA KJ):=⟨rfl,rfl,rfl,⋯,rfl,⋯,⋯⟩
theorem A1:aG ["yard","end"] ["yard","end"] (aA ng):=⟨rfl,rfl,rfl,⋯,rfl,⋯,⋯⟩
theorem dG:aG ["yard","start","word","place","passed"] ["yard","start"] (aA jv):=⟨rfl,rfl,rfl,⋯,rfl,⋯,⋯⟩
theorem lV:aG ["yard","seen","told","end","word","letter"] ["yard"] (aA CZ):=⟨rfl,rfl,rfl,⋯,rfl,⋯,⋯⟩
theorem C3:aG ["yard"] ["yard"] (aA qB):=⟨rfl,rfl,rfl,⋯,rfl,⋯,⋯⟩
theorem oY:aG ["yard","words","shorts"] ["yard","words"] (aA kR):=⟨rfl,rfl,rfl,⋯,rfl,⋯,⋯⟩
theorem NH:aG ["yard"] ["yard"] (aA C0):=⟨rfl,rfl,rfl,⋯,rfl,⋯,⋯⟩
theorem gi:aG ["yard","names","loops","count","rim"] ["yard"] (aA nh):=⟨rfl,rfl,rfl,⋯,rfl,⋯,⋯⟩
theorem uZ:aG ["yard","word","short"] ["yard","word"] (aA qC):=⟨rfl,rfl,rfl,⋯,rfl,⋯,⋯⟩
theorem oZ:aG ["_law_script","_law_k","_law_cell","_law_seed"] ["_law_script","_law_k"] (aA C1):=⟨rfl,rfl,rfl,⋯,rfl,⋯,⋯⟩
theorem u5:aG ["_law_box_here","_law_many","_law_digit","_law_one"] ["_law_box_here","_law_many"] (aA yU):=⟨rfl,rfl,rfl,⋯,rfl,⋯,⋯⟩
theorem qE:aG ["_law_letter","_law_small","_law_capital"] ["_law_letter"] (aA uU):=⟨rfl,rfl,rfl,⋯,rfl,⋯,⋯⟩
theorem gj:aG ["_law_box_here","_law_few","_law_top","_law_left","_law_ends","_law_k","_law_letter","_law_found"] ["_law_box_here","_law_few","_law_top"] (aA yV):=⟨rfl,rfl,rfl,⋯,rfl,⋯,⋯⟩
theorem iH:aG ["_law_words","_law_some","_law_found","_law_word"] ["_law_words","_law_some"] (aA jw):=⟨rfl,rfl,rfl,⋯,rfl,⋯,⋯⟩
theorem eS:aG ["_law_yard_here","_law_names","_law_k","_law_here","_law_there","_law_more","_law_grown"] ["_law_yard_here","_law_names","_law_k"] (aA jx):=⟨rfl,rfl,rfl,⋯,rfl,⋯,⋯⟩
theorem fg:aG ["_law_box_here","_law_yard_here","_law_names","_law_words","_law_k","_law_part","_law_turn","_law_some"] ["_law_box_here","_law_yard_here"] (aA uV):=⟨rfl,rfl,rfl,⋯,rfl,⋯,⋯⟩
theorem yX:aG ["_law_script","_law_asked","_law_k","_law_box_here"] ["_law_script"] (aA KL):=⟨rfl,rfl,rfl,⋯,rfl,⋯,⋯⟩
theorem u6:aG ["self","yard","word","longest","steps","rounds"] ["self","yard","word","longest"] (aA lS):=⟨rfl,rfl,rfl,⋯,rfl,⋯,⋯⟩
theorem Gu:aG ["self","strand","way","place"] ["self","strand","way","place"] (aA i_):=⟨rfl,rfl,rfl,⋯,rfl,⋯,⋯⟩
section
variable{P:Program}{w:World}{K:c6}{mg:Str->Option Value}{base:Heap}{f0 f1 f2 f3 f4 f5 f6 f7 f8 f9 SA SD SE SF SG SH SI SJ SK RD SM KN KO SN SO SQ SR SU SV SX SY S0 S3 S4 S5 S6 S7 S8 S9 S_ Ta Tb Tc Td Te Tf Tg Th aP a_ mJ iG e_:Addr}{d0 d1 d2 d3 d4 d5 d6 d7 d8 d9 Ti Tj Tn To Tp Tq Tr Ts Tt RE Tu Tv Tw Tx Tz TB TC TF TH TJ TK TL TM TN TQ TR TU TV TX TY TZ T1 T3 T4 T5 T6 T7 T8 AZ uW:FuncData}[Iy base mg]
variable(T:Txt K mg f0 f1 f2 f3 f4 f5 f6 f7 f8 f9 SA SD SE SF SG SH SI SJ SK RD SM KN KO SN SO SQ SR SU SV SX SY S0 S3 S4 S5 S6 S7 S8 S9 S_ Ta Tb Tc Td Te Tf Tg Th aP a_ mJ iG e_ d0 d1 d2 d3 d4 d5 d6 d7 d8 d9 Ti Tj Tn To Tp Tq Tr Ts Tt RE Tu Tv Tw Tx Tz TB TC TF TH TJ TK TL TM TN TQ TR TU TV TX TY TZ T1 T3 T4 T5 T6 T7 T8 AZ uW)
include T
theorem Gv:bD P w K mg base eM 1 iG uW ["self","strand","way","place"] (xc K aP):=by
 refine T.RG.ok Gu (λvs H Q E h=>CF h) (λ_ _ _ _ H vs Q E hr h=>?_)
 refine let Z1:TS:=_;let Z0:TS:=_;⟨_,(ag (jY (pv 0) (pv 1) rfl)
   (ah Z0 (ag (jY (pv 0) (pv 2) rfl)
   (ah Z1 (aj (jY (pv 0) (pv 3) rfl)))))),?_⟩
 obtain ⟨x,dx,t,w',p,rfl,hx,q⟩:=h
 refine ⟨_,rfl,_,rfl,x,aP,dx,_,rfl,hx,T.eV,T.n_Seen_strand,by show 0<1000;decide,?_⟩
 refine ⟨_,rfl,_,rfl,x,aP,dx,_,rfl,aa,T.eV,T.n_Seen_way,Qbl (dW _ _ _) (by show 0+1<1000;decide),?_⟩
 refine ⟨_,rfl,_,rfl,x,aP,dx,_,rfl,aa,T.eV,T.n_Seen_place,Qbl (dW _ _ _) (Qbl (Qc1 (dW _ _ _)) (by show 0+1+1<1000;decide)),?_⟩
 exact q _ aa λb o e z=>by rw[aq z,aq z,aq z];exact e
theorem mM:bD P w K mg base eM 1 KO Tw ["seen","start","end"] (iA K a_ aP):=by
 refine T.GW.fn.ok mL (λvs H Q E h=>uq h) (λ_ _ _ _ H vs Q E hr h=>?_)
 refine let Z0:TS:=_;⟨_,(ag (aB (i:=3) mL.nd (aF cq (aF cq (bW K rfl (bW K rfl (pv 0) rfl) rfl) ao) (bW K rfl (pv 0) rfl)))
   (ah Z0 (aj (aI (cg q_ (bW K rfl (bW K rfl (pv 0) rfl) rfl) (b9 (aF br (pv 3) (pv 1))) (b9 (aF br (pv 3) (pv 2)))))))),?_⟩
 obtain ⟨y,lg,s,x,z,rfl,hz,hs,ZH,q⟩:=h
 obtain ⟨d1,e1⟩:=hs.ob
 obtain ⟨d2,e2⟩:=hs.wy.ob
 have:=hs.wy.uz
 have:=hs.wy.lz
 have hp:=hs.pz
 have h1:1<=(s.u:):=Qbl (Qat _) hs.pz
 have rl:=oJ (lg:=lg) h1
 have VS:(100000:Nat)<sizeLine:=by decide
 refine ⟨_,rfl,s.a,aP,d1,_,_,rfl,e1,T.eV,T.n_Seen_way,ql,s.wy,a_,d2,_,_,rfl,e2,T.ik,T.n_Way_size,Ei,?_⟩
 walk_at "rd"
 refine ⟨s.a,aP,d1,_,_,rfl,e1,T.eV,T.n_Seen_place,oI,?_⟩
 walk_at "rd"
 refine ⟨s.a,aP,d1,_,_,rfl,e1,T.eV,T.n_Seen_way,ql,s.wy,a_,d2,_,_,rfl,e2,T.ik,T.n_Way_backward,Nf,?_⟩
 walk_at "rd"
 refine ⟨by rw[xf,Qas,eF];lia,?_⟩
 rw[show ((s.u:):Int) - 1 - s.p=(((s.u:) - 1 - s.p:Nat):Int) by lia,Ej ZH]
 exact q
theorem rH:bD P w K mg base eM 1 f9 d9 ["some"] (jE K):=by
 refine T.F9.fn.ok eU (λvs H Q E h=>qj h) (λ_ _ _ _ H vs Q E hr h=>?_)
 refine let Z4:TS:=_;let Z3:TS:=_;let Z2:TS:=_;let Z1:TS:=_;let Z0:TS:=_;⟨_,(ag (aB (i:=1) eU.nd tK)
   (ah Z0 (ag (cF PassesOwn.never rfl (dA K rfl (pv 0)) (aL (i:=2) eU.nd rfl (Or.inl rfl)) (ah Z1 (ag (aB (i:=3) eU.nd (aQ (pJ rfl) rfl T.z_min boot_min (ai (ba (bP K rfl) (pv 2) ao (λ_ _=>rfl)) (ae (ba (bP K rfl) (pv 2) ao (λ_ _=>rfl))))))
   (ah Z2 (ag (nS (me hr) (pv 1) (ba (bP K rfl) (pv 2) ao (λ_ _=>rfl)) (pv 3) rfl)
   (ah Z3 (aj (nS (me hr) (pv 1) (ba (bP K rfl) (pv 2) ao (λ_ _=>rfl)) (pv 3) rfl))))))))
   (ah Z4 (aj (aI (pv 1))))))),?_⟩
 obtain ⟨a,qs,rfl,ha,hq,hn,nd,q⟩:=h
 have hs:=Zs1
 walk_at "wk"
 intro d O1
 have had:a≠d:=az ha O1
 refine ⟨_,rfl,a,rfl,⟨_,bu.of (by rw[aq had];exact ha)⟩,?_⟩
 refine let jb:Nat->L2.St->Hp->Prop:=(λk σ H'=>∃(cv fv:Option V),σ=[some (.ref a),some (.ref d),cv,fv]/\H' d=some (.dK (g9 ((qs.take k).map Q4.v)))/\bA d H H');iL (K:=K) (a:=a) (xs:=FX qs) jb
  ⟨none,none,rfl,aa,λb o e z=>by rw[aq z];exact e⟩ (λk σ H' _ ⟨_,_,_,_,h⟩=>bu.of (h _ _ ha had)) ?_ ?_
 ·rintro k x σ H1 hx ⟨cv,fv,rfl,hd,s1⟩
  obtain ⟨c,hc,rfl⟩:=Rb hx
  have hk:k<(qs:):=(P5.mp hc).1
  have tc:=hq c (Qaf hc)
  have lX:c.t≠d:=λz=>by have h9:H c.t=_:=tc;rw[z,O1]at h9;cases h9
  have XH:vI H1 c:=s1 _ _ tc lX
  have lc:(g9 ((qs.take k).map Q4.v):)<=2000:=by rw[AE,Xi,Qad];lia
  have e:(qs.take (k+1)).map Q4.v=(qs.take k).map Q4.v++[c.v]:=by rw[<-take_snoc hc,Qao];rfl
  have nd1:(fG ((qs.take k).map Q4.v++[c.v])).Nodup:=by
   rw[<-e]
   have:qs.map Q4.v=(qs.take (k+1)).map Q4.v++(qs.drop (k+1)).map Q4.v:=by rw[<-Qao,Qaw]
   rw[this]at nd
   unfold fG at nd ⊢
   rw[Qb4,Qbe]at nd
   exact nd.1
  refine ⟨_,rfl,c.t,_,2,_,rfl,rfl,dH.of XH,rfl,_,rfl,c.t,_,3,_,rfl,rfl,dH.of XH,rfl,_,_,rfl,?_⟩
  refine ⟨_,rfl,_,rfl,_,rfl,c.t,_,2,_,rfl,rfl,dH.of XH,rfl,d,_,rfl,tJ.k (k:=Sum.inl (c.v.2.2.1:Int)) hd (),?_⟩
  have tc2:∀o,vI (L2.upd H1 d o) c:=λo=>by show L2.upd H1 d o c.t=_;rw[aq lX];exact XH
  refine ⟨_,rfl,_,rfl,_,rfl,c.t,_,3,_,rfl,rfl,dH.of (tc2 _),rfl,d,_,rfl,tJ.k (k:=Sum.inl (c.v.2.2.2:Int)) aa (Qbl (fZ _ _ _) ()),?_⟩
  refine ⟨_,_,rfl,?_,λb o eb z=>by rw[aq z,aq z];exact s1 b o eb z⟩
  rw[aa,e, <-Nb nd1]
  rfl
 ·rintro σ H1 ⟨cv,fv,rfl,hd,s1⟩
  rw[Ef,Qbs]at hd
  exact ⟨_,rfl,q d H1 O1 hd λb o eb=>s1 b o eb (az eb O1)⟩
theorem dX:bD P w K mg base eM 1 f0 d0 ["letter"] (qN K):=by
 refine T.F0.fn.ok A0 (λvs H Q E h=>x4 h) (λ_ _ _ _ H vs Q E hr h=>?_)
 refine let Z1:TS:=_;let Z0:TS:=_;⟨_,(ag (cV (je (fm K rfl Qa6 Qe4 Qe3 mS (pv 0))) (ah Z0 (aj (aI (fm K rfl Qa6 PySem.F.slot_str_upper PySem.F.type_str_upper Ht (pv 0))))) bO)
   (ah Z1 (aj (aI (fm K rfl Qa6 Qd0 Qdy nK (pv 0)))))),?_⟩
 obtain ⟨c,rfl,hc,q⟩:=h
 refine ⟨_,rfl,rfl,c,rfl,rfl,hc,_,rfl,eN (λe=>?_) (λe=>?_)⟩
 ·refine ⟨_,rfl,rfl,c,rfl,rfl,hc,?_⟩
  have z:aC c=PyProof.Rows.up1 c:=if_pos e
  rw[<-z]
  exact q
 ·refine ⟨_,rfl,rfl,c,rfl,rfl,hc,?_⟩
  have z:aC c=PyProof.Rows.lo1 c:=if_neg e
  rw[<-z]
  exact q
theorem yY:bD P w K mg base eM 2 SG Tp ["word"] (n6 K):=by
 walk_at"p"
 refine T.F14.fn.ok jy (λvs H Q E h=>vF h) (λ_ _ _ _ H vs Q E hr h=>?_)
 refine let Z4:TS:=_;let Z3:TS:=_;let Z2:TS:=_;let Z1:TS:=_;let Z0:TS:=_;⟨_,(ag (aB (i:=1) jy.nd (dP bL))
   (ah Z0 (ag (cF PassesOwn.never rfl (j5 (pv 0)) (aL (i:=2) jy.nd rfl (Or.inl rfl)) (ah Z1 (aj (cV (PW.pt (sJ (L9 K rfl (pv 1)) (nC (aU mT (ba (bY K rfl) (pv 1) (vZ pH ao) (λ_ _=>rfl)) (ak bU T.F0 hr (ae (pv 2))) (aW _))))) (ah Z2 (aj (eT (fm K rfl Qbh Qec Qeb PY (pv 1))))) (ah Z3 (aj (eT (cw K rfl Qbh Qch Qcg eZ (pv 1) (ae (pv 2))))))))))
   (ah Z4 (aj (aI (cw K rfl Qa6 Qdj Qdi (j7 K rfl) (nI [] ⋯) (ae (pv 1))))))))),?_⟩
 obtain ⟨l,rfl,hl,hz,q⟩:=h
 have hs:=Zs1
 walk_at "rd"
 intro p1 n1
 refine ⟨_,rfl,l,rfl,?_⟩
 refine let jb:Nat->L2.St->Hp->Prop:=(λi σ H'=>∃lv,σ=[some (.str (S l)),some (.ref p1),lv]/\H' p1=some (.lst (dY (red (l.take i))))/\bA p1 H H');rN (xs:=dY l) jb ⟨none,rfl,aa,bA.of (ay.upd n1)⟩ ?_ ?_
 ·rintro i x σ H1 hx ⟨lv,rfl,hp,s1⟩
  obtain ⟨c,hc,rfl⟩:=gD hx
  have hi:i<(l:):=(P5.mp hc).1
  have h8:c<128:=(hl c (Qaf hc)).lt
  have QS:(red (l.take i):)<=1000:=Qbb (nZ _) (by rw[Qad];lia)
  have fin:∀st,st=cQ (red (l.take i)) c->∃lv,[some (V.str (S l)),some (V.ref p1),some (V.str (S [c]))]=[some (V.str (S l)),some (.ref p1),lv]/\(upd H1 p1 (.lst (dY st))) p1=some (.lst (dY (red (l.take (i+1)))))/\bA p1 H (upd H1 p1 (.lst (dY st))):=λst e=>
   ⟨_,rfl,by rw[aa,IG hc,e],λb o e z=>by rw[aq z];exact s1 b o e z⟩
  refine ⟨_,rfl,p1,_,rfl,bu.of hp,?_⟩
  rcases snoc_cases (red (l.take i)) with e | ⟨m,a,e⟩
  ·rw[e]at hp ⊢
   refine ir rfl ?_
   refine U4 ?_
   refine ⟨_,rfl,.inl ⟨rfl,_,bu.of hp⟩,_,rfl,p1,_,_,rfl,rfl,hp,by rw[bo];exact (by decide:(0:Nat)<sizeLine),?_⟩
   rw[ft]
   refine fin _ ?_
   rw[e]
   unfold cQ
   rw[if_neg (by simp)]
  ·rw[e]at hp QS ⊢
   have hml:(m:)<=1000:=by simp at QS;lia
   rw[<-ft]at hp ⊢
   refine x5 (by simp) ?_
   refine ⟨_,rfl,_,rfl,p1,_,_,_,rfl,rfl,bu.of hp,Ha _ _,_,rfl,c,rfl,h8,[a],[aC c],rfl,rfl,_,rfl,eN (λz=>?_) (λz=>?_)⟩
   ·have ea:a=aC c:=by simpa using of_decide_eq_true z
    refine ⟨_,rfl,.inl ⟨rfl,_,bu.of hp⟩,p1,_,V.str (S [a]),rfl,rfl,hp,by simp,?_⟩
    rw[Qcv]
    refine fin _ ?_
    rw[e]
    unfold cQ
    rw[if_pos (by simp[ea]),Qcv]
   ·have ea:a≠aC c:=λw=>z (decide_eq_true (by rw[w]))
    refine ⟨_,rfl,.inl ⟨rfl,_,bu.of hp⟩,_,rfl,p1,_,_,rfl,rfl,hp,by rw[kb,bo];show (m:)+1<sizeLine;lia,?_⟩
    rw[ft,ft]
    refine fin _ ?_
    rw[e]
    unfold cQ
    rw[if_neg (by simpa using ea)]
 ·rintro σ H1 ⟨lv,rfl,hp,s1⟩
  rw[ka]at hp
  refine ⟨rfl,_,rfl,p1,(red l).map λc=>[c],rfl,rfl,bu.of (by rw[<-gH];exact hp),?_,?_⟩
  ·rw[Ft]
   have:=nZ l
   lia
  ·rw[wL]
   exact q _ (λb o e=>s1 b o e (az e n1))
theorem kU:bD P w K mg base eM 3 SH Tq ["word"] (qO K):=by
 have A2:=yY (P:=P) (w:=w) (base:=base) T
 walk_at"p"
 refine T.XE.fn.ok ff (λvs H Q E h=>x_ h) (λ_ _ _ _ H vs Q E hr h=>?_)
 refine let Z5:TS:=_;let Z4:TS:=_;let Z3:TS:=_;let Z2:TS:=_;let Z1:TS:=_;let Z0:TS:=_;⟨_,(ag (aB (i:=1) ff.nd (ak A2 T.F14 hr (ae (pv 0))))
   (ah Z0 (ag (aB (i:=2) ff.nd ao)
   (ah Z1 (ag (aB (i:=3) ff.nd (aQ bB rfl T.z_len Qbr (ae (pv 1))))
   (ah Z2 (ag (fL PassesOwn.never (PW.pt (sJ (aU G7 (aF cq (pv 3) (pv 2)) ao (aW _)) (nC (aU mT (ba nJ (pv 1) (pv 2) (λ_ _=>rfl)) (ak bU T.F0 hr (ae (ba nJ (pv 1) (aF cq (pv 3) ao) (λ_ _=>rfl)))) (aW _))))) (ah Z3 (ag (jW (i:=2) ff.nd rfl (Or.inl rfl) ao xu)
   (ah Z4 (aj (jW (i:=3) ff.nd rfl (Or.inl rfl) ao Pq))))))
   (ah Z5 (aj (aI (cg q_ (pv 1) (b9 (pv 2)) (b9 (pv 3))))))))))))),?_⟩
 obtain ⟨l,rfl,hl,hz,q⟩:=h
 have hs:=Zs1
 refine ⟨_,rfl,l,rfl,hl,hz,λH1 s1=>?_⟩
 have Lp:=nZ l
 have dZ:=x9 hl
 generalize red l=r at Lp dZ q ⊢
 have hrz:(r:)<=sizeLine:=by lia
 walk_at "rd"
 refine ⟨λm σ H'=>∃(a e:Nat),σ=[some (.str (S l)),some (.str (S r)),some (.int a),some (.int e)]/\m=e - a/\a<=e/\e<=(r:)/\core (GK r a e)=core r/\H'=H1,⟨_,0,(r:),rfl,rfl,Qat _,Qaa _,by rw[MD],rfl⟩,?_⟩
 rintro m σ H2 ⟨a,e,rfl,rfl,h1,h2,hc,rfl⟩
 have fin:core (GK r a e)=GK r a e->Q (.str (S (cut r (some (a:Int)) (some (e:Int))))) H2:=λz=>by
  have e1:cut r (some (a:Int)) (some (e:Int))=GK r a e:=by
   unfold cut GK
   rw[HT.lh,HT.lh]
   have e1:min a (r:)=a:=by lia
   have e2:min e (r:)=e:=by lia
   rw[e1,e2]
  rw[e1, <-z,hc]
  exact q H2 s1
 walk_at "rd"
 walk_at"g"
 ·have z1:(2:Int)<=(e:Int) - (a:Int):=of_decide_eq_true z
  have ha:a<(r:):=by lia
  have he:e - 1<(r:):=by lia
  have g0:q8 r (a:Int)=some r[a]:=cR (P4 ha)
  have g1:q8 r ((e:Int) - 1)=some r[e - 1]:=by
   have:(e:Int) - 1=((e - 1:Nat):Int):=by lia
   rw[this];exact cR (P4 he)
  have h8:r[e - 1]<128:=(dZ _ (Qbk he)).lt
  have hw:=QP (l:=r) (s:=a) (e:=e) () h2
  refine ⟨_,rfl,_,rfl,r,_,_,rfl,rfl,hrz,g0,?_⟩
  walk_at "rd"
  refine ⟨r,_,_,rfl,rfl,hrz,g1,?_⟩
  walk_at "rd"
  refine eN (λy=>?_) (λy=>?_)
  ·have ey:r[a]=aC r[e - 1]:=by simpa using of_decide_eq_true y
   walk_at "rd"
   refine ⟨(e - 1) - (a+1),(),a+1,e - 1,?_,rfl,(),(),?_,rfl⟩
   ·have e1:(a:Int)+1=((a+1:Nat):Int):=by lia
    have e2:(e:Int) - 1=((e - 1:Nat):Int):=by lia
    rw[<-e1, <-e2]
    rfl
   ·rw[<-hc,hw,rS ey]
  ·have ey:r[a]≠aC r[e - 1]:=λw=>y (decide_eq_true (by rw[w]))
   walk_at "rd"
   exact fin (by rw[hw,fN ey])
 ·have z1: ¬(2:Int)<=(e:Int) - (a:Int):=λw=>z (decide_eq_true w)
  walk_at "rd"
  exact fin (fO (by rw[MC h2];lia))
theorem sr:bD P w K mg base eM 4 SI Tr ["word"] (DN K):=by
 have gW:=kU (P:=P) (w:=w) (base:=base) T
 refine T.KP.fn.ok lU (λvs H Q E h=>IK h) (λ_ _ _ _ H vs Q E hr h=>?_)
 refine let Z5:TS:=_;let Z4:TS:=_;let Z3:TS:=_;let Z2:TS:=_;let Z1:TS:=_;let Z0:TS:=_;⟨_,(ag (aB (i:=1) lU.nd (ak gW T.XE hr (ae (pv 0))))
   (ah Z0 (ag (aB (i:=2) lU.nd (pv 1))
   (ah Z1 (ag (cF PassesOwn.never rfl (kZ rfl T.z_range (ai ao (ae (aQ bB rfl T.z_len Qbr (ae (pv 1)))))) (aL (i:=3) lU.nd rfl (Or.inl rfl)) (ah Z2 (ag (aB (i:=4) lU.nd (aF Dr (cg q_ (pv 1) (b9 (pv 3)) d_) (cg q_ (pv 1) d_ (b9 (pv 3)))))
   (ah Z3 (aj (cV (aU xP (pv 4) (pv 2) (aW _)) (ah Z4 (aj (aB (i:=2) lU.nd (pv 4)))) bO))))))
   (ah Z5 (aj (aI (pv 2))))))))),?_⟩
 obtain ⟨l,rfl,hl,hz,q⟩:=h
 have hs:=Zs1
 refine ⟨_,rfl,l,rfl,hl,hz,λH1 s1=>?_⟩
 have VT:(core (red l):)<=1000:=Qbb (Ag _) (Qbb (nZ l) hz)
 unfold aH bR at q
 generalize core (red l)=c at VT q ⊢
 have hcz:(c:)<=sizeLine:=by lia
 walk_at "rd"
 refine ⟨_,_,rfl,⟨∅,∅,(),()⟩,?_⟩
 refine eY (λi σ H'=>H'=H1/\∃sv bv,σ=[some (.str (S l)),some (.str (S c)),some (.str (S (cB c (jT c i)))),sv,bv]) ⟨rfl,none,none,rfl⟩ ?_ ?_
 ·rintro i σ H2 hi ⟨rfl,sv,bv,rfl⟩
  walk_at"O"
  rw[e1]
  have hlen:(cut c (some ((i+1:Nat):Int)) none:)+(cut c none (some ((i+1:Nat):Int)):)<=sizeLine:=by rw[fP,tY,Qav,Qad];lia
  have ZI:cut c (some ((i+1:Nat):Int)) none++cut c none (some ((i+1:Nat):Int))=b7 c (i+1):=by rw[fP,tY];rfl
  walk_at "rd"
  rw[ZI]
  walk_at"g"
  ·have z':b7 c (i+1)<cB c (jT c i):=of_decide_eq_true z
   have hle:cB c (jT c (i+1))=b7 c (i+1):=by rw[wN,jj];unfold bI;rw[if_pos z']
   refine ⟨_,rfl,?_⟩
   rw[hle]
   exact ⟨rfl,_,_,rfl⟩
  ·have z': ¬b7 c (i+1)<cB c (jT c i):=λy=>z (decide_eq_true y)
   have hle:cB c (jT c (i+1))=cB c (jT c i):=by rw[wN,jj];unfold bI;rw[if_neg z']
   rw[hle]
   exact ⟨rfl,_,_,rfl⟩
 ·rintro σ H2 ⟨rfl,sv,bv,rfl⟩
  have e:(((c:):Int) - 1).toNat=(c:) - 1:=by lia
  rw[e]
  exact ⟨_,rfl,q _ s1⟩
theorem qF:bD P w K mg base eM 2 f1 d1 ["word"] (wJ K):=by
 walk_at"p"
 refine T.F1.fn.ok Gr (λvs H Q E h=>B4 h) (λ_ _ _ _ H vs Q E hr h=>?_)
 refine ⟨_,(aj (aI (cw K rfl Qa6 Qdj Qdi (j7 K rfl) (nI [] ⋯) (ae (cL ["letter"] [none] (Qd rfl T.z_reversed (ae (pv 0))) trivial (λ_ _ _ _=>(aL (i:=0) (by decide+kernel:List.Nodup (["letter"]:List Str)) rfl (Or.inl rfl))) (λ_ _ _ _=>iq) (λ_ _ _ _=>(ak bU T.F0 hr (ae (pv 0))))))))),?_⟩
 obtain ⟨l,rfl,hc,hz,q⟩:=h
 walk_at"i"
 refine ⟨rfl,_,rfl,l,rfl,(),?_⟩
 rw[Mz]
 refine let jb:Nat->List V->Hp->Prop:=(λi acc H'=>ay H H'/\acc=dY ((l.reverse.take i).map aC));j6 (xs:=dY l.reverse) jb (by rw[bo,Qas];lia) ⟨ay.refl H,rfl⟩ ?_ ?_
 ·rintro i x acc H1 Nx hi hx hl ⟨s1,rfl⟩ nx
  obtain ⟨c,vn,rfl⟩:=gD hx
  refine ⟨trivial,fV ⟨_,rfl,c,rfl,hc c (Qbn.mp (Qaf vn)),nx _ _ (by simpa using hl) ⟨s1,?_⟩⟩⟩
  rw[ft, <-take_snoc vn,Qao]
  rfl
 ·rintro acc H1 D hl ⟨s1,rfl⟩ hD
  refine ⟨D,(bK l).map λc=>[c],rfl,rfl,bu.of ?_,?_,?_⟩
  ·rw[aa, <-gH,bo,Qa7 (Qaa _),Qef]
   rfl
  ·rw[Ft]
   unfold bK
   rw[Qas,Xi]
   lia
  ·rw[wL]
   exact q _ (s1.trans (ay.upd hD))
theorem EE:bD P w K mg base eM 5 SJ Ts ["word"] (DO K):=by
 have jz:=sr (P:=P) (w:=w) (base:=base) T
 have kW:=qF (P:=P) (w:=w) (base:=base) T
 refine T.ZC.fn.ok NG (λvs H Q E h=>IL h) (λ_ _ _ _ H vs Q E hr h=>?_)
 refine ⟨_,(aj (aI (aQ (BL rfl) rfl T.z_min boot_min (ai (ak jz T.KP hr (ae (pv 0))) (ae (ak jz T.KP hr (ae (ak kW T.F1 hr (ae (pv 0)))))))))),?_⟩
 obtain ⟨l,rfl,hl,hz,q⟩:=h
 refine ⟨_,rfl,l,rfl,hl,hz,λH1 s1=>?_⟩
 refine ⟨_,rfl,l,rfl,mq hl,hz,λH2 s2=>?_⟩
 refine ⟨bK l,rfl,mX hl,by rw[bJ];exact hz,λH3 s3=>?_⟩
 exact ⟨_,_,rfl,q _ ((s1.trans s2).trans s3)⟩
theorem kX:bD P w K mg base eM 1 KN Tv ["seen","start","end"] (gQ K a_ aP):=by
 refine T.GV.fn.ok kT (λvs H Q E h=>rC h) (λ_ _ _ _ H vs Q E hr h=>?_)
 refine let Z0:TS:=_;⟨_,(ag (aB (i:=3) kT.nd (aF br (bW K rfl (pv 0) rfl) ao))
   (ah Z0 (aj (aI (cg q_ (bW K rfl (bW K rfl (pv 0) rfl) rfl) (b9 (aF br (pv 3) (pv 1))) (b9 (aF br (pv 3) (pv 2)))))))),?_⟩
 obtain ⟨y,lg,s,x,z,rfl,hz,hs,ZH,q⟩:=h
 obtain ⟨d1,e1⟩:=hs.ob
 obtain ⟨d2,e2⟩:=hs.wy.ob
 have:=hs.wy.uz
 have:=hs.wy.lz
 have h1:1<=(s.u:):=Qbl (Qat _) hs.pz
 have rl:=oJ (lg:=lg) h1
 have VS:(100000:Nat)<sizeLine:=by decide
 refine ⟨_,rfl,s.a,aP,d1,_,_,rfl,e1,T.eV,T.n_Seen_place,oI,?_⟩
 walk_at "rd"
 refine ⟨s.a,aP,d1,_,_,rfl,e1,T.eV,T.n_Seen_way,ql,s.wy,a_,d2,_,_,rfl,e2,T.ik,T.n_Way_onward,V6,?_⟩
 walk_at "rd"
 refine ⟨by rw[xf,eF];lia,?_⟩
 rw[show (s.p:Int)+1=((s.p+1:Nat):Int) by lia,Ej ZH]
 exact q
theorem yZ:bD P w K mg base eM 1 SA Ti ["rising","point"] (oH K):=by
 refine T.F10.fn.ok eI (λvs H Q E h=>vJ h) (λ_ _ _ _ H vs Q E hr h=>?_)
 refine let Z6:TS:=_;let Z5:TS:=_;let Z4:TS:=_;let Z3:TS:=_;let Z2:TS:=_;let Z1:TS:=_;let Z0:TS:=_;⟨_,(ag (aB (i:=2) eI.nd ao)
   (ah Z0 (ag (aB (i:=3) eI.nd (aF cq (cM K T.z_len (pv 0)) ao))
   (ah Z1 (ag (fL PassesOwn.never (aU zx (pv 2) (pv 3) (aW _)) (ah Z2 (ag (aB (i:=4) eI.nd (aF fq (aF br (pv 2) (pv 3)) ao))
   (ah Z3 (aj (cV (aU zx (ba (bY K rfl) (pv 0) (pv 4) (λ_ _=>rfl)) (pv 1) (aW _)) (ah Z4 (aj (aB (i:=2) eI.nd (aF br (pv 4) ao)))) (ah Z5 (aj (aB (i:=3) eI.nd (pv 4))))))))))
   (ah Z6 (aj (aI (pv 2))))))))),?_⟩
 obtain ⟨a,l,p,rfl,ha,up,hp,hn,q⟩:=h
 have hs:=Zs1
 have hi:=Qae hp
 have ZJ:l[l.idxOf p]=p:=Qbf hi
 have key:=Qcc.mp up
 refine ⟨_,rfl,a,_,rfl,.inl (bu.of ha),?_⟩
 rw[oG]
 walk_at "wk"
 refine ⟨λm σ H'=>∃(lo hi:Nat) (mv:Option V),σ=[some (.ref a),some (.int p),some (.int lo),some (.int hi),mv]/\m=hi - lo/\lo<=l.idxOf p/\l.idxOf p<=hi/\hi<(l:)/\H'=H,⟨_,0,(l:) - 1,none,?_,rfl,Qat _,(),(),rfl⟩,?_⟩
 ·have:(((l:):Int) - 1)=(((l:) - 1:Nat):Int):=by lia
  rw[<-this];rfl
 rintro m σ H2 ⟨lo,mi,mv,rfl,rfl,h1,h2,h3,rfl⟩
 walk_at "wk"
 walk_at"g"
 ·have z1:(lo:Int)<mi:=of_decide_eq_true z
  have em:(((lo:Int)+mi) / 2)=(((lo+mi) / 2:Nat):Int):=by lia
  have hm:(lo+mi) / 2<(l:):=by lia
  walk_at "rd"
  refine ⟨a,_,((lo:Int)+mi) / 2,_,rfl,rfl,bu.of ha,by rw[em];exact cR (JR (P4 hm)),?_⟩
  walk_at "rd"
  refine eN (λy=>?_) (λy=>?_)
  ·have y1:((l[(lo+mi) / 2]:Nat):Int)<p:=of_decide_eq_true y
   have lt:(lo+mi) / 2<l.idxOf p:=by
    refine Classical.byContradiction λw=>?_
    by_cases e:(lo+mi) / 2=l.idxOf p
    ·have:l[(lo+mi) / 2]=p:=by simp only[e];exact ZJ
     lia
    ·have:=key (l.idxOf p) ((lo+mi) / 2) hi hm ()
     rw[ZJ]at this
     lia
   walk_at "rd"
   have e1:((lo:Int)+mi) / 2+1=(((lo+mi) / 2+1:Nat):Int):=by lia
   refine ⟨mi - ((lo+mi) / 2+1),(),(lo+mi) / 2+1,mi,_,by rw[<-e1];rfl,rfl,(),h2,h3,rfl⟩
  ·have y1: ¬((l[(lo+mi) / 2]:Nat):Int)<p:=λw=>y (decide_eq_true w)
   have le:l.idxOf p<=(lo+mi) / 2:=by
    refine Classical.byContradiction λw=>?_
    have:=key ((lo+mi) / 2) (l.idxOf p) hm hi ()
    rw[ZJ]at this
    lia
   walk_at "rd"
   refine ⟨(lo+mi) / 2 - lo,(),lo,(lo+mi) / 2,_,by rw[<-em];rfl,rfl,h1,le,(),rfl⟩
 ·have z1: ¬(lo:Int)<mi:=λw=>z (decide_eq_true w)
  have e:lo=l.idxOf p:=by lia
  walk_at "rd"
  rw[e]
  exact q
theorem vL:bD P w K mg base eM 1 SE Tn ["words","band"] (mD K):=by
 refine T.F12.fn.ok dF (λvs H Q E h=>uv h) (λ_ _ _ _ H vs Q E hr h=>?_)
 refine let Z4:TS:=_;let Z3:TS:=_;let Z2:TS:=_;let Z1:TS:=_;let Z0:TS:=_;⟨_,(ag (aB (i:=2) dF.nd (dP bL))
   (ah Z0 (ag (cF PassesOwn.never rfl (zU K rfl rfl T.z_enumerate (ae (pv 0))) (ji (n:=2) K rfl rfl (cJ (aL (i:=3) dF.nd rfl (Or.inl rfl)) (cJ (aL (i:=4) dF.nd rfl (Or.inl rfl)) jg))) (ah Z1 (aj (cF PassesOwn.never rfl (HL rfl T.z_enumerate (ae (pv 4))) (ji (n:=2) K rfl rfl (cJ (aL (i:=5) dF.nd rfl (Or.inl rfl)) (cJ (aL (i:=6) dF.nd rfl (Or.inl rfl)) jg))) (ah Z2 (aj (cV (aU mT (fm K rfl Qa6 Qd0 Qdy nK (pv 6)) (pv 1) (aW _)) (ah Z3 (aj (eT (cw K rfl Qbh Qch Qcg eZ (pv 2) (ae (cW (ai (pv 3) (ae (pv 5))))))))) bO)))))))
   (ah Z4 (aj (aI (pv 2))))))),?_⟩
 obtain ⟨wt,ws,band,rfl,xn,hf,hw,hb,q⟩:=h
 have hs:=Zs1
 walk_at "wk"
 intro p1 n1
 refine ⟨_,rfl,wt,rfl,⟨_,dH.of ((ay.upd n1) _ _ xn)⟩,?_⟩
 refine let jb:Nat->L2.St->Hp->Prop:=(λj σ H'=>∃(ps:List Pr) (cv wv pv lv:Option V),σ=[some (.ref wt),some (.str (S [band])),some (.ref p1),cv,wv,pv,lv]/\H' p1=some (.lst (w4 ps))/\(∀p∈ps,rB H' p)/\ps.map Pr.pair=dU band ws j/\(ps:)<=12*j/\ay H H');wD (K:=K) (a:=wt) (xs:=ck ws) jb
  ⟨[],none,none,none,none,rfl,aa,λ_ h=>absurd h Qan,rfl,Qat _,ay.upd n1⟩ (λj σ H' _ ⟨_,_,_,_,_,_,_,_,_,_,h⟩=>dH.of (h _ _ xn)) ?_ ?_
 ·rintro j x σ H1 T hx ⟨ps,cv,wv,pv,lv,rfl,hp,A9,qX,nk,s1⟩ nT
  have hj:j<(ws:):=by
   have:=(P5.mp hx).1
   rwa [aX]at this
  rw[mY hj]at hx
  cases hx
  have Lr:ws[j]? =some ws[j]:=P4 hj
  obtain ⟨zh,KY⟩:=hw _ (Qbk hj)
  generalize ws[j]=w at Lr zh KY ⊢
  refine ⟨T,_,rfl,dH.of aa,rfl,_,_,rfl,_,_,rfl,rfl,?_⟩
  have sT:=ay.upd (o:= .tup [.int j,.str (S w)]) nT
  refine ⟨_,rfl,w,rfl,?_⟩
  refine let vM:Nat->L2.St->Hp->Prop:=(λm σ H'=>∃(us:List Pr) (pv lv:Option V),σ=[some (.ref wt),some (.str (S [band])),some (.ref p1),some (.int j),some (.str (S w)),pv,lv]/\H' p1=some (.lst (w4 us))/\(∀p∈us,rB H' p)/\us.map Pr.pair=dU band ws j++jC band j w m/\(us:)<=12*j+m/\ay H H');HM (l:=w) vM
   ⟨ps,pv,lv,rfl,sT _ _ hp,λp Cf=>(A9 p Cf).same sT,by rw[qX];show _=_++[];rw[Qa9],(),s1.trans sT⟩ ?_ ?_
  ·rintro m l σ H2 T2 hm ⟨us,pv2,ZK,rfl,mU,GH,Gw,NI,s2⟩ nT2
   have hmw:m<(w:):=(P5.mp hm).1
   have ZL:=zh l (Qaf hm)
   have es:=Cw (band:=band) (c:=j) hm
   have XI:=ay.upd (o:= .tup [.int m,.str (S [l])]) nT2
   refine ⟨T2,_,rfl,dH.of aa,rfl,_,_,rfl,_,_,rfl,rfl,?_⟩
   refine ⟨_,rfl,rfl,l,rfl,rfl,ZL.lt,_,rfl,[PyProof.Rows.lo1 l],[band],rfl,rfl,_,rfl,?_⟩
   have ev:decide ([PyProof.Rows.lo1 l]=[band])=Cv band l:=by rw[<-JC hb ZL];simp
   rw[ev]
   have RI:=XI _ _ mU
   walk_at"g"
   ·rw[if_pos z]at es
    refine ⟨_,rfl,.inl ⟨rfl,_,bu.of RI⟩,_,rfl,_,rfl,by show 2<=sizeLine;decide,λt nt=>?_⟩
    have sE:=(ay.upd (o:= .tup [.int j,.int m]) nt) _ _ RI
    have s3:=XI.trans (ay.upd (o:= .tup [.int j,.int m]) nt)
    refine ⟨p1,_,_,rfl,rfl,sE,by rw[yF];lia,?_⟩
    refine ⟨us++[⟨t,j,m⟩],_,_,rfl,by rw[aa];exact congrArg (λx=>some (HO.lst x)) (Jy us ⟨t,j,m⟩),λp Cf=>?_,by rw[Qao,Gw,es,Qam];rfl,by rw[kb];show (us:)+1<=_;lia,λa o ea=>by rw[aq (az ea n1)];exact s3 _ _ (s2 a o ea)⟩
    rcases Qai.mp Cf with g | g
    ·exact ((GH p g).same s3).ts (gw.BU sE)
    ·have e2:=U0.mp g
     subst e2
     exact rB.ts (H:=upd (upd H2 T2 (.tup [.int m,.str (S [l])])) t (.tup [.int j,.int m])) ⟨aa,by show j<1000;lia,by show m<1000;lia⟩ (gw.BU sE)
   ·rw[if_neg z,Qa9]at es
    exact ⟨us,_,_,rfl,RI,λp Cf=>(GH p Cf).same XI,by rw[Gw,es],(),s2.trans XI⟩
  ·rintro σ H2 ⟨us,pv2,ZK,rfl,mU,GH,Gw,NI,s2⟩
   exact ⟨us,_,_,_,_,rfl,mU,GH,by rw[Gw,Ay Lr],(),s2⟩
 ·rintro σ H1 ⟨ps,cv,wv,pv,lv,rfl,hp,A9,qX,nk,s1⟩
  rw[aX]at qX
  exact ⟨_,rfl,q p1 ps H1 n1 hp A9 qX s1⟩
theorem u7:bD P w K mg base eM 3 SU TF ["words","ways","strand"] (kK K a_ aP):=by
 have A3:=Gv (P:=P) (w:=w) (base:=base) T
 refine T.F27.fn.ok gU (λvs H Q E h=>rE h) (λ_ _ _ _ H vs Q E hr h=>?_)
 refine let Z3:TS:=_;let Z2:TS:=_;let Z1:TS:=_;let Z0:TS:=_;⟨_,(ag (aB (i:=3) gU.nd (ba (bP K rfl) (pv 0) (ba (bP K rfl) (pv 2) ao (λ_ _=>rfl)) (λ_ _=>rfl)))
   (ah Z0 (ag (aB (i:=4) gU.nd (ba (bP K rfl) (pv 2) ao (λ_ _=>rfl)))
   (ah Z1 (ag (cV (je (fm K rfl Qa6 Qe4 Qe3 mS (ba nJ (pv 3) (pv 4) (λ_ _=>rfl)))) (ah Z2 (aj (aI (rM T.KR A3 (hr.mono ∅) rfl T.KQ T.KS .nil hJ (ai (pv 2) (ai (ba (bP K rfl) (ba (bY K rfl) (pv 1) (ba (bP K rfl) (pv 2) ao (λ_ _=>rfl)) (λ_ _=>rfl)) ao (λ_ _=>rfl)) (ae (pv 4)))))))) bO)
   (ah Z3 (aj (aI (rM T.KR A3 (hr.mono ∅) rfl T.KQ T.KS .nil hJ (ai (pv 2) (ai (ba (bP K rfl) (ba (bY K rfl) (pv 1) (ba (bP K rfl) (pv 2) ao (λ_ _=>rfl)) (λ_ _=>rfl)) ao (λ_ _=>rfl)) (ae (aF cq (aF cq (aQ bB rfl T.z_len Qbr (ae (pv 3))) ao) (pv 4)))))))))))))),?_⟩
 obtain ⟨y,lg,wt,vt,st,w',ws,ph,p,c,i,rfl,hy,xn,XJ,qJ,hw,hp,ok,hi,q⟩:=h
 have hs:=Zs1
 have KY:=ok.on.uz
 have hlz:=ok.on.lz
 have Va:=ok.on.sw
 have h8:(rd w' i)<128:=(hy.lt _ (Va.rd _)).lt
 have hc:(ck ws)[c]? =some (V.str (S w')):=by
  have hl:=(P5.mp hw).1
  rw[mY hl,(P5.mp hw).2]
 refine ⟨_,rfl,_,rfl,st,_,0,_,rfl,rfl,dH.of qJ,rfl,wt,_,_,_,rfl,rfl,dH.of xn,cR hc,?_⟩
 refine ⟨_,rfl,st,_,1,_,rfl,rfl,dH.of qJ,rfl,?_⟩
 refine ⟨_,rfl,_,rfl,w',_,_,rfl,rfl,(),by rw[Ja () ()],?_⟩
 have made:∀(x dx:Addr) (H':Hp) (t w2:Addr) (pl:Nat),H x=none->H dx=none->dx≠x->bA x (L2.upd (L2.upd H dx (.own x)) x (.ins aP dx [])) H'->ay H H':=λx dx H' t w2 pl nx Rq ne sm a o e=>by
  refine sm a o ?_ (az e nx)
  rw[aq (az e nx),aq (az e Rq)]
  exact e
 refine ⟨rfl,_,rfl,rfl,h8,?_⟩
 walk_at "rd"
 walk_at"g"
 ·refine ⟨_,rfl,_,rfl,_,rfl,st,_,0,_,rfl,rfl,dH.of qJ,rfl,vt,_,_,_,rfl,rfl,bu.of XJ,cR (J2 hp),p.t,_,0,_,rfl,rfl,dH.of ok.tp,rfl,_,rfl,λx dx nx Rq ne=>⟨x,dx,st,p.a,i,rfl,aa,λH' hx sm=>⟨rfl,?_⟩⟩⟩
  have RJ:=made x dx H' st p.a i nx Rq ne sm
  exact q ⟨x,st,p.a,c,i,w',i,p.r⟩ H' ⟨rfl,rfl,by rw[if_pos z],by rw[if_pos z]⟩ rfl ⟨⟨dx,hx⟩,RJ _ _ qJ,ok.on.same RJ,hi⟩ nx RJ
 ·have ei:((w':):Int) - 1 - i=(((w':) - 1 - i:Nat):Int):=by lia
  refine ⟨_,rfl,_,rfl,_,rfl,st,_,0,_,rfl,rfl,dH.of qJ,rfl,vt,_,_,_,rfl,rfl,bu.of XJ,cR (J2 hp),p.t,_,1,_,rfl,rfl,dH.of ok.tp,rfl,_,rfl,w',rfl,(),_,_,rfl,rfl,_,rfl,_,_,rfl,rfl,λx dx nx Rq ne=>⟨x,dx,st,p.b,(w':) - 1 - i,by rw[<-ei];rfl,aa,λH' hx sm=>⟨rfl,?_⟩⟩⟩
  have RJ:=made x dx H' st p.b 0 nx Rq ne sm
  exact q ⟨x,st,p.b,c,i,bK w',(w':) - 1 - i,p.q⟩ H' ⟨rfl,rfl,by rw[if_neg z],by rw[if_neg z]⟩ rfl ⟨⟨dx,hx⟩,RJ _ _ qJ,ok.bk.same RJ,by show (w':) - 1 - i<(bK w':);rw[bJ];lia⟩ nx RJ
theorem C5:bD P w K mg base eM 2 SN Tx ["steps","one","other","enough"] (ur K a_ aP KN KO):=by
 have cO:=kX (P:=P) (w:=w) (base:=base) T
 have dz:=mM (P:=P) (w:=w) (base:=base) T
 refine T.ZD.fn.ok eW (λvs H Q E h=>AG h) (λ_ _ _ _ H vs Q E hr h=>?_)
 refine let Z8:TS:=_;let Z7:TS:=_;let Z6:TS:=_;let Z5:TS:=_;let Z4:TS:=_;let Z3:TS:=_;let Z2:TS:=_;let Z1:TS:=_;let Z0:TS:=_;⟨_,(ag (aB (i:=4) eW.nd ao)
   (ah Z0 (ag (aB (i:=5) eW.nd ao)
   (ah Z1 (DE (fL PassesOwn.never (PW.pt (sJ (aU zx (pv 4) (pv 3) (aW _)) (nC (aU mT (nV (pv 0) cO (hr.mono ∅) T.GV.fn.kp T.GV.bd dz (hr.mono ∅) T.GW.fn.kp T.GW.bd hJ (ai (pv 1) (ai (pv 4) (ae (aF br (pv 4) (pv 5)))))) (nV (pv 0) cO (hr.mono ∅) T.GV.fn.kp T.GV.bd dz (hr.mono ∅) T.GW.fn.kp T.GW.bd hJ (ai (pv 2) (ai (pv 4) (ae (aF br (pv 4) (pv 5)))))) (aW _))))) (ah Z2 (ag (jW (i:=4) eW.nd rfl (Or.inl rfl) (pv 5) xu)
   (ah Z3 (aj (jW (i:=5) eW.nd rfl (Or.inl rfl) ao Qy))))))
   (ah Z4 (DE (fL PassesOwn.never (aU v5 (pv 5) ao (aW _)) (ah Z5 (ag (jW (i:=5) eW.nd rfl (Or.inl rfl) ao Mq)
   (ah Z6 (aj (cV (aU mT (nV (pv 0) cO (hr.mono ∅) T.GV.fn.kp T.GV.bd dz (hr.mono ∅) T.GW.fn.kp T.GW.bd hJ (ai (pv 1) (ai (pv 4) (ae (aF br (pv 4) (pv 5)))))) (nV (pv 0) cO (hr.mono ∅) T.GV.fn.kp T.GV.bd dz (hr.mono ∅) T.GW.fn.kp T.GW.bd hJ (ai (pv 2) (ai (pv 4) (ae (aF br (pv 4) (pv 5)))))) (aW _)) (ah Z7 (aj (jW (i:=4) eW.nd rfl (Or.inl rfl) (pv 5) xu))) bO))))))
   (ah Z8 (aj (aI (pv 4))))))))))),?_⟩
 obtain ⟨y,lg,s1,t1,b,en,rfl,hz,hs,ht,hen,q⟩:=h
 have call:∀(u:Sn) (x d:Nat) (t:TA) (σ:L2.St) (Q':VK),σ[0]? =some (some (V.ref (if b=true then KN else KO)))->kG H a_ aP y lg u->(∀R:List V->Hp->Prop,R [V.ref u.a,V.int x,V.int ((x:Int)+d)] H->t σ H R)->Q' (V.str (S (seg (Rn b y lg u) x (x+d)))) H->Ig KN KO (gQ K a_ aP) (iA K a_ aP) E0 (Pl 0) t σ H Q':=by
  intro u x d t σ Q' h0 hu ht' hq
  refine ⟨_,h0,?_⟩
  cases b
  ·exact .inr ⟨rfl,ht' _ ⟨y,lg,u,x,x+d,by rw[Qb5],hz,hu,(),hq⟩⟩
  ·exact .inl ⟨rfl,ht' _ ⟨y,lg,u,x,x+d,by rw[Qb5],hz,hu,(),hq⟩⟩
 generalize (if b=true then KN else KO)=fx at call ⊢
 generalize el:Rn b y lg s1=l at q
 generalize em:Rn b y lg t1=m at q
 walk_at "rd"
 refine ⟨λσ H'=>∃(mn sz e:Nat),σ=[some (.ref fx),some (.ref s1.a),some (.ref t1.a),some (.int en),some (.int mn),some (.int sz)]/\H'=H/\sz=2 ^ e/\sz<=1000000/\mn<=1000000/\kH l m mn/\(en<=mn\/∃k,mn<=k/\k<mn+sz/\l[k]?≠ m[k]?),?_,?_⟩
 ·refine ⟨λw σ H'=>∃(mn sz e:Nat),σ=[some (.ref fx),some (.ref s1.a),some (.ref t1.a),some (.int en),some (.int mn),some (.int sz)]/\H'=H/\w=en - mn/\sz=2 ^ e/\mn+1=sz/\mn<=2*en/\kH l m mn,⟨_,0,1,0,rfl,rfl,rfl,rfl,rfl,Qat _,λk hk=>absurd hk (Qfk _)⟩,?_⟩
  rintro w' σ H2 ⟨mn,sz,e,rfl,rfl,rfl,he,hms,Xy,ha⟩
  walk_at "rd"
  walk_at"g"
  ·have z1:(mn:Int)<en:=of_decide_eq_true z
   refine call s1 mn sz _ _ _ rfl hs (λR hR=>⟨_,rfl,_,rfl,_,rfl,_,rfl,_,_,rfl,rfl,hR⟩) ?_
   refine call t1 mn sz _ _ _ rfl ht (λR hR=>⟨_,rfl,_,rfl,_,rfl,_,rfl,_,_,rfl,rfl,hR⟩) ?_
   rw[el,em]
   walk_at "rd"
   refine eN (λy1=>?_) (λy1=>?_)
   ·have y2:seg l mn (mn+sz)=seg m mn (mn+sz):=by simpa using of_decide_eq_true y1
    refine ⟨_,rfl,_,rfl,_,_,rfl,rfl,_,rfl,_,_,rfl,rfl,.inl ⟨(),()⟩,?_⟩
    refine ⟨en - (mn+sz),(),mn+sz,sz*2,e+1,by rw[Qb5,Int.natCast_mul];rfl,rfl,rfl,by rw[he,Nat.pow_succ],(),(),ha.more y2⟩
   ·have y2:seg l mn (mn+sz)≠seg m mn (mn+sz):=λw=>y1 (decide_eq_true (by rw[w]))
    exact ⟨mn,sz,e,rfl,rfl,he,(),(),ha,.inr (JX y2)⟩
  ·have z1: ¬(mn:Int)<en:=λw=>z (decide_eq_true w)
   exact ⟨mn,sz,e,rfl,rfl,he,(),(),ha,.inl ()⟩
 ·rintro σ H2 ⟨mn,sz,e,rfl,rfl,he,hsz,Xy,ha,hb⟩
  refine ⟨λσ H'=>∃mn:Nat,σ=[some (.ref fx),some (.ref s1.a),some (.ref t1.a),some (.int en),some (.int mn),some (.int 1)]/\H'=H2/\kH l m mn/\(en<=mn\/l[mn]?≠ m[mn]?),?_,?_⟩
  ·refine ⟨λw σ H'=>∃(mn sz e:Nat),σ=[some (.ref fx),some (.ref s1.a),some (.ref t1.a),some (.int en),some (.int mn),some (.int sz)]/\H'=H2/\sz=w/\sz=2 ^ e/\sz<=1000000/\mn<=3000000 - 2*sz/\kH l m mn/\(en<=mn\/∃k,mn<=k/\k<mn+sz/\l[k]?≠ m[k]?),⟨_,mn,sz,e,rfl,rfl,rfl,he,hsz,(),ha,hb⟩,?_⟩
   rintro w' σ H3 ⟨mn,sz,e,rfl,rfl,rfl,he,hsz,Xy,ha,hb⟩
   walk_at "rd"
   walk_at"g"
   ·have z1:(1:Int)<sz:=of_decide_eq_true z
    obtain ⟨e',rfl⟩:∃e',e=e'+1:=⟨e - 1,by
     cases e with
     | zero=>rw[he]at z1;simp at z1
     | succ e=>rfl⟩
    have hh:sz=2*2 ^ e':=by rw[he,Nat.pow_succ,Qc8]
    have hp:0<2 ^ e':=Nat.pow_pos ∅
    generalize Wj:2 ^ e'=h2 at hh hp
    have ZM:=Wj.symm
    have ed:(sz:Int) / 2=(h2:Nat):=by lia
    refine ⟨_,rfl,_,_,rfl,rfl,⟨∅,∅⟩,?_⟩
    refine call s1 mn h2 _ _ _ rfl hs (λR hR=>⟨_,rfl,_,rfl,_,rfl,_,rfl,_,_,rfl,rfl,by rw[ed];exact hR⟩) ?_
    refine call t1 mn h2 _ _ _ rfl ht (λR hR=>⟨_,rfl,_,rfl,_,rfl,_,rfl,_,_,rfl,rfl,by rw[ed];exact hR⟩) ?_
    rw[el,em]
    walk_at "rd"
    have rG:∃e2,h2=2 ^ e2:=⟨e',ZM⟩
    obtain ⟨e2,he2⟩:=rG
    refine eN (λy1=>?_) (λy1=>?_)
    ·have y2:seg l mn (mn+h2)=seg m mn (mn+h2):=by simpa using of_decide_eq_true y1
     refine ⟨_,rfl,_,rfl,_,_,rfl,rfl,?_⟩
     refine ⟨h2,(),mn+h2,h2,e2,by rw[Qb5, <-ed];rfl,rfl,rfl,he2,(),(),ha.more y2,?_⟩
     rcases hb with hb | ⟨k,k1,k2,k3⟩
     ·exact .inl ()
     ·refine .inr ⟨k,Classical.byContradiction λw=>k3 (CG.mp y2 k k1 ()),(),k3⟩
    ·have y2:seg l mn (mn+h2)≠seg m mn (mn+h2):=λw=>y1 (decide_eq_true (by rw[w]))
     exact ⟨h2,(),mn,h2,e2,by rw[<-ed];rfl,rfl,rfl,he2,(),(),ha,.inr (JX y2)⟩
   ·have z1: ¬(1:Int)<sz:=λw=>z (decide_eq_true w)
    have hp:0<2 ^ e:=Nat.pow_pos ∅
    have e1:sz=1:=by lia
    subst e1
    exact ⟨mn,rfl,rfl,ha,hb.imp id λ⟨k,k1,k2,k3⟩=>by rwa [show k=mn by lia]at k3⟩
  ·rintro σ H3 ⟨mn,rfl,rfl,ha,hb⟩
   exact ⟨_,rfl,q mn ha hb⟩
theorem C6:bD P w K mg base eM 1 SO Tz ["seen"] (uu K a_ aP):=by
 refine T.ZE.fn.ok ni (λvs H Q E h=>AH h) (λ_ _ _ _ H vs Q E hr h=>?_)
 refine let Z3:TS:=_;let Z2:TS:=_;let Z1:TS:=_;let Z0:TS:=_;⟨_,(ag (aB (i:=1) ni.nd (bW K rfl (pv 0) rfl))
   (ah Z0 (ag (aB (i:=2) ni.nd (ba (bP K rfl) (bW K rfl (pv 0) rfl) ao (λ_ _=>rfl)))
   (ah Z1 (ag (cV (je (bW K rfl (pv 1) rfl)) (ah Z2 (aj (aI (cW (ai (pv 2) (ae (aF fq (bW K rfl (pv 0) rfl) (bW K rfl (pv 1) rfl)))))))) bO)
   (ah Z3 (aj (aI (cW (ai (vZ pH (pv 2)) (ae (vZ pH (aF fq (aF cq (aF cq (bW K rfl (pv 1) rfl) ao) (bW K rfl (pv 0) rfl)) (bW K rfl (pv 1) rfl)))))))))))))),?_⟩
 obtain ⟨y,lg,s1,rfl,hs,q⟩:=h
 obtain ⟨d1,e1⟩:=hs.ob
 obtain ⟨d2,e2⟩:=hs.wy.ob
 have hp:=hs.pz
 have rp:=kJ hs.wy.sw.ne hs.wy.rt
 have u1:=hs.wy.uz
 have u2:=hs.wy.lz
 refine ⟨_,rfl,s1.a,aP,d1,_,_,rfl,e1,T.eV,T.n_Seen_way,ql,?_⟩
 refine ⟨_,rfl,s1.a,aP,d1,_,_,rfl,e1,T.eV,T.n_Seen_strand,xb,s1.t,_,0,_,rfl,rfl,dH.of hs.st,rfl,?_⟩
 refine ⟨_,rfl,s1.wy,a_,d2,_,_,rfl,e2,T.ik,T.n_Way_leads,JW,?_⟩
 walk_at "rd"
 have ed1:(s1.p:Int) / (s1.r:Int)=((s1.p / s1.r:Nat):Int):=(Qfe _ _).symm
 have ed2:(((s1.u:):Int) - 1 - s1.p) / (s1.r:Int)=((((s1.u:) - 1 - s1.p) / s1.r:Nat):Int):=by
  rw[Qfe];congr 1;lia
 walk_at"g"
 ·refine ⟨_,rfl,_,rfl,s1.a,aP,d1,_,_,rfl,e1,T.eV,T.n_Seen_place,oI,_,rfl,s1.wy,a_,d2,_,_,rfl,e2,T.ik,T.n_Way_root_size,r6,_,_,rfl,rfl,⟨(),()⟩,by show 2<=sizeLine;decide,λp np=>?_⟩
  refine q p _ np ?_ (ay.upd np)
  rw[aa]
  unfold CH
  rw[if_pos z, <-ed1]
 ·refine ⟨_,rfl,_,rfl,_,rfl,s1.wy,a_,d2,_,_,rfl,e2,T.ik,T.n_Way_size,Ei,_,_,rfl,rfl,_,rfl,s1.a,aP,d1,_,_,rfl,e1,T.eV,T.n_Seen_place,oI,_,_,rfl,rfl,_,rfl,s1.wy,a_,d2,_,_,rfl,e2,T.ik,T.n_Way_root_size,r6,_,_,rfl,rfl,⟨(),()⟩,_,rfl,by show 2<=sizeLine;decide,λp np=>?_⟩
  refine q p _ np ?_ (ay.upd np)
  rw[aa]
  unfold CH
  rw[if_neg z, <-ed2]
theorem u9:bD P w K mg base eM 3 SQ TB ["one","other"] (kI K a_ aP):=by
 have xo:=C5 (P:=P) (w:=w) (base:=base) T
 have xp:=C6 (P:=P) (w:=w) (base:=base) T
 have cO:=kX (P:=P) (w:=w) (base:=base) T
 have dz:=mM (P:=P) (w:=w) (base:=base) T
 refine T.F25.fn.ok fH (λvs H Q E h=>rD h) (λ_ _ _ _ H vs Q E hr h=>?_)
 refine let Z6:TS:=_;let Z5:TS:=_;let Z4:TS:=_;let Z3:TS:=_;let Z2:TS:=_;let Z1:TS:=_;let Z0:TS:=_;⟨_,(ag (aB (i:=2) fH.nd (aF br (bW K rfl (bW K rfl (pv 0) rfl) rfl) (bW K rfl (bW K rfl (pv 1) rfl) rfl)))
   (ah Z0 (ag (aB (i:=3) fH.nd (ak xo T.ZD hr (ai (Dh (v:= .ref KN) rfl T.GV.mg rfl) (ai (pv 0) (ai (pv 1) (ae (pv 2)))))))
   (ah Z1 (ag (aB (i:=4) fH.nd (ak xo T.ZD hr (ai (Dh (v:= .ref KO) rfl T.GW.mg rfl) (ai (pv 0) (ai (pv 1) (ae (pv 2)))))))
   (ah Z2 (ag (cV (aU G7 (aQ (pJ rfl) rfl T.z_min boot_min (ai (pv 3) (ae (pv 4)))) (pv 2) (aW _)) (ah Z3 (aj (aI (de (Qr K rfl hr) (ak xp T.ZE hr (ae (pv 0))) (ak xp T.ZE hr (ae (pv 1))) (aW _))))) bO)
   (ah Z4 (ag (cV (aU UK (pv 3) (pv 4) (aW _)) (ah Z5 (aj (aI (de xP (ak cO T.GV hr (ai (pv 0) (ai (pv 3) (ae (aF br (pv 3) ao))))) (ak cO T.GV hr (ai (pv 1) (ai (pv 3) (ae (aF br (pv 3) ao))))) (aW _))))) bO)
   (ah Z6 (aj (aI (de xP (ak dz T.GW hr (ai (pv 0) (ai (pv 4) (ae (aF br (pv 4) ao))))) (ak dz T.GW hr (ai (pv 1) (ai (pv 4) (ae (aF br (pv 4) ao))))) (aW _)))))))))))))),?_⟩
 obtain ⟨y,lg,s1,t1,rfl,hy,hz,hs,ht,h0,q⟩:=h
 obtain ⟨d1,e1⟩:=hs.ob
 obtain ⟨d2,e2⟩:=hs.wy.ob
 obtain ⟨d3,e3⟩:=ht.ob
 obtain ⟨d4,e4⟩:=ht.wy.ob
 have rp:=kJ hs.wy.sw.ne hs.wy.rt
 have rp':=kJ ht.wy.sw.ne ht.wy.rt
 have u1:=hs.wy.uz
 have u1':=ht.wy.uz
 have u2:=hs.wy.lz
 have ns:=hs.wy.sw.ne
 have nt:=ht.wy.sw.ne
 have lf:=bf hs.wy.sw (s1.p:Int)
 have XM:=bf ht.wy.sw (t1.p:Int)
 have as:=xg (lg:=lg) (s:=s1) (en:=s1.r+t1.r) hs.pz ()
 have at':=xg (lg:=lg) (s:=t1) (en:=s1.r+t1.r) ht.pz ()
 refine ⟨_,rfl,s1.a,aP,d1,_,_,rfl,e1,T.eV,T.n_Seen_way,ql,s1.wy,a_,d2,_,_,rfl,e2,T.ik,T.n_Way_root_size,r6,_,rfl,t1.a,aP,d3,_,_,rfl,e3,T.eV,T.n_Seen_way,ql,t1.wy,a_,d4,_,_,rfl,e4,T.ik,T.n_Way_root_size,r6,_,_,rfl,rfl,?_⟩
 refine ⟨_,rfl,_,rfl,_,rfl,y,lg,s1,t1,true,s1.r+t1.r,by rw[Qb5];rfl,hz,hs,ht,(),λm OC GJ=>?_⟩
 refine ⟨_,rfl,_,rfl,_,rfl,y,lg,s1,t1,false,s1.r+t1.r,by rw[Qb5];rfl,hz,hs,ht,(),λn Xp ve=>?_⟩
 have ZN:kH (GO y lg s1) (GO y lg t1) m:=OC
 have Wl:s1.r+t1.r<=m\/(GO y lg s1)[m]?≠ (GO y lg t1)[m]?:= GJ
 have ZO:kH (GP y lg s1) (GP y lg t1) n:=Xp
 have Wm:s1.r+t1.r<=n\/(GP y lg s1)[n]?≠ (GP y lg t1)[n]?:= ve
 have ga:∀k,k<s1.r+t1.r->(GO y lg s1)[k]? =some (Bc (fh y (sq s1.u s1.p) (k+1)))/\(GO y lg t1)[k]? =some (Bc (fh y (sq t1.u t1.p) (k+1))):=λk hk=>⟨JY ns (),JY nt ()⟩
 have gb:∀k,k<s1.r+t1.r->(GP y lg s1)[k]? =some (Bc (fh y (sq s1.u s1.p) (-(k:Int))))/\(GP y lg t1)[k]? =some (Bc (fh y (sq t1.u t1.p) (-(k:Int)))):=λk hk=>⟨JZ ns hs.pz (),JZ nt ht.pz ()⟩
 refine ⟨_,rfl,_,rfl,_,_,rfl,?_⟩
 walk_at "rd"
 by_cases par:∀k,sq s1.u s1.p k=sq t1.u t1.p k
 ·have ef:sq s1.u s1.p=sq t1.u t1.p:=funext par
  have m1:s1.r+t1.r<=m:=Ep (λk hk=>by rw[(ga k hk).1,(ga k hk).2,ef]) Wl
  have n1:s1.r+t1.r<=n:=Ep (λk hk=>by rw[(gb k hk).1,(gb k hk).2,ef]) Wm
  refine eN (λz=>?_) (λz=>absurd (decide_eq_true (show ((s1.r:Int)+t1.r)<=(if (n:Int)<m then (n:Int) else m) by split<;>lia)) z)
  refine ⟨_,rfl,y,lg,s1,rfl,hs,λp1 H1 np1 rY Wn=>⟨_,rfl,y,lg,t1,rfl,ht.same Wn,λp2 H2 ZP mU b_=>?_⟩⟩
  refine ⟨p1,p2,_,_,_,_,rfl,rfl,dH.of (b_ _ _ rY),dH.of mU,?_⟩
  have e:Ll (CH s1).1 (CH s1).2 (CH t1).1 (CH t1).2=bZ (l_ y (2*lg) s1) (l_ y (2*lg) t1):=by
   unfold l_
   rw[ef,gg,Nh]
  have kq:=q H2 (Wn.trans b_)
  rw[<-e]at kq
  exact kq
 ·have da:∃k,sq s1.u s1.p k≠sq t1.u t1.p k:=Classical.byContradiction λz=>par λk=>Classical.byContradiction λw=>z ⟨k,w⟩
  have z0:sq s1.u s1.p 0=sq t1.u t1.p 0:=by unfold sq;rw[Qea,Qea];exact h0
  obtain ⟨a,b,rn,ha,hb⟩:=eQ (p:=s1.r) (q:=t1.r) () () (El ns hs.wy.rt s1.p) (El nt ht.wy.rt t1.p) z0 da
  have pf:=En hy lf
  have pg:=En hy XM
  have key:=qc hy lf XM rn [(CH s1).1,(CH s1).2] [(CH t1).1,(CH t1).2] (2*lg) 0 (Qat _) (Qat _) () ()
  have sa:fh y (sq s1.u s1.p) (a+1)≠fh y (sq t1.u t1.p) (a+1):=λw=>rn.hi (by
   unfold fh at w
   rw[show (a:Int)+1 - 1=a by lia, <-rn.o9 a () ()]at w
   exact lG (hy.cl _ (lf.aY _)) (lf.aY _) (XM.aY _) w)
  have sb:fh y (sq s1.u s1.p) (-(b:Int))≠fh y (sq t1.u t1.p) (-(b:Int)):=λw=>by
   have c:=Cp hy lf XM (rn.o9 (-(b:Int)) () ()) rn.lo
   unfold g8 at c
   rw[w]at c
   simp at c
  have em:m=a:=Eo ha (λk hk=>by
   rw[(ga k ()).1,(ga k ()).2]
   unfold fh
   rw[show (k:Int)+1 - 1=k by lia,rn.o9 k () (),rn.o9 (k+1) () ()]) (λw=>sa (Em (pf _) (pg _) (by rw[(ga a ha).1,(ga a ha).2]at w;exact Qaz w))) ZN Wl
  have en:n=b:=Eo hb (λk hk=>by
   rw[(gb k ()).1,(gb k ()).2]
   unfold fh
   rw[rn.o9 (-(k:Int)) () (),rn.o9 (-(k:Int) - 1) () ()]) (λw=>sb (Em (pf _) (pg _) (by rw[(gb b hb).1,(gb b hb).2]at w;exact Qaz w))) ZO Wm
  subst em
  subst en
  refine eN (λz=>absurd (show ((s1.r:Int)+t1.r)<=(if (n:Int)<m then (n:Int) else m) from of_decide_eq_true z) (by split<;>lia)) (λz=>?_)
  walk_at "rd"
  have BJ:(m:Int)+1=((m+1:Nat):Int):=by lia
  have Na:(n:Int)+1=((n+1:Nat):Int):=by lia
  refine eN (λz2=>?_) (λz2=>?_)
  ·have z3:m<=n:=by have:=of_decide_eq_true z2;lia
   refine ⟨_,rfl,_,rfl,_,rfl,_,_,rfl,rfl,y,lg,s1,m,m+1,by rw[<-BJ];rfl,hz,hs,(),?_⟩
   refine ⟨_,rfl,_,rfl,_,rfl,_,_,rfl,rfl,y,lg,t1,m,m+1,by rw[<-BJ];rfl,hz,ht,(),?_⟩
   refine ⟨_,_,rfl,rfl,?_⟩
   rw[if_pos z3]at key
   have e:decide (seg (GO y lg s1) m (m+1)<seg (GO y lg t1) m (m+1))=bZ (l_ y (2*lg) s1) (l_ y (2*lg) t1):=by
    rw[r9 (ga m ha).1,r9 (ga m ha).2,J1]
    exact (decide_eq_decide.mpr (J0 (pf _) (pg _))).trans key.symm
   have kq:=q H (ay.refl H)
   rw[<-e]at kq
   exact kq
  ·have z3: ¬m<=n:=λw=>z2 (decide_eq_true ())
   refine ⟨_,rfl,_,rfl,_,rfl,_,_,rfl,rfl,y,lg,s1,n,n+1,by rw[<-Na];rfl,hz,hs,(),?_⟩
   refine ⟨_,rfl,_,rfl,_,rfl,_,_,rfl,rfl,y,lg,t1,n,n+1,by rw[<-Na];rfl,hz,ht,(),?_⟩
   refine ⟨_,_,rfl,rfl,?_⟩
   rw[if_neg z3]at key
   have e:decide (seg (GP y lg s1) n (n+1)<seg (GP y lg t1) n (n+1))=bZ (l_ y (2*lg) s1) (l_ y (2*lg) t1):=by
    rw[r9 (gb n hb).1,r9 (gb n hb).2,J1]
    exact (decide_eq_decide.mpr (J0 (pf _) (pg _))).trans key.symm
   have kq:=q H (ay.refl H)
   rw[<-e]at kq
   exact kq
theorem rJ:bD P w K mg base eM 4 SR TC ["order","seen"] (jH K a_ aP):=by
 have vN:=u9 (P:=P) (w:=w) (base:=base) T
 refine T.F26.fn.ok cH (λvs H Q E h=>qp h) (λ_ _ _ _ H vs Q E hr h=>?_)
 refine let Z6:TS:=_;let Z5:TS:=_;let Z4:TS:=_;let Z3:TS:=_;let Z2:TS:=_;let Z1:TS:=_;let Z0:TS:=_;⟨_,(ag (aB (i:=2) cH.nd ao)
   (ah Z0 (ag (aB (i:=3) cH.nd (cM K T.z_len (pv 0)))
   (ah Z1 (ag (fL PassesOwn.never (aU zx (pv 2) (pv 3) (aW _)) (ah Z2 (ag (aB (i:=4) cH.nd (aF fq (aF br (pv 2) (pv 3)) ao))
   (ah Z3 (aj (cV (je (ak vN T.F25 hr (ai (ba (bY K rfl) (pv 0) (pv 4) (λ_ _=>rfl)) (ae (pv 1))))) (ah Z4 (aj (aB (i:=2) cH.nd (aF br (pv 4) ao)))) (ah Z5 (aj (aB (i:=3) cH.nd (pv 4))))))))))
   (ah Z6 (aj (aI (pv 2))))))))),?_⟩
 obtain ⟨y,lg,a,ss,t1,rfl,hy,hz,ha,KZ,ht,up,hn,q⟩:=h
 have hs:=Zs1
 have key:=Qcc.mp up
 refine ⟨_,rfl,a,_,rfl,.inl (bu.of ha),?_⟩
 walk_at "rd"
 refine ⟨λm σ H'=>∃(lo hi:Nat) (mv:Option V),σ=[some (.ref a),some (.ref t1.a),some (.int lo),some (.int hi),mv]/\m=hi - lo/\lo<=hi/\hi<=(ss:)/\(∀k s,ss[k]? =some s->k<lo->bZ (l_ y (2*lg) s) (l_ y (2*lg) t1)=true)/\(∀k s,ss[k]? =some s->hi<=k->bZ (l_ y (2*lg) s) (l_ y (2*lg) t1)=false)/\ay H H',⟨_,0,(ss:),none,by rw[oN];rfl,rfl,Qat _,Qaa _,λk s _ hk=>absurd hk (Qfk _),(λk s e hk=>by rw[Qc0 hk]at e;cases e),ay.refl H⟩,?_⟩
 rintro m σ H2 ⟨lo,hi,mv,rfl,rfl,h1,h2,h3,h4,s2⟩
 walk_at "rd"
 walk_at"g"
 ·have z1:(lo:Int)<hi:=of_decide_eq_true z
  have em:(((lo:Int)+hi) / 2)=(((lo+hi) / 2:Nat):Int):=by lia
  have hm:(lo+hi) / 2<(ss:):=by lia
  have hg:ss[(lo+hi) / 2]? =some ss[(lo+hi) / 2]:=P4 hm
  obtain ⟨ok,e0⟩:=KZ _ (Qbk hm)
  walk_at "rd"
  refine ⟨a,_,((lo:Int)+hi) / 2,_,rfl,rfl,bu.of (s2 _ _ ha),by rw[em];exact cR (Ro hg),_,rfl,y,lg,ss[(lo+hi) / 2],t1,rfl,hy,hz,ok.same s2,ht.same s2,e0,λH3 s3=>?_⟩
  walk_at "rd"
  refine eN (λy1=>?_) (λy1=>?_)
  ·walk_at "rd"
   have e1:((lo:Int)+hi) / 2+1=(((lo+hi) / 2+1:Nat):Int):=by lia
   refine ⟨hi - ((lo+hi) / 2+1),(),(lo+hi) / 2+1,hi,_,by rw[<-e1];rfl,rfl,(),h2,λk s e hk=>?_,h4,s2.trans s3⟩
   by_cases q1:k=(lo+hi) / 2
   ·subst q1
    rw[hg]at e
    cases e
    exact y1
   ·obtain ⟨P6,ek⟩:=P5.mp e
    have Wo:=key k ((lo+hi) / 2) P6 hm ()
    rw[ek]at Wo
    cases r:bZ (l_ y (2*lg) s) (l_ y (2*lg) t1)
    ·have:=L2.xV _ _ _ r Wo
     rw[this]at y1
     cases y1
    ·rfl
  ·walk_at "rd"
   have y2:bZ (l_ y (2*lg) ss[(lo+hi) / 2]) (l_ y (2*lg) t1)=false:=by simpa using y1
   refine ⟨(lo+hi) / 2 - lo,(),lo,(lo+hi) / 2,_,by rw[<-em];rfl,rfl,(),(),h3,λk s e hk=>?_,s2.trans s3⟩
   by_cases q1:k=(lo+hi) / 2
   ·subst q1
    rw[hg]at e
    cases e
    exact y2
   ·obtain ⟨P6,ek⟩:=P5.mp e
    have Wo:=key ((lo+hi) / 2) k hm P6 ()
    rw[ek]at Wo
    exact L2.xV _ _ _ y2 Wo
 ·have z1: ¬(lo:Int)<hi:=λw=>z (decide_eq_true w)
  walk_at "rd"
  have e:hi=lo:=by lia
  subst e
  exact q hi H2 h2 h3 h4 s2
theorem vO:bD P w K mg base eM 5 SV TH ["words","ways","band"] (mE K a_ aP):=by
 have y0:=vL (P:=P) (w:=w) (base:=base) T
 have vP:=u7 (P:=P) (w:=w) (base:=base) T
 have u_:=rJ (P:=P) (w:=w) (base:=base) T
 refine T.F28.fn.ok fX (λvs H Q E h=>uA h) (λ_ _ _ _ H vs Q E hr h=>?_)
 refine ⟨_,(ag (aB (i:=3) fX.nd (dP bL))
   (ag (cF PassesOwn.never rfl (dA K rfl (ak y0 T.F12 hr (ai (pv 0) (ae (pv 2))))) (aL (i:=4) fX.nd rfl (Or.inl rfl)) (ag (aB (i:=5) fX.nd (ak vP T.F27 hr (ai (pv 0) (ai (pv 1) (ae (pv 4))))))
   (aj (eT (cw K rfl Qbh PySem.F.slot_list_insert PySem.F.type_list_insert Ff (pv 3) (ai (ak u_ T.F26 hr (ai (pv 3) (ae (pv 5)))) (ae (pv 5))))))))
   (aj (aI (cX (dQ K rfl) rfl T.z_tuple boot_tuple (ae (cL ["seen"] [none] (dA K rfl (pv 3)) trivial (λ_ _ _ _=>(aL (i:=0) (by decide+kernel:List.Nodup (["seen"]:List Str)) rfl (Or.inl rfl))) (λ_ _ _ _=>iq) (λ_ _ _ _=>(bW K rfl (pv 0) rfl))))))))),?_⟩
 obtain ⟨y,lg,wt,vt,ws,ph,band,rfl,hy,hz,xn,ZQ,Bd,hb,XJ,zh,Wq,q⟩:=h
 have hs:=Zs1
 walk_at "rd"
 intro a na
 have s0:=ay.upd (o:= .lst []) na
 refine ⟨_,rfl,_,rfl,wt,ws,band,rfl,s0 _ _ xn,ZQ,λw hw=>⟨λc hc=>hy.lt c ((Bd w hw).1.aY c hc),(Bd w hw).2⟩,hb,λb ps H1 nb Lq A9 qX s1=>?_⟩
 have RK:=s0.trans s1
 have hba:b≠a:=λz=>by rw[z,aa]at nb;cases nb
 have aaz:(ps:)<=48:=by
  have h1:(ps.map Pr.pair:)<=48:=by
   rw[qX]
   have:=kL band (λw hw=>(Bd w hw).2) (ws:) (Qaa _)
   lia
  rwa [Xi]at h1
 have pin:∀p∈ps,∃w,ws[p.c]? =some w/\p.i<(w:)/\Cv band (rd w p.i)=true:=λp hp=>by
  have hm:p.pair∈dU band ws (ws:):=by rw[<-qX];exact Qar.mpr ⟨p,hp,rfl⟩
  exact CJ hm
 refine ⟨b,rfl,⟨_,bu.of Lq⟩,?_⟩
 refine let jb:Nat->L2.St->Hp->Prop:=(λk σ H'=>∃(ss:List Sn) (sv nv:Option V),σ=[some (.ref wt),some (.ref vt),some (.str (S [band])),some (.ref a),sv,nv]/\H' a=some (.lst (Er ss))/\(∀s∈ss,kG H' a_ aP y lg s/\rd s.u s.p=band/\∃w,ws[s.c]? =some w/\CI w s.c s.i s/\s.i<(w:))/\(ss.map λs=>(s.c,s.i)).Perm ((ps.take k).map Pr.pair)/\Gf y (2*lg) ss/\bA a H1 H');iL (K:=K) (a:=b) (xs:=w4 ps) jb
  ⟨[],none,none,rfl,s1 _ _ aa,λ_ h=>absurd h Qan,.nil,List.Pairwise.nil,bA.refl _ _⟩ (λk σ H' _ ⟨_,_,_,_,_,_,_,_,h⟩=>bu.of (h _ _ Lq hba)) ?_ ?_
 ·rintro k x σ H2 hx ⟨ss,sv,nv,rfl,ha,KZ,tQ,Ua,s2⟩
  show LH _ _ _ _ _
  refine IF λDx Wr=>?_
  obtain ⟨p,hp,rfl⟩:=Jz hx
  have hk:k<(ps:):=(P5.mp hp).1
  have Ws:=Qaf hp
  obtain ⟨w,hw,hi,ho⟩:=pin p Ws
  have Zc:=Qaf hw
  have QJ:p.c<(ph:):=by rw[zh];exact (P5.mp hw).1
  have bX:=Wq p.c w ph[p.c] hw (P4 QJ)
  have go:∀c o,H c=some o->H2 c=some o:=λc o e=>s2 _ _ (RK c o e) (az e na)
  have ZR:=(A9 p Ws).tp
  have hpa:p.t≠a:=λz=>by rw[z,s1 _ _ aa]at ZR;cases ZR
  have ZS:=s2 _ _ ZR hpa
  have ssl:(ss:)=k:=by
   have:=tQ.length_eq
   rw[Xi,Xi,Qad]at this
   lia
  refine ⟨_,rfl,_,rfl,_,rfl,y,lg,wt,vt,p.t,w,ws,ph,ph[p.c],p.c,p.i,rfl,hy,go _ _ xn,go _ _ XJ,ZS,hw,P4 QJ,bX.same go,hi,λs H3 O2 qJ hso hnn s3=>?_⟩
  have hsb:=O2.band hy (Bd w Zc).1 hi hb ho
  refine ⟨_,rfl,.inl ⟨rfl,_,bu.of (s3 _ _ ha)⟩,_,rfl,_,rfl,y,lg,a,ss,s,rfl,hy,hz,s3 _ _ ha,λt ht=>⟨(KZ t ht).1.same s3,by rw[(KZ t ht).2.1,hsb]⟩,hso,Ua,(),λn H4 hn h1 h2 s4=>?_⟩
  have ha4:=s4 _ _ (s3 _ _ ha)
  refine ⟨_,rfl,a,_,n,_,rfl,rfl,ha4,by rw[oN];exact hn,by rw[oN];lia,?_⟩
  have e1:(Er ss).take n++V.ref s.a::(Er ss).drop n=Er (ss.take n++s::ss.drop n):=by
   unfold Er
   rw[Qao,Qft,Qa2,List.map_drop]
  rw[e1]
  have su:∀t,kG H4 a_ aP y lg t->kG (L2.upd H4 a (.lst (Er (ss.take n++s::ss.drop n)))) a_ aP y lg t:=λt ot=>by
   have ne:∀{c:Addr} {o:HO},H4 c=some o->(∀l,o≠ .lst l)->c≠a:=λ{c o} e no z=>by rw[z,ha4]at e;exact no _ (Qaz e).symm
   obtain ⟨dx,eo⟩:=ot.ob
   obtain ⟨dw,ew⟩:=ot.wy.ob
   exact ⟨⟨dx,by rw[aq (ne eo (λl z=>by cases z))];exact eo⟩,by rw[aq (ne ot.st (λl z=>by cases z))];exact ot.st,⟨⟨dw,by rw[aq (ne ew (λl z=>by cases z))];exact ew⟩,ot.wy.sw,ot.wy.uz,ot.wy.lz,ot.wy.rt⟩,ot.pz⟩
  refine Wr _ _ ⟨ss.take n++s::ss.drop n,_,_,rfl,aa,λt ht=>?_,?_,Rp Ua h1 h2,λc o e z=>by rw[aq z];exact s4 _ _ (s3 _ _ (s2 c o e z))⟩
  ·have:t=s\/t∈ss:=by
    rcases Qai.mp ht with r | r
    ·exact .inr (Qbi r)
    ·rcases Qab.mp r with r | r
     ·exact .inl r
     ·exact .inr (Qc2 r)
   rcases this with r | r
   ·subst r
    refine ⟨su _ (hso.same s4),hsb,w,?_,?_,?_⟩
    ·rw[O2.ec];exact hw
    ·rw[O2.ec,O2.ei];exact O2
    ·rw[O2.ei];exact hi
   ·exact ⟨su _ (((KZ t r).1.same s3).same s4),(KZ t r).2⟩
  ·rw[Qao,Qa2, <-take_snoc hp,Qao,O2.ec,O2.ei]
   have p1:(ss.take n).map (λs=>(s.c,s.i))++(p.c,p.i)::(ss.drop n).map (λs=>(s.c,s.i)) |>.Perm ((p.c,p.i)::ss.map λs=>(s.c,s.i)):=by
    refine Qgb.trans (List.Perm.cons _ ?_)
    rw[<-Qao,Qaw]
   exact p1.trans ((List.Perm.cons _ tQ).trans (List.perm_append_singleton _ _).symm)
 ·rintro σ H2 ⟨ss,sv,nv,rfl,ha,KZ,tQ,Ua,s2⟩
  rw[yF,Qbs,qX]at tQ
  have ssl:(ss:)<=48:=by
   have:=tQ.length_eq
   rw[Xi, <-qX,Xi]at this
   lia
  have K0:ay H H2:=λc o e=>s2 _ _ (RK c o e) (az e na)
  refine ⟨_,rfl,a,rfl,⟨_,bu.of ha⟩,?_⟩
  refine let vM:Nat->List V->Hp->Prop:=(λi acc H'=>H'=H2/\acc=(ss.take i).map λs=>V.ref s.t);gG (K:=K) (a:=a) (xs:=Er ss) vM (by rw[oN];lia) (λi acc H' h=>by rw[h.1];exact bu.of ha) ⟨rfl,rfl⟩ ?_ ?_
  ·rintro i x acc H3 Nx hi hx hl ⟨rfl,rfl⟩ nx
   obtain ⟨t,ht,rfl⟩:=Ni hx
   obtain ⟨dx,e⟩:=(KZ t (Qaf ht)).1.ob
   refine ⟨trivial,fV ⟨_,rfl,t.a,aP,dx,_,_,rfl,e,T.eV,T.n_Seen_strand,xb,nx _ _ (by simpa using hl) ⟨rfl,?_⟩⟩⟩
   rw[<-take_snoc ht,Qao]
   rfl
  ·rintro acc H3 D hl ⟨rfl,rfl⟩ hD
   rw[oN,Qbs]
   refine ⟨D,_,rfl,.inl ⟨bu.of aa,λt nt=>?_⟩⟩
   have sA:=(ay.upd (o:= .lst (ss.map λs=>V.ref s.t)) hD).trans (ay.upd (o:= .tup (ss.map λs=>V.ref s.t)) nt)
   have ep:(ss.map λs=>(⟨s.t,s.c,s.i⟩:Pr)).map Pr.pair=ss.map λs=>(s.c,s.i):=by rw[Qcd];rfl
   refine q t (ss.map λs=>(⟨s.t,s.c,s.i⟩:Pr)) _ (ay.free (K0.trans (ay.upd hD)) nt) (by rw[aa];unfold w4;rw[Qcd];rfl) (λp hp=>?_) (by rw[ep];exact tQ) ?_ (K0.trans sA)
   ·obtain ⟨s,U_,rfl⟩:=Qar.mp hp
    obtain ⟨ok,_,w,hw,_,hi⟩:=KZ s U_
    have h1:=(P5.mp hw).1
    have h2:=(Bd w (Qaf hw)).2
    exact ⟨sA _ _ ok.st,by show s.c<1000;lia,by show s.i<1000;lia⟩
   ·rw[ep]
    unfold Gg
    rw[Qb1]
    refine Qe6 (λ{s t} h1 h2 h=>?_) Ua
    obtain ⟨o1,_,w1,e1,i1,l1⟩:=KZ s h1
    obtain ⟨o2,_,w2,e2,i2,l2⟩:=KZ t h2
    have g1:ws.getD s.c []=w1:=by rw[Qak,e1];rfl
    have g2:ws.getD t.c []=w2:=by rw[Qak,e2];rfl
    rw[<-Es hy (Bd w1 (Qaf e1)).1 l1 g1 i1 o1.wy.rt, <-Es hy (Bd w2 (Qaf e2)).1 l2 g2 i2 o2.wy.rt]
    exact h
theorem A4:bD P w K mg base eM 1 Tb T1 ["_law_box_here","_law_many"] (Ac K):=by
 refine T.Wg.fn.ok u5 (λvs H Q E h=>Fq h) (λ_ _ _ _ H vs Q E hr h=>?_)
 refine let Z5:TS:=_;let Z4:TS:=_;let Z3:TS:=_;let Z2:TS:=_;let Z1:TS:=_;let Z0:TS:=_;⟨_,(ag (cV (aU v5 (ba (bY K rfl) (pv 0) ao (λ_ _=>rfl)) ao (aW _)) (ah Z0 (ag (aB (i:=2) u5.nd (aF gm (ba (bY K rfl) (pv 0) ao (λ_ _=>rfl)) (pv 1)))
   (ah Z1 (ag (xt (aF fq (ba (bY K rfl) (pv 0) ao (λ_ _=>rfl)) (pv 1)) (G2 (pv 0) ao set_list))
   (ah Z2 (aj (aI (pv 2)))))))) bO)
   (ah Z3 (ag (aB (i:=3) u5.nd (aF gm (aF mR (ba (bY K rfl) (pv 0) ao (λ_ _=>rfl)) ao) ao))
   (ah Z4 (ag (xt (aF br (aF gm (aF br (aF mR (pv 3) ao) ao) ao) ao) (G2 (pv 0) ao set_list))
   (ah Z5 (aj (aI (aF gm (aF fq (aF br (aF mR (pv 3) ao) (ba (bY K rfl) (pv 0) ao (λ_ _=>rfl))) ao) (pv 1)))))))))),?_⟩
 obtain ⟨b,m,rfl,⟨x,y,hb⟩,h1,h2,q⟩:=h
 have fin:∀(r x' y':Int),0<=r->r<m->Q (.int r) (upd H b (.lst [.int x',.int y'])):=λr x' y' h3 h4=>by
  have e:r=((r.toNat:Nat):Int):=by lia
  rw[e]
  exact q r.toNat _ () ⟨x',y',aa⟩ (bA.upd b H _)
 refine ⟨_,rfl,b,_,0,_,rfl,rfl,bu.of hb,rfl,_,_,rfl,rfl,_,rfl,eN (λe=>?_) (λe=>?_)⟩
 ·refine ⟨_,rfl,b,_,0,_,rfl,rfl,bu.of hb,rfl,_,rfl,_,_,rfl,rfl,(by lia:0<m),?_⟩
  refine ⟨_,rfl,b,_,0,_,rfl,rfl,bu.of hb,rfl,_,rfl,_,_,rfl,rfl,⟨(),()⟩,_,rfl,b,_,0,0,rfl,rfl,hb,rfl,_,rfl,?_⟩
  exact fin (x%m) (x / m) y (Qcp _ ()) (Qcn _ ())
 ·refine ⟨_,rfl,b,_,1,_,rfl,rfl,bu.of hb,rfl,_,_,rfl,rfl,.inr ⟨∅,∅⟩,_,_,rfl,rfl,(by decide:(0:Int)<2147483647),?_⟩
  refine ⟨_,rfl,_,_,rfl,rfl,.inr ⟨∅,∅⟩,_,_,rfl,rfl,_,_,rfl,rfl,(by decide:(0:Int)<2147483629),_,_,rfl,rfl,_,rfl,b,_,1,1,rfl,rfl,hb,rfl,?_⟩
  refine ⟨_,rfl,_,_,rfl,rfl,.inr ⟨∅,∅⟩,_,rfl,b,_,1,_,rfl,rfl,bu.of aa,rfl,_,_,rfl,rfl,_,_,rfl,rfl,⟨∅,∅⟩,_,rfl,_,_,rfl,rfl,(by lia:0<m),?_⟩
  exact fin _ _ _ (Qcp _ ()) (Qcn _ ())
theorem va:bD P w K mg base eM 2 SF To ["word","place"] (kh K):=by
 walk_at"p"
 refine T.F13.fn.ok uY (λvs H Q E h=>rq h) (λ_ _ _ _ H vs Q E hr h=>?_)
 refine ⟨_,(aj (aI (cW (ai (ak bU T.F0 hr (ae (ba nJ (pv 0) (aF cq (pv 1) ao) (λ_ _=>rfl)))) (ae (ba nJ (pv 0) (pv 1) (λ_ _=>rfl))))))),?_⟩
 obtain ⟨w,i,rfl,hl,hz,hi,q⟩:=h
 have hs:=Zs1
 have da:w≠[]:=λz=>by rw[z]at hi;simp at hi
 refine ⟨_,rfl,_,rfl,_,_,rfl,rfl,w,_,_,rfl,rfl,(),Ja () (),_,rfl,(hl _ (Cc da _)).lt,?_⟩
 refine ⟨_,rfl,_,rfl,w,_,_,rfl,rfl,(),Ja () (),by show 2<=sizeLine;decide,λt nt=>?_⟩
 exact q t _ nt aa (ay.upd nt)
theorem jc:bD P w K mg base eM 1 f2 d2 ["yard"] (An K):=by
 refine T.F2.fn.ok KU (λvs H Q E h=>FO h) (λ_ _ _ _ H vs Q E hr h=>?_)
 refine ⟨_,(aj (aI (cw K rfl Qa6 Qdj Qdi (j7 K rfl) (nI [] ⋯) (ae (aQ (nQ K rfl) rfl T.z_sorted boot_sorted (ae (cL ["letter"] [none] (j5 (pv 0)) trivial (λ_ _ _ _=>(aL (i:=0) (by decide+kernel:List.Nodup (["letter"]:List Str)) rfl (Or.inl rfl))) (λ_ _ _ _=>(sW (je (fm K rfl Qa6 Qe4 Qe3 mS (pv 0))))) (λ_ _ _ _=>(pv 0))))))))),?_⟩
 obtain ⟨l,rfl,hl,hz,q⟩:=h
 walk_at"i"
 refine ⟨rfl,_,rfl,l,rfl,?_⟩
 refine let jb:Nat->List V->Hp->Prop:=(λi acc H'=>ay H H'/\acc=dY ((l.take i).filter aD));j6 (xs:=dY l) jb (by rw[bo];lia) ⟨ay.refl H,rfl⟩ ?_ ?_
 ·rintro i x acc H1 Nx hi hx mO ⟨s1,rfl⟩ nx
  obtain ⟨c,hc,rfl⟩:=gD hx
  have e:=kf (p:=aD) hc
  refine ⟨trivial,?_⟩
  refine ⟨_,rfl,rfl,c,rfl,rfl,hl c (Qaf hc),_,rfl,?_⟩
  walk_at"g"
  ·rw[if_pos z]at e
   exact ⟨_,rfl,nx _ _ (by simpa using mO) ⟨s1,by rw[e, <-ft]⟩⟩
  ·rw[if_neg z,Qa9]at e
   exact nx _ _ (Qev mO) ⟨s1,by rw[e]⟩
 ·rintro acc H1 D mO ⟨s1,rfl⟩ hD
  rw[ka,gH]
  have hfl:(l.filter aD:)<=(l:):=Qcz _ _
  refine ⟨D,(l.filter aD).map λc=>[c],rfl,bu.of aa,by rw[Xi];lia,λp ls hp tQ rG=>?_⟩
  obtain ⟨l',rfl,pl⟩:=Md tQ
  have xq:=pl.length_eq
  refine ⟨p,l'.map λc=>[c],rfl,rfl,bu.of aa,by rw[Ft];lia,?_⟩
  rw[wL]
  exact q l' _ pl (Me rG) ((s1.trans (ay.upd hD)).trans (ay.upd hp))
theorem A5:bD P w K mg base eM 1 S3 TM ["yard","end"] (qU K):=by
 refine T.F32.fn.ok A1 (λvs H Q E h=>yN h) (λ_ _ _ _ H vs Q E hr h=>?_)
 refine ⟨_,(aj (aI (ba nJ (pv 0) (aF gm (aF br (cw K rfl Qa6 Qd1 Qdz lq (pv 0) (ae (pv 1))) ao) (aQ bB rfl T.z_len Qbr (ae (pv 0)))) (λ_ _=>rfl)))),?_⟩
 obtain ⟨y,e,rfl,he,hz,q⟩:=h
 walk_at"i"
 have hp:(0:Int)<((y:):Int):=by have:=Qd5 he;lia
 obtain ⟨hk,e2⟩:=jq he
 have Ub:q8 y ((((y.idxOf e:Nat):Int)+1)%((y:):Int))=some (gu y e):=by
  have:((((y.idxOf e:Nat):Int)+1)%((y:):Int))=(((y.idxOf e+1)%(y:):Nat):Int):=by push_cast;rfl
  rw[this,e2]
  exact cR (P4 hk)
 exact ⟨_,rfl,_,rfl,rfl,_,rfl,y,e,rfl,rfl,he,_,_,rfl,rfl,_,rfl,y,rfl,(),_,_,rfl,rfl,hp,y,_,_,rfl,rfl,(),Ub,q⟩
theorem vQ:bD P w K mg base eM 2 S4 TN ["yard","start"] (mG K):=by
 have C7:=A5 (P:=P) (w:=w) (base:=base) T
 walk_at"p"
 refine T.F33.fn.ok dG (λvs H Q E h=>uF h) (λ_ _ _ _ H vs Q E hr h=>?_)
 refine let Z5:TS:=_;let Z4:TS:=_;let Z3:TS:=_;let Z2:TS:=_;let Z1:TS:=_;let Z0:TS:=_;⟨_,(ag (aB (i:=2) dG.nd (nI [] ⋯))
   (ah Z0 (ag (aB (i:=3) dG.nd (pv 1))
   (ah Z1 (ag (fL PassesOwn.never (PW.pt (zq (aU mT (pv 2) (nI [] ⋯) (aW _)) (sI (aU HE (pv 3) (pv 1) (aW _))))) (ah Z2 (ag (aB (i:=4) dG.nd (ak C7 T.F32 hr (ai (pv 0) (ae (pv 3)))))
   (ah Z3 (ag (jW (i:=2) dG.nd rfl (Or.inl rfl) (pv 4) L_)
   (ah Z4 (aj (aB (i:=3) dG.nd (ak bU T.F0 hr (ae (pv 4)))))))))))
   (ah Z5 (aj (aI (pv 2))))))))),?_⟩
 obtain ⟨y,e,rfl,hy,he,hz,q⟩:=h
 walk_at"i"
 walk_at "wk"
 refine ⟨λm σ H'=>H'=H/\∃(w:c5) (pl:Nat) (pv:Option V),σ=[some (.str (S y)),some (.str (S [e])),some (.str (S w)),some (.str (S [pl])),pv]/\m=(y:) - (w:)/\yO y e w pl,⟨_,rfl,[],e,none,rfl,rfl,yO.start he⟩,?_⟩
 rintro m σ H1 ⟨rfl,w,pl,pv,rfl,rfl,r⟩
 refine ⟨_,rfl,w,[],rfl,rfl,_,rfl,eN (λz=>?_) (λz=>?_)⟩
 ·have ZT:w=[]:=of_decide_eq_true z
  refine U5 ?_
  have rt:=r.turn hy he (.inl ZT)
  have dZ:=rt.way.len
  rw[kb]at dZ
  have hl1:(w:)+1<=(y:):=dZ
  have h8:gu y pl<128:=(hy.lt _ (lK r.Sw)).lt
  have KY:(w:)+[gu y pl].length<=sizeLine:=by show (w:)+1<=_;lia
  refine ⟨_,rfl,_,rfl,y,pl,rfl,r.Sw,(),?_⟩
  walk_at "wk"
  refine ⟨(y:) - (w++[gu y pl]:),by rw[kb];show (y:) - ((w:)+1)<_;lia,rfl,_,_,_,rfl,rfl,rt⟩
 ·have ZT:w≠[]:=λq=>z (decide_eq_true q)
  refine ⟨_,rfl,_,rfl,[pl],[e],rfl,rfl,_,rfl,eN (λz2=>?_) (λz2=>?_)⟩
  ·have qX:pl≠e:=λq=>by rw[q]at z2;simp at z2
   have rt:=r.turn hy he (.inr qX)
   have dZ:=rt.way.len
   rw[kb]at dZ
   have hl1:(w:)+1<=(y:):=dZ
   have h8:gu y pl<128:=(hy.lt _ (lK r.Sw)).lt
   have KY:(w:)+[gu y pl].length<=sizeLine:=by show (w:)+1<=_;lia
   refine ⟨_,rfl,_,rfl,y,pl,rfl,r.Sw,(),?_⟩
   walk_at "wk"
   refine ⟨(y:) - (w++[gu y pl]:),by rw[kb];show (y:) - ((w:)+1)<_;lia,rfl,_,_,_,rfl,rfl,rt⟩
  ·have qX:pl=e:=by simpa using z2
   subst qX
   obtain ⟨o1,o2⟩:=r.stop hy ZT
   exact ⟨_,rfl,q w o1 r.way.aY o2⟩
theorem sF:bD P w K mg base eM 5 S5 TQ ["yard"] (Ex K):=by
 have y6:=vQ (P:=P) (w:=w) (base:=base) T
 walk_at"p"
 have jz:=sr (P:=P) (w:=w) (base:=base) T
 refine T.T9.fn.ok lV (λvs H Q E h=>Kj h) (λ_ _ _ _ H vs Q E hr h=>?_)
 refine let Z7:TS:=_;let Z6:TS:=_;let Z5:TS:=_;let Z4:TS:=_;let Z3:TS:=_;let Z2:TS:=_;let Z1:TS:=_;let Z0:TS:=_;⟨_,(ag (aB (i:=1) lV.nd tK)
   (ah Z0 (ag (aB (i:=2) lV.nd (dP bL))
   (ah Z1 (ag (cF PassesOwn.never rfl (j5 (pv 0)) (aL (i:=3) lV.nd rfl (Or.inl rfl)) (ah Z2 (aj (cV (Pn (Fc (me hr) (pv 3) (pv 1)) (by with_unfolding_all rfl)) (ah Z3 (ag (aB (i:=4) lV.nd (ak y6 T.F33 hr (ai (pv 0) (ae (pv 3)))))
   (ah Z4 (ag (cF PassesOwn.never rfl (j5 (pv 4)) (aL (i:=5) lV.nd rfl (Or.inl rfl)) (ah Z5 (aj (nS (me hr) (pv 1) (ak bU T.F0 hr (ae (pv 5))) jV rfl))))
   (ah Z6 (aj (eT (cw K rfl Qbh Qch Qcg eZ (pv 2) (ae (ak jz T.KP hr (ae (pv 4)))))))))))) bO))))
   (ah Z7 (aj (aI (aQ (nQ K rfl) rfl T.z_sorted boot_sorted (ae (pv 2))))))))))),?_⟩
 obtain ⟨y,rfl,hy,h2,h8,q⟩:=h
 have hs:=Zs1
 walk_at "wk"
 intro d nd
 walk_at "wk"
 intro p np
 have O1:H d=none:=nd
 have ZU:d≠p:=λz=>by rw[<-z,aa]at np;cases np
 have np0:H p=none:=ay.free (ay.upd nd) np
 refine ⟨_,rfl,y,rfl,?_⟩
 refine let jb:Nat->L2.St->Hp->Prop:=(λi σ H'=>∃(ws:List c5) (aJ:List (Key×V)) (ev wv lv:Option V),σ=[some (.str (S y)),some (.ref d),some (.ref p),ev,wv,lv]/\H' d=some (.dK aJ)/\H' p=some (.lst (ck (ws.map aH)))/\jL y i ws/\(aJ:)<=8*i/\(∀e∈y,((dM aJ (tk e)).isSome=true↔ ∃w∈ws,aC e∈w))/\ay H H');rN (xs:=dY y) jb
  ⟨[],[],none,none,none,rfl,by rw[aq ZU,aa],aa,jL.start y,Qaa _,λe _=>⟨λz=>absurd z (by simp[dM]),λ⟨_,z,_⟩=>absurd z Qan⟩,(ay.upd nd).trans (ay.upd np)⟩ ?_ ?_
 ·rintro i x σ H1 hx ⟨ws,aJ,ev,wv,lv,rfl,hd,hp,Mu,ZV,Bp,s1⟩
  obtain ⟨e,he,rfl⟩:=gD hx
  have hi:i<(y:):=(P5.mp he).1
  have JG:=Qaf he
  refine ⟨_,rfl,_,rfl,d,_,rfl,nR.k (k:=tk e) hd,?_⟩
  walk_at "wk"
  walk_at"g"
  ·have Uc: ¬ ∃w∈ws,aC e∈w:=λq=>by
    rw[(Bp e JG).mpr q]at z;cases z
   refine ⟨_,rfl,_,rfl,y,e,rfl,hy,JG,(),λw ho NJ hce=>?_⟩
   have KY:(w:)<=8:=Qbb (ho.nd.length_le_of_subset λc hc=>NJ c hc) h8
   refine ⟨_,rfl,w,rfl,?_⟩
   refine let vM:Nat->L2.St->Hp->Prop:=(λj σ H'=>∃(Gx:List (Key×V)) (lv:Option V),σ=[some (.str (S y)),some (.ref d),some (.ref p),some (.str (S [e])),some (.str (S w)),lv]/\H' d=some (.dK Gx)/\H' p=some (.lst (ck (ws.map aH)))/\Gx.length<=8*i+j/\(∀f∈y,((dM Gx (tk f)).isSome=true↔(∃w∈ws,aC f∈w)\/∃c∈w.take j,f=aC c))/\ay H H');rN (xs:=dY w) vM
    ⟨aJ,lv,rfl,hd,hp,(),λf hf=>by rw[Bp f hf];simp,s1⟩ ?_ ?_
   ·rintro j x σ H2 Qj ⟨Gx,ZK,rfl,hd2,mU,Wt,K1,s2⟩
    obtain ⟨c,hc,rfl⟩:=gD Qj
    have hj:j<(w:):=(P5.mp hc).1
    have OB:=NJ c (Qaf hc)
    refine ⟨_,rfl,_,rfl,c,rfl,(hy.lt c OB).lt,d,_,rfl,tJ.k (k:=tk (aC c)) hd2 (),?_⟩
    refine ⟨_,_,rfl,aa,by rw[aq (Ne.symm ZU)];exact mU,Qbb (fZ _ _ _) (),λf hf=>?_,λa o ea=>by rw[aq (az ea O1)];exact s2 a o ea⟩
    rw[zW, <-take_snoc hc]
    by_cases q:f=aC c
    ·rw[if_pos (by rw[q])]
     simp[q]
    ·rw[if_neg (λq2=>q (Rw q2)),K1 f hf]
     simp[q]
   ·rintro σ H2 ⟨Gx,ZK,rfl,hd2,mU,Wt,K1,s2⟩
    rw[bo]at Wt
    have zh:∀c∈w,Lt c:=λc hc=>hy.lt c (NJ c hc)
    have Hh:=Mu.jR
    refine ⟨_,rfl,.inl ⟨rfl,_,bu.of mU⟩,_,rfl,w,rfl,zh,(),λH3 s3=>?_⟩
    refine ⟨p,_,_,rfl,rfl,s3 _ _ mU,by rw[aX,Xi];lia,?_⟩
    rw[nY]
    refine ⟨ws++[w],Gx,_,_,_,rfl,by rw[aq ZU];exact s3 _ _ hd2,by rw[aa,Qao];rfl,Mu.turn hy he Uc ho NJ hce,(),λf hf=>?_,λa o ea=>by rw[aq (az ea np0)];exact s3 _ _ (s2 a o ea)⟩
    rw[K1 f hf,ka]
    constructor
    ·rintro (⟨u,hu,z2⟩ | ⟨c,hc,z2⟩)
     ·exact ⟨u,Qbj _ hu,z2⟩
     ·exact ⟨w,by simp,by rw[z2,aE (zh c hc)];exact hc⟩
    ·rintro ⟨u,hu,z2⟩
     rcases Qai.mp hu with g | g
     ·exact .inl ⟨u,g,z2⟩
     ·rw[U0.mp g]at z2
      exact .inr ⟨aC f,z2,(aE (hy.lt f hf)).symm⟩
  ·have ZW:∃w∈ws,aC e∈w:=(Bp e JG).mp (by
    cases hq:(dM aJ (tk e)).isSome
    ·exact absurd (by rw[hq];rfl) z
    ·rfl)
   exact ⟨ws,aJ,_,_,_,rfl,hd,hp,Mu.skip he ZW,(),Bp,s1⟩
 ·rintro σ H1 ⟨ws,aJ,ev,wv,lv,rfl,hd,hp,Mu,ZV,Bp,s1⟩
  rw[bo]at Mu
  have Hh:=Mu.jR
  refine ⟨_,rfl,p,ws.map aH,rfl,bu.of hp,by rw[Xi];lia,λp2 L n2 tQ rG=>?_⟩
  exact q p2 L _ ⟨ws,Mu.done hy,tQ,rG⟩ (ay.free s1 n2) aa (s1.trans (ay.upd n2))
theorem qG:bD P w K mg base eM 1 f4 d4 ["yard","some"] (wU K):=by
 refine T.F4.fn.ok Gs (λvs H Q E h=>Cb h) (λ_ _ _ _ H vs Q E hr h=>?_)
 refine ⟨_,(aj (aI (cw K rfl Qa6 Qdj Qdi (j7 K rfl) (nI [] ⋯) (ae (cL ["letter","some"] [none,some 1] (j5 (pv 0)) ⟨⟨rfl,rfl,by first | exact .inl rfl | exact .inr rfl⟩,trivial⟩ (λ_ _ _ _=>(aL (i:=0) (by decide+kernel:List.Nodup (["letter","some"]:List Str)) rfl (Or.inl rfl))) (λ_ _ _ _=>(sW (aU xN (fm K rfl Qa6 Qd0 Qdy nK (pv 0)) (pv 1) (by with_unfolding_all rfl)))) (λ_ _ _ _=>(pv 0))))))),?_⟩
 obtain ⟨y,sm,rfl,hl,hz,q⟩:=h
 walk_at"i"
 refine ⟨rfl,_,rfl,y,rfl,?_⟩
 refine let jb:Nat->List V->Hp->Prop:=(λi acc H'=>ay H H'/\acc=dY ((y.take i).filter (kept sm)));j6 (xs:=dY y) jb (by rw[bo];lia) ⟨ay.refl H,rfl⟩ ?_ ?_
 ·rintro i x acc H1 Nx hi hx mO ⟨s1,rfl⟩ nx
  obtain ⟨c,hc,rfl⟩:=gD hx
  have e:=kf (p:=kept sm) hc
  rw[show kept sm c=decide (PyProof.Rows.lo1 c∈sm) from rfl]at e
  refine ⟨⟨rfl,trivial⟩,?_⟩
  refine ⟨_,rfl,rfl,c,rfl,rfl,hl c (Qaf hc),_,rfl,_,_,rfl,rfl,_,rfl,?_⟩
  walk_at"g"
  ·rw[if_pos z]at e
   exact ⟨_,rfl,nx _ _ (by simpa using mO) ⟨s1,by rw[e, <-ft]⟩⟩
  ·rw[if_neg z,Qa9]at e
   exact nx _ _ (Qev mO) ⟨s1,by rw[e]⟩
 ·rintro acc H1 D mO ⟨s1,rfl⟩ hD
  rw[ka,gH]
  have hfl:(y.filter (kept sm):)<=(y:):=Qcz _ _
  refine ⟨D,(y.filter (kept sm)).map λc=>[c],rfl,rfl,bu.of aa,by rw[Ft];lia,?_⟩
  rw[wL]
  exact q _ (s1.trans (ay.upd hD))
theorem C8:bD P w K mg base eM 5 RD RE ["words"] (uM K):=by
 refine T.L19.ok C2 (λvs H Q E h=>AX h) (λcZ A outer s H vs Q E hh hr h=>?_)
 refine ⟨_,(aj (aI (Iu (x:="word") K rfl rfl rfl T.z_sorted boot_sorted (ae (pv 0)) (QI rfl hh (Iy.bm (base:=base) (mg:=mg)) rfl rfl rfl) (IC T.z_len ⟨rfl,rfl,rfl,⋯,rfl,⋯,⋯⟩ rfl rfl ∅ ∅ (λ_ _ _ us hl=>match us,hl with | [_],_=>rfl)) (c_.in1 (c_.in1 (hr.mono ∅)))))),?_⟩
 obtain ⟨d,aJ,ws,rfl,hd,hk,hl,hw,hT,q⟩:=h
 refine ⟨_,rfl,d,ws,rfl, .Oz aJ hd hk,(),λw hm=>by have:=hw w hm;lia,hT.at_ T.qD,λt H9 us sT O3 nt ht pw ord=>?_⟩
 exact q t us H9 (sT.imp λb e=>by rw[e];exact T.qD) (.mk T.qD O3) nt ht pw ord
theorem qY:bD P w K mg base eM 6 S9 TX ["yard"] (qV K):=by
 walk_at"t"
 have kY:=sF (P:=P) (w:=w) (base:=base) T
 have gX:=qG (P:=P) (w:=w) (base:=base) T
 have C9:=EE (P:=P) (w:=w) (base:=base) T
 have Gy:=C8 (P:=P) (w:=w) (base:=base) T
 refine T.RF.fn.ok gi (λvs H Q E h=>yR h) (λ_ _ _ _ H vs Q E hr h=>?_)
 refine let Z4:TS:=_;let Z3:TS:=_;let Z2:TS:=_;let Z1:TS:=_;let Z0:TS:=_;⟨_,(ag (aB (i:=1) gi.nd (ak fI T.F2 hr (ae (pv 0))))
   (ah Z0 (ag (aB (i:=2) gi.nd tK)
   (ah Z1 (ag (cF PassesOwn.never rfl (kZ rfl T.z_range (ai ao (ae (aF br (aQ bB rfl T.z_len Qbr (ae (pv 1))) ao)))) (aL (i:=3) gi.nd rfl (Or.inl rfl)) (ah Z2 (aj (cF PassesOwn.never rfl (dA K rfl (ak kY T.T9 hr (ae (ak gX T.F4 hr (ai (pv 0) (ae (cg q_ (pv 1) d_ (b9 (pv 3))))))))) (aL (i:=4) gi.nd rfl (Or.inl rfl)) (ah Z3 (aj (nS (me hr) (pv 2) (ak C9 T.ZC hr (ae (pv 4))) jV rfl)))))))
   (ah Z4 (aj (aI (ak Gy T.F19 hr (ae (pv 2))))))))))),?_⟩
 obtain ⟨y,rfl,hy,h2,h8,hT,q⟩:=h
 walk_at"i"
 walk_at"A"
 refine ⟨_,rfl,y,rfl,zl,(),λnm H1 lO rG s1=>?_⟩
 have s:=bV.of hy lO
 have hh:=fz hy
 have hnl:=lO.length_eq
 refine λd nd=>?_
 have O1:H d=none:=ay.free s1 nd
 refine ⟨_,rfl,nm,rfl,(),_,_,rfl,rfl,_,_,rfl,⟨∅,∅,(),()⟩,?_⟩
 have en:(((nm:):Int)+1 - 1).toNat=(nm:):=by lia
 refine let jb:Nat->L2.St->Hp->Prop:=(λi σ H'=>∃(aJ:List (Key×V)) (ws:List c5) (cv rv:Option V),σ=[some (.str (S y)),some (.str (S nm)),some (.ref d),cv,rv]/\H' d=some (.dK aJ)/\(aJ.map (·.1)=ws.map λl=>Sum.inr (S l))/\GU y nm i (λ_=>False) ws/\(ws:)<=8*i/\ay H H');eY jb ⟨[],[],none,none,rfl,aa,rfl,⟨Qcm,λw=>⟨λg=>absurd g Qan,λg=>g.elim (λg=>absurd g FL.zero) False.elim⟩⟩,Qaa _,s1.trans (ay.upd nd)⟩ ?_ ?_
 ·rintro i σ H2 hi ⟨aJ,ws,cv,rv,rfl,hd,hk,hW,hl,s2⟩
  walk_at"O"
  rw[e1]
  have mi:i<(nm:):=by lia
  have st:=s.take (i+1)
  walk_at"D"
  have Wu:=st.len hy
  rw[Qad,Qa8 ()]at Wu
  have ec:cut nm none (some ((i+1:Nat):Int))=nm.take (i+1):=fP nm (i+1)
  refine ⟨_,rfl,_,rfl,_,rfl,_,rfl,nm,rfl,(),y,cut nm none (some ((i+1:Nat):Int)),rfl,zl,(),λH3 s3=>?_⟩
  rw[ec]
  refine ⟨_,rfl,hz,(),(),λp L H4 hr np hp s4=>?_⟩
  have jR:=hr.jR
  have hR:=λv=>FL.rims (v:=v) hy s mi hr
  have hLt:=hr.lt hz
  have RL:∀r∈L,∀c∈r,Lt c:=λr Mn c hc=>by
   obtain ⟨us,pu,qu,_⟩:=hr
   obtain ⟨u,hu,rfl⟩:=Qar.mp (qu.mem_iff.mp Mn)
   exact hz.lt c ((pu.g7 u hu).2 c (((lN hz () (pu.g7 u hu).1 (pu.g7 u hu).2).1 c).mp hc))
  have hd4:=s4 _ _ (s3 _ _ hd)
  have pd:p≠d:=λe=>by rw[e,s3 _ _ hd]at np;cases np
  refine ⟨p,rfl,⟨_,bu.of hp⟩,?_⟩
  refine let vM:Nat->L2.St->Hp->Prop:=(λj σ H'=>∃(aJ:List (Key×V)) (ws:List c5) (rv:Option V),σ=[some (.str (S y)),some (.str (S nm)),some (.ref d),some (.int ((i+1:Nat):Int)),rv]/\H' d=some (.dK aJ)/\(aJ.map (·.1)=ws.map λl=>Sum.inr (S l))/\GU y nm i (λv=>∃w∈L.take j,v=aZ w) ws/\(ws:)<=8*i+j/\H' p=some (.lst (ck L))/\ay H H');iL (K:=K) (a:=p) (xs:=ck L) vM ⟨aJ,ws,rv,rfl,hd4,hk,hW.congr λv=>⟨False.elim,λ⟨w,hw,_⟩=>absurd hw (by simp)⟩,(),hp,(s2.trans s3).trans s4⟩ (λj σ H' _ h=>by obtain ⟨_,_,_,_,_,_,_,_,g,_⟩:=h;exact bu.of g) ?_ ?_
  ·rintro j x σ H5 hx ⟨aJ,ws,rv,rfl,Ud,XN,Wv,XO,NK,s5⟩
   obtain ⟨r,Ww,rfl⟩:=lQ hx
   have Ue:=Qaf Ww
   have hj:=(P5.mp Ww).1
   have f1:=jR.1
   refine ⟨_,rfl,_,rfl,r,rfl,RL r Ue,by have:=jR.2 r Ue;lia,λH6 s6=>?_⟩
   obtain ⟨o8,P6,ZX,OT,xq⟩:=Kw XN Wv.nd (aZ r) (.bl true)
   refine ⟨d,_,rfl,tJ.k (k:=Sum.inr (S (aZ r))) (s6 _ _ Ud) (by have:=congrArg List.length XN;rw[Xi,Xi]at this;lia),?_⟩
   refine ⟨_,o8,_,rfl,aa,P6,⟨ZX,λv=>?_⟩,(),by rw[aq pd];exact s6 _ _ NK,λa o ea=>by rw[aq (az ea O1)];exact s6 _ _ (s5 a o ea)⟩
   rw[OT,Wv.mem, <-take_snoc Ww,or_assoc]
   refine or_congr_right ⟨?_,?_⟩
   ·rintro (⟨w,hw,e⟩ | e)
    ·exact ⟨w,Qbj _ hw,e⟩
    ·exact ⟨r,by simp,e⟩
   ·rintro ⟨w,hw,e⟩
    rcases Qai.mp hw with g | g
    ·exact .inl ⟨w,g,e⟩
    ·exact .inr (by rw[e,U0.mp g])
  ·rintro σ H5 ⟨aJ,ws,rv,rfl,Ud,XN,Wv,XO,NK,s5⟩
   rw[aX,Qbs]at Wv
   rw[aX]at XO
   exact ⟨aJ,ws,_,_,rfl,Ud,XN,Wv.next hR,(),s5⟩
 ·rintro σ H2 ⟨aJ,ws,cv,rv,rfl,hd,hk,hW,hl,s2⟩
  rw[en]at hW hl
  have hlen:=hW.len hy s (Qaa _) (λ_ h=>h.elim)
  refine ⟨_,rfl,d,aJ,ws,rfl,hd,hk,(),λw hw=>by have:=(hlen w hw).2;lia,hT.same s2,λt us H3 sT Wx nt ht pm o=>?_⟩
  exact q t us H3 ((bQ.of s2).trans sT) Wx (ay.free s2 nt) ht (hW.done lO rG pm o) (by rw[pm.length_eq];lia)
theorem lW:bD P w K mg base eM 1 Tc T3 ["_law_letter"] (wI K):=by
 refine T.Wh.fn.ok qE (λvs H Q E h=>B3 h) (λ_ _ _ _ H vs Q E hr h=>?_)
 refine let Z3:TS:=_;let Z2:TS:=_;let Z1:TS:=_;let Z0:TS:=_;⟨_,(ag (aB (i:=1) qE.nd (nI [97,98,99,100,101,102,103,104,105,106,107,108,109,110,111,112,113,114,115,116,117,118,119,120,121,122] ⋯))
   (ah Z0 (ag (aB (i:=2) qE.nd (nI [65,66,67,68,69,70,71,72,73,74,75,76,77,78,79,80,81,82,83,84,85,86,87,88,89,90] ⋯))
   (ah Z1 (ag (cV (aU xN (pv 0) (pv 1) (by with_unfolding_all rfl)) (ah Z2 (aj (aI (ba nJ (pv 2) (cw K rfl Qa6 Qd1 Qdz lq (pv 1) (ae (pv 0))) (λ_ _=>rfl))))) bO)
   (ah Z3 (aj (aI (ba nJ (pv 1) (cw K rfl Qa6 Qd1 Qdz lq (pv 2) (ae (pv 0))) (λ_ _=>rfl)))))))))),?_⟩
 obtain ⟨c,rfl,hc,q⟩:=h
 refine ⟨_,rfl,_,rfl,c,aV,rfl,rfl,_,rfl,eN (λe=>?_) (λe=>?_)⟩
 ·have hm:c∈aV:=of_decide_eq_true e
  exact ⟨_,rfl,_,rfl,rfl,_,rfl,aV,c,rfl,rfl,hm,mV,_,aC c,rfl,rfl,∅,Ab c hm,q⟩
 ·have hm:c∈mV:=hc.resolve_left λz=>e (decide_eq_true z)
  exact ⟨_,rfl,_,rfl,rfl,_,rfl,mV,c,rfl,rfl,hm,aV,_,aC c,rfl,rfl,∅,Fp c hm,q⟩
theorem vR:bD P w K mg base eM 2 Te T5 ["_law_words","_law_some"] (mH K):=by
 have gY:=lW (P:=P) (w:=w) (base:=base) T
 refine T.F44.fn.ok iH (λvs H Q E h=>uO h) (λ_ _ _ _ H vs Q E hr h=>?_)
 refine let Z3:TS:=_;let Z2:TS:=_;let Z1:TS:=_;let Z0:TS:=_;⟨_,(ag (aB (i:=2) iH.nd (dP bL))
   (ah Z0 (ag (cF PassesOwn.never rfl (dA K rfl (pv 0)) (aL (i:=3) iH.nd rfl (Or.inl rfl)) (ah Z1 (aj (cV (aU (Qe K rfl hr) (cL ["_law_letter","_law_some"] [none,some 1] (j5 (pv 3)) ⟨⟨rfl,rfl,by first | exact .inl rfl | exact .inr rfl⟩,trivial⟩ (λ_ _ _ _=>(aL (i:=0) (by decide+kernel:List.Nodup (["_law_letter","_law_some"]:List Str)) rfl (Or.inl rfl))) (λ_ _ _ _=>(sW (PW.pt (sJ (aU Du (pv 0) (pv 1) (by with_unfolding_all rfl)) (nC (aU Du (ak gY T.Wh hr (ae (pv 0))) (pv 1) (by with_unfolding_all rfl))))))) (λ_ _ _ _=>(pv 0))) (dP bL) (aW _)) (ah Z2 (aj (eT (cw K rfl Qbh Qch Qcg eZ (pv 2) (ae (pv 3)))))) bO))))
   (ah Z3 (aj (aI (pv 2))))))),?_⟩
 obtain ⟨p,D,sm,rfl,hp,hl,hw,hsm,q⟩:=h
 walk_at"i"
 refine ⟨Qat _,λpf Ug=>?_⟩
 have s1:=ay.upd (o:= .lst []) Ug
 have rY:=s1 _ _ hp
 refine ⟨_,rfl,p,rfl,⟨_,bu.of rY⟩,?_⟩
 refine let jb:Nat->L2.St->Hp->Prop:=(λi σ H'=>∃wv:Option V,σ=[some (.ref p),some (.str (S sm)),some (.ref pf),wv]/\H' pf=some (.lst (ck (NB sm (D.take i))))/\ay H H');iL (K:=K) (a:=p) (xs:=ck D) jb ⟨none,rfl,aa,s1⟩ (λi σ H' _ ⟨_,_,_,g⟩=>bu.of (g _ _ hp)) ?_ ?_
 ·rintro i x σ H2 hx ⟨wv,rfl,hf,s2⟩
  obtain ⟨w',K2,rfl⟩:=lQ hx
  obtain ⟨w1,w2⟩:=hw w' (Qaf K2)
  have hi:=(P5.mp K2).1
  refine ⟨_,rfl,w',rfl,?_⟩
  refine let vM:Nat->List V->Hp->Prop:=(λj acc H'=>H'=H2/\acc=dY ((w'.take j).filter λc=>!kept sm c));j6 (xs:=dY w') vM (by rw[bo];lia) ⟨rfl,rfl⟩ ?_ ?_
  ·rintro j x acc H3 Nx hj hx mO ⟨rfl,rfl⟩ nx
   obtain ⟨c,hc,rfl⟩:=gD hx
   have lc:=w1 c (Qaf hc)
   have e:=kf (p:=λc=>!kept sm c) hc
   have ek:=eh hsm lc
   refine ⟨⟨rfl,trivial⟩,?_⟩
   by_cases z1:c∈sm
   ·rw[ek,decide_eq_true z1,Bool.true_or,if_neg ∅,Qa9]at e
    exact ⟨_,rfl,_,rfl,c,sm,rfl,rfl,_,rfl,ir (by rw[decide_eq_true z1];rfl) (ir rfl (nx _ _ () ⟨rfl,by rw[e]⟩))⟩
   ·refine ⟨_,rfl,_,rfl,c,sm,rfl,rfl,_,rfl,x5 (by rw[decide_eq_false z1];rfl) ?_⟩
    refine ⟨_,rfl,c,rfl,lc,_,rfl,_,sm,rfl,rfl,_,rfl,?_⟩
    by_cases z2:aC c∈sm
    ·rw[ek,decide_eq_true z2,Qga,if_neg ∅,Qa9]at e
     exact ir (by rw[decide_eq_true z2];rfl) (nx _ _ () ⟨rfl,by rw[e]⟩)
    ·rw[ek,decide_eq_false z1,decide_eq_false z2,if_pos ∅]at e
     exact x5 (by rw[decide_eq_false z2];rfl) ⟨_,rfl,nx _ _ (by simpa using mO) ⟨rfl,by rw[e, <-ft]⟩⟩
  ·rintro acc H3 A mO ⟨rfl,rfl⟩ hA
   rw[ka]
   have ho8:∀c∈w'.filter (λc=>!kept sm c),c<128:=λc hc=>(w1 c (Qag.mp hc).1).lt
   have O4:upd H3 A (.lst (dY (w'.filter λc=>!kept sm c))) A=some (.lst (dY (w'.filter λc=>!kept sm c))):=aa
   have sA:=ay.upd (o:= .lst (dY (w'.filter λc=>!kept sm c))) hA
   have Uh:=sA _ _ hf
   have s3:=s2.trans sA
   generalize upd H3 A (.lst (dY (w'.filter λc=>!kept sm c)))=H4 at O4 Uh s3 ⊢
   refine ⟨Qat _,λp0 n0=>?_⟩
   have ZY:(PyData.list (Ah (ones (w'.filter λc=>!kept sm c)))).depth<=60:=by show PyData.depthAll (Ah (ones (w'.filter λc=>!kept sm c)))+1<=60;rw[p7];decide
   have s4:=s3.trans (ay.upd (o:= .lst []) n0)
   have XQ:=(ay.upd (o:= .lst []) n0) _ _ Uh
   refine ⟨.list (Ah (ones (w'.filter λc=>!kept sm c))),.list [],.lst (bu.of (by rw[aq (az O4 n0),O4,I_])) (iS _),.lst (bu.of aa) .nil,⟨yf (ML ho8),rfl⟩,ZY,?_⟩
   generalize upd H4 p0 (.lst [])=H5 at s4 XQ ⊢
   have gu:∀b:Bool,w'.all (kept sm)=b->NB sm (D.take (i+1))=NB sm (D.take i)++if b=true then [w'] else []:=λb e=>by
    unfold NB
    rw[<-take_snoc K2,Qb3,Qfb,List.filter_nil,e]
   have jR:(NB sm (D.take i):)<=100:=Qbb (Qcz _ _) (by rw[Qad];lia)
   cases hq:w'.filter (λc=>!kept sm c) with
   | nil=>
    have ha:w'.all (kept sm)=true:=Qb8.mpr λc hc=>by
     have:=List.filter_eq_nil_iff.mp hq c hc
     simpa using this
    refine ⟨_,rfl,x5 rfl ?_⟩
    refine ⟨_,rfl,.inl ⟨rfl,_,bu.of XQ⟩,_,rfl,pf,_,_,rfl,rfl,XQ,by rw[aX];lia,?_⟩
    refine ⟨_,rfl,by rw[aa,gu true ha,if_pos rfl];exact congrArg _ (congrArg _ (nY _ _)),λa o ea=>by rw[aq (az ea Ug)];exact s4 a o ea⟩
   | cons c r=>
    have ha:w'.all (kept sm)=false:=by
     rw[List.all_eq_false]
     have hc:c∈w'.filter λc=>!kept sm c:=by rw[hq];exact Xh
     have:=Qag.mp hc
     exact ⟨c,this.1,by simpa using this.2⟩
    refine ⟨_,rfl,ir rfl ?_⟩
    exact ⟨_,rfl,by rw[gu false ha,if_neg ∅,Qa9];exact XQ,s4⟩
 ·rintro σ H2 ⟨wv,rfl,hf,s2⟩
  rw[aX,Qbs]at hf
  exact ⟨_,rfl,q pf H2 Ug hf s2⟩
theorem nj:bD P w K mg base eM 6 S6 TR ["yard"] (uG K):=by
 walk_at"t"
 have kY:=sF (P:=P) (w:=w) (base:=base) T
 refine T.T_.fn.ok C3 (λvs H Q E h=>AO h) (λ_ _ _ _ H vs Q E hr h=>?_)
 refine ⟨_,(aj (aI (aF fq (aF cq (aF br (aQ bB rfl T.z_len Qbr (ae (ak fI T.F2 hr (ae (pv 0))))) ao) (cM K T.z_len (ak kY T.T9 hr (ae (pv 0))))) ao))),?_⟩
 obtain ⟨y,rfl,hy,h2,h8,q⟩:=h
 walk_at"i"
 walk_at"A"
 refine ⟨_,rfl,y,rfl,zl,(),λl' H1 xq _ s1=>?_⟩
 have hlen:=xq.length_eq
 have hh:=fz hy
 walk_at "wk"
 intro p L H2 hr hp hpL s2
 refine ⟨p,_,rfl,.inl (bu.of hpL),_,_,rfl,rfl,_,_,rfl,rfl,⟨∅,∅⟩,?_⟩
 have e:((l':):Int)=((y:):Int) / 2:=by lia
 rw[aX,e]
 exact q L _ hr (s1.trans s2)
theorem NL:bD P w K mg base eM 7 S8 TV ["yard"] (ED K):=by
 walk_at"t"
 have fT:=nj (P:=P) (w:=w) (base:=base) T
 refine T.F37.fn.ok NH (λvs H Q E h=>KA h) (λ_ _ _ _ H vs Q E hr h=>?_)
 refine ⟨_,(aj (aI (aF cq (aF cq (aF mR ao (aQ bB rfl T.z_len Qbr (ae (ak fI T.F2 hr (ae (pv 0)))))) ao) (ak fT T.T_ hr (ae (pv 0)))))),?_⟩
 obtain ⟨y,rfl,hy,h2,h8,q⟩:=h
 walk_at"i"
 walk_at"A"
 refine ⟨_,rfl,y,rfl,zl,(),λl' H1 xq _ s1=>?_⟩
 have hlen:=xq.length_eq
 have hh:=fz hy
 walk_at "wk"
 intro L H2 hr s2
 have e:((l':):Int)=((y:):Int) / 2:=by lia
 refine ⟨_,_,rfl,rfl,?_⟩
 show Q (.int (2*((l':):Int) - 1 - _)) H2
 rw[e]
 exact q L _ hr (s1.trans s2)
theorem vS:bD P w K mg base eM 7 Tf T6 ["_law_yard_here","_law_names","_law_k"] (mI K):=by
 have gX:=qG (P:=P) (w:=w) (base:=base) T
 have eX:=qY (P:=P) (w:=w) (base:=base) T
 have gY:=lW (P:=P) (w:=w) (base:=base) T
 have kY:=sF (P:=P) (w:=w) (base:=base) T
 have fT:=nj (P:=P) (w:=w) (base:=base) T
 refine T.F45.fn.ok eS (λvs H Q E h=>uQ h) (λ_ _ _ _ H vs Q E hr h=>?_)
 refine let Z6:TS:=_;let Z5:TS:=_;let Z4:TS:=_;let Z3:TS:=_;let Z2:TS:=_;let Z1:TS:=_;let Z0:TS:=_;⟨_,(ag (xt (cW (ai (ak gX T.F4 hr (ai (pv 0) (ae (cg q_ (pv 1) d_ (b9 (pv 2)))))) (ae (ak gX T.F4 hr (ai (pv 0) (ae (cg q_ (pv 1) d_ (b9 (aF cq (pv 2) ao))))))))) (ji (n:=2) K rfl rfl (cJ (aL (i:=3) eS.nd rfl (Or.inl rfl)) (cJ (aL (i:=4) eS.nd rfl (Or.inr rfl)) jg))))
   (ah Z0 (ag (HA (i:=5) ["_law_word","_law_there"] [none,some 4] eS.nd rfl (Or.inl rfl) (dA K rfl (ak eX T.RF hr (ae (pv 3)))) ⟨⟨rfl,rfl,by first | exact .inl rfl | exact .inr rfl⟩,trivial⟩ (λ_ _ _ _=>(aL (i:=0) (by decide+kernel:List.Nodup (["_law_word","_law_there"]:List Str)) rfl (Or.inl rfl))) (λ_ _ _ _=>(sW (aU (rP K rfl) (pv 0) (ak eX T.RF hr (ae (pv 1))) (by with_unfolding_all rfl)))) (λ_ _ _ _=>(pv 0)))
   (ah Z1 (ag (cV (Bi (je (aQ (pU K rfl rfl) rfl T.z_all boot_all (ae (cL ["_law_word","_law_names","_law_k"] [none,some 1,some 2] (dA K rfl (pv 5)) ⟨⟨rfl,rfl,by first | exact .inl rfl | exact .inr rfl⟩,⟨⟨rfl,rfl,by first | exact .inl rfl | exact .inr rfl⟩,trivial⟩⟩ (λ_ _ _ _=>(aL (i:=0) (by decide+kernel:List.Nodup (["_law_word","_law_names","_law_k"]:List Str)) rfl (Or.inl rfl))) (λ_ _ _ _=>iq) (λ_ _ _ _=>(Uv (de xN (ba nJ (pv 1) (aF cq (pv 2) ao) (λ_ _=>rfl)) (pv 0) (by with_unfolding_all rfl)) (Bj (de xN (ak gY T.Wh hr (ae (ba nJ (pv 1) (aF cq (pv 2) ao) (λ_ _=>rfl)))) (pv 0) (by with_unfolding_all rfl)))))))))) (ah Z2 (aj (aI jV))) bO)
   (ah Z3 (ag (aB (i:=6) eS.nd (aF cq (cM K T.z_len (ak kY T.T9 hr (ae (pv 3)))) (cM K T.z_len (ak kY T.T9 hr (ae (pv 4))))))
   (ah Z4 (ag (cV (PW.pt (zq (aU (rP K rfl) (pv 6) (cW (ai ao (ae (vZ pH ao)))) (by with_unfolding_all rfl)) (sI (aU HF (cM K T.z_len (pv 5)) (ba (bY K rfl) (dP (ai ao (ae ao))) (cX pL rfl T.z_int boot_int (ae (de pT (pv 6) ao (aW _)))) (λ_ _=>rfl)) (aW _))))) (ah Z5 (aj (aI jV))) bO)
   (ah Z6 (aj (aI (de pT (aF cq (ak fT T.T_ hr (ae (pv 3))) (ak fT T.T_ hr (ae (pv 4)))) (cX pL rfl T.z_int boot_int (ae (de pT (pv 6) (vZ pH ao) (aW _)))) (aW _)))))))))))))),?_⟩
 obtain ⟨y,nm,k,rfl,hy,h8,lO,rG,k1,hk,hT,q⟩:=h
 walk_at"i"
 have s:=bV.of hy lO
 walk_at"A"
 have hh:=fz hy
 have hnl:=lO.length_eq
 obtain ⟨a,ha⟩:∃a,nm[k]? =some a:=⟨nm[k],P4 hk⟩
 have si:=Qaf ha
 have has:=s.eE a si
 have CO:=s.aY a si
 have e0:cut nm none (some ((k:Nat):Int))=nm.take k:=fP nm k
 have e1:cut nm none (some ((k+1:Nat):Int))=nm.take (k+1):=fP nm (k+1)
 have s0:=s.take k
 have ZZ:=s.take (k+1)
 have Wy:=hy.within s0.eE
 have Ij:=hy.within ZZ.eE
 have l0:=s0.len hy
 have l1:=ZZ.len hy
 rw[Qad,Qa8 ()]at l0 l1
 have Wz:=i9 hy s ha
 have Vl:=λv=>FL.last (v:=v) hy s ha k1
 have mC:a∈y.filter (kept (nm.take (k+1))):=Qag.mpr ⟨CO,by rw[eh ZZ.eE (hy.lt a CO), <-take_snoc ha];simp⟩
 refine ⟨_,rfl,_,rfl,_,rfl,_,rfl,nm,rfl,(),y,_,rfl,zl,(),λH1 s1=>?_⟩
 rw[e1]
 refine ⟨_,rfl,_,rfl,_,rfl,_,_,rfl,rfl,_,rfl,nm,rfl,(),y,_,rfl,zl,(),λH2 s2=>?_⟩
 rw[show ((k+1:Nat):Int) - 1=(k:Int) by lia,e0]
 refine ⟨by show 2<=sizeLine;lia,λpt LB=>?_⟩
 have part0:∀ws,fi (y.filter (kept (nm.take k))) ws->∀v,v∈ws↔FL y nm k v:=λws h=>h.part (D:=[]) hy lO rG ()
 have part1:∀ws,fi (y.filter (kept (nm.take (k+1)))) ws->∀v,v∈ws↔FL y nm (k+1) v:=λws h=>h.part (D:=[]) hy lO rG ()
 have RM:∀us,Parts (y.filter (kept (nm.take k))) us->∃N:List c5,N.Nodup/\(∀v,v∈N↔FL y nm k v)/\2*N.length+3=3*k+(us:):=λus p=>by
  obtain ⟨j,rfl⟩:∃j,k=j+1:=⟨k - 1,()⟩
  exact qw hy s () p
 generalize y.filter (kept (nm.take (k+1)))=z1 at*
 generalize y.filter (kept (nm.take k))=z0 at*
 refine ⟨pt,_,rfl,dH.of aa,rfl,_,_,rfl,_,_,rfl,rfl,?_⟩
 have s3:=(s1.trans s2).trans (ay.upd (o:= .tup [.str (S z1),.str (S z0)]) LB)
 generalize upd H2 pt (.tup [.str (S z1),.str (S z0)])=H3 at s3 ⊢
 refine ⟨_,rfl,z1,rfl,Ij,(),(),hT.same s3,λt1 D1 H4 sA NM WA EF vf Uh=>?_⟩
 have p1:=part1 D1 vf
 have sw1:=vf.sw Ij
 refine ⟨t1,rfl,⟨_,bu.of EF⟩,?_⟩
 refine let jb:Nat->List V->Hp->Prop:=(λi acc H'=>bQ (BS K) H4 H'/\bS K H'/\acc=ck ((D1.take i).filter λv=>!KG y nm k v));gG (K:=K) (a:=t1) (xs:=ck D1) jb (by rw[aX];lia) (λi acc H' h=>bu.of (h.1.get EF)) ⟨bQ.refl _,NM,rfl⟩ ?_ ?_
 ·rintro i x acc H5 Nx hi hx mO ⟨s5,RN,rfl⟩ nx
  obtain ⟨v,hv,rfl⟩:=lQ hx
  refine ⟨⟨rfl,trivial⟩,_,rfl,_,rfl,z0,rfl,Wy,(),(),RN,λt0 D0 H6 sB Gz nt0 ht0 Zf hf0=>?_⟩
  refine ⟨t0,_,rfl,.inl (bu.of ht0),rfl,AW _,_,rfl,?_⟩
  have fb:=KH (part0 D0 Zf) v
  have s6:=s5.trans sB
  by_cases z:v∈D0
  ·refine ir (by rw[uI,decide_eq_true z];rfl) (nx _ _ () ⟨s6,Gz,?_⟩)
   rw[<-take_snoc hv,Qb3,Qfb,fb,decide_eq_true z]
   simp
  ·refine x5 (by rw[uI,decide_eq_false z];rfl) ⟨_,rfl,nx _ _ (by simpa using mO) ⟨s6,Gz,?_⟩⟩
   rw[<-take_snoc hv,Qb3,Qfb,fb,decide_eq_false z]
   exact nY _ _
 ·rintro acc H5 A mO ⟨s5,RN,rfl⟩ hA
  rw[aX,Qbs]
  have hM:∀v∈D1.filter (λv=>!KG y nm k v),a∈v\/aC a∈v:=λv hv=>by
   obtain ⟨h1,h2⟩:=Qag.mp hv
   exact (Vl v ((p1 v).mp h1)).resolve_left (RC (by simpa using h2))
  have hMl:∀v∈D1.filter (λv=>!KG y nm k v),(∀c∈v,c<128)/\(v:)<=8:=λv hv=>by
   have:=sw1 v (Qag.mp hv).1
   exact ⟨mq λc hc=>Ij.lt c (this.1.aY c hc),()⟩
  have hdl:∀us ws,Parts z0 us->Parts z1 ws->(ws:)=(us:)+1\/(us:)=(ws:)+1:=λus ws pu pw=>by
   obtain ⟨We,Ku,e⟩:=AV Ij () mC pw
   rw[Wz]at Ku
   have:=(Ku.perm Wy () pu).length_eq
   rw[Xi,Xi]at this
   lia
  have hMc:∀us ws,Parts z0 us->Parts z1 ws->2*((D1.filter λv=>!KG y nm k v):)+(us:)=3+(ws:):=λus ws pu pw=>by
   obtain ⟨N,nN,mN,cN⟩:=RM us pu
   have t:=Kx nN vf.nd λv hv=>(p1 v).mpr (((mN v).mp hv).mono (Qcx _))
   have e:(D1.filter λv=>!KG y nm k v)=D1.filter λv=>!decide (v∈N):=Qdl λv _=>by rw[KH mN]
   have m1:=vf.many Ij () pw
   rw[e]
   lia
  have hMf:((D1.filter λv=>!KG y nm k v):)<=100:=Qbb (Qcz _ _) Uh
  generalize (D1.filter λv=>!KG y nm k v)=M at*
  have O4:upd H5 A (.lst (ck M)) A=some (.lst (ck M)):=aa
  have sX:bQ (BS K) H (upd H5 A (.lst (ck M))):=((bQ.of s3).trans (sA.trans s5)).trans (.of (ay.upd hA))
  have Gz:=RN.same (ay.upd (o:= .lst (ck M)) hA)
  clear mO s5 RN EF WA NM sA
  generalize upd H5 A (.lst (ck M))=H6 at O4 sX Gz ⊢
  have hnk:q8 nm (((k+1:Nat):Int) - 1)=some a:=by rw[show ((k+1:Nat):Int) - 1=((k:Nat):Int) by lia];exact cR ha
  refine ⟨_,rfl,A,rfl,⟨_,bu.of O4⟩,?_⟩
  refine let vM:Nat->List V->Hp->Prop:=(λi acc H'=>ay H6 H'/\acc=(List.replicate i true).map V.bl);gG (K:=K) (a:=A) (xs:=ck M) vM (by rw[aX];lia) (λi acc H' h=>bu.of (h.1 _ _ O4)) ⟨ay.refl _,rfl⟩ ?_ ?_
  ·rintro i x acc H7 Nx hi hx mO ⟨s7,rfl⟩ nx
   obtain ⟨v,hv,rfl⟩:=lQ hx
   have hav:=hM v (Qaf hv)
   refine ⟨⟨rfl,rfl,trivial⟩,fV ?_⟩
   refine ⟨_,rfl,_,rfl,_,_,rfl,rfl,nm,_,_,rfl,rfl,(),hnk,_,rfl,a,v,rfl,rfl,?_⟩
   refine ⟨_,rfl,?_⟩
   by_cases z:a∈v
   ·exact x5 (decide_eq_true z) (nx _ _ (by simpa using mO) ⟨s7,nX _⟩)
   ·refine ir (decide_eq_false z) ?_
    refine ⟨_,rfl,_,rfl,_,_,rfl,rfl,nm,_,_,rfl,rfl,(),hnk,a,rfl,hy.lt a CO,_,rfl,aC a,v,rfl,rfl,?_⟩
    rw[decide_eq_true (hav.resolve_left z)]
    exact nx _ _ (by simpa using mO) ⟨s7,nX _⟩
  ·rintro acc H7 B mO ⟨s7,rfl⟩ hB
   refine ⟨B,_,rfl,bu.of aa,?_⟩
   rw[x8]
   have s8:=s7.trans (ay.upd (o:= .lst ((List.replicate (ck M:) true).map V.bl)) hB)
   have sY:=sX.trans (.of s8)
   have hT8:=Gz.same s8
   have hA8:=s8 _ _ O4
   generalize upd H7 B (.lst ((List.replicate (ck M:) true).map V.bl))=H8 at sY hT8 hA8 ⊢
   refine ⟨_,rfl,ir rfl ?_⟩
   refine ⟨_,rfl,z1,rfl,Ij,(),(),λpr1 L1 H9 Lp nr1 rY s9=>?_⟩
   refine ⟨pr1,_,rfl,.inl (bu.of rY),_,rfl,z0,rfl,Wy,(),(),λpr0 L0 O5 hr0 nr0 Z_ LC=>?_⟩
   refine ⟨pr0,_,rfl,.inl (bu.of Z_),_,_,rfl,rfl,?_⟩
   rw[aX,aX]
   obtain ⟨ws,pw,ew,_⟩:=Lp
   obtain ⟨us,pu,eu,_⟩:=hr0
   have q1:=ew.length_eq
   have q0:=eu.length_eq
   rw[Xi]at q1 q0
   have c1:=hMc us ws pu pw
   have c2:=hdl us ws pu pw
   have Be:=s9.trans LC
   have sZ:=sY.trans (.of Be)
   have aaa:=hT8.same Be
   have aab:=Be _ _ hA8
   have hg:(L1.length:Int) - (L0.length:Int)=1\/(L1.length:Int) - (L0.length:Int)= -1:=by lia
   have OC:M.length=if (L1.length:Int) - (L0.length:Int)=1 then 2 else 1:=by split<;>lia
   have hh1:((((z1:):Int) / 2)+1 - (L1.length:Int)) / 2 - ((((z0:):Int) / 2)+1 - (L0.length:Int)) / 2=if (L1.length:Int) - (L0.length:Int)= -1 then 1 else 0:=by split<;>lia
   refine ⟨_,rfl,_,rfl,by show 2<=sizeLine;lia,λp3 n3=>?_⟩
   refine ⟨p3,_,rfl,.inr (dH.of aa),rfl,rfl,_,rfl,?_⟩
   have aac:Lj (.int ((L1.length:Int) - (L0.length:Int))) [V.int 1,V.int (-1)]=true:=by rcases hg with e | e<;>rw[e]<;>rfl
   refine ir (by show (!Lj (V.int ((L1.length:Int) - (L0.length:Int))) [V.int 1,V.int (-1)])=false;rw[aac];rfl) ?_
   have Bf:=ay.upd (o:= .tup [.int 1,.int (-1)]) n3
   have sZ2:=sZ.trans (.of Bf)
   have WB:=aaa.same Bf
   have WC:=Bf _ _ aab
   change Oc _ _ (upd O5 p3 (.tup [.int 1,.int (-1)])) _
   generalize upd O5 p3 (.tup [.int 1,.int (-1)])=WD at sZ2 WB WC ⊢
   refine ⟨_,rfl,A,_,rfl,.inl (bu.of WC),by show 2<=sizeLine;lia,λp4 n4=>?_⟩
   have Ub:q8 [V.int 1,V.int 2] (if decide ((L1.length:Int) - (L0.length:Int)=1)=true then (1:Int) else 0)=some (V.int (M.length:Int)):=by
    rw[OC]
    rcases hg with e | e<;>rw[e]<;>rfl
   refine ⟨_,rfl,_,_,rfl,rfl,.inr ⟨_,rfl,p4,_,_,_,rfl,rfl,bu.of aa,Ub,?_⟩⟩
   have K3:=ay.upd (o:= .lst [.int 1,.int 2]) n4
   have sZ3:=sZ2.trans (.of K3)
   have A6:=WB.same K3
   refine ⟨_,_,rfl,rfl,_,rfl,ir (by rw[aX,decide_eq_true rfl];rfl) ?_⟩
   generalize upd WD p4 (.lst [.int 1,.int 2])=H13 at sZ3 A6 ⊢
   refine ⟨_,rfl,z1,rfl,Ij,(),(),λLa H14 ra K4=>?_⟩
   refine ⟨_,rfl,z0,rfl,Wy,(),(),λLb WE rb NN=>?_⟩
   have one:∀{z:c5} {X:List c5} {vs:List c5},Yd z->2<=(z:)->Parts z vs->eG z X->X.length=(vs:):=λ{z X vs} yz z2 pv rx=>by
    obtain ⟨wa,pa,ea,_⟩:=rx
    have e1:=ea.length_eq
    have e2:=(pa.perm yz z2 pv).length_eq
    rw[Xi]at e1 e2
    rw[Xi]at e2
    lia
   have ea:=one Ij () pw ra
   have eb:=one Wy () pu rb
   have sZ5:=sZ3.trans (.of (K4.trans NN))
   have NO:=(A6.same K4).same NN
   refine ⟨_,_,rfl,rfl,_,rfl,_,rfl,?_⟩
   refine ⟨_,_,rfl,rfl,.inr ⟨_,rfl,_,_,rfl,rfl,?_⟩⟩
   have e:decide (((((z1:):Int) / 2)+1 - (La.length:Int)) / 2 - ((((z0:):Int) / 2)+1 - (Lb.length:Int)) / 2=(if decide ((L1.length:Int) - (L0.length:Int)= -1)=true then (1:Int) else 0))=true:=by
    refine decide_eq_true ?_
    rw[ea,eb, <-q1, <-q0,hh1]
    rcases hg with e | e<;>rw[e]<;>rfl
   have:=q WE sZ5 NO
   rw[<-e]at this
   exact this
theorem o5:bD P w K mg base eM 2 SD Tj ["some"] (h_ K):=by
 have vb:=rH (P:=P) (w:=w) (base:=base) T
 have A7:=yZ (P:=P) (w:=w) (base:=base) T
 refine T.F11.fn.ok bM (λvs H Q E h=>m6 h) (λ_ _ _ _ H vs Q E hr h=>?_)
 refine let Z8:TS:=_;let Z7:TS:=_;let Z6:TS:=_;let Z5:TS:=_;let Z4:TS:=_;let Z3:TS:=_;let Z2:TS:=_;let Z1:TS:=_;let Z0:TS:=_;⟨_,(ag (aB (i:=1) bM.nd (ak vb T.F9 hr (ae (pv 0))))
   (ah Z0 (ag (aB (i:=2) bM.nd (dP bL))
   (ah Z1 (ag (aB (i:=3) bM.nd ao)
   (ah Z2 (ag (cF PassesOwn.never rfl (dA K rfl (aQ (vE rfl) rfl T.z_sorted boot_sorted (ae (pv 1)))) (aL (i:=4) bM.nd rfl (Or.inl rfl)) (ah Z3 (aj (cV (aU pT (rQ (me hr) (pv 1) (pv 4) (λ_ _=>rfl)) (pv 4) (aW _)) (ah Z4 (aj (eT (cw K rfl Qbh Qch Qcg eZ (pv 2) (ae (pv 4)))))) (ah Z5 (ag (aB (i:=5) bM.nd (ak A7 T.F10 hr (ai (pv 2) (ae (rQ (me hr) (pv 1) (pv 4) (λ_ _=>rfl))))))
   (ah Z6 (ag (eT (cw K rfl Qbh Qec Qeb sS (pv 2) (ae (pv 5))))
   (ah Z7 (aj (jW (i:=3) bM.nd rfl (Or.inl rfl) (aF cq (cM K T.z_len (pv 2)) (pv 5)) xu)))))))))))
   (ah Z8 (aj (aI (pv 3))))))))))),?_⟩
 obtain ⟨a,qs,rfl,ha,hq,hn,nd,q⟩:=h
 have hs:=Zs1
 refine ⟨_,rfl,a,qs,rfl,ha,hq,(),nd,λd H1 nd1 hd s1=>?_⟩
 have hcs:(qs.map Q4.v:)<=24:=by rw[Xi];exact hn
 generalize qs.map Q4.v=cs at nd hd q hcs
 have kl:=AE cs
 have cl':(fG cs:)=2*(cs:):=by
  have:=congrArg List.length (iZ cs)
  rw[Xi,Xi]at this
  lia
 walk_at "wk"
 intro b nb
 have hbd:d≠b:=az hd nb
 have hd2:L2.upd H1 b (.lst []) d=some (.dK (g9 cs)):=by rw[aq hbd];exact hd
 have sb:=ay.upd (o:= .lst []) nb
 refine ⟨_,rfl,d,_,(fG cs).map λn:Nat=>(n:Int),rfl,hd2,by rw[iZ,Qcd];rfl,by rw[Xi];lia,λp2 ms n2 tQ rG=>?_⟩
 obtain ⟨P,eP,pP,uP⟩:=CD nd tQ rG
 rw[eP]
 have ch:=Rj nd pP uP
 have lP:P.length<=2000:=by rw[pP.length_eq];lia
 have h2b:p2≠b:=λz=>by rw[z,aa]at n2;cases n2
 have s2:=sb.trans (ay.upd (o:= .lst (ins P)) n2)
 refine ⟨p2,rfl,⟨_,bu.of aa⟩,?_⟩
 refine let jb:Nat->L2.St->Hp->Prop:=(λk σ H'=>∃(m:Nat) (pv nv:Option V),σ=[some (.ref a),some (.ref d),some (.ref b),some (.int m),pv,nv]/\H' b=some (.lst (ins (rZ (dj cs) (P.take k) (P.drop k))))/\m+Lz (dj cs) (P.take k) (P.drop k)=Lz (dj cs) [] P/\bA b (L2.upd (L2.upd H1 b (.lst [])) p2 (.lst (ins P))) H');iL (K:=K) (a:=p2) (xs:=ins P) jb
  ⟨0,none,none,rfl,by rw[aq (Ne.symm h2b),aa];rfl,by rw[Qd2];rfl,bA.refl _ _⟩ (λk σ H' _ ⟨_,_,_,_,_,_,h⟩=>bu.of (h _ _ aa h2b)) ?_ ?_
 ·rintro k x σ H3 hx ⟨m,pv,nv,rfl,hb,hm,s3⟩
  obtain ⟨p,hp,rfl⟩:∃p,P[k]? =some p/\x=V.int (p:Nat):=by
   unfold ins at hx
   rw[Qau]at hx
   cases e:P[k]? with
   | none=>rw[e]at hx;cases hx
   | some p=>rw[e]at hx;cases hx;exact ⟨p,rfl,rfl⟩
  have hk:k<P.length:=(P5.mp hp).1
  have hpc:p∈fG cs:=pP.mem_iff.mp (Qaf hp)
  have hsv:=Rl nd hpc
  have hd3:H3 d=some (.dK (g9 cs)):=s3 _ _ (s2 _ _ hd) hbd
  have eP2:P=P.take k++p::P.drop (k+1):=by
   have:=Qaw k P
   rw[Qb0 hk,(P5.mp hp).2]at this
   exact this.symm
  have edr:P.drop k=p::P.drop (k+1):=by rw[Qb0 hk,(P5.mp hp).2]
  have WG:P.take (k+1)=P.take k++[p]:=(take_snoc hp).symm
  have bl:(rZ (dj cs) (P.take k) (P.drop k):)<=2000:=Qbb Nd (by rw[Qad];lia)
  have rz:=JU (st:=dj cs) hp
  refine ⟨_,rfl,_,rfl,d,_,rfl,by rw[<-hsv];exact nR.k (k:=Sum.inl (p:Int)) hd3,?_⟩
  walk_at "rd"
  walk_at"g"
  ·have z1:dj cs p=p:=by have:=of_decide_eq_true z;lia
   refine ⟨_,rfl,.inl ⟨rfl,_,bu.of hb⟩,_,rfl,b,_,_,rfl,rfl,hb,by rw[oG];lia,?_⟩
   refine ⟨m,_,_,rfl,?_,?_,s3.trans (bA.upd _ _ _)⟩
   ·rw[aa,JQ,WG,JM ch eP2 z1, <-edr]
   ·have e0:FZ (dj cs) (P.take k) (P.drop (k+1)) p=0:=by unfold FZ;rw[if_pos z1]
    lia
  ·have z1:dj cs p≠p:=λw=>z (decide_eq_true (by rw[w]))
   obtain ⟨en,em⟩:=Rg ch eP2 z1
   rw[<-edr]at en em
   have up:=Rk (st:=dj cs) uP (Qaw k P).symm (P.drop k)
   have BC:=Qae em
   refine ⟨_,rfl,_,rfl,_,rfl,d,_,rfl,by rw[<-hsv];exact nR.k (k:=Sum.inl (p:Int)) hd3,b,_,dj cs p,rfl,hb,up,em,(),?_⟩
   refine ⟨_,rfl,.inl ⟨rfl,_,bu.of hb⟩,_,rfl,b,_,_,_,_,rfl,rfl,hb,(),(),?_,JR (P4 BC),?_⟩
   ·rw[oG]
    exact V5 BC
   have ee:(ins (rZ (dj cs) (P.take k) (P.drop k))).eraseIdx ((rZ (dj cs) (P.take k) (P.drop k)).idxOf (dj cs p))=ins (rZ (dj cs) (P.take (k+1)) (P.drop (k+1))):=by
    rw[WG,en, <-JT em]
    exact xa _ _
   rw[ee]
   refine ⟨_,rfl,_,rfl,b,_,rfl,.inl (bu.of aa),?_⟩
   walk_at "rd"
   have bh:=behind up em
   have lb:(rZ (dj cs) (P.take (k+1)) (P.drop (k+1)):)=((rZ (dj cs) (P.take k) (P.drop k)).erase (dj cs p):):=by rw[WG,en]
   have le:((rZ (dj cs) (P.take k) (P.drop k)).erase (dj cs p):)+1=(rZ (dj cs) (P.take k) (P.drop k):):=by rw[List.length_erase_of_mem em];lia
   have ec:FZ (dj cs) (P.take k) (P.drop (k+1)) p=(((rZ (dj cs) (P.take k) (P.drop k)).filter λx=>decide (dj cs p<x)):):=by unfold FZ;rw[if_neg z1,edr]
   have ei:(m:Int)+(((ins (rZ (dj cs) (P.take (k+1)) (P.drop (k+1))):):Nat) - ((rZ (dj cs) (P.take k) (P.drop k)).idxOf (dj cs p):Nat))=((m+FZ (dj cs) (P.take k) (P.drop (k+1)) p:Nat):Int):=by rw[oG];lia
   exact ⟨m+FZ (dj cs) (P.take k) (P.drop (k+1)) p,some (.int p),some (.int ((rZ (dj cs) (P.take k) (P.drop k)).idxOf (dj cs p):Nat)),by rw[<-ei];rfl,aa,(),s3.trans (bA.upd _ _ _)⟩
 ·rintro σ H3 ⟨m,pv,nv,rfl,hb,hm,s3⟩
  rw[oG,List.drop_length,Qbs]at hm
  have GJ:m=Lz (dj cs) [] P:=hm
  refine ⟨_,rfl,?_⟩
  rw[GJ,V4 ch]
  exact q H3 λc o e=>s3 c o (s2 c o (s1 c o e)) (az e (ay.free s1 nb))
theorem vT:bD P w K mg base eM 2 f5 d5 ["yard","drawing","end"] (mz K):=by
 walk_at"t"
 refine T.F5.fn.ok mK (λvs H Q E h=>ui h) (λ_ _ _ _ H vs Q E hr h=>?_)
 refine let Z2:TS:=_;let Z1:TS:=_;let Z0:TS:=_;⟨_,(ag (aB (i:=3) mK.nd (cX (vB K rfl) rfl T.z_list boot_list (ae (ba (bP K rfl) (ba (bP K rfl) (pv 1) ao (λ_ _=>rfl)) (cw K rfl Qa6 Qd1 Qdz lq (ak fI T.F2 hr (ae (pv 0))) (ae (fm K rfl Qa6 Qd0 Qdy nK (pv 2)))) (λ_ _=>rfl)))))
   (ah Z0 (ag (cV (je (fm K rfl Qa6 PySem.F.slot_str_isupper PySem.F.type_str_isupper BG (pv 2))) (ah Z1 (aj (eT (fm K rfl Qbh PySem.F.slot_list_reverse PySem.F.type_list_reverse Bz (pv 3))))) bO)
   (ah Z2 (aj (aI (pv 3))))))),?_⟩
 obtain ⟨y,dr,ws,os,e,rfl,hy,hz,he,ho,hd,q⟩:=h
 have hs:=Zs1
 walk_at"A"
 have he8:=zl e he
 obtain ⟨⟨wt,ot,d1,d2,d3⟩,dO⟩:=hd
 obtain ⟨o,o1,o2,o3⟩:=kD hy he ho
 refine ⟨_,rfl,dr,_,1,_,rfl,rfl,dH.of d1,rfl,?_⟩
 refine ⟨_,rfl,y,rfl,zl,(),λl' H1 xq Ba s1=>?_⟩
 have el:=Ec xq Ba
 subst el
 refine ⟨rfl,_,rfl,rfl,e,rfl,rfl,he8,?_⟩
 refine ⟨gF y,_,rfl,rfl,Jx hy he,?_⟩
 refine ⟨ot,_,_,_,rfl,rfl,dH.of (s1 _ _ d3),cR (Q_ o2),?_⟩
 refine ⟨o.o,_,rfl,.inr (dH.of (s1 _ _ (dO o o1).tp)),λp1 n1=>?_⟩
 refine ⟨_,rfl,rfl,e,rfl,rfl,he8,_,rfl,eN (λz=>?_) (λz=>?_)⟩
 ·refine ⟨_,rfl,.inl ⟨rfl,_,bu.of aa⟩,p1,_,rfl,rfl,aa,?_⟩
  refine ⟨_,rfl,q p1 _ (ay.free s1 n1) ?_ ?_⟩
  ·rw[aa,M6]
   unfold rX
   rw[if_pos z,o3]
  ·exact λa u ea=>by rw[aq (az ea (ay.free s1 n1)),aq (az ea (ay.free s1 n1))];exact s1 a u ea
 ·refine ⟨_,rfl,q p1 _ (ay.free s1 n1) ?_ (s1.trans (ay.upd n1))⟩
  rw[aa]
  unfold rX
  rw[if_neg z,o3]
theorem GA:bD P w K mg base eM 3 f6 d6 ["yard","drawing"] (w5 K):=by
 have y7:=vT (P:=P) (w:=w) (base:=base) T
 refine T.F6.fn.ok lT (λvs H Q E h=>Cy h) (λ_ _ _ _ H vs Q E hr h=>?_)
 refine let Z3:TS:=_;let Z2:TS:=_;let Z1:TS:=_;let Z0:TS:=_;⟨_,(ag (aB (i:=2) lT.nd (dP bL))
   (ah Z0 (ag (cF PassesOwn.never rfl (j5 (pv 0)) (aL (i:=3) lT.nd rfl (Or.inl rfl)) (ah Z1 (aj (cF PassesOwn.never rfl (dA K rfl (ak y7 T.F5 hr (ai (pv 0) (ai (pv 1) (ae (pv 3)))))) (aL (i:=4) lT.nd rfl (Or.inl rfl)) (ah Z2 (aj (eT (cw K rfl Qbh Qch Qcg eZ (pv 2) (ae (cW (ai (ba (bP K rfl) (pv 4) ao (λ_ _=>rfl)) (ai (ba (bP K rfl) (pv 4) ao (λ_ _=>rfl)) (ae (pv 3))))))))))))))
   (ah Z3 (aj (aI (pv 2))))))),?_⟩
 obtain ⟨y,dr,ws,os,rfl,hy,hz,ho,hd,q⟩:=h
 have hs:=Zs1
 walk_at "wk"
 intro p1 n1
 refine ⟨_,rfl,y,rfl,?_⟩
 refine let jb:Nat->L2.St->Hp->Prop:=(λi σ H'=>∃(ps:List Pt) (ev sv:Option V),σ=[some (.str (S y)),some (.ref dr),some (.ref p1),ev,sv]/\H' p1=some (.lst (Ly ps))/\(∀p∈ps,vH H' p/\p.t≠p1)/\ps.map Pt.is=(y.take i).flatMap (gA y os)/\(ps:)<=100*i/\bA p1 H H');rN (xs:=dY y) jb ⟨[],none,none,rfl,aa,λ_ h=>absurd h Qan,rfl,Qat _,bA.of (ay.upd n1)⟩ ?_ ?_
 ·rintro i x σ H1 hx ⟨ps,ev,sv,rfl,hp,A9,qX,nk,s1⟩
  obtain ⟨e,he,rfl⟩:=gD hx
  have JG:=Qaf he
  have hi:i<(y:):=(P5.mp he).1
  have RK:ay H H1:=λa u ea=>s1 a u ea (az ea n1)
  refine ⟨_,rfl,_,rfl,_,rfl,y,dr,ws,os,e,rfl,hy,hz,JG,ho,hd.same RK,λp2 H2 n2 mU s2=>?_⟩
  have VS:=M9 (H:=H) hy JG ho hd.od
  refine ⟨p2,rfl,⟨_,bu.of mU⟩,?_⟩
  have h12:p2≠p1:=λz=>by rw[z,hp]at n2;cases n2
  refine let vM:Nat->L2.St->Hp->Prop:=(λj σ H'=>∃(us:List Pt) (sv:Option V),σ=[some (.str (S y)),some (.ref dr),some (.ref p1),some (.str (S [e])),sv]/\H' p1=some (.lst (Ly us))/\H' p2=some (.lst (w4 (rX y os e)))/\(∀p∈us,vH H' p/\p.t≠p1)/\us.map Pt.is=ps.map Pt.is++((rX y os e).take j).map (λp=>(p.c,p.i,e))/\(us:)<=100*i+j/\bA p1 H1 H');iL (K:=K) (a:=p2) (xs:=w4 (rX y os e)) vM
   ⟨ps,sv,rfl,s2 _ _ hp,mU,λp Cf=>⟨(A9 p Cf).1.same s2,(A9 p Cf).2⟩,by simp,(),bA.of s2⟩ (λj σ H' _ ⟨_,_,_,_,h,_⟩=>bu.of h) ?_ ?_
  ·rintro j x σ H3 hx3 ⟨us,sv3,rfl,sE,WH,WI,Gw,NI,s3⟩
   obtain ⟨p,hpj,rfl⟩:=Jz hx3
   obtain ⟨o,oo,po⟩:=M8 hy JG ho (Qaf hpj)
   have hj:j<(rX y os e:):=(P5.mp hpj).1
   have XR:ay H H3:=λa u ea=>s3 a u (RK a u ea) (az ea n1)
   have pk:=(hd.od o oo).pr p po
   have tp:=XR _ _ pk.tp
   refine ⟨_,rfl,.inl ⟨rfl,_,bu.of sE⟩,?_⟩
   refine ⟨_,rfl,p.t,_,0,_,rfl,rfl,dH.of tp,rfl,_,rfl,p.t,_,1,_,rfl,rfl,dH.of tp,rfl,?_⟩
   walk_at "wk"
   intro t nt
   have EF:t≠p1:=λz=>by rw[z,sE]at nt;cases nt
   refine ⟨p1,_,_,rfl,rfl,(ay.upd nt) _ _ sE,by rw[Ed];lia,?_⟩
   refine ⟨us++[⟨t,p.c,p.i,e⟩],_,rfl,by rw[aa];exact congrArg (λx=>some (HO.lst x)) (JB us ⟨t,p.c,p.i,e⟩),by rw[aq h12];exact (ay.upd nt) _ _ WH,λr hr=>?_,?_,by rw[kb];show (us:)+1<=_;lia,λa u ea z=>by rw[aq z];exact (ay.upd nt) _ _ (s3 a u ea z)⟩
   ·rcases Qai.mp hr with z | z
    ·exact ⟨((WI r z).1.same (ay.upd nt)).upd (WI r z).2,(WI r z).2⟩
    ·have e2:=U0.mp z
     subst e2
     exact ⟨vH.upd ⟨aa,pk.cz,pk.iz,(hy.lt e JG).lt⟩ EF,EF⟩
   ·rw[Qao,Gw, <-take_snoc hpj,Qao,Qam]
    rfl
  ·rintro σ H3 ⟨us,sv3,rfl,sE,WH,WI,Gw,NI,s3⟩
   rw[yF]at NI Gw
   refine ⟨us,_,_,rfl,sE,WI,?_,(),λa u ea z=>s3 a u (s1 a u ea z) z⟩
   rw[Gw,qX, <-take_snoc he,Qb4,Qbs,Qbu,Qgd,Qa9]
   rfl
 ·rintro σ H1 ⟨ps,ev,sv,rfl,hp,A9,qX,nk,s1⟩
  rw[bo]at nk qX
  rw[Qbs]at qX
  exact ⟨_,rfl,q p1 ps H1 n1 hp A9 qX () (λa u ea=>s1 a u ea (az ea n1))⟩
theorem qH:bD P w K mg base eM 2 f7 d7 ["word","cord","place"] (iY K):=by
 walk_at"p"
 refine T.F7.fn.ok ja (λvs H Q E h=>oE h) (λ_ _ _ _ H vs Q E hr h=>?_)
 refine let Z0:TS:=_;⟨_,(ag (aB (i:=3) ja.nd (aF gm (aF cq (pv 2) ao) (aQ bB rfl T.z_len Qbr (ae (pv 0)))))
   (ah Z0 (aj (aI (cW (ai (cW (ai (pv 1) (ai (pv 3) (ae (ak bU T.F0 hr (ae (ba nJ (pv 0) (pv 3) (λ_ _=>rfl)))))))) (ae (cW (ai (pv 1) (ai (pv 2) (ae (ba nJ (pv 0) (pv 2) (λ_ _=>rfl))))))))))))),?_⟩
 obtain ⟨w,c,i,rfl,hw8,hi,hz,q⟩:=h
 have hs:=Zs1
 have hp:(0:Int)<((w:):Int):=by lia
 have WJ:=Ee hi
 have nk:=CA hi
 have e1:w.getD (Bb (w:) i) 0=w[Bb (w:) i]:=by rw[Qak,P4 nk];rfl
 have e2:w.getD i 0=w[i]:=by rw[Qak,P4 hi];rfl
 rw[e1,e2]at q
 refine ⟨_,rfl,_,_,rfl,rfl,_,rfl,w,rfl,(),_,_,rfl,rfl,hp,?_⟩
 show vY 3 (V.int (((i:Int) - 1)%((w:):Int))) _ _ _
 rw[WJ]
 refine ⟨_,rfl,_,rfl,_,rfl,_,rfl,w,_,_,rfl,rfl,(),cR (P4 nk),_,rfl,hw8 _ (Qbk nk),by show 3<=sizeLine;decide,λt1 n1=>?_⟩
 refine ⟨_,rfl,_,rfl,_,rfl,_,rfl,w,_,_,rfl,rfl,(),cR (P4 hi),by show 3<=sizeLine;decide,λt2 n2=>?_⟩
 refine ⟨by show 2<=sizeLine;decide,λt nt=>?_⟩
 have h1t:=(ay.upd (o:= .tup [.ref t1,.ref t2]) nt)
 refine q t t1 t2 _ aa (h1t _ _ ((ay.upd n2) _ _ aa)) (h1t _ _ aa) ((ay.upd n1).trans ((ay.upd n2).trans h1t))
theorem C_:bD P w K mg base eM 4 f8 d8 ["yard","drawing"] (uk K):=by
 have K5:=GA (P:=P) (w:=w) (base:=base) T
 have rK:=qH (P:=P) (w:=w) (base:=base) T
 refine T.F8.fn.ok dk (λvs H Q E h=>AA h) (λ_ _ _ _ H vs Q E hr h=>?_)
 refine ⟨_,(ag (aB (i:=2) dk.nd HU)
   (ag (cF PassesOwn.never rfl (HQ K rfl rfl T.z_enumerate (ae (ak K5 T.F6 hr (ai (pv 0) (ae (pv 1)))))) (ji (n:=2) K rfl rfl (cJ (aL (i:=3) dk.nd rfl (Or.inl rfl)) (cJ (aL (i:=4) dk.nd rfl (Or.inl rfl)) jg))) (aj (nS (me hr) (pv 2) (pv 4) (pv 3) rfl)))
   (ag (aB (i:=5) dk.nd (dP bL))
   (ag (cF PassesOwn.never rfl (zU K rfl rfl T.z_enumerate (ae (ba (bP K rfl) (pv 1) ao (λ_ _=>rfl)))) (ji (n:=2) K rfl rfl (cJ (aL (i:=6) dk.nd rfl (Or.inl rfl)) (cJ (aL (i:=7) dk.nd rfl (Or.inl rfl)) jg))) (aj (cF PassesOwn.never rfl (iK rfl T.z_range (ae (aQ bB rfl T.z_len Qbr (ae (pv 7))))) (aL (i:=8) dk.nd rfl (Or.inl rfl)) (ag (aB (i:=9) dk.nd (ak rK T.F7 hr (ai (pv 7) (ai (pv 6) (ae (pv 8))))))
   (aj (eT (cw K rfl Qbh Qch Qcg eZ (pv 5) (ae (cW (ai (pv 6) (ai (pv 8) (ai (rQ (me hr) (pv 2) (ba (bP K rfl) (pv 9) ao (λ_ _=>rfl)) (λ_ _=>rfl)) (ae (rQ (me hr) (pv 2) (ba (bP K rfl) (pv 9) ao (λ_ _=>rfl)) (λ_ _=>rfl)))))))))))))))
   (aj (aI (pv 5))))))),?_⟩
 obtain ⟨y,dr,ws,os,rfl,hy,hz,Bd,XS,hd,q⟩:=h
 have hs:=Zs1
 have Rx:=JE hy XS
 have hbl:=kC hy
 have Ra:=XS.1
 have hwf:=Bd.jR
 obtain ⟨⟨wt,ot,d1,d2,d3⟩,dO⟩:=id hd
 walk_at "wk"
 intro d nd
 refine ⟨_,rfl,_,rfl,y,dr,ws,os,rfl,hy,hz,(),hd.same (ay.upd nd),λp1 ps H1 n1 rY A9 qX Zt s1=>?_⟩
 have hd1:=s1 _ _ (aa (H:=H) (a:=d) (o:=HO.dT []))
 have RK:ay H H1:=(ay.upd nd).trans s1
 have nk:(ps:)=(nz y os:):=by rw[<-qX,Xi]
 refine ⟨p1,rfl,⟨_,bu.of rY⟩,?_⟩
 have h1d:p1≠d:=λz=>by rw[z,aa]at n1;cases n1
 refine let jb:Nat->L2.St->Hp->Prop:=(λi σ H'=>∃(aJ:List (List Key×V)) (nv pv:Option V),σ=[some (.str (S y)),some (.ref dr),some (.ref d),nv,pv,none,none,none,none,none]/\H' d=some (.dT aJ)/\Nums (nz y os) aJ i/\(aJ:)<=i/\bA d H1 H');E9 (K:=K) (a:=p1) (xs:=Ly ps) jb
  ⟨[],none,none,rfl,hd1,λp hp=>absurd hp (by simp),Qat _,bA.refl _ _⟩ (λi σ H' _ ⟨_,_,_,_,_,_,_,h⟩=>bu.of (h _ _ rY h1d)) ?_ ?_
 ·rintro i x σ H2 T hx ⟨aJ,nv,pv,rfl,hd2,NP,ZV,s2⟩ nT
  obtain ⟨p,hp,rfl⟩:∃p,ps[i]? =some p/\x=V.ref p.t:=by
   unfold Ly at hx
   rw[Qau]at hx
   cases e:ps[i]? with
   | none=>rw[e]at hx;cases hx
   | some p=>rw[e]at hx;cases hx;exact ⟨p,rfl,rfl⟩
  have hi:i<(ps:):=(P5.mp hp).1
  have pk:=(A9 p (Qaf hp)).1.tp
  have hpd:p.t≠d:=λz=>by rw[z,hd1]at pk;cases pk
  have hTd:d≠T:=az hd2 nT
  refine ⟨T,_,rfl,dH.of aa,rfl,_,_,rfl,_,_,rfl,rfl,?_⟩
  refine ⟨_,rfl,_,rfl,_,rfl,d,_,rfl,tJ.t (k:=yG p.is) (by rw[aq hTd];exact hd2) ((ay.upd nT) _ _ (s2 _ _ pk hpd)) (),?_⟩
  exact ⟨_,_,_,rfl,aa,NP.put Rx (V3 qX hp),Qbb (fZ _ _ _) (),λa o ea z=>by rw[aq z];exact (ay.upd nT) _ _ (s2 a o ea z)⟩
 ·rintro σ H2 ⟨aJ,nv,pv,rfl,hd2,NP,ZV,s2⟩
  rw[Ed,nk]at NP
  have O6:∀p∈nz y os,dM aJ (yG p)=some (.int ((nz y os).idxOf p:Nat)):=λp hp=>NP p (by rw[Qbs];exact hp)
  have K0:ay H H2:=λa o ea=>s2 a o (RK a o ea) (az ea nd)
  walk_at "wk"
  intro p2 n2
  have s22:=ay.upd (o:= .lst []) n2
  have n20:H p2=none:=ay.free K0 n2
  refine ⟨_,rfl,dr,_,0,_,rfl,rfl,dH.of (s22 _ _ (K0 _ _ d1)),rfl,?_⟩
  refine ⟨wt,rfl,⟨_,dH.of (s22 _ _ (K0 _ _ d2))⟩,?_⟩
  refine let vM:Nat->L2.St->Hp->Prop:=(λj σ H'=>∃(qs:List Q4) (cv wv iv av:Option V),σ=[some (.str (S y)),some (.ref dr),some (.ref d),nv,pv,some (.ref p2),cv,wv,iv,av]/\H' p2=some (.lst (FX qs))/\(∀x∈qs,vI H' x)/\qs.map Q4.v=hZ (nz y os) ws j/\(qs:)<=12*j/\ay H2 H');wD (K:=K) (a:=wt) (xs:=ck ws) vM
   ⟨[],none,none,none,none,rfl,aa,λ_ h=>absurd h Qan,rfl,Qat _,s22⟩ (λj σ H' _ ⟨_,_,_,_,_,_,_,_,_,_,h⟩=>dH.of (h _ _ (K0 _ _ d2))) ?_ ?_
  ·rintro j x σ H3 T hx ⟨qs,cv,wv,iv,av,rfl,sE,WK,O7,Wc,s3⟩ nT
   have hj:j<(ws:):=by
    have:=(P5.mp hx).1
    rwa [aX]at this
   rw[mY hj]at hx
   cases hx
   have Lr:ws[j]? =some ws[j]:=P4 hj
   obtain ⟨NJ,KY⟩:=Bd.all _ (Qbk hj)
   generalize ws[j]=w at Lr NJ KY ⊢
   have hw8:∀l∈w,l<128:=λl hl=>(hy.lt l (NJ l hl)).lt
   have sT:=ay.upd (o:= .tup [.int j,.str (S w)]) nT
   refine ⟨T,_,rfl,dH.of aa,rfl,_,_,rfl,_,_,rfl,rfl,?_⟩
   refine ⟨_,rfl,w,rfl,(),_,rfl,(),(),?_⟩
   rw[Qap]
   refine let WL:Nat->L2.St->Hp->Prop:=(λi σ H'=>∃(us:List Q4) (iv av:Option V),σ=[some (.str (S y)),some (.ref dr),some (.ref d),nv,pv,some (.ref p2),some (.int j),some (.str (S w)),iv,av]/\H' p2=some (.lst (FX us))/\(∀x∈us,vI H' x)/\us.map Q4.v=hZ (nz y os) ws j++qg (nz y os) j w i/\(us:)<=12*j+i/\ay H2 H');eY WL
    ⟨qs,iv,av,rfl,sT _ _ sE,λx hx=>(WK x hx).ts (gw.of sT),by rw[O7];show _=_++[];rw[Qa9],(),s3.trans sT⟩ ?_ ?_
   ·rintro i σ H4 hi ⟨us,iv4,av4,rfl,Ui,GH,Gw,NI,s4⟩
    show LH _ _ _ _ _
    refine IF λDx Wr=>?_
    have e1:w[Bb (w:) i]? =some (w.getD (Bb (w:) i) 0):=by rw[Qak,P4 (CA hi)];rfl
    have e2:w[i]? =some (w.getD i 0):=by rw[Qak,P4 hi];rfl
    have m1:=O6 _ (JF hy XS Lr e1 (NJ _ (Qaf e1)) (.inr rfl))
    have m2:=O6 _ (JF hy XS Lr e2 (NJ _ (Qaf e2)) (.inl rfl))
    refine ⟨_,rfl,_,rfl,_,rfl,w,j,i,by rw[Qdp];rfl,hw8,hi,(),λt t1 t2 H5 ht EF WM s5=>?_⟩
    have NK:=s5 _ _ Ui
    have Ud:=s5 _ _ (s4 _ _ hd2)
    refine ⟨_,rfl,.inl ⟨rfl,_,bu.of NK⟩,_,rfl,_,rfl,?_⟩
    refine ⟨_,rfl,_,rfl,t,_,0,_,rfl,rfl,dH.of ht,rfl,d,_,rfl,by rw[<-m1];exact nR.t Ud EF,?_⟩
    refine ⟨_,rfl,_,rfl,t,_,1,_,rfl,rfl,dH.of ht,rfl,d,_,rfl,by rw[<-m2];exact nR.t Ud WM,?_⟩
    rw[Qdp]
    refine ⟨by show 4<=sizeLine;decide,λtq ntq=>?_⟩
    have s6:=s5.trans (ay.upd (o:= .tup [.int j,.int i,.int ((nz y os).idxOf (j,Bb (w:) i,aC (w.getD (Bb (w:) i) 0)):Nat),.int ((nz y os).idxOf (j,i,w.getD i 0):Nat)]) ntq)
    have hp6:=s6 _ _ Ui
    refine ⟨p2,_,_,rfl,rfl,hp6,by rw[Ef];lia,?_⟩
    refine Wr _ _ ⟨us++[⟨tq,mB (nz y os) j w i⟩],_,_,rfl,by rw[aa];exact congrArg (λx=>some (HO.lst x)) (JI us ⟨tq,mB (nz y os) j w i⟩),λx hx=>?_,by rw[Qao,Gw,Az,Qam];rfl,by rw[kb];show (us:)+1<=_;lia,λa o ea=>by rw[aq (az ea n2)];exact s6 _ _ (s4 a o ea)⟩
    rcases Qai.mp hx with g | g
    ·exact (GH x g).ts ((gw.of s6).trans (gw.BU hp6))
    ·have e3:=U0.mp g
     subst e3
     exact (gw.BU hp6) _ _ aa
   ·rintro σ H4 ⟨us,iv4,av4,rfl,Ui,GH,Gw,NI,s4⟩
    exact ⟨us,_,_,_,_,rfl,Ui,GH,by rw[Gw,yH Lr],(),s4⟩
  ·rintro σ H3 ⟨qs,cv,wv,iv,av,rfl,sE,WK,O7,Wc,s3⟩
   rw[aX]at O7
   exact ⟨_,rfl,q p2 qs H3 n20 sE WK O7 (K0.trans s3)⟩
theorem NQ:bD P w K mg base eM 5 SK Tt ["word"] (DT K):=by
 have jz:=sr (P:=P) (w:=w) (base:=base) T
 refine T.XF.fn.ok so (λvs H Q E h=>IU h) (λ_ _ _ _ H vs Q E hr h=>?_)
 refine let Z4:TS:=_;let Z3:TS:=_;let Z2:TS:=_;let Z1:TS:=_;let Z0:TS:=_;⟨_,(ag (aB (i:=1) so.nd (ak jz T.KP hr (ae (pv 0))))
   (ah Z0 (ag (cF PassesOwn.never rfl (kZ rfl T.z_range (ai ao (ae (aF br (aQ bB rfl T.z_len Qbr (ae (pv 1))) ao)))) (aL (i:=2) so.nd rfl (Or.inl rfl)) (ah Z1 (ag (aB (i:=3) so.nd (aF fq (aQ bB rfl T.z_len Qbr (ae (pv 1))) (pv 2)))
   (ah Z2 (aj (cV (aU mT (aF xR (cg q_ (pv 1) d_ (b9 (pv 2))) (pv 3)) (pv 1) (aW _)) (ah Z3 (aj (aI (cW (ai (cg q_ (pv 1) d_ (b9 (pv 2))) (ae (pv 3))))))) bO))))))
   (ah Z4 (aj (aI (cW (ai (nI [] ⋯) (ae ao))))))))),?_⟩
 obtain ⟨l,rfl,hl,hz,q⟩:=h
 have hs:=Zs1
 walk_at "wk"
 intro H1 s1
 have hw:(aH l:)<=1000:=Qbb (p8 l) hz
 generalize aH l=c at hw q ⊢
 have hcz:(c:)<=sizeLine:=by lia
 walk_at "wk"
 refine ⟨_,_,rfl,⟨∅,∅,(),()⟩,?_⟩
 refine let jb:Nat->L2.St->Hp->Prop:=(λi σ H'=>H'=H1/\(∀j,1<=j->j<=i-> ¬iU c j)/\∃sv tv,σ=[some (.str (S l)),some (.str (S c)),sv,tv]);eY jb ⟨rfl,λj h1 h2=>by lia,none,none,rfl⟩ ?_ ?_
 ·rintro i σ H2 hi ⟨rfl,Uc,sv,tv,rfl⟩
  walk_at"O"
  rw[e1]
  have e2:((c:):Int) / ((i+1:Nat):Int)=(((c:) / (i+1):Nat):Int):=(Qfe _ _).symm
  have hd:=Nat.div_le_self (c:) (i+1)
  have hmul:(c.take (i+1):)*((c:) / (i+1))<=sizeLine:=by
   have h1:(c.take (i+1):)<=i+1:=by rw[Qad];lia
   have h2:=Nat.mul_div_le (c:) (i+1)
   have h3:=Nat.mul_le_mul_right ((c:) / (i+1)) h1
   lia
  walk_at "wk"
  refine ⟨⟨by rw[e2];exact Qf0 _,by rw[e2];exact Int.ofNat_le.mpr (Qbb hd (by lia:(c:)<=1000000))⟩,by rw[e2,fP,Qap];exact hmul,?_⟩
  walk_at "wk"
  walk_at"g"
  ·have z1:iU c (i+1):=by
    have:=of_decide_eq_true z
    rw[e2,fP,Qap]at this
    exact this
   walk_at "wk"
   intro p np
   refine q p (i+1) _ (ay.free s1 np) ?_ (.inr ⟨(),(),z1,λj j1 j2=>Uc j j1 ()⟩) (s1.trans (ay.upd np))
   rw[aa]
   unfold OK
   rw[<-fP, <-e2]
  ·have z1: ¬iU c (i+1):=λy=>z (decide_eq_true (by
    rw[e2,fP,Qap]
    exact y))
   refine ⟨rfl,λj j1 j2=>?_,_,_,rfl⟩
   by_cases y:j=i+1
   ·rw[y];exact z1
   ·exact Uc j j1 ()
 ·rintro σ H2 ⟨rfl,Uc,sv,tv,rfl⟩
  have hc:c=[]:=by
   by_cases z:c=[]
   ·exact z
   ·have hl:0<(c:):=Qah.mpr z
    exact absurd (FH c z) (Uc _ hl ())
  subst hc
  walk_at "wk"
  intro p np
  exact q p 0 _ (ay.free s1 np) (by rw[aa];rfl) (.inl ⟨rfl,rfl⟩) (s1.trans (ay.upd np))
theorem vc:bD P w K mg base eM 1 f3 d3 ["yard","start","end"] (ke K):=by
 refine T.F3.fn.ok uX (λvs H Q E h=>rm h) (λ_ _ _ _ H vs Q E hr h=>?_)
 refine ⟨_,(aj (aI (aF gm (aF cq (cw K rfl Qa6 PySem.F.slot_str_find PySem.F.type_str_find zN (pv 0) (ae (pv 2))) (cw K rfl Qa6 PySem.F.slot_str_find PySem.F.type_str_find zN (pv 0) (ae (pv 1)))) (aQ bB rfl T.z_len Qbr (ae (pv 0)))))),?_⟩
 obtain ⟨y,a,b,rfl,ha,hb,hz,q⟩:=h
 walk_at"i"
 have hp:(0:Int)<((y:):Int):=by have:=Qd5 ha;lia
 refine ⟨_,rfl,rfl,_,rfl,y,b,rfl,rfl,?_⟩
 rw[if_pos hb]
 refine ⟨_,rfl,rfl,_,rfl,y,a,rfl,rfl,?_⟩
 rw[if_pos ha]
 exact ⟨_,_,rfl,rfl,_,rfl,y,rfl,(),_,_,rfl,rfl,hp,q⟩
theorem rL:bD P w K mg base eM 3 SM Tu ["yard","word","place"] (jF K):=by
 have vU:=va (P:=P) (w:=w) (base:=base) T
 have vV:=vc (P:=P) (w:=w) (base:=base) T
 refine T.XG.fn.ok jO (λvs H Q E h=>qm h) (λ_ _ _ _ H vs Q E hr h=>?_)
 refine let Z0:TS:=_;⟨_,(ag (aB (i:=3) jO.nd (ak vU T.F13 hr (ai (pv 1) (ae (pv 2)))))
   (ah Z0 (aj (aI (ak vV T.F3 hr (ai (pv 0) (ai (ba (bP K rfl) (pv 3) ao (λ_ _=>rfl)) (ae (ba (bP K rfl) (pv 3) ao (λ_ _=>rfl)))))))))),?_⟩
 obtain ⟨y,w,i,rfl,hy,hz,hw,KY,hi,q⟩:=h
 refine ⟨_,rfl,_,rfl,w,i,rfl,λc hc=>hy.lt c (hw.aY c hc),KY,hi,λp H1 np hp s1=>?_⟩
 refine ⟨_,rfl,_,rfl,p,_,0,_,rfl,rfl,dH.of hp,rfl,_,rfl,p,_,1,_,rfl,rfl,dH.of hp,rfl,y,_,_,rfl,hy.cl _ (hw.rd _),hw.rd _,(),?_⟩
 have rg:=dE (hy.cl _ (hw.rd ((i:Int) - 1))) (hw.rd i) (Ne.symm (hw.red i))
 obtain ⟨n,hn⟩:∃n:Nat,cst y w i=n:=⟨(cst y w i).toNat,by have:=rg.1;unfold cst;lia⟩
 have:=rg.2.1
 have e:rz y (aC (rd w ((i:Int) - 1))) (rd w i)=n:=hn
 have key:=q n H1 hn () s1
 rw[<-e]at key
 exact key
theorem K6:bD P w K mg base eM 6 mJ AZ ["self","yard","word","longest"] (AF K a_):=by
 have RO:=NQ (P:=P) (w:=w) (base:=base) T
 have jz:=sr (P:=P) (w:=w) (base:=base) T
 have kW:=qF (P:=P) (w:=w) (base:=base) T
 have vd:=rL (P:=P) (w:=w) (base:=base) T
 refine T.Wi.ok u6 (λvs H Q E h=>Ge h) (λ_ _ _ _ H vs Q E hr h=>?_)
 refine let Z5:TS:=_;let Z4:TS:=_;let Z3:TS:=_;let Z2:TS:=_;let Z1:TS:=_;let Z0:TS:=_;⟨_,(ag (jY (pv 0) (aQ bB rfl T.z_len Qbr (ai (pv 2) bL)) rfl)
   (ah Z0 (ag (jY (pv 0) (aQ bB rfl T.z_len Qbr (ai (ba (bP K rfl) (k_ RO (hr.mono ∅) rfl T.XF.mg T.XF.fn.kp T.XF.bd .nil hJ (ai (pv 2) bL)) ao (λ_ _=>rfl)) bL)) rfl)
   (ah Z1 (ag (jY (pv 0) (de xP (k_ jz (hr.mono ∅) rfl T.KP.mg T.KP.fn.kp T.KP.bd .nil hJ (ai (pv 2) bL)) (k_ jz (hr.mono ∅) rfl T.KP.mg T.KP.fn.kp T.KP.bd .nil hJ (ai (k_ kW (hr.mono ∅) rfl T.F1.mg T.F1.fn.kp T.F1.bd .nil hJ (ai (pv 2) bL)) bL)) (aW _)) rfl)
   (ah Z2 (ag (Bk (i:=4) u6.nd rfl (Or.inl rfl) (cw K rfl Qa6 Qdj Qdi (j7 K rfl) (nI [] ⋯) (ai (cL ["place","yard","word"] [none,some 1,some 2] (iK rfl T.z_range (ai (aQ bB rfl T.z_len Qbr (ai (pv 2) bL)) bL)) ⟨⟨rfl,rfl,by first | exact .inl rfl | exact .inr rfl⟩,⟨⟨rfl,rfl,by first | exact .inl rfl | exact .inr rfl⟩,trivial⟩⟩ (λ_ _ _ _=>(aL (i:=0) (by decide+kernel:List.Nodup (["place","yard","word"]:List Str)) rfl (Or.inl rfl))) (λ_ _ _ _=>iq) (λ_ _ _ _=>(cX Fe rfl T.z_str boot_str (ai (k_ vd (hr.mono ∅) rfl T.XG.mg T.XG.fn.kp T.XG.bd .nil hJ (ai (pv 1) (ai (pv 2) (ai (pv 0) bL)))) bL)))) bL)))
   (ah Z3 (ag (Bk (i:=5) u6.nd rfl (Or.inl rfl) (aF br ao (aF fq (pv 3) (aQ (v7 rfl) rfl T.z_max boot_max (ai (aQ bB rfl T.z_len Qbr (ai (pv 2) bL)) (ai ao bL))))))
   (ah Z4 (ag (jY (pv 0) (aF xR (pv 4) (pv 5)) rfl)
   (ah Z5 (aj (jY (pv 0) (aF xR (Mm (pv 4) (b9 (vZ pH ao))) (pv 5)) rfl)))))))))))))),?_⟩
 obtain ⟨x,dx,y,w',lg,rfl,hx,hy,hz,hw,zh,XT,q⟩:=h
 have hs:=Zs1
 have dZ:∀c∈w',Lt c:=λc hc=>hy.lt c (hw.aY c hc)
 have h8:∀c∈w',c<128:=λc hc=>(dZ c hc).lt
 have ht:=hw.bK hy
 have htl:∀c∈bK w',Lt c:=λc hc=>hy.lt c (ht.aY c hc)
 have h1:1<=(w':):=Qah.mpr hw.ne
 have rl:=oJ (lg:=lg) h1
 obtain ⟨rt,XU⟩:=DX hw.ne
 refine ⟨_,rfl,w',rfl,(),_,rfl,x,a_,dx,_,rfl,hx,T.ik,T.n_Way_size,by show 0<1000;decide,?_⟩
 refine ⟨_,rfl,w',rfl,dZ,(),λp1 s1 H1 n1 rY Lp Wn=>?_⟩
 obtain ⟨er,el⟩:=FQ hy hw Lp XU
 subst er
 have et:((aH w').take s1:)=s1:=by
  rw[Qad,el]
  rcases XU with ⟨z,_⟩ | ⟨_,h2,_⟩
  ·exact absurd z hw.ne
  ·lia
 have aaA:s1<=(w':):=by
  rcases XU with ⟨z,_⟩ | ⟨_,h2,_⟩
  ·exact absurd z hw.ne
  ·exact h2
 have hx1:=Wn _ _ (aa (H:=H) (a:=x))
 refine ⟨p1,_,0,_,rfl,rfl,dH.of rY,rfl,_,rfl,by rw[et];lia,_,rfl,x,a_,dx,_,rfl,hx1,T.ik,T.n_Way_root_size,Qbl (dW _ _ _) (by show 0+1<1000;decide),?_⟩
 rw[et]
 refine ⟨_,rfl,w',rfl,dZ,(),λH2 s2=>⟨_,rfl,w',rfl,h8,(),λH3 s3=>⟨bK w',rfl,htl,by rw[bJ];lia,λH4 s4=>?_⟩⟩⟩
 have WN:=s2.trans (s3.trans s4)
 have hx4:=WN _ _ (aa (a:=x))
 refine ⟨_,_,rfl,rfl,_,rfl,x,a_,dx,_,rfl,hx4,T.ik,T.n_Way_leads,Qbl (dW _ _ _) (Qbl (Qc1 (dW _ _ _)) (by show 0+1+1<1000;decide)),?_⟩
 have eld:decide (aH w'<aH (bK w'))=leads w':=by
  unfold leads
  rw[hw.aH hy,ht.aH hy]
 refine ⟨rfl,_,rfl,w',rfl,(),_,rfl,(),(),?_⟩
 rw[Qap]
 refine let jb:Nat->List V->Hp->Prop:=(λi acc H'=>ay _ H'/\acc=dY ((stx y w').take i));Hz jb () ⟨ay.refl _,rfl⟩ ?_ ?_
 ·rintro i acc H5 Nx hi hl ⟨s5,rfl⟩ nx
  refine ⟨⟨rfl,rfl,trivial⟩,fV ⟨_,rfl,_,rfl,_,rfl,y,w',i,by rw[Qdp];rfl,hy,hz,hw,(),hi,λn H6 hn h8' s6=>⟨n,rfl,(),nx _ _ (by simpa using hl) ⟨s5.trans s6,?_⟩⟩⟩⟩
  have eg:(stx y w')[i]? =some (48+n):=by
   unfold stx
   rw[Qau,List.getElem?_range hi]
   show some (Bc (cst y w' i))=_
   rw[hn]
   unfold Bc
   congr 1
  rw[Rm n (),ft,take_snoc eg]
 ·rintro acc H5 D hl ⟨s5,rfl⟩ hD
  have WG:(stx y w').take (w':)=stx y w':=Qa7 (by rw[eF];exact Qaa _)
  rw[WG]at hl ⊢
  refine ⟨D,(stx y w').map λc=>[c],rfl,rfl,bu.of (by rw[aa, <-gH]),by rw[Ft,eF];lia,?_⟩
  rw[wL]
  have s5':=s5.trans (ay.upd (o:= .lst (dY (stx y w'))) hD)
  have hx5:=s5' _ _ (aa (a:=x))
  have emx:(if (1:Int)>((w':):Int) then (1:Int) else ((w':):Int))=(max (w':) 1:Nat):=by split<;>lia
  have RP:(3:Int)+(lg:Int) / (if (1:Int)>((w':):Int) then (1:Int) else ((w':):Int))=(kF lg (w':):Nat):=by
   rw[emx]
   unfold kF
   rw[Qb5,Qfe]
   rfl
  have rb:kF lg (w':)<=1003:=by unfold kF;have:=Nat.div_le_self lg (max (w':) 1);lia
  refine ⟨_,rfl,_,rfl,w',rfl,(),_,_,rfl,_,_,rfl,rfl,⟨by rw[emx];lia,by rw[emx];lia⟩,_,_,rfl,rfl,?_⟩
  have l3:∀(a b c:V),(fj "leads" a (fj "root_size" b (fj "size" c [])):)<=3:=λa b c=>Qbb (dW _ _ _) (Qc1 (Qbb (dW _ _ _) (Qc1 (dW _ _ _))))
  refine ⟨_,rfl,_,rfl,stx y w',_,rfl,rfl,⟨by rw[RP];lia,by rw[RP];lia⟩,by rw[RP,Qap,eF];lia,_,rfl,x,a_,dx,_,rfl,hx5,T.ik,T.n_Way_onward,Qbl (l3 _ _ _) ∅,?_⟩
  refine ⟨_,rfl,1,rfl,_,rfl,rfl,stx y w',rfl,by rw[eF];lia,_,rfl,(stx y w').reverse,_,rfl,rfl,⟨by rw[RP];lia,by rw[RP];lia⟩,by rw[RP,Qap,Qas,eF];lia,_,rfl,x,a_,dx,_,rfl,aa,T.ik,T.n_Way_backward,Qbl (dW _ _ _) (Qbl (Qc1 (l3 _ _ _)) ∅),?_⟩
  refine q s1 _ XU ?_ λb o eb zb=>?_
  ·rw[aa]
   unfold qk
   rw[<-eld,RP,Qap]
  ·rw[aq zb,aq zb]
   refine s5' _ _ ?_
   rw[aq zb]
   refine WN _ _ ?_
   rw[aq zb]
   refine Wn _ _ ?_
   rw[aq zb]
   exact eb
theorem NR:bD P w K mg base eM 8 SX TJ ["yard","words"] (Et K):=by
 have kW:=qF (P:=P) (w:=w) (base:=base) T
 walk_at"t"
 have y9:=vO (P:=P) (w:=w) (base:=base) T
 have EG:=K6 (P:=P) (w:=w) (base:=base) T
 refine T.F29.fn.ok yW (λvs H Q E h=>J6 h) (λ_ _ _ _ H vs Q E hr h=>?_)
 refine let Z1:TS:=_;let Z0:TS:=_;⟨_,(ag (aB (i:=2) yW.nd (Mp K rfl rfl rfl T.z_max (ae (cL ["word"] [none] (xQ K rfl (pv 1)) trivial (λ_ _ _ _=>(aL (i:=0) (by decide+kernel:List.Nodup (["word"]:List Str)) rfl (Or.inl rfl))) (λ_ _ _ _=>iq) (λ_ _ _ _=>(aQ bB rfl T.z_len Qbr (ae (pv 0))))))))
   (ah Z0 (ag (aB (i:=3) yW.nd (cL ["word","yard","longest"] [none,some 0,some 2] (xQ K rfl (pv 1)) ⟨⟨rfl,rfl,by first | exact .inl rfl | exact .inr rfl⟩,⟨⟨rfl,rfl,by first | exact .inl rfl | exact .inr rfl⟩,trivial⟩⟩ (λ_ _ _ _=>(aL (i:=0) (by decide+kernel:List.Nodup (["word","yard","longest"]:List Str)) rfl (Or.inl rfl))) (λ_ _ _ _=>iq) (λ_ _ _ _=>(cW (ai (rM T.OZ EG (hr.mono ∅) rfl T.OY T.O0 .nil hJ (ai (pv 1) (ai (pv 0) (ae (pv 2))))) (ae (rM T.OZ EG (hr.mono ∅) rfl T.OY T.O0 .nil hJ (ai (pv 1) (ai (ak kW T.F1 hr (ae (pv 0))) (ae (pv 2)))))))))))
   (ah Z1 (aj (aI (cW (ai (cX (dQ K rfl) rfl T.z_tuple boot_tuple (ae (pv 1))) (ae (cX (dQ K rfl) rfl T.z_tuple boot_tuple (ae (cL ["band","words","ways"] [none,some 1,some 3] (j5 (ak fI T.F2 hr (ae (pv 0)))) ⟨⟨rfl,rfl,by first | exact .inl rfl | exact .inr rfl⟩,⟨⟨rfl,rfl,by first | exact .inl rfl | exact .inr rfl⟩,trivial⟩⟩ (λ_ _ _ _=>(aL (i:=0) (by decide+kernel:List.Nodup (["band","words","ways"]:List Str)) rfl (Or.inl rfl))) (λ_ _ _ _=>iq) (λ_ _ _ _=>(ak y9 T.F28 hr (ai (pv 1) (ai (pv 2) (ae (pv 0)))))))))))))))))),?_⟩
 obtain ⟨y,wt,ws,rfl,hy,hz,xn,ZQ,Bd,q⟩:=h
 have hs:=Zs1
 walk_at"A"
 have hbl:=kC hy
 obtain ⟨lg,elg,aaB,XT⟩:=CK λw hw=>(Bd w hw).2
 refine ⟨_,rfl,wt,rfl,⟨_,dH.of xn⟩,?_⟩
 refine let jb:Nat->List V->Hp->Prop:=(λi acc H'=>H'=H/\acc=(Nj (ws.take i)).map V.int);tI (K:=K) (a:=wt) (xs:=ck ws) jb (by rw[aX];lia) (λi acc H' h=>by rw[h.1];exact dH.of xn) ⟨rfl,rfl⟩ ?_ ?_
 ·rintro i x acc H1 Nx hi hx hl ⟨rfl,rfl⟩ nx
  rw[aX]at hi
  rw[mY hi]at hx
  cases hx
  have K2:=Bd ws[i] (Qbk hi)
  refine ⟨trivial,fV ⟨_,rfl,ws[i],rfl,(),nx _ _ (by simpa using hl) ⟨rfl,?_⟩⟩⟩
  rw[<-take_snoc (P4 hi)]
  unfold Nj
  rw[Qao,Qao]
  rfl
 ·rintro acc H1 D hl ⟨rfl,rfl⟩ hD
  rw[aX,Qbs]
  refine ⟨D,Nj ws,rfl,bu.of aa,?_⟩
  rw[elg]
  have sD:=ay.upd (o:= .lst ((Nj ws).map V.int)) hD
  refine ⟨_,rfl,wt,rfl,⟨_,dH.of (sD _ _ xn)⟩,?_⟩
  refine let vM:Nat->List V->Hp->Prop:=(λi acc H'=>ay H1 H'/\∃ph:List Wp,acc=LA ph/\(ph:)=i/\∀(c:Nat) (w:c5) (p:Wp),ws[c]? =some w->ph[c]? =some p->yK H' a_ y lg w p);tI (K:=K) (a:=wt) (xs:=ck ws) vM (by rw[aX];lia) (λi acc H' h=>dH.of (h.1 _ _ xn)) ⟨sD,[],rfl,rfl,λc w p _ h=>by simp at h⟩ ?_ ?_
  ·rintro i x acc H2 Nx hi hx Oi ⟨s2,ph,rfl,zh,Wq⟩ nx
   rw[aX]at hi
   rw[mY hi]at hx
   cases hx
   have K2:=Bd ws[i] (Qbk hi)
   have QK:ws[i]? =some ws[i]:=P4 hi
   have WO:=XT ws[i] (Qbk hi)
   generalize ws[i]=w' at K2 QK WO ⊢
   have h8:∀c∈w',c<128:=λc hc=>(hy.lt c (K2.1.aY c hc)).lt
   refine ⟨⟨rfl,rfl,trivial⟩,fV ?_⟩
   refine ⟨_,rfl,_,rfl,_,rfl,λx1 dx1 nx1 aad ne1=>⟨x1,dx1,y,w',lg,rfl,aa,hy,hz,K2.1,WO,(),λr H3 hr hx3 sm3=>⟨rfl,?_⟩⟩⟩
   have s23:=xh nx1 aad sm3
   refine ⟨_,rfl,_,rfl,w',rfl,h8,(),λH4 s34=>⟨_,rfl,λx2 dx2 nx2 aae ne2=>⟨x2,dx2,y,bK w',lg,rfl,aa,hy,hz,K2.1.bK hy,by rw[bJ];exact WO,(),λr2 H5 Mn hx5 sm5=>⟨rfl,?_⟩⟩⟩⟩
   have s45:=xh nx2 aae sm5
   refine ⟨by show 2<=sizeLine;decide,λt nt=>?_⟩
   have s5t:=ay.upd (o:= .tup [.ref x1,.ref x2]) nt
   have s35:=s34.trans (s45.trans s5t)
   have all:=s23.trans s35
   refine nx _ _ (by simpa using Oi) ⟨s2.trans all,ph++[⟨t,x1,x2,r,r2⟩],J3 ph ⟨t,x1,x2,r,r2⟩,by rw[kb,zh];rfl,Nl zh (λc w p a b=>(Wq c w p a b).same all) QK ⟨aa,⟨⟨dx1,s35 _ _ hx3⟩,K2.1,WO,(),hr⟩,⟨⟨dx2,s5t _ _ hx5⟩,K2.1.bK hy,by rw[bJ];exact WO,(),Mn⟩⟩⟩
  ·rintro acc H2 D2 Oi ⟨s2,ph,rfl,zh,Wq⟩ hD2
   rw[aX]at zh
   have sD2:=ay.upd (o:= .lst (LA ph)) hD2
   have K0:=s2.trans sD2
   refine ⟨_,rfl,wt,_,rfl,.inr ⟨dH.of (K0 _ _ xn),?_⟩⟩
   refine ⟨_,rfl,y,rfl,zl,(),λl' H3 xq Ba s3=>?_⟩
   have el:=Ec xq Ba
   subst el
   refine ⟨_,rfl,?_⟩
   have XR:=K0.trans s3
   have hv3:=s3 _ _ (aa (H:=H2) (a:=D2) (o:=HO.lst (LA ph)))
   refine let WL:Nat->List V->Hp->Prop:=(λi acc H'=>ay H3 H'/\∃os:List Od,acc=M7 os/\(∀o∈os,FW H' o)/\(os:)=i/\(∀(j:Nat) (o:Od) (b:Nat),os[j]? =some o->(gF y)[j]? =some b->(o.ps.map Pr.pair).Perm (dU b ws (ws:)))/\∀o∈os,Gg y ws (2*lg) (o.ps.map Pr.pair));j6 (xs:=dY (gF y)) WL (by rw[bo];lia) ⟨ay.refl _,[],rfl,λ_ h=>absurd h Qan,rfl,λj o b h=>by simp at h,λ_ h=>absurd h Qan⟩ ?_ ?_
   ·rintro i x acc H4 Nx hi hx mO ⟨s4,os,rfl,Vw,Ra,hop,hou⟩ nx
    obtain ⟨b,hb,rfl⟩:=gD hx
    have hbs:=AI hy (Qaf hb)
    refine ⟨⟨rfl,rfl,trivial⟩,fV ?_⟩
    refine ⟨_,rfl,_,rfl,_,rfl,y,lg,wt,D2,ws,ph,b,rfl,hy,hz,s4 _ _ (XR _ _ xn),ZQ,Bd,hbs,s4 _ _ hv3,zh,λc w p a1 a2=>(Wq c w p a1 a2).same (sD2.trans (s3.trans s4)),λt ps H5 nt ht A9 tQ Ua s5=>?_⟩
    have hlz:(ps:)<=100:=by
     have h1:=tQ.length_eq
     have h2:=kL b (λw hw=>(Bd w hw).2) (ws:) (Qaa _)
     rw[Xi]at h1
     lia
    refine nx _ _ (by simpa using mO) ⟨s4.trans s5,os++[⟨t,ps⟩],JA os ⟨t,ps⟩,λo ho=>?_,by rw[kb,Ra];rfl,λj o b' ho BY=>?_,λo ho=>?_⟩
    ·rcases Qai.mp ho with g | g
     ·exact (Vw o g).same s5
     ·rw[U0.mp g]
      exact ⟨ht,A9,hlz⟩
    ·by_cases z:j<(os:)
     ·rw[Qbg z]at ho
      exact hop j o b' ho BY
     ·rw[Qa1 ()]at ho
      have:j=i:=by
       have:=(P5.mp ho).1
       simp at this
       lia
      subst this
      rw[Ra,Qeo]at ho
      cases ho
      rw[hb]at BY
      cases BY
      exact tQ
    ·rcases Qai.mp ho with g | g
     ·exact hou o g
     ·rw[U0.mp g]
      exact Ua
   ·rintro acc H4 D3 mO ⟨s4,os,rfl,Vw,Ra,hop,hou⟩ hD3
    rw[bo]at Ra
    refine ⟨D3,_,rfl,.inl ⟨bu.of aa,λt nt=>?_⟩⟩
    refine ⟨by show 2<=sizeLine;decide,λdr ndr=>?_⟩
    have sA:=(ay.upd (o:= .lst (M7 os)) hD3).trans ((ay.upd (o:= .tup (M7 os)) nt).trans (ay.upd (o:= .tup [.ref wt,.ref t]) ndr))
    have htd:t≠dr:=λz=>by rw[<-z,aa]at ndr;cases ndr
    have s04:=XR.trans s4
    exact q dr os _ ⟨⟨wt,t,aa,sA _ _ (s04 _ _ xn),by rw[aq htd,aa]⟩,λo ho=>(Vw o ho).same sA⟩ ⟨2*lg,λw hw v hv=>by have:=XT w hw;have:=XT v hv;lia,⟨Ra,hop⟩,hou⟩ (s04.trans sA)
theorem A8:bD P w K mg base eM 9 SY TK ["yard","words"] (AL K):=by
 have qI:=o5 (P:=P) (w:=w) (base:=base) T
 have GB:=C_ (P:=P) (w:=w) (base:=base) T
 have RQ:=NR (P:=P) (w:=w) (base:=base) T
 refine T.ZF.fn.ok KW (λvs H Q E h=>Gj h) (λ_ _ _ _ H vs Q E hr h=>?_)
 refine ⟨_,(aj (aI (ak qI T.F11 hr (ae (ak GB T.F8 hr (ai (pv 0) (ae (ak RQ T.F29 hr (ai (pv 0) (ae (pv 1))))))))))),?_⟩
 obtain ⟨y,wt,ws,rfl,hy,hz,hk,xn,q⟩:=h
 refine ⟨_,rfl,_,rfl,_,rfl,y,wt,ws,rfl,hy,hz,xn,hk.jR,hk.sw,λdr os H1 Qz ht s1=>?_⟩
 obtain ⟨nd,e⟩:=Gh hy (λw hw=>(hk.sw w hw).1) ht
 obtain ⟨M,_,ok,_⟩:=id ht
 refine ⟨y,dr,ws,os,rfl,hy,hz,hk.ok,ok,Qz,λp qs H2 np hp WK O7 s2=>?_⟩
 have hl:=Gi (os:=os) hk
 have Wc:(qs:)<=24:=by rw[<-O7,Xi]at hl;lia
 refine ⟨p,qs,rfl,hp,WK,Wc,by rw[O7];exact nd,λH3 s3=>?_⟩
 rw[O7]
 exact q _ H3 (s1.trans (s2.trans s3)) e
theorem RS:bD P w K mg base eM 10 S0 TL ["yard","word"] (Kh K):=by
 have y_:=A8 (P:=P) (w:=w) (base:=base) T
 refine T.F31.fn.ok RH (λvs H Q E h=>len_own h) (λ_ _ _ _ H vs Q E hr h=>?_)
 refine ⟨_,(aj (aI (ak y_ T.ZF hr (ai (pv 0) (ae (cW (ae (pv 1)))))))),?_⟩
 obtain ⟨y,w',rfl,hy,hz,hw,KY,q⟩:=h
 refine ⟨_,rfl,_,rfl,by show 1<=sizeLine;decide,λt nt=>?_⟩
 refine ⟨y,t,[w'],rfl,hy,hz,Nq hw KY,aa,λn H1 s1 e=>?_⟩
 exact q n H1 ((ay.upd nt).trans s1) (e.trans (Kg y w'))
theorem Dc:bD P w K mg base eM 11 S_ TY ["yard","word"] (uH K):=by
 have gW:=kU (P:=P) (w:=w) (base:=base) T
 have WQ:=RS (P:=P) (w:=w) (base:=base) T
 refine T.F39.fn.ok uZ (λvs H Q E h=>AR h) (λ_ _ _ _ H vs Q E hr h=>?_)
 refine let Z0:TS:=_;⟨_,(ag (aB (i:=2) uZ.nd (ak gW T.XE hr (ae (pv 1))))
   (ah Z0 (aj (aI (G1 (de HE (pv 2) (nI [] ⋯) (aW _)) (Bj (de pT (ak WQ T.F31 hr (ai (pv 0) (ae (pv 2)))) ao (aW _)))))))),?_⟩
 obtain ⟨y,w',c,rfl,hy,hz,hc,q⟩:=h
 have hs:=Zs1
 have jR:=hc.jR
 refine ⟨_,rfl,w',rfl,hc.lt,(),λH1 s1=>?_⟩
 rw[hc.is]
 have hn:=hc.sw.ne
 refine ⟨_,rfl,_,_,rfl,rfl,_,rfl,?_⟩
 refine x5 (by rw[decide_eq_false (show ¬c=[] from hn)];rfl) ?_
 refine ⟨_,rfl,_,rfl,y,c,rfl,hy,hz,hc.sw,hc.len,λn H2 s2 e=>?_⟩
 refine ⟨_,_,rfl,rfl,?_⟩
 have ed:decide ((n:Int)=0)=V7 y c:=by
  unfold V7
  exact decide_eq_decide.mpr ⟨λz=>by lia,λz=>by lia⟩
 show Q (.bl (decide ((n:Int)=0))) H2
 rw[ed]
 exact q H2 (s1.trans s2)
theorem za:bD P w K mg base eM 10 S7 TU ["yard","words"] (oV K):=by
 have gW:=kU (P:=P) (w:=w) (base:=base) T
 have y_:=A8 (P:=P) (w:=w) (base:=base) T
 refine T.ZG.fn.ok oY (λvs H Q E h=>vK h) (λ_ _ _ _ H vs Q E hr h=>?_)
 refine let Z0:TS:=_;⟨_,(ag (aB (i:=2) oY.nd (cX (dQ K rfl) rfl T.z_tuple boot_tuple (ae (cL ["word"] [none] (xQ K rfl (pv 1)) trivial (λ_ _ _ _=>(aL (i:=0) (by decide+kernel:List.Nodup (["word"]:List Str)) rfl (Or.inl rfl))) (λ_ _ _ _=>iq) (λ_ _ _ _=>(ak gW T.XE hr (ae (pv 0))))))))
   (ah Z0 (aj (aI (G1 (de (rP K rfl) (nI [] ⋯) (pv 2) (by with_unfolding_all rfl)) (Bj (de pT (ak y_ T.ZF hr (ai (pv 0) (ae (pv 2)))) ao (aW _)))))))),?_⟩
 obtain ⟨y,wt,ws,cs,rfl,hy,hz,xn,zH,hk,q⟩:=h
 have hs:=Zs1
 have key:∀{ws cs:List c5},Ez y ws cs->(cs:)=(ws:)/\∀(i:Nat) (w c:c5),ws[i]? =some w->cs[i]? =some c->Sh y w c:=λ{ws}=>by
  induction ws with
  | nil=>intro cs h;cases cs with
   | nil=>exact ⟨rfl,λi w c h=>by cases h⟩
   | cons c cs=>exact absurd h id
  | cons w ws ih=>intro cs h;cases cs with
   | nil=>exact absurd h id
   | cons c cs=>
    obtain ⟨h1,h2⟩:=h
    obtain ⟨a1,a2⟩:=ih h2
    refine ⟨by rw[Qa4,Qa4,a1],λi w' c' e1 e2=>?_⟩
    cases i with
    | zero=>cases e1;cases e2;exact h1
    | succ i=>exact a2 i w' c' e1 e2
 obtain ⟨hl,YB⟩:=key zH
 have jR:=hk.jR
 refine ⟨_,rfl,wt,rfl,⟨_,dH.of xn⟩,?_⟩
 refine let jb:Nat->List V->Hp->Prop:=(λi acc H'=>ay H H'/\acc=ck (cs.take i));tI (K:=K) (a:=wt) (xs:=ck ws) jb (by rw[aX];lia) (λi acc H' h=>dH.of (h.1 _ _ xn)) ⟨ay.refl _,rfl⟩ ?_ ?_
 ·rintro i x acc H1 Nx hi hx mO ⟨s1,rfl⟩ nx
  have hj:i<(ws:):=by rw[aX]at hi;exact hi
  have hj2:i<(cs:):=by rw[hl];exact hj
  rw[mY hj]at hx
  cases hx
  have sh:=YB i ws[i] cs[i] (P4 hj) (P4 hj2)
  have fw:=sh.jR
  refine ⟨trivial,fV ⟨_,rfl,_,rfl,sh.lt,(),λH2 s2=>?_⟩⟩
  rw[sh.is]
  refine nx _ _ (by simpa using mO) ⟨s1.trans s2,?_⟩
  rw[List.take_succ,P4 hj2]
  exact nY _ _
 ·rintro acc H1 D mO ⟨s1,rfl⟩ hD
  rw[aX,Qa7 ()]
  have vf:upd H1 D (.lst (ck cs)) D=some (.lst (ck cs)):=aa
  have s2:=s1.trans (ay.upd (o:= .lst (ck cs)) hD)
  generalize upd H1 D (.lst (ck cs))=H2 at vf s2 ⊢
  refine ⟨D,ck cs,rfl,.inl ⟨bu.of vf,λu nu=>?_⟩⟩
  have hu:upd H2 u (.tup (ck cs)) u=some (.tup (ck cs)):=aa
  have s3:=s2.trans (ay.upd (o:= .tup (ck cs)) nu)
  generalize upd H2 u (.tup (ck cs))=H3 at hu s3 ⊢
  have fl:(ck cs).all md=true:=Qb8.mpr λx hx=>by
   obtain ⟨z,_,rfl⟩:=Qar.mp hx
   rfl
  have no:Lj (.str (S [])) (ck cs)=false:=by
   rw[uI]
   exact decide_eq_false λg=>(hk.sw _ g).1.ne rfl
  refine ⟨_,rfl,u,_,rfl,.inr (dH.of hu),rfl,fl,_,rfl,x5 (by rw[no];rfl) ?_⟩
  refine ⟨_,rfl,_,rfl,y,u,cs,rfl,hy,hz,hk,hu,λn H4 s4 e=>?_⟩
  refine ⟨_,_,rfl,rfl,?_⟩
  have ed:decide ((n:Int)=0)=Sx y cs:=by
   unfold Sx
   exact decide_eq_decide.mpr ⟨λz=>by lia,λz=>by lia⟩
  show Q (.bl (decide ((n:Int)=0))) H4
  rw[ed]
  exact q H4 (s3.trans s4)
theorem GC:bD P w K mg base eM 12 Tg T7 ["_law_box_here","_law_yard_here"] (xm K):=by
 walk_at"t"
 have eX:=qY (P:=P) (w:=w) (base:=base) T
 have gX:=qG (P:=P) (w:=w) (base:=base) T
 have zc:=vR (P:=P) (w:=w) (base:=base) T
 have RT:=NL (P:=P) (w:=w) (base:=base) T
 have kY:=sF (P:=P) (w:=w) (base:=base) T
 have C9:=EE (P:=P) (w:=w) (base:=base) T
 have fT:=nj (P:=P) (w:=w) (base:=base) T
 have ze:=vS (P:=P) (w:=w) (base:=base) T
 have gY:=lW (P:=P) (w:=w) (base:=base) T
 have GD:=Dc (P:=P) (w:=w) (base:=base) T
 have o6:=A4 (P:=P) (w:=w) (base:=base) T
 have qZ:=za (P:=P) (w:=w) (base:=base) T
 refine T.F46.fn.ok fg (λvs H Q E h=>CQ h) (λ_ _ _ _ H vs Q E hr h=>?_)
 refine let Z15:TS:=_;let Z14:TS:=_;let Z13:TS:=_;let Z12:TS:=_;let Z11:TS:=_;let Z10:TS:=_;let Z9:TS:=_;let Z8:TS:=_;let Z7:TS:=_;let Z6:TS:=_;let Z5:TS:=_;let Z4:TS:=_;let Z3:TS:=_;let Z2:TS:=_;let Z1:TS:=_;let Z0:TS:=_;⟨_,(ag (xt (cW (ai (ak fI T.F2 hr (ae (pv 1))) (ae (ak eX T.RF hr (ae (pv 1)))))) (ji (n:=2) K rfl rfl (cJ (aL (i:=2) fg.nd rfl (Or.inl rfl)) (cJ (aL (i:=3) fg.nd rfl (Or.inr rfl)) jg))))
   (ah Z0 (ag (cF PassesOwn.never rfl (kZ rfl T.z_range (ai ao (ae (aF br (aQ bB rfl T.z_len Qbr (ae (pv 2))) ao)))) (aL (i:=4) fg.nd rfl (Or.inl rfl)) (ah Z1 (ag (aB (i:=5) fg.nd (ak gX T.F4 hr (ai (pv 1) (ae (cg q_ (pv 2) d_ (b9 (pv 4)))))))
   (ah Z2 (ag (cV (PW.pt (zq (aU (BK K rfl hr) (ak eX T.RF hr (ae (pv 5))) (ak zc T.F44 hr (ai (pv 3) (ae (cg q_ (pv 2) d_ (b9 (pv 4)))))) (aW _)) (sI (aU HF (ak RT T.F37 hr (ae (pv 5))) (cM K T.z_len (ak eX T.RF hr (ae (pv 5)))) (aW _))))) (ah Z3 (aj (aI jV))) bO)
   (ah Z4 (ag (cV (PW.pt (zq (aU (BK K rfl hr) (cL ["_law_word","_law_words"] [none,some 3] (dA K rfl (ak kY T.T9 hr (ae (pv 5)))) ⟨⟨rfl,rfl,by first | exact .inl rfl | exact .inr rfl⟩,trivial⟩ (λ_ _ _ _=>(aL (i:=0) (by decide+kernel:List.Nodup (["_law_word","_law_words"]:List Str)) rfl (Or.inl rfl))) (λ_ _ _ _=>(sW (aU (rP K rfl) (ak C9 T.ZC hr (ae (pv 0))) (pv 1) (by with_unfolding_all rfl)))) (λ_ _ _ _=>(pv 0))) (dP bL) (aW _)) (sI (aU v5 (ak fT T.T_ hr (ae (pv 5))) (ak fT T.T_ hr (ae (pv 1))) (aW _))))) (ah Z5 (aj (aI jV))) bO)
   (ah Z6 (aj (cV (PW.pt (sJ (aU v5 (pv 4) ao (aW _)) (nC (Bi (je (ak ze T.F45 hr (ai (pv 1) (ai (pv 2) (ae (pv 4)))))))))) (ah Z7 (aj (aI jV))) bO))))))))))
   (ah Z8 (ag (cV (PW.pt (zq (aU (BK K rfl hr) (ak eX T.RF hr (ae (ak gX T.F4 hr (ai (pv 1) (ae (ba nJ (pv 2) ao (λ_ _=>rfl))))))) (dP (ae (ak gY T.Wh hr (ae (ba nJ (pv 2) ao (λ_ _=>rfl)))))) (aW _)) (sI (Bi (je (aQ (pU K rfl rfl) rfl T.z_all boot_all (ae (cL ["_law_word","_law_yard_here"] [none,some 1] (dA K rfl (pv 3)) ⟨⟨rfl,rfl,by first | exact .inl rfl | exact .inr rfl⟩,trivial⟩ (λ_ _ _ _=>(aL (i:=0) (by decide+kernel:List.Nodup (["_law_word","_law_yard_here"]:List Str)) rfl (Or.inl rfl))) (λ_ _ _ _=>iq) (λ_ _ _ _=>(ak GD T.F39 hr (ai (pv 1) (ae (pv 0))))))))))))) (ah Z9 (aj (aI jV))) bO)
   (ah Z10 (ag (aB (i:=6) fg.nd (ak o6 T.Wg hr (ai (pv 0) (ae (cM K T.z_len (pv 3))))))
   (ah Z11 (ag (aB (i:=7) fg.nd (aF BA (cg (nM K rfl) (pv 3) (b9 (pv 6)) d_) (cg (nM K rfl) (pv 3) d_ (b9 (pv 6)))))
   (ah Z12 (ag (cF PassesOwn.never rfl (iK rfl T.z_range (ae (aF cq (cM K T.z_len (pv 7)) ao))) (aL (i:=4) fg.nd rfl (Or.inl rfl)) (ah Z13 (aj (cV (aU Ma (ak qZ T.ZG hr (ai (pv 1) (ae (cW (ai (ba (bY K rfl) (pv 7) (pv 4) (λ_ _=>rfl)) (ai (ba (bY K rfl) (pv 7) (aF br (pv 4) ao) (λ_ _=>rfl)) (ae (ba (bY K rfl) (pv 7) (aF br (pv 4) ao) (λ_ _=>rfl))))))))) jV (aW _)) (ah Z14 (aj (aI jV))) bO))))
   (ah Z15 (aj (aI (de Qg (ak qZ T.ZG hr (ai (pv 1) (ae (cX (dQ K rfl) rfl T.z_tuple boot_tuple (ae (cg (nM K rfl) (pv 7) d_ (b9 ao))))))) jV (aW _)))))))))))))))),?_⟩
 obtain ⟨b,y,rfl,hb,hy,h2,h8,hT,q⟩:=h
 have hs:=Zs1
 walk_at"A"
 have hh:=fz hy
 refine ⟨_,rfl,y,rfl,zl,(),λnm H1 lO rG s1=>?_⟩
 have s:=bV.of hy lO
 have hnl:=lO.length_eq
 refine ⟨_,rfl,y,rfl,hy,h2,h8,hT.same s1,λtw D H2 sA Lm ntw htw hD hDf=>?_⟩
 refine ⟨by show 2<=sizeLine;lia,λpt LB=>?_⟩
 refine ⟨pt,_,rfl,dH.of aa,rfl,_,_,rfl,_,_,rfl,rfl,?_⟩
 have Uj:=(ay.upd (o:= .tup [.str (S nm),.ref tw]) LB) _ _ htw
 have Wx:=Lm.same (ay.upd (o:= .tup [.str (S nm),.ref tw]) LB)
 have sX:=((bQ.of s1).trans sA).trans (.of (ay.upd (o:= .tup [.str (S nm),.ref tw]) LB))
 generalize upd H2 pt (.tup [.str (S nm),.ref tw])=H3 at Uj Wx sX ⊢
 have twb:tw≠b:=λe=>by obtain ⟨u,v,g⟩:=hb;rw[e,s1 _ _ g]at ntw;cases ntw
 clear htw ntw Lm sA s1 LB
 have XW:=hD.sw hy
 refine ⟨_,rfl,nm,rfl,(),_,_,rfl,rfl,_,_,rfl,⟨∅,∅,(),()⟩,?_⟩
 have en:(((nm:):Int)+1 - 1).toNat=(nm:):=by lia
 refine let jb:Nat->L2.St->Hp->Prop:=(λi σ H'=>∃kv pv:Option V,σ=[some (.ref b),some (.str (S y)),some (.str (S nm)),some (.ref tw),kv,pv,none,none]/\bQ (BS K) H3 H'/\bS K H');eY jb ⟨none,none,rfl,bQ.refl _,Wx⟩ ?_ ?_
 ·rintro i σ H4 hi ⟨kv,pv,rfl,s4,NM⟩
  walk_at"O"
  rw[e1]
  have mi:i<(nm:):=by rw[en]at hi;exact hi
  have st:=s.take (i+1)
  walk_at"D"
  have Wu:=st.len hy
  rw[Qad,Qa8 ()]at Wu
  have ec:cut nm none (some ((i+1:Nat):Int))=nm.take (i+1):=fP nm (i+1)
  have low:∀ws,fi (y.filter (kept (nm.take (i+1)))) ws->ws=NB (nm.take (i+1)) D:=λws h=>fi.low hy lO rG () () hD h
  have WR:=λL M=>Gq (L:=L) (M:=M) hy lO (k:=i+1) () ()
  have aaf:∀L,eG (y.filter (kept (nm.take (i+1)))) L->∀r∈L,aZ r∈D:=λL h r hr=>by
   obtain ⟨m,m1,m2,m3⟩:=hD.mem
   obtain rfl:=sj lO m1 (Qet _) rG m2
   exact (m3 _).mpr (((FL.rims hy s mi h).mpr (.inr ⟨r,hr,rfl⟩)).mono ())
  refine ⟨_,rfl,_,rfl,_,rfl,_,rfl,nm,rfl,(),y,_,rfl,zl,(),λH5 s5=>?_⟩
  rw[ec]
  generalize y.filter (kept (nm.take (i+1)))=z at*
  have hw5:=s5 _ _ (s4.get Uj)
  refine ⟨_,rfl,z,rfl,hz,(),(),NM.same s5,λt1 D1 H6 sB Gz WA EF vf Uh=>?_⟩
  have hw6:=sB.get hw5
  refine ⟨_,rfl,_,rfl,_,rfl,_,rfl,nm,rfl,(),tw,D,_,rfl,hw6,hDf,λw hw=>?_,λd hd=>st.eE d (by rw[<-ec];exact hd),λt2 H7 nt2 WM s7=>?_⟩
  ·have:=XW w hw
   exact ⟨λc hc=>hy.lt c (this.1.aY c hc),()⟩
  rw[ec, <-low D1 vf]at WM
  refine ⟨_,_,.lst (bu.of (s7 _ _ EF)) (iS _),.lst (bu.of WM) (iS _),⟨vf.lay hz,vf.lay hz⟩,Ky _,_,rfl,ir (by rw[Kz];rfl) ?_⟩
  have RU:bQ (BS K) H4 H7:=((bQ.of s5).trans sB).trans (.of s7)
  have Uk:=Gz.same s7
  clear EF WM WA nt2 s7 sB Gz hw6 hw5 s5
  refine ⟨_,rfl,z,rfl,hz,(),(),λL H8 hL s8=>?_⟩
  refine ⟨_,rfl,z,rfl,hz,(),(),Uk.same s8,λt3 D3 H9 sC O3 nt3 ht3 hD3 hf3=>?_⟩
  obtain rfl:=vf.same hz hD3
  have O8:2*(((z:):Int) / 2) - 1 - ((((z:):Int) / 2+1 - (L.length:Int)) / 2)=(D1.length:Int):=by
   obtain ⟨rs,pr,pe,_⟩:=hL
   have:=vf.many hz () pr
   have e:=pe.length_eq
   rw[Xi]at e
   lia
  rw[O8]
  refine ⟨t3,_,rfl,.inl (bu.of ht3),_,_,rfl,rfl,_,rfl,ir (by rw[aX,decide_eq_true rfl];rfl) ?_⟩
  have O9:bQ (BS K) H4 H9:=(RU.trans (.of s8)).trans sC
  clear RU Uk s8 sC ht3 nt3 O8 hL
  have WS:=O9.get (s4.get Uj)
  refine ⟨_,rfl,z,rfl,hz,(),(),λpr L2 O5 hr npr WJ LC=>?_⟩
  have jR:=hr.jR
  have RL:∀r∈L2,∀c∈r,Lt c:=λr Mn c hc=>by
   obtain ⟨us,pu,qu,_⟩:=hr
   obtain ⟨u,hu,rfl⟩:=Qar.mp (qu.mem_iff.mp Mn)
   exact hz.lt c ((pu.g7 u hu).2 c (((lN hz () (pu.g7 u hu).1 (pu.g7 u hu).2).1 c).mp hc))
  have GF:=LC _ _ WS
  refine ⟨pr,rfl,⟨_,bu.of WJ⟩,?_⟩
  refine let vM:Nat->List V->Hp->Prop:=(λj acc H'=>ay O5 H'/\acc=[]);gG (K:=K) (a:=pr) (xs:=ck L2) vM (by rw[aX];have:=jR.1;lia) (λj acc H' h=>bu.of (h.1 _ _ WJ)) ⟨ay.refl _,rfl⟩ ?_ ?_
  ·rintro j x acc WT Nx hj hx mO ⟨Be,rfl⟩ nx
   obtain ⟨r,Ww,rfl⟩:=lQ hx
   have Ue:=Qaf Ww
   refine ⟨⟨rfl,trivial⟩,_,rfl,r,rfl,RL r Ue,by have:=jR.2 r Ue;lia,λWD Bf=>?_⟩
   exact ⟨_,rfl,tw,_,rfl,.inl (bu.of (Bf _ _ (Be _ _ GF))),rfl,AW _,_,rfl,ir (by show (!Lj (V.str (S (aZ r))) (ck D))=false;rw[uI,decide_eq_true (aaf L2 hr r Ue)];rfl) (nx _ _ () ⟨Be.trans Bf,rfl⟩)⟩
  rintro acc WT A mO ⟨Be,rfl⟩ hA
  refine ⟨Qat _,λp0 n0=>?_⟩
  have Bf:=ay.upd (o:= .lst []) hA
  have K3:=ay.upd (o:= .lst []) n0
  refine ⟨.list [],.list [],.lst (bu.of (K3 _ _ aa)) .nil,.lst (bu.of aa) .nil,⟨rfl,rfl⟩,∅,_,rfl,ir rfl ?_⟩
  have s9b:=((LC.trans Be).trans Bf).trans K3
  have A6:=O3.same s9b
  have WU:=O9.trans (.of s9b)
  generalize upd (upd WT A (.lst [])) p0 (.lst [])=H13 at s9b A6 WU ⊢
  clear Bf K3 Be WJ npr GF O3 O9 LC
  refine ⟨_,rfl,z,rfl,hz,(),(),λLa H14 ra K4=>?_⟩
  refine ⟨_,rfl,y,rfl,hy,h2,h8,λLb WE rb NN=>?_⟩
  refine ⟨_,_,rfl,rfl,_,rfl,ir (decide_eq_false (Int.not_lt.mpr (WR La Lb ra rb))) ?_⟩
  have WV:=WU.trans (.of (K4.trans NN))
  have NO:=(A6.same K4).same NN
  refine ⟨_,rfl,_,_,rfl,rfl,_,rfl,?_⟩
  by_cases z1:1<=i
  ·refine x5 (decide_eq_true ()) ?_
   refine ⟨_,rfl,_,rfl,_,rfl,y,nm,i,rfl,hy,h8,lO,rG,z1,mi,NO,λH16 WW aag=>?_⟩
   refine ⟨_,rfl,ir rfl ?_⟩
   exact ⟨_,_,rfl,(s4.trans WV).trans WW,aag⟩
  ·refine ir (decide_eq_false ()) ?_
   exact ir rfl ⟨_,_,rfl,s4.trans WV,NO⟩
 ·rintro σ H4 ⟨kv,pv,rfl,s4,NM⟩
  obtain ⟨a,ha⟩:∃a,nm[0]? =some a:=⟨nm[0],P4 ()⟩
  have si:=Qaf ha
  have Ub:q8 nm (0:Int)=some a:=cR (j:=0) ha
  walk_at"M"
  have one:=λws=>fi.oW (ws:=ws) hy lO rG ha
  have WX:=λws h=>fi.low (ws:=ws) hy lO rG (Qaa 1) () hD h
  have st:=s.take 1
  walk_at"D"
  have Wu:=st.len hy
  rw[e1]at one hz Wu WX
  have Ij:[a].length=1:=rfl
  refine ⟨_,rfl,_,rfl,nm,_,_,rfl,rfl,(),Ub,y,[a],rfl,zl,(),λH5 s5=>?_⟩
  generalize y.filter (kept [a])=z at*
  refine ⟨_,rfl,hz,(),(),NM.same s5,λt1 D1 H6 sB Gz WA EF vf Uh=>?_⟩
  obtain rfl:=one D1 vf
  have aaC:1<=D.length:=by
   have e:=WX _ vf
   have m:[aC a]∈NB [a] D:=by rw[<-e];exact Xh
   exact Qd5 (Qag.mp m).1
  refine ⟨_,rfl,nm,_,_,rfl,rfl,(),Ub,a,rfl,hy.lt a (s.aY a si),by show 1<=sizeLine;lia,λp2 n2=>?_⟩
  have s7:=ay.upd (o:= .lst [.str (S [aC a])]) n2
  have mU:upd H6 p2 (.lst [.str (S [aC a])]) p2=some (.lst (ck [[aC a]])):=aa
  refine ⟨_,_,.lst (bu.of (s7 _ _ EF)) (iS _),.lst (bu.of mU) (iS _),⟨vf.lay hz,vf.lay hz⟩,Ky _,_,rfl,ir (by rw[Kz];rfl) ?_⟩
  have RU:=(s4.trans ((bQ.of s5).trans sB)).trans (.of s7)
  have Uk:=Gz.same s7
  generalize upd H6 p2 (.lst [.str (S [aC a])])=H7 at RU Uk ⊢
  have hw7:=RU.get Uj
  refine ⟨_,rfl,tw,rfl,⟨_,bu.of hw7⟩,?_⟩
  refine let WL:Nat->List V->Hp->Prop:=(λi acc H'=>ay H7 H'/\acc=(List.replicate i true).map V.bl);gG (K:=K) (a:=tw) (xs:=ck D) WL (by rw[aX];lia) (λi acc H' h=>bu.of (h.1 _ _ hw7)) ⟨ay.refl _,rfl⟩ ?_ ?_
  ·rintro i x acc H8 Nx hi hx mO ⟨s8,rfl⟩ nx
   obtain ⟨v,hv,rfl⟩:=lQ hx
   obtain ⟨v1,v2,v3⟩:=XW v (Qaf hv)
   refine ⟨⟨rfl,trivial⟩,fV ?_⟩
   refine ⟨_,rfl,_,rfl,y,v,v,rfl,hy,h8,Sh.of hy v1 (),λH9 s9=>?_⟩
   rw[show V7 y v=true from by unfold V7;exact decide_eq_true v3]
   exact nx _ _ (by simpa using mO) ⟨s8.trans s9,nX _⟩
  rintro acc H8 A mO ⟨s8,rfl⟩ hA
  refine ⟨A,_,rfl,bu.of aa,?_⟩
  rw[x8]
  refine ⟨_,rfl,ir rfl ?_⟩
  have s9:=s8.trans (ay.upd (o:= .lst ((List.replicate (ck D:) true).map V.bl)) hA)
  have O9:=RU.trans (.of s9)
  have O3:=Uk.same s9
  generalize upd H8 A (.lst ((List.replicate (ck D:) true).map V.bl))=H9 at O9 O3 ⊢
  clear s9 s8 RU hw7 Uk mU s7 EF WA Gz sB s5 n2
  have WS:=O9.get Uj
  have sX9:=sX.trans O9
  have hb9:dR H9 b:=by obtain ⟨u,v,e⟩:=hb;exact ⟨u,v,sX9.get e⟩
  refine ⟨_,rfl,_,rfl,tw,_,rfl,.inl (bu.of WS),b,D.length,by rw[aX];rfl,hb9,(),(),λr O5 hr WY LC=>?_⟩
  have GF:=LC _ _ WS twb
  have WZ:bS K O5:=ND O3 hb9 LC
  have W0:=(eK.of (b:=b) sX9).trans (eK.ofB LC)
  clear sX sX9 O9 O3 WS hb9 LC Wx Uj s4 NM
  have c1:zD (ck D) (some (r:Int)) none=ck (D.drop r):=by
   show cut (ck D) (some (r:Int)) none=_
   rw[tY];unfold ck;rw[List.map_drop]
  have c2:zD (ck D) none (some (r:Int))=ck (D.take r):=by
   show cut (ck D) none (some (r:Int))=_
   rw[fP];unfold ck;rw[Qft]
  refine ⟨_,rfl,_,rfl,_,rfl,tw,_,rfl,bu.of GF,λp1 n1=>?_⟩
  rw[c1]
  have Be:=ay.upd (o:= .lst (ck (D.drop r))) n1
  have rY:upd O5 p1 (.lst (ck (D.drop r))) p1=some (.lst (ck (D.drop r))):=aa
  generalize upd O5 p1 (.lst (ck (D.drop r)))=WT at Be rY ⊢
  refine ⟨_,rfl,_,rfl,_,rfl,tw,_,rfl,bu.of (Be _ _ GF),λp2 n2=>?_⟩
  rw[c2]
  have Bf:=ay.upd (o:= .lst (ck (D.take r))) n2
  have mU:upd WT p2 (.lst (ck (D.take r))) p2=some (.lst (ck (D.take r))):=aa
  have RV:=Bf _ _ rY
  generalize upd WT p2 (.lst (ck (D.take r)))=WD at Bf mU RV ⊢
  refine ⟨p1,p2,_,_,rfl,rfl,RV,mU,by rw[aX,aX,Qav,Qad];lia,λp3 n3=>?_⟩
  have hE:∀w∈D.drop r++D.take r,w∈D:=λw hw=>(Qai.mp hw).elim Qc2 Qbi
  have hEl:(D.drop r++D.take r:)=D.length:=by rw[kb,Qav,Qad];lia
  have K3:=ay.upd (o:= .lst (ck (D.drop r)++ck (D.take r))) n3
  have sE:upd WD p3 (.lst (ck (D.drop r)++ck (D.take r))) p3=some (.lst (ck (D.drop r++D.take r))):=by rw[aa];unfold ck;rw[Qao]
  have W2:=W0.trans (eK.of (.of ((Be.trans Bf).trans K3)))
  have A6:=((WZ.same Be).same Bf).same K3
  have W3:=((WY.same Be).same Bf).same K3
  generalize upd WD p3 (.lst (ck (D.drop r)++ck (D.take r)))=H13 at sE W2 A6 W3 ⊢
  clear Be Bf K3 rY mU RV W0 WZ WY GF c1 c2 n1 n2 n3
  generalize D.drop r++D.take r=E at hE hEl sE ⊢
  have e8:∀w∈E,SW y w/\(w:)<=8:=λw hw=>by have:=XW w (hE w hw);exact ⟨this.1,()⟩
  have apE:∀cs:List c5,(∀w∈cs,w∈E)->Sx y cs=true:=λcs h=>NC (λw hw=>(XW w (hE w (h w hw))).2.2) λw hw v hv=>hD.ss hy w (hE w (h w hw)) v (hE v (h v hv))
  refine ⟨_,rfl,p3,_,rfl,.inl (bu.of sE),_,_,rfl,rfl,_,rfl,by rw[aX];lia,by rw[aX];lia,?_⟩
  rw[aX]
  refine let Wz4:Nat->L2.St->Hp->Prop:=(λi σ H'=>∃v4:Option V,σ=[some (.ref b),some (.str (S y)),some (.str (S nm)),some (.ref tw),v4,pv,some (.int (r:Nat)),some (.ref p3)]/\ay H13 H');eY Wz4 ⟨kv,rfl,ay.refl _⟩ ?_ ?_
  ·rintro i σ H14 hi ⟨v4,rfl,K4⟩
   have Ss:i+2<E.length:=by lia
   rw[show (0:Int)+(i:Int)=(i:Int) by lia]
   have g:∀j,j<E.length->∃w∈E,q8 (ck E) (j:Int)=some (V.str (S w)):=λj hj=>⟨E[j],Qbk hj,cR (mY hj)⟩
   obtain ⟨w0,m0,a0⟩:=g i ()
   obtain ⟨w1,m1,a1⟩:=g (i+1) ()
   obtain ⟨w2,m2,a2⟩:=g (i+2) ()
   have a1':q8 (ck E) ((i:Int)+1)=some (V.str (S w1)):=a1
   have a2':q8 (ck E) ((i:Int)+2)=some (V.str (S w2)):=a2
   have RW:=K4 _ _ sE
   have sub:∀w∈[w0,w2,w1],w∈E:=λw hw=>by
    simp only[Qab,Qan,or_false]at hw
    rcases hw with rfl | rfl | rfl
    ·exact m0
    ·exact m2
    ·exact m1
   refine ⟨_,rfl,_,rfl,_,rfl,p3,_,_,_,rfl,rfl,bu.of RW,a0,?_⟩
   refine ⟨_,rfl,_,rfl,_,_,rfl,rfl,p3,_,_,_,rfl,rfl,bu.of RW,a2',_,rfl,_,rfl,_,_,rfl,rfl,p3,_,_,_,rfl,rfl,bu.of RW,a1',by show 3<=sizeLine;lia,λpt LB=>?_⟩
   refine ⟨y,pt,[w0,w2,w1],[w0,w2,w1],rfl,hy,h8,aa,uN hy λw hw=>e8 w (sub w hw),KI (λw hw=>e8 w (sub w hw)) (Qaa 3),λWE NN=>?_⟩
   rw[apE _ sub]
   exact ⟨_,_,rfl,rfl,_,rfl,ir rfl ⟨_,rfl,(K4.trans (ay.upd LB)).trans NN⟩⟩
  ·rintro σ H14 ⟨v4,rfl,K4⟩
   have c2:zD (ck E) none (some 2)=ck (E.take 2):=by
    show cut (ck E) none (some ((2:Nat):Int))=_
    rw[fP];unfold ck;rw[Qft]
   refine ⟨_,rfl,_,rfl,_,rfl,p3,_,rfl,bu.of (K4 _ _ sE),λp4 n4=>?_⟩
   rw[c2]
   refine ⟨p4,_,rfl,.inl ⟨bu.of aa,λpt LB=>?_⟩⟩
   have sub:∀w∈E.take 2,w∈E:=λw hw=>Qbi hw
   refine ⟨y,pt,E.take 2,E.take 2,rfl,hy,h8,aa,uN hy λw hw=>e8 w (sub w hw),KI (λw hw=>e8 w (sub w hw)) (by rw[Qad];lia),λWE NN=>?_⟩
   rw[apE _ sub]
   have WW:=((K4.trans (ay.upd n4)).trans (ay.upd LB)).trans NN
   refine ⟨_,_,rfl,rfl,?_⟩
   exact q WE (W2.trans (eK.of (.of WW))) (W3.same WW) (A6.same WW)
theorem NS:bD P w K mg base eM 1 Ta TZ ["_law_script","_law_k"] (DJ K):=by
 refine T.F40.fn.ok oZ (λvs H Q E h=>ID h) (λ_ _ _ _ H vs Q E hr h=>?_)
 refine let Z5:TS:=_;let Z4:TS:=_;let Z3:TS:=_;let Z2:TS:=_;let Z1:TS:=_;let Z0:TS:=_;⟨_,(ag (aB (i:=2) oZ.nd (aF br (aF mR ao (pv 1)) ao))
   (ah Z0 (ag (cV (aU zx (pv 1) (cM K T.z_len (pv 0)) (aW _)) (ah Z1 (aj (aB (i:=2) oZ.nd (ba (bY K rfl) (pv 0) (pv 1) (λ_ _=>rfl))))) (ah Z2 (aj (cV (aU v5 (cM K T.z_len (pv 0)) ao (aW _)) (ah Z3 (aj (aB (i:=2) oZ.nd (aF br (pv 2) (aF mR (aF gm (ba (bY K rfl) (pv 0) (aF gm (pv 1) (cM K T.z_len (pv 0))) (λ_ _=>rfl)) ao) ao))))) bO))))
   (ah Z4 (ag (aB (i:=3) oZ.nd (aF gm (aF G5 (aF br (aF br (aF gm (pv 2) ao) (aF mR ao (pv 1))) ao) ao) ao))
   (ah Z5 (aj (aI (dP (ai (ba (bY K rfl) (dP (ai ao (ae (pv 2)))) (cX pL rfl T.z_int boot_int (ae (de G7 (pv 2) (aF G5 ao ao) (aW _)))) (λ_ _=>rfl)) (ae (aF br (aF gm (pv 3) ao) ao)))))))))))),?_⟩
 obtain ⟨a,ns,k,rfl,hS,hk,q⟩:=h
 have hp:(0:Int)<2147483629:=by decide
 walk_at "rd"
 refine ⟨a,_,rfl,.inl hS,?_⟩
 walk_at "rd"
 refine eN (λe=>?_) (λe=>?_)
 ·have e':(k:Int)<((ns.map V.int:):Nat):=of_decide_eq_true e
  rw[Xi]at e'
  obtain ⟨z,hz⟩:=DK (ns:=ns) (i:=k) ()
  walk_at "rd"
  refine ⟨a,_,k,_,rfl,rfl,hS,cR hz,?_⟩
  walk_at "rd"
  refine λp1 n1=>?_
  walk_at "rd"
  refine .inr ⟨_,rfl,?_⟩
  obtain ⟨y,hy⟩:=B5 _ z
  refine ⟨p1,_,_,_,rfl,rfl,bu.of aa,hy,?_⟩
  walk_at "rd"
  walk_at"r"
 ·walk_at "rd"
  refine ⟨a,_,rfl,.inl hS,?_⟩
  walk_at "rd"
  refine eN (λe2=>?_) (λe2=>?_)
  ·have e':(0:Int)<((ns.map V.int:):Nat):=of_decide_eq_true e2
   have hl:(0:Int)<((ns:):Int):=by rw[Xi]at e';exact e'
   have m1:0<=(k:Int)%((ns:):Int):=Qcp _ ()
   have m2:(k:Int)%((ns:):Int)<((ns:):Int):=Qcn _ hl
   obtain ⟨z,hz⟩:=DK (ns:=ns) (i:=((k:Int)%((ns:):Int)).toNat) ()
   have Sv:q8 (ns.map V.int) ((k:Int)%((ns.map V.int:):Nat))=some (V.int z):=by
    have:=cR hz
    rw[Int.toNat_of_nonneg m1]at this
    rw[Xi]
    exact this
   walk_at "rd"
   refine ⟨a,_,rfl,.inl hS,?_⟩
   walk_at "rd"
   refine ⟨a,_,_,_,rfl,rfl,hS,Sv,?_⟩
   walk_at "rd"
   refine λp1 n1=>?_
   walk_at "rd"
   refine .inr ⟨_,rfl,?_⟩
   obtain ⟨y,hy⟩:=B5 _ _
   refine ⟨p1,_,_,_,rfl,rfl,bu.of aa,hy,?_⟩
   walk_at "rd"
   walk_at"r"
  ·walk_at "rd"
   refine λp1 n1=>?_
   walk_at "rd"
   refine .inr ⟨_,rfl,?_⟩
   obtain ⟨y,hy⟩:=B5 _ _
   refine ⟨p1,_,_,_,rfl,rfl,bu.of aa,hy,?_⟩
   walk_at "rd"
   walk_at"r"
theorem K7:bD P w K mg base eM 2 Td T4 ["_law_box_here","_law_few","_law_top"] (Ad K):=by
 have o6:=A4 (P:=P) (w:=w) (base:=base) T
 have gY:=lW (P:=P) (w:=w) (base:=base) T
 refine T.F43.fn.ok gj (λvs H Q E h=>Fs h) (λ_ _ _ _ H vs Q E hr h=>?_)
 refine ⟨_,(ag (aB (i:=3) gj.nd (cX (BF rfl) rfl T.z_list boot_list (ae (nI [97,98,99,100,101,102,103,104,105,106,107,108,109,110,111,112,113,114,115,116,117,118,119,120,121,122] ⋯))))
   (ag (aB (i:=4) gj.nd (dP bL))
   (ag (cF PassesOwn.never rfl (iK rfl T.z_range (ae (aF br (pv 1) (ak o6 T.Wg hr (ai (pv 0) (ae (aF br (aF cq (pv 2) (pv 1)) ao))))))) (aL (i:=5) gj.nd rfl (Or.inl rfl)) (ag (aB (i:=6) gj.nd (cw K rfl Qbh Qec Qeb sS (pv 3) (ae (ak o6 T.Wg hr (ai (pv 0) (ae (cM K T.z_len (pv 3))))))))
   (aj (aB (i:=4) gj.nd (aF BA (pv 4) (dP (ai (pv 6) (ae (ak gY T.Wh hr (ae (pv 6)))))))))))
   (ag (aB (i:=7) gj.nd (nI [] ⋯))
   (ag (fL PassesOwn.never (aU v5 (cM K T.z_len (pv 4)) ao (aW _)) (aj (aB (i:=7) gj.nd (aF Dr (pv 7) (cw K rfl Qbh Qec Qeb sS (pv 4) (ae (ak o6 T.Wg hr (ai (pv 0) (ae (cM K T.z_len (pv 4)))))))))))
   (aj (aI (pv 7)))))))),?_⟩
 obtain ⟨b,jR,top,rfl,hb,h1,h2,h3,q⟩:=h
 have hs:=Zs1
 walk_at "rd"
 intro p1 n1
 walk_at "rd"
 intro p2 n2
 have s1:ay H (upd (upd H p1 (.lst (dY aV))) p2 (.lst [])):=(ay.upd n1).trans (ay.upd n2)
 have XX:p1≠b:=hb.ne n1
 have ZP:H p2=none:=ay.free (ay.upd n1) n2
 have bp2:p2≠b:=hb.ne ZP
 have p12:p1≠p2:=λz=>by rw[<-z,aa]at n2;cases n2
 walk_at "rd"
 refine ⟨b,_,rfl,hb.same s1,(),(),λn H1 hn Lq s2=>?_⟩
 walk_at "rd"
 refine let jb:Nat->L2.St->Hp->Prop:=(λi σ H'=>∃(pe:Addr) (L E:c5) (kv lv:Option V),σ=[some (.ref b),some (.int jR),some (.int top),some (.ref p1),some (.ref pe),kv,lv,none]/\QN i L E/\H' p1=some (.lst (dY L))/\H' pe=some (.lst (dY E))/\p1≠pe/\H pe=none/\dR H' b/\bA b H H');eY jb
  ⟨p2,aV,[],none,none,rfl,QN.start,s2 _ _ (by rw[aq p12,aa];rfl) XX,s2 _ _ aa bp2,p12,ZP,Lq,(bA.of s1).trans s2⟩ ?_ ?_
 ·rintro i σ H2 hi ⟨pe,L,E,kv,lv,rfl,yw,rY,qX,n1e,XY,vC,s3⟩
  show LH _ _ _ _ _
  refine IF λDx Wr=>?_
  have Ss:i<26:=by simp at hi;lia
  have ZL:=yw.ll
  have Lu:=yw.el
  refine ⟨_,rfl,.inl ⟨rfl,_,bu.of rY⟩,?_⟩
  walk_at "rd"
  refine ⟨p1,_,rfl,.inl (bu.of rY),b,_,rfl,vC,by rw[bo];lia,by rw[bo];lia,λr H3 Y9 W4 s4=>?_⟩
  rw[bo]at Y9
  have W5:r<L.length:=by lia
  have aah:=s4 _ _ rY XX
  have aai:=s4 _ _ qX (hb.ne XY)
  refine ⟨p1,_,_,r,_,rfl,rfl,aah,(),(),by rw[bo,seqIndex_of () (),Qap],IE W5,?_⟩
  rw[wM]
  have dZ:Lt L[r]:= .inl (yw.sm _ (Qbk W5))
  have W6:(upd H3 p1 (.lst (dY (L.eraseIdx r)))) pe=some (.lst (dY E)):=by rw[aq (Ne.symm n1e)];exact aai
  walk_at "rd"
  intro p3 n3
  have e3:pe≠p3:=az W6 n3
  refine ⟨pe,p3,_,_,rfl,rfl,by rw[aq e3];exact W6,aa,by rw[bo];show E.length+2<=_;lia,λp4 n4=>?_⟩
  have n3':H p3=none:=((s3.trans s4).tV n1).none n3 (W4.tV XX |>.ne n3)
  have bx3:=(W4.tV (o:= .lst (dY (L.eraseIdx r))) XX).tV (o:= .lst [V.str (S [L[r]]),V.str (S [aC L[r]])]) (hb.ne n3')
  have sx3:=((s3.trans s4).tV (o:= .lst (dY (L.eraseIdx r))) n1).tV (o:= .lst [V.str (S [L[r]]),V.str (S [aC L[r]])]) n3'
  have n4':H p4=none:=sx3.none n4 (bx3.ne n4)
  have h14:p1≠p4:=λz=>by rw[<-z]at n4;by_cases z3:p1=p3<;>simp[upd,z3]at n4
  have h13:p1≠p3:=λz=>by rw[<-z,aa]at n3;cases n3
  refine Wr _ _ ⟨p4,L.eraseIdx r,E++[L[r],aC L[r]],_,_,rfl,yw.turn Ss W5,by rw[aq h14,aq h13,aa],?_,h14,n4',bx3.tV (hb.ne n4'),sx3.tV n4'⟩
  rw[aa, <-MA]
  rfl
 ·rintro σ H2 ⟨pe,L,E,kv,lv,rfl,yw,rY,qX,n1e,XY,vC,s3⟩
  have Lu:=yw.el
  have Lc:=hb.ne XY
  walk_at "rd"
  refine ⟨λm σ H'=>∃F E':c5,σ=[some (.ref b),some (.int jR),some (.int top),some (.ref p1),some (.ref pe),kv,lv,some (.str (S F))]/\m=E'.length/\(F++E').Perm E/\H' pe=some (.lst (dY E'))/\dR H' b/\bA b H H',⟨_,[],E,rfl,rfl,Qet _,qX,vC,s3⟩,?_⟩
  rintro m σ H3 ⟨F,E',rfl,rfl,tQ,NT,W4,s4⟩
  have hlen:=tQ.length_eq
  rw[kb]at hlen
  have ve:(jR:Int)+n<=9:=by lia
  have aaD:E.length<=100:=by rw[Lu];lia
  walk_at "rd"
  refine ⟨pe,_,rfl,.inl (bu.of NT),_,_,rfl,rfl,_,rfl,eN (λe=>?_) (λe=>?_)⟩
  ·have e':(0:Int)<((dY E':):Nat):=of_decide_eq_true e
   rw[bo]at e'
   refine ⟨_,rfl,_,rfl,.inl ⟨rfl,_,bu.of NT⟩,?_⟩
   walk_at "rd"
   refine ⟨pe,_,rfl,.inl (bu.of NT),b,_,rfl,W4,by rw[bo];lia,by rw[bo];lia,λr H4 W5 hb4 s5=>?_⟩
   rw[bo]at W5
   have hr5:r<E'.length:=by lia
   refine ⟨pe,_,_,r,_,rfl,rfl,s5 _ _ NT Lc,(),(),by rw[bo,seqIndex_of () (),Qap],IE hr5,?_⟩
   rw[wM]
   have hp:=mW (P4 hr5)
   have nk:=hp.length_eq
   rw[Qa4]at nk
   refine ⟨F,_,rfl,rfl,by show F.length+1<=_;lia,(E'.eraseIdx r:),(),F++[E'[r]],E'.eraseIdx r,rfl,rfl,?_,aa,hb4.tV Lc,(s4.trans s5).tV XY⟩
   rw[Qam]
   exact (List.Perm.append_left F hp).trans tQ
  ·have e':E'=[]:=by
    cases E' with
    | nil=>rfl
    | cons c r=>exact absurd (decide_eq_true (by rw[bo];show (0:Int)<(((r:)+1:Nat):Int);lia)) e
   subst e'
   rw[Qa9]at tQ
   have Oi:=tQ.length_eq
   refine ⟨_,rfl,q F H3 (yw.yd.perm tQ.symm) ?_ ?_ W4 s4⟩
   ·rw[Oi,Lu];lia
   ·rw[Oi,Lu];lia
theorem RX:bD P w K mg base eM 13 Th T8 ["_law_script"] (pN K):=by
 have RY:=NS (P:=P) (w:=w) (base:=base) T
 have NU:=K7 (P:=P) (w:=w) (base:=base) T
 have K8:=GC (P:=P) (w:=w) (base:=base) T
 refine T.F47.fn.ok yX (λvs H Q E h=>MB h) (λ_ _ _ _ H vs Q E hr h=>?_)
 refine let Z3:TS:=_;let Z2:TS:=_;let Z1:TS:=_;let Z0:TS:=_;⟨_,(ag (aB (i:=1) yX.nd (dP bL))
   (ah Z0 (ag (cF PassesOwn.never rfl (iK rfl T.z_range (ae (aQ (v7 rfl) rfl T.z_max boot_max (ai ao (ae (aQ (pJ rfl) rfl T.z_min boot_min (ai ao (ae (cM K T.z_len (pv 0)))))))))) (aL (i:=2) yX.nd rfl (Or.inl rfl)) (ah Z1 (ag (aB (i:=3) yX.nd (ak RY T.F40 hr (ai (pv 0) (ae (pv 2)))))
   (ah Z2 (aj (eT (cw K rfl Qbh Qch Qcg eZ (pv 1) (ae (cW (ai (pv 3) (ae (ak NU T.F43 hr (ai (pv 3) (ai ao (ae ao)))))))))))))))
   (ah Z3 (aj (aI (aQ (pU K rfl rfl) rfl T.z_all boot_all (ae (cL ["_law_box_here","_law_yard_here"] [none,none] (dA K rfl (aF BA (pv 1) (cg (nM K rfl) (pv 1) d_ (b9 ao)))) trivial (λ_ _ _ _=>(ji (n:=2) K rfl rfl (cJ (aL (i:=0) (by decide+kernel:List.Nodup (["_law_box_here","_law_yard_here"]:List Str)) rfl (Or.inl rfl)) (cJ (aL (i:=1) (by decide+kernel:List.Nodup (["_law_box_here","_law_yard_here"]:List Str)) rfl (Or.inl rfl)) jg)))) (λ_ _ _ _=>iq) (λ_ _ _ _=>(ak K8 T.F46 hr (ai (pv 0) (ae (pv 1)))))))))))))),?_⟩
 obtain ⟨a,ns,rfl,hS,hl,hX,q⟩:=h
 have hs:=Zs1
 have hT0:bS K H:=hX _ (by unfold p6;simp) _ _
 refine ⟨Qat _,λpf Ug=>?_⟩
 have s1:=ay.upd (o:= .lst []) Ug
 have Z_:upd H pf (.lst []) pf=some (.lst (([]:List Addr).map V.ref)):=aa
 refine ⟨_,rfl,a,_,rfl,.inl (s1.seq hS),?_⟩
 have aaE:=cnt (lo:=1) (hi:=4) (m:=(ns.map V.int:)) ∅
 refine ⟨_,_,rfl,_,_,rfl,?_⟩
 refine ⟨_,rfl,(),(),?_⟩
 refine let jb:Nat->L2.St->Hp->Prop:=(λi σ H'=>∃(us:List Addr) (v2 v3:Option V),σ=[some (.ref a),some (.ref pf),v2,v3]/\H' pf=some (.lst (us.map V.ref))/\(us:)=i/\(∀u∈us,Itm pf H' u)/\ay H H');eY jb ⟨[],none,none,rfl,Z_,rfl,λu hu=>absurd hu Qan,s1⟩ ?_ ?_
 ·rintro i σ H2 hi ⟨us,v2,v3,rfl,hp,NI,hu,s2⟩
  rw[show (0:Int)+(i:Int)=(i:Int) by lia]
  refine ⟨_,rfl,_,rfl,a,ns,i,rfl,s2.seq hS,(),λb H3 nb bx s3=>?_⟩
  have pb:pf≠b:=az hp nb
  have sE:=s3 _ _ hp
  refine ⟨_,rfl,.inl ⟨rfl,_,bu.of sE⟩,_,rfl,_,rfl,b,1,4,rfl,bx,∅,∅,∅,λy H4 hyd hy1 hy2 bx4 s4=>?_⟩
  have WN:=bA.same nb s3 s4
  have Ui:=WN _ _ hp
  refine ⟨by show 2<=sizeLine;lia,λt nt=>?_⟩
  have s5:=WN.trans (ay.upd (o:= .tup [.ref b,.str (S y)]) nt)
  have NK:=(ay.upd (o:= .tup [.ref b,.str (S y)]) nt) _ _ Ui
  have new:Itm pf (upd H4 t (.tup [.ref b,.str (S y)])) t:=⟨b,y,aa,bx4.same (ay.upd nt),Ne.symm pb,hyd,(),()⟩
  generalize upd H4 t (.tup [.ref b,.str (S y)])=H5 at s5 NK new ⊢
  refine ⟨pf,_,_,rfl,rfl,NK,by rw[Xi];lia,?_⟩
  refine ⟨us++[t],_,_,rfl,by rw[aa,Qao];rfl,by rw[kb,NI];rfl,λu Xv=>?_,λc o e=>by rw[aq (az e Ug)];exact s5 _ _ (s2 c o e)⟩
  rcases Qai.mp Xv with z | z
  ·exact ((hu u z).same s5).BU NK
  ·rw[U0.mp z];exact new.BU NK
 ·rintro σ H2 ⟨us,v2,v3,rfl,hp,NI,hu,s2⟩
  have aaF:(us:)<=4:=by lia
  have Lm:=hT0.same s2
  refine ⟨_,rfl,_,rfl,_,rfl,pf,_,rfl,bu.of hp,λp1 n1=>?_⟩
  have ec:zD (us.map V.ref) none (some 1)=(us.take 1).map V.ref:=by
   show cut (us.map V.ref) none (some ((1:Nat):Int))=_
   rw[fP,Qft]
  rw[ec]
  have s3:=ay.upd (o:= .lst ((us.take 1).map V.ref)) n1
  have rY:upd H2 p1 (.lst ((us.take 1).map V.ref)) p1=some (.lst ((us.take 1).map V.ref)):=aa
  have sE:=s3 _ _ hp
  generalize upd H2 p1 (.lst ((us.take 1).map V.ref))=H3 at s3 rY sE ⊢
  refine ⟨pf,p1,_,_,rfl,rfl,sE,rY,by rw[Xi,Xi,Qad];lia,λpc nc=>?_⟩
  have s4:=ay.upd (o:= .lst (us.map V.ref++(us.take 1).map V.ref)) nc
  have hc:upd H3 pc (.lst (us.map V.ref++(us.take 1).map V.ref)) pc=some (.lst ((us++us.take 1).map V.ref)):=by rw[aa,Qao]
  generalize upd H3 pc (.lst (us.map V.ref++(us.take 1).map V.ref))=H4 at s4 hc ⊢
  have NM:=(Lm.same s3).same s4
  have hI:∀u∈us++us.take 1,Itm pf H4 u:=λu h=>(((Qai.mp h).elim (hu u) λh=>hu u (Qbi h)).same s3).same s4
  have XO:(us++us.take 1:)<=5:=by rw[kb,Qad];lia
  generalize us++us.take 1=vs at hc hI XO ⊢
  refine ⟨pc,rfl,⟨_,bu.of hc⟩,?_⟩
  refine let vM:Nat->List V->Hp->Prop:=(λi acc H'=>H' pc=some (.lst (vs.map V.ref))/\(∀u∈vs,Itm pf H' u)/\bS K H'/\acc=(List.replicate i true).map V.bl);gG (K:=K) (a:=pc) (xs:=vs.map V.ref) vM (by rw[Xi];lia) (λi acc H' h=>bu.of h.1) ⟨hc,hI,NM,rfl⟩ ?_ ?_
  ·rintro i x acc H5 Nx hi hx mO ⟨hc5,hI5,RN,rfl⟩ nx
   rw[Qau]at hx
   obtain ⟨u,hui,rfl⟩:=Option.map_eq_some_iff.mp hx
   obtain ⟨b,y,e,hb,n,yd,y2,y8⟩:=hI5 u (Qaf hui)
   refine ⟨u,_,rfl,dH.of e,rfl,_,_,rfl,_,_,rfl,rfl,?_⟩
   refine ⟨trivial,fV ?_⟩
   refine ⟨_,rfl,_,rfl,b,y,rfl,hb,yd,y2,y8,RN,λH6 s6 bx Gz=>?_⟩
   exact nx _ _ (by simpa using mO) ⟨s6.get hc5 (NF hc5 hb),λv hv=>(hI5 v hv).next s6 hb bx,Gz,nX _⟩
  ·rintro acc H5 D mO ⟨hc5,hI5,RN,rfl⟩ hD
   refine ⟨D,_,rfl,bu.of aa,?_⟩
   rw[x8]
   exact q _
end
theorem cj{M:List Value->Prop}(h:M []):∀us:List Value,(us:)=0->M us
 | [],_=>h
theorem aR{M:List Value->Prop}(h:∀(a:Value) (us:List Value),(us:)=n->M (a::us)):∀us:List Value,(us:)=n+1->M us
 | a::us,e=>h a us (Nat.succ.inj e)
def Dn(K:c6)(x:Str)(st:Stmt)(f:Addr)(fd:FuncData):Prop:=PySem.W.nsIn K mainGlobals x=some (some (.ref f))/\LV K x x st f fd
variable{oc doc pm ct:Value}{od an:Option Addr}{zg:Array (Option Value)}
theorem dn{x:Str}{st:Stmt}{f:Addr}{kV cZ:Value}(a:PySem.W.nsIn K mainGlobals x=some (some (.ref f)))(l:K.lookup f=some ⟨oc,od,.func (PySem.W.fnOf x x (dI st) (cS st) (aA st) .none kV doc pm an cZ ct),zg⟩)(c:PySem.W.codeIn K cZ x=true)(k:PySem.W.keepIn K (.ref f)=true):Dn K x st f (PySem.W.fnOf x x (dI st) (cS st) (aA st) .none kV doc pm an cZ ct):=⟨a,xJ l c k⟩
theorem gK{h:Heap}{x:Str}{st:Stmt}{f:Addr}{fd:FuncData}{ps:List Str}(X:K.In h)(G:h.Ns mainGlobals mg)(a:Dn K x st f fd)(b:∀(kV doc pm:Value) (an:Option Addr) (cZ ct:Value) (us:List Value),(us:)=(ps:)->bindArgs (PySem.W.fnOf x x (dI st) (cS st) (aA st) .none kV doc pm an cZ ct) ⟨us,[]⟩=pure (ps.zip us)):bp K mg x st ps f fd:=⟨a.2,Qfr X G a.1,a.2.binds b⟩
def DnL(K:c6)(x:Str)(st:Stmt)(f:Addr)(fd:FuncData)(t:Addr):Prop:=Dn K x st f fd/\IA K x x st f fd t/\∃c,PySem.W.tabIn K x=some (c,t)
theorem dnL{x:Str}{st:Stmt}{f c t:Addr}{cc:Value}{oo:Option Addr}{ss:Array (Option Value)}{kV:Value}{vs:Array Value}(a:PySem.W.nsIn K mainGlobals x=some (some (.ref f)))(l:K.lookup f=some ⟨oc,od,.func (PySem.W.fnOf x x (dI st) (cS st) (aA st) .none kV doc pm an (.ref c) ct),zg⟩)(b:PySem.W.codeIn K (.ref c) x=true)(k:PySem.W.keepIn K (.ref f)=true)(v:K.lookup c=some ⟨cc,oo,.fields vs,ss⟩)(e:(vs[11]?: Option Value)=some (.ref t))(h:PySem.W.codeHdIn K c t=true):DnL K x st f (PySem.W.fnOf x x (dI st) (cS st) (aA st) .none kV doc pm an (.ref c) ct) t:=
 ⟨⟨a,xJ l b k⟩,Mx l b k h,c,by unfold PySem.W.tabIn;rw[a];dsimp only;rw[l];dsimp only;rw[v];dsimp only;rw[e]⟩
theorem all_mk{l:PySem.W.OpenLaw}{w:World}{h:Heap}{f0 f1 f2 f3 f4 f5 f6 f7 f8 f9 SA SD SE SF SG SH SI SJ SK RD SM KN KO SN SO SQ SR SU SV SX SY S0 S3 S4 S5 S6 S7 S8 S9 S_ Ta Tb Tc Td Te Tf Tg Th aP a_ mJ iG e_:Addr}(X:K.In h)(G:h.Ns mainGlobals mg)(Xw:mg "law"=some (.ref fa))
  {d0 d1 d2 d3 d4 d5 d6 d7 d8 d9 Ti Tj Tn To Tp Tq Tr Ts Tt RE Tu Tv Tw Tx Tz TB TC TF TH TJ TK TL TM TN TQ TR TU TV TX TY TZ T1 T3 T4 T5 T6 T7 T8:FuncData}
  {RZ R0 NV NW:Option Addr} {R1 NX:Array (Option Value)} {R3 R4 R5 R6 K9 R7 NY NZ N0 N1 EH N2:Value}
  (a0:Dn K "contrary" m9 f0 d0)
  (a1:Dn K "turned" uR f1 d1)
  (a2:Dn K "bands" yS f2 d2)
  (a3:Dn K "steps_round" iB f3 d3)
  (a4:Dn K "within" uS f4 d4)
  (a5:Dn K "strands_at" jr f5 d5)
  (a6:Dn K "points" uT f6 d6)
  (a7:Dn K "corner_points" gv f7 d7)
  (a8:Dn K "corners" qy f8 d8)
  (a9:Dn K "chord_starts" gR f9 d9)
  (a10:Dn K "number_in" kP SA Ti)
  (a11:Dn K "count_meetings" fS SD Tj)
  (a12:Dn K "strands_in" js SE Tn)
  (a13:Dn K "corner_ends" iC SF To)
  (a14:Dn K "shortened" kQ SG Tp)
  (a15:Dn K "shortest" m_ SH Tq)
  (a16:Dn K "ring" CT SI Tr)
  (a17:Dn K "loop" CU SJ Ts)
  (a18:Dn K "root" CV SK Tt)
  (a19:DnL K "by_size" lR RD RE e_)
  (a20:Dn K "corner_steps" gS SM Tu)
  (a21:Dn K "steps_ahead" iD KN Tv)
  (a22:Dn K "steps_back" jt KO Tw)
  (a23:Dn K "parting" qz SN Tx)
  (a24:Dn K "side_of" qA SO Tz)
  (a25:Dn K "comes_ahead" iE SQ TB)
  (a26:Dn K "number_among" gT SR TC)
  (a27:Dn K "seen_strand" iF SU TF)
  (a28:Dn K "taut_order" ju SV TH)
  (a29:Dn K "taut" CY SX TJ)
  (a30:Dn K "least" yT SY TK)
  (a31:Dn K "own" KJ S0 TL)
  (a32:Dn K "next_end" ng S3 TM)
  (a33:Dn K "rim_behind" jv S4 TN)
  (a34:Dn K "rims" CZ S5 TQ)
  (a35:Dn K "handles" qB S6 TR)
  (a36:Dn K "lie_apart" kR S7 TU)
  (a37:Dn K "most" C0 S8 TV)
  (a38:Dn K "full_set" nh S9 TX)
  (a39:Dn K "is_lone" qC S_ TY)
  (a40:Dn K "_law_box" C1 Ta TZ)
  (a41:Dn K "_law_take" yU Tb T1)
  (a42:Dn K "_law_other" uU Tc T3)
  (a43:Dn K "_law_yard" yV Td T4)
  (a44:Dn K "_law_of_letters" jw Te T5)
  (a45:Dn K "_law_step_right" jx Tf T6)
  (a46:Dn K "_law_right" uV Tg T7)
  (a47:Dn K "law" KL Th T8)
  (q_Seen:PySem.W.nsIn K mainGlobals "Seen"=some (some (.ref aP)))
  (pg_Seen:PySem.W.plainGet K aP Str.empty=true)
  (hd_Seen:PySem.W.hasDictIn K aP=true)
  (po_Seen:PySem.W.plainOver K aP=true)
  (sa_Seen:PySem.W.findIn K (.ref aP) "__setattr__"=some (some (.builtin "object.__setattr__")))
  (n_Seen_strand:PySem.W.findIn K (.ref aP) "strand"=some none)
  (n_Seen_way:PySem.W.findIn K (.ref aP) "way"=some none)
  (n_Seen_place:PySem.W.findIn K (.ref aP) "place"=some none)
  (q_Way:PySem.W.nsIn K mainGlobals "Way"=some (some (.ref a_)))
  (pg_Way:PySem.W.plainGet K a_ Str.empty=true)
  (hd_Way:PySem.W.hasDictIn K a_=true)
  (po_Way:PySem.W.plainOver K a_=true)
  (sa_Way:PySem.W.findIn K (.ref a_) "__setattr__"=some (some (.builtin "object.__setattr__")))
  (n_Way_size:PySem.W.findIn K (.ref a_) "size"=some none)
  (n_Way_root_size:PySem.W.findIn K (.ref a_) "root_size"=some none)
  (n_Way_leads:PySem.W.findIn K (.ref a_) "leads"=some none)
  (n_Way_onward:PySem.W.findIn K (.ref a_) "onward"=some none)
  (n_Way_backward:PySem.W.findIn K (.ref a_) "backward"=some none)
  (mk_Way:PySem.W.makesIn K a_=true)
  (qi_Way:PySem.W.findIn K (.ref a_) "__init__"=some (some (.ref mJ)))
  (fi_Way:PySem.W.isFn K (.ref mJ)=true)
  (kc_Way:PySem.W.keepIn K (.ref a_)=true)
  (li_Way:K.lookup mJ=some ⟨R3,RZ,.func (PySem.W.fnOf "__init__" "Way.__init__" (dI lS) (cS lS) (aA lS) .none R4 R5 R6 R0 K9 R7),R1⟩)
  (ci_Way:PySem.W.codeIn K K9 "Way.__init__"=true)
  (ki_Way:PySem.W.keepIn K (.ref mJ)=true)
  (mk_Seen:PySem.W.makesIn K aP=true)
  (qi_Seen:PySem.W.findIn K (.ref aP) "__init__"=some (some (.ref iG)))
  (fi_Seen:PySem.W.isFn K (.ref iG)=true)
  (kc_Seen:PySem.W.keepIn K (.ref aP)=true)
  (li_Seen:K.lookup iG=some ⟨NY,NV,.func (PySem.W.fnOf "__init__" "Seen.__init__" (dI i_) (cS i_) (aA i_) .none NZ N0 N1 NW EH N2),NX⟩)
  (ci_Seen:PySem.W.codeIn K EH "Seen.__init__"=true)
  (ki_Seen:PySem.W.keepIn K (.ref iG)=true)
  (z_all:PySem.W.nsIn K mainGlobals "all"=some none)
  (z_enumerate:PySem.W.nsIn K mainGlobals "enumerate"=some none)
  (z_int:PySem.W.nsIn K mainGlobals "int"=some none)
  (z_len:PySem.W.nsIn K mainGlobals "len"=some none)
  (z_list:PySem.W.nsIn K mainGlobals "list"=some none)
  (z_max:PySem.W.nsIn K mainGlobals "max"=some none)
  (z_min:PySem.W.nsIn K mainGlobals "min"=some none)
  (z_range:PySem.W.nsIn K mainGlobals "range"=some none)
  (z_reversed:PySem.W.nsIn K mainGlobals "reversed"=some none)
  (z_sorted:PySem.W.nsIn K mainGlobals "sorted"=some none)
  (z_str:PySem.W.nsIn K mainGlobals "str"=some none)
  (z_tuple:PySem.W.nsIn K mainGlobals "tuple"=some none)
  (tn:([e_]:List Addr).Nodup):
  ∃fd:FuncData,(∀(s:Shared) (v:Value),BindsTo s fd ⟨[v],[]⟩ [("_law_script",v)])/\∀base:Heap,K.In base->base.Ns mainGlobals mg->z_ base mg->bD l.prog w K mg base eM 13 fa fd ["_law_script"] (pN K):=by
 have e:=Xw.symm.trans (Qfr X G a47.1)
 cases e
 obtain ⟨_,_,_,_,_,_,_,_,_,rfl,_⟩:=a47.2.ex
 have K_:=xJ (st:=lS) li_Way ci_Way ki_Way
 have R8:=K_.binds (ps:=["self","yard","word","longest"]) λ_ _ _ _ _ _=>aR λ_=>aR λ_=>aR λ_=>aR λ_=>cj rfl
 have EI:=xJ (st:=i_) li_Seen ci_Seen ki_Seen
 have N3:=EI.binds (ps:=["self","strand","way","place"]) λ_ _ _ _ _ _=>aR λ_=>aR λ_=>aR λ_=>aR λ_=>cj rfl
 have T:Txt K mg _ _ _ _ _ _ _ _ _ _ _ _ _ _ _ _ _ _ _ _ _ _ _ _ _ _ _ _ _ _ _ _ _ _ _ _ _ _ _ _ _ _ _ _ _ _ _ _ _ _ _ _ _ _ _ _ _ _ _ _ _ _ _ _ _ _ _ _ _ _ _ _ _ _ _ _ _ _ _ _ _ _ _ _ _ _ _ _ _ _ _ _ _ _ _ _ _ _ _ _ _ _ _:=⟨gK X G a0 λ_ _ _ _ _ _=>aR λ_=>cj rfl,gK X G a1 λ_ _ _ _ _ _=>aR λ_=>cj rfl,gK X G a2 λ_ _ _ _ _ _=>aR λ_=>cj rfl,gK X G a3 λ_ _ _ _ _ _=>aR λ_=>aR λ_=>aR λ_=>cj rfl,gK X G a4 λ_ _ _ _ _ _=>aR λ_=>aR λ_=>cj rfl,gK X G a5 λ_ _ _ _ _ _=>aR λ_=>aR λ_=>aR λ_=>cj rfl,gK X G a6 λ_ _ _ _ _ _=>aR λ_=>aR λ_=>cj rfl,gK X G a7 λ_ _ _ _ _ _=>aR λ_=>aR λ_=>aR λ_=>cj rfl,gK X G a8 λ_ _ _ _ _ _=>aR λ_=>aR λ_=>cj rfl,gK X G a9 λ_ _ _ _ _ _=>aR λ_=>cj rfl,gK X G a10 λ_ _ _ _ _ _=>aR λ_=>aR λ_=>cj rfl,gK X G a11 λ_ _ _ _ _ _=>aR λ_=>cj rfl,gK X G a12 λ_ _ _ _ _ _=>aR λ_=>aR λ_=>cj rfl,gK X G a13 λ_ _ _ _ _ _=>aR λ_=>aR λ_=>cj rfl,gK X G a14 λ_ _ _ _ _ _=>aR λ_=>cj rfl,gK X G a15 λ_ _ _ _ _ _=>aR λ_=>cj rfl,gK X G a16 λ_ _ _ _ _ _=>aR λ_=>cj rfl,gK X G a17 λ_ _ _ _ _ _=>aR λ_=>cj rfl,gK X G a18 λ_ _ _ _ _ _=>aR λ_=>cj rfl,gK X G a19.1 λ_ _ _ _ _ _=>aR λ_=>cj rfl,gK X G a20 λ_ _ _ _ _ _=>aR λ_=>aR λ_=>aR λ_=>cj rfl,gK X G a21 λ_ _ _ _ _ _=>aR λ_=>aR λ_=>aR λ_=>cj rfl,gK X G a22 λ_ _ _ _ _ _=>aR λ_=>aR λ_=>aR λ_=>cj rfl,gK X G a23 λ_ _ _ _ _ _=>aR λ_=>aR λ_=>aR λ_=>aR λ_=>cj rfl,gK X G a24 λ_ _ _ _ _ _=>aR λ_=>cj rfl,gK X G a25 λ_ _ _ _ _ _=>aR λ_=>aR λ_=>cj rfl,gK X G a26 λ_ _ _ _ _ _=>aR λ_=>aR λ_=>cj rfl,gK X G a27 λ_ _ _ _ _ _=>aR λ_=>aR λ_=>aR λ_=>cj rfl,gK X G a28 λ_ _ _ _ _ _=>aR λ_=>aR λ_=>aR λ_=>cj rfl,gK X G a29 λ_ _ _ _ _ _=>aR λ_=>aR λ_=>cj rfl,gK X G a30 λ_ _ _ _ _ _=>aR λ_=>aR λ_=>cj rfl,gK X G a31 λ_ _ _ _ _ _=>aR λ_=>aR λ_=>cj rfl,gK X G a32 λ_ _ _ _ _ _=>aR λ_=>aR λ_=>cj rfl,gK X G a33 λ_ _ _ _ _ _=>aR λ_=>aR λ_=>cj rfl,gK X G a34 λ_ _ _ _ _ _=>aR λ_=>cj rfl,gK X G a35 λ_ _ _ _ _ _=>aR λ_=>cj rfl,gK X G a36 λ_ _ _ _ _ _=>aR λ_=>aR λ_=>cj rfl,gK X G a37 λ_ _ _ _ _ _=>aR λ_=>cj rfl,gK X G a38 λ_ _ _ _ _ _=>aR λ_=>cj rfl,gK X G a39 λ_ _ _ _ _ _=>aR λ_=>aR λ_=>cj rfl,gK X G a40 λ_ _ _ _ _ _=>aR λ_=>aR λ_=>cj rfl,gK X G a41 λ_ _ _ _ _ _=>aR λ_=>aR λ_=>cj rfl,gK X G a42 λ_ _ _ _ _ _=>aR λ_=>cj rfl,gK X G a43 λ_ _ _ _ _ _=>aR λ_=>aR λ_=>aR λ_=>cj rfl,gK X G a44 λ_ _ _ _ _ _=>aR λ_=>aR λ_=>cj rfl,gK X G a45 λ_ _ _ _ _ _=>aR λ_=>aR λ_=>aR λ_=>cj rfl,gK X G a46 λ_ _ _ _ _ _=>aR λ_=>aR λ_=>cj rfl,gK X G a47 λ_ _ _ _ _ _=>aR λ_=>cj rfl,a19.2.1,a19.2.2,tn,Qfr X G q_Seen,⟨pg_Seen,hd_Seen,po_Seen,sa_Seen⟩,n_Seen_strand,n_Seen_way,n_Seen_place,Qfr X G q_Way,⟨pg_Way,hd_Way,po_Way,sa_Way⟩,n_Way_size,n_Way_root_size,n_Way_leads,n_Way_onward,n_Way_backward,⟨mk_Way,qi_Way,fi_Way,kc_Way⟩,K_,R8,⟨mk_Seen,qi_Seen,fi_Seen,kc_Seen⟩,EI,N3,Qb2 X G z_all,Qb2 X G z_enumerate,Qb2 X G z_int,Qb2 X G z_len,Qb2 X G z_list,Qb2 X G z_max,Qb2 X G z_min,Qb2 X G z_range,Qb2 X G z_reversed,Qb2 X G z_sorted,Qb2 X G z_str,Qb2 X G z_tuple⟩
 exact ⟨_,λs v=> .of_eq rfl,λbase _ _ bb=>haveI:Iy base mg:=⟨bb⟩;RX T⟩
theorem walk{l:PySem.W.OpenLaw}{q:Program}{loose:List Str}{XP:(Str->Option Value)->Heap->Prop}{YP:World->Heap->Prop}{d:DefRec}{K:Params->c6}{ts:List Addr}(hn:l.most=some 63)(U3:d.params.defaults=[])
  (hY:∀(w:World) (h:Heap),YP w h->(K w.params).In h/\∀r∈ts,h.get? r=some (PySem.W.tabObj #[])) (VP:∀w:World,PySem.W.noTabs (K w.params)=true) (hC:∀w:World,ts.all (Iw (K w.params))=true) (hX:∀w:World,p6.all (tabOf (K w.params) ts)=true)
  (F:∀(w:World) (mg:Str->Option Value) (fa:Addr) (h:Heap),(K w.params).In h->h.Ns mainGlobals mg->mg d.name=some (.ref fa)->
   ∃fd:FuncData,(∀(s:Shared) (u:Value),BindsTo s fd ⟨[u],[]⟩ [("_law_script",u)])/\∀base:Heap,(K w.params).In base->base.Ns mainGlobals mg->z_ base mg->bD l.prog w (K w.params) mg base eM 13 fa fd ["_law_script"] (pN (K w.params))):
  PySem.W.WalkO q loose XP YP l.row.toRowW d [] (λf vs=>PySem.call f vs):=
 L2.Iz (n:=63) (k:=13) (x:="_law_script") (CX:=eM) (sp:=pN) hn ∅ U3 ⟨rfl,∅,∅,rfl⟩ hY VP hC hX F (λ_ _ a ns hl hX hS=>⟨a,ns,rfl,hS,hl,hX,λ_=>rfl⟩) λ_ _ _ _ z=>z
end My
structure PySem.W.Fast:Prop where (tw10247442098863083767 tw10291737621614581032 tw104448229785790913 tw10515273886873832413 tw10627642961939366055 tw10795780225215924924 tw10827850863793103920 tw1084574987426566220 tw10935697685419209444 tw1100027572127520602 tw11067134503111444163 tw11073917482110707712 tw11240982990734853192 tw11304444808627237743 tw11427328759444276168 tw11557912180180965719 tw11571433471669572648 tw11696607718369422542 tw11769411625520194509 tw11910001854000672257 tw11940411051170255586 tw12187876452593097095 tw12467722333039370302 tw12519566234068623719 tw1267358899896448372 tw12797438821453311054 tw1286875110190067932 tw13038541229897579301 tw13115398040913714995 tw13313135272751700816 tw13431900821916304699 tw13560109969542866201 tw13651105844078143404 tw13943898881748131898 tw13961582013667902111 tw14103903338553735597 tw14167539346140969165 tw14265410126580817070 tw1433609711534234724 tw14387955163328314931 tw14487966563043267655 tw14613521064929290868 tw14628893265968952807 tw1463846885348689314 tw14645966671801679418 tw14709584595040190140 tw14783653892900486717 tw14936488272553494108 tw15139877483034994835 tw15174567949370898240 tw15191779786745798891 tw15207649465024634282 tw1526514830470485637 tw15307370933900172997 tw15451128913987992267 tw15685411840072797728 tw15806668162584826763 tw1584609313758884453 tw15903673433569884559 tw15922827251543104262 tw1592950069428613730 tw15974342439141991218 tw16170540073928823231 tw1628933928830140924 tw16421295300417621706 tw16443442572843373991 tw16678172012095345591 tw16688366984728289186 tw16801440763357682728 tw16879669101727310858 tw16930009309945456136 tw16966443205606797883 tw17011480172642072674 tw1704926962268570883 tw17218346710926062416 tw17256194696253125661 tw17338026390765196181 tw17821029386241751133 tw17957326175153175582 tw18217491582775068381 tw18386374232884051138 tw18394506900217874780 tw184291316060676763 tw1907501606183108605 tw1951950886389068397 tw1963467084471686564 tw2071854882714307305 tw2077194979416727095 tw2111482761991094613 tw2113506526876818909 tw2198779603887287805 tw2274684465397407591 tw2276464471036878674 tw2460602253044220776 tw2712069074641812919 tw2720709876567972405 tw2733943604483006802 tw2933324603228764817 tw2962675508236502507 tw3022912003547962856 tw3127424805101321285 tw3127798013988714063 tw3191790415124106975 tw3312018807368562294 tw3471543867012000304 tw3510069673837856937 tw3747116447278354269 tw3881137036493603226 tw3916767767913866911 tw3938890140093259094 tw4214212404694438037 tw4221238156964601029 tw4265364719050872169 tw4344231220220549137 tw4395314399465851054 tw4397252268714605306 tw4399033901147996503 tw4418205017885563584 tw4452942969437505540 tw4514929611055673329 tw4583033510296824889 tw4623808902626662537 tw4623966703377683837 tw4738167509155406411 tw4791231323942134826 tw4835109460151855531 tw4956449319923500497 tw5077393903975188931 tw507884618245055751 tw5356973282700591803 tw5690673511332137453 tw5698977348783626992 tw5702363981756889921 tw5746034966539275271 tw582539156706739051 tw5880343283074394209 tw5881993456473733259 tw5911974977638770696 tw5951036012491178945 tw6008339292298855829 tw6062146210740505350 tw6092750612013401058 tw6136182523704001741 tw6212437344800377373 tw6254908989817793626 tw6284824348242291090 tw6322393788080987529 tw6480685630889613937 tw6749401997304353602 tw6782537823968209685 tw6793783287414407436 tw6927169446209102324 tw7019203311465991121 tw7023414517620233087 tw7051735288288938897 tw7075835326932596220 tw7096446438614532064 tw7099582871926618052 tw7146821675868141319 tw7229931258657608804 tw7312783431194449481 tw7342361885728051859 tw7409932570389775437 tw7642839773585488530 tw7690139052692882721 tw7811718550136918691 tw7840385613741153837 tw7990942432148035967 tw8120021013007388220 tw815613532211549714 tw8175369221158961830 tw8274121485246999431 tw8502515721559735062 tw854514366672473955 tw8546196994277962690 tw8616240883139352663 tw8650699422739951972 tw8671622211747757038 tw8760125300881283506 tw8761309505368950221 tw8810281931413891843 tw8851461771611940524 tw8929029158190543117 tw9044540830372784721 tw9092554443259719964 tw9109221386578610783 tw9138691036982721465 tw9154826675779481524 tw9268660138770885944 tw9272267993339314426 tw9385190736561867495 tw945784784267969109 tw9473560220105825371 tw9591471304505400405 tw9703325924370053324 tw9709274750867214242 tw985214643619037212 tw9909819966981331185 tw9964483309020728162 tw9993854964673397676:True)
open PySem PySem.W PyProof.Rows
set_option maxRecDepth 100000 in
set_option maxHeartbeats 0 in
theorem PySem.Challenge.cw_mustmeet_k73_whole_yards_within_one_by_o_holds : PySem.Challenge.rw_mustmeet_k73_whole_yards_within_one_by_o.Holds := by
 w_on;o_law;k_head;(case hw=>w_witness2)
 k_fill
 refine My.walk (l:=PySem.Challenge.rw_mustmeet_k73_whole_yards_within_one_by_o) rfl rfl (fun w h Y=>⟨PySem.W.km_in_of Y,PySem.W.km_tabs_of Y⟩) ?KT ?KC ?KX ?F
 (case KT=>intro w;kernel_rfl)
 (case KC=>intro w;kernel_rfl)
 (case KX=>intro w;kernel_rfl)
 case F=>
  intro w mg fa h KX G hmg
  refine' My.all_mk KX G hmg (My.dn ?a0 ?l0 ?c0 ?k0) (My.dn ?a1 ?l1 ?c1 ?k1) (My.dn ?a2 ?l2 ?c2 ?k2) (My.dn ?a3 ?l3 ?c3 ?k3) (My.dn ?a4 ?l4 ?c4 ?k4) (My.dn ?a5 ?l5 ?c5 ?k5) (My.dn ?a6 ?l6 ?c6 ?k6) (My.dn ?a7 ?l7 ?c7 ?k7) (My.dn ?a8 ?l8 ?c8 ?k8) (My.dn ?a9 ?l9 ?c9 ?k9) (My.dn ?a10 ?l10 ?c10 ?k10) (My.dn ?a11 ?l11 ?c11 ?k11) (My.dn ?a12 ?l12 ?c12 ?k12) (My.dn ?a13 ?l13 ?c13 ?k13) (My.dn ?a14 ?l14 ?c14 ?k14) (My.dn ?a15 ?l15 ?c15 ?k15) (My.dn ?a16 ?l16 ?c16 ?k16) (My.dn ?a17 ?l17 ?c17 ?k17) (My.dn ?a18 ?l18 ?c18 ?k18) (My.dnL ?a19 ?l19 ?c19 ?k19 ?v19 ?e19 ?h19) (My.dn ?a20 ?l20 ?c20 ?k20) (My.dn ?a21 ?l21 ?c21 ?k21) (My.dn ?a22 ?l22 ?c22 ?k22) (My.dn ?a23 ?l23 ?c23 ?k23) (My.dn ?a24 ?l24 ?c24 ?k24) (My.dn ?a25 ?l25 ?c25 ?k25) (My.dn ?a26 ?l26 ?c26 ?k26) (My.dn ?a27 ?l27 ?c27 ?k27) (My.dn ?a28 ?l28 ?c28 ?k28) (My.dn ?a29 ?l29 ?c29 ?k29) (My.dn ?a30 ?l30 ?c30 ?k30) (My.dn ?a31 ?l31 ?c31 ?k31) (My.dn ?a32 ?l32 ?c32 ?k32) (My.dn ?a33 ?l33 ?c33 ?k33) (My.dn ?a34 ?l34 ?c34 ?k34) (My.dn ?a35 ?l35 ?c35 ?k35) (My.dn ?a36 ?l36 ?c36 ?k36) (My.dn ?a37 ?l37 ?c37 ?k37) (My.dn ?a38 ?l38 ?c38 ?k38) (My.dn ?a39 ?l39 ?c39 ?k39) (My.dn ?a40 ?l40 ?c40 ?k40) (My.dn ?a41 ?l41 ?c41 ?k41) (My.dn ?a42 ?l42 ?c42 ?k42) (My.dn ?a43 ?l43 ?c43 ?k43) (My.dn ?a44 ?l44 ?c44 ?k44) (My.dn ?a45 ?l45 ?c45 ?k45) (My.dn ?a46 ?l46 ?c46 ?k46) (My.dn ?a47 ?l47 ?c47 ?k47) ?q_Seen ?pg_Seen ?hd_Seen ?po_Seen ?sa_Seen ?n_Seen_strand ?n_Seen_way ?n_Seen_place ?q_Way ?pg_Way ?hd_Way ?po_Way ?sa_Way ?n_Way_size ?n_Way_root_size ?n_Way_leads ?n_Way_onward ?n_Way_backward ?mk_Way ?qi_Way ?fi_Way ?kc_Way ?li_Way ?ci_Way ?ki_Way ?mk_Seen ?qi_Seen ?fi_Seen ?kc_Seen ?li_Seen ?ci_Seen ?ki_Seen ?z_all ?z_enumerate ?z_int ?z_len ?z_list ?z_max ?z_min ?z_range ?z_reversed ?z_sorted ?z_str ?z_tuple ?tn
  case a0|l0|c0|k0|a1|l1|c1|k1|a2|l2|c2|k2|a3|l3|c3|k3|a4|l4|c4|k4|a5|l5|c5|k5|a6|l6|c6|k6|a7|l7|c7|k7|a8|l8|c8|k8|a9|l9|c9|k9|a10|l10|c10|k10|a11|l11|c11|k11|a12|l12|c12|k12|a13|l13|c13|k13|a14|l14|c14|k14|a15|l15|c15|k15|a16|l16|c16|k16|a17|l17|c17|k17|a18|l18|c18|k18|a19|l19|c19|k19|v19=>k_is
  (case e19=>rfl)
  (case h19=>kernel_rfl)
  case a20|l20|c20|k20|a21|l21|c21|k21|a22|l22|c22|k22|a23|l23|c23|k23|a24|l24|c24|k24|a25|l25|c25|k25|a26|l26|c26|k26|a27|l27|c27|k27|a28|l28|c28|k28|a29|l29|c29|k29|a30|l30|c30|k30|a31|l31|c31|k31|a32|l32|c32|k32|a33|l33|c33|k33|a34|l34|c34|k34|a35|l35|c35|k35|a36|l36|c36|k36|a37|l37|c37|k37|a38|l38|c38|k38|a39|l39|c39|k39|a40|l40|c40|k40|a41|l41|c41|k41|a42|l42|c42|k42|a43|l43|c43|k43|a44|l44|c44|k44|a45|l45|c45|k45|a46|l46|c46|k46|a47|l47|c47|k47|q_Seen|pg_Seen|hd_Seen|po_Seen|sa_Seen|n_Seen_strand|n_Seen_way|n_Seen_place|q_Way|pg_Way|hd_Way|po_Way|sa_Way|n_Way_size|n_Way_root_size|n_Way_leads|n_Way_onward|n_Way_backward|mk_Way|qi_Way|fi_Way|kc_Way|li_Way|ci_Way|ki_Way|mk_Seen|qi_Seen|fi_Seen|kc_Seen|li_Seen|ci_Seen|ki_Seen|z_all|z_enumerate|z_int|z_len|z_list|z_max|z_min|z_range|z_reversed|z_sorted|z_str|z_tuple=>k_is
  (case tn=>decide)
