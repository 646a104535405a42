import Derived.Test.YtdkngfdnfekgfaaGreatLon4
import Derived.Great.BuildSlice
import Derived.IntWalk
import Derived.BigQuiet
import Derived.Deep.QuietTactic
set_option maxHeartbeats 3200000
set_option maxRecDepth 100000
set_option linter.unusedSimpArgs false
set_option linter.unusedVariables false
namespace Go.Proofs.YtdkngfdnfekgfaaGreat
open Go.RowKit Tab
def os:List (Nat×Nat)→List Value
 | []=>[]
 | (a,t)::o=>os o++[.int .i64 (a:Int),.int .i64 (t:Int)]
theorem os_length(st:List (Nat×Nat)):(os st).length=st.length*2:=by
 induction st with
 | nil=>rfl
 | cons e o ih=>obtain⟨a,t⟩:=e;simp only[os,List.length_append,ih,List.length_cons,List.length_nil];omega
theorem os_last(a t:Nat)(o:List (Nat×Nat)):(os ((a,t)::o))[o.length*2]? = some (.int .i64 (a:Int))∧(os ((a,t)::o))[o.length*2+1]? = some (.int .i64 (t:Int)):=by
 have:=os_length o;constructor
 ·simp only[os];rw[List.getElem?_append_right (by omega),this,Nat.sub_self];rfl
 simp only[os];rw[List.getElem?_append_right (by omega),this,show o.length*2+1 - o.length*2=1 by omega];rfl
theorem os_set(a t:Nat)(o:List (Nat×Nat))(b:Nat):(os ((a,t)::o)).set (o.length*2) (.int .i64 (b:Int))=os ((b,t)::o):=by
 have:=os_length o;simp only[os];rw[List.set_append_right _ _ (by omega),this,Nat.sub_self];rfl
theorem os_dec(a t:Nat)(o:List (Nat×Nat))(h:1≤a):(os ((a,t)::o)).set (o.length*2) (.int .i64 ((a:Int) - 1))=os ((a - 1,t)::o):=by
 rw[show (a:Int) - 1=((a - 1:Nat):Int) by omega];exact os_set a t o (a - 1)
def OwnP(w:World)(B:Nat)(A:Option Addr)(n c:Nat)(st:List (Nat×Nat)):Prop:=n=st.length∧OwnV 174 2 w B A n c (os st)
theorem OwnP.nil(w:World)(B:Nat):OwnP w B none 0 0 []:=⟨rfl,OwnV.nil _ _ _ _⟩
theorem times_any(B:Nat)(A:Option Addr)(n c:Nat)(st:List (Nat×Nat))(w:World)(h:OwnP w B A n c st)(hn:n≤1099511627776):
  Calls Tryz.prog 133 #[.slice A n c] w fun e w'=>e=.returned (.int .i64 (times st:Nat))∧w=w':=by
 obtain⟨h0,h⟩:=h;cases st with
 | nil =>
  simp only[List.length_nil] at h0;subst h0;go_enter Tryz.func133,Tryz.ntmps133;go_wp2_with fail;go_ret;exact⟨rfl,rfl⟩
 | cons e o =>
  obtain⟨a,t⟩:=e;obtain⟨g,rfl,hg,hlt⟩:=h.block (by simp at h0;omega);have h1:=World.ownsRow.cellAt h (o.length*2+1) (by simp at h0;omega);rw[(os_last a t o).2] at h1;simp only[List.length_cons] at h0;generalize o.length=k at h0 h1;subst h0;clear h;have hk:((k:Int)+1 == 0)=false:=beq_eq_false_iff_ne.2 (by omega);go_enter Tryz.func133,Tryz.ntmps133;go_wp2_with fail;go_ret;exact⟨rfl,rfl⟩
theorem OwnV.front{E s:Nat}{w:World}{B:Nat}{A:Option Addr}{n c:Nat}{l:List Value}(h:OwnV E s w B A n c l)(m:Nat)(hm:m≤n):OwnV E s w B A m c (l.take (m*s)):=by
 have h0:m*s≤n*s:=Nat.mul_le_mul_right _ hm;refine⟨by rw[List.length_take,h.1];omega,?_⟩;rcases h.2 with ⟨hv,hz⟩ | ⟨g,cap,cur,hv,hbg,hg,hnc,hcm,hcs,ht⟩
 ·refine .inl ⟨?_,by omega⟩;simp only[Value.slice.injEq] at hv ⊢;exact⟨hv.1,by omega,hv.2.2⟩
 simp only[Value.slice.injEq] at hv;obtain⟨rfl,_,rfl⟩:=hv;refine .inr ⟨g,c,cur,rfl,hbg,hg,by omega,hcm,hcs,?_⟩;rw[← ht,List.take_take,Nat.min_eq_left h0]
theorem os_take(a t:Nat)(o:List (Nat×Nat)):(os ((a,t)::o)).take (o.length*2)=os o:=by
 simp only[os];exact List.take_left' (os_length o)
def Paths(B:Nat)(w:World)(st:List (Nat×Nat))(e:Ending)(w':World):Prop:=∃ A n c,e=.returned (.slice A n c)∧OwnP w' B A n c st∧Below B w w'
theorem pops_more{a t:Nat}{o:List (Nat×Nat)}(h:1 < a):pops ((a,t)::o)=(a - 1,t)::o:=by simp only[pops];rw[if_pos h]
theorem pops_less{a t:Nat}{o:List (Nat×Nat)}(h:¬ 1 < a):pops ((a,t)::o)=pops o:=by simp only[pops];rw[if_neg h]
theorem behind_leaf(B:Nat)(A:Option Addr)(n c:Nat)(st:List (Nat×Nat))(k p z:Int)(w:World)(h:OwnP w B A n c st)(hB:B≤w.heap.size)(hn:n≤1099511627776)(h3:¬ k=3)(h4:¬ k=4)(ha:∀ e∈st,1≤e.1∧e.1≤1099511627776):
  Calls Tryz.prog 130 #[.slice A n c,nd k p z] w (Paths B w (pops st)):=by
 have h3':(k == 3)=false:=beq_eq_false_iff_ne.2 h3;have h4':(k == 4)=false:=beq_eq_false_iff_ne.2 h4;have hbl:Below B w (w.alloc (.cells #[.int .i64 k,.int .i64 p,.int .i64 z] 70)):=(Below.refl _ _).alloc hB _;have hal:OwnV 174 2 (w.alloc (.cells #[.int .i64 k,.int .i64 p,.int .i64 z] 70)) B A n c (os st):=h.2.below rfl (bl1 _ _);obtain⟨h0,_⟩:=h;have H0:=hid h0;have HA:=hid ha;clear h3 h4 h0 ha;go_enter Tryz.func130,Tryz.ntmps130;go_wp2_with fail;go_loopw [0,5] (fun q _ wr=>∃(m:Nat) (st':List (Nat×Nat)),q=.slice A m c∧m≤1099511627776∧OwnP wr B A m c st'∧pops st'=pops st∧(∀ e∈st',1≤e.1∧e.1≤1099511627776)∧Below B w wr) (fun q _ _=>lenOf q)
 case atStart=>exact⟨n,st,rfl,hn,⟨H0.out,hal⟩,rfl,HA.out,hbl⟩
 obtain⟨m,st',rfl,hm,⟨hm0,hw⟩,hp,ha,hb⟩:=hrel;have HP:=hid hp;have HA':=hid ha;clear hp ha hal hbl;cases st' with
 | nil =>
  simp only[List.length_nil] at hm0;subst hm0;go_wp2_with fail;go_ret;exact⟨A,0,c,rfl,by rw[← HP.out];exact⟨rfl,hw⟩,hb⟩
 | cons e o =>
  obtain⟨a,t⟩:=e;obtain⟨ha1,ha2⟩:=HA'.out (a,t) (by simp);dsimp only at ha1 ha2;obtain⟨g,rfl,hg,hlt⟩:=hw.block (by simp at hm0;omega);have c0:=World.ownsRow.cellAt hw (o.length*2) (by simp at hm0;omega);rw[(os_last a t o).1] at c0;have hfree:=World.ownsRow.frozenAt hw (o.length*2);have hst:=(World.ownsRow.stored hw (o.length*2) (.int .i64 ((a:Int) - 1))).1;rw[os_dec a t o ha1] at hst;have hbs:=hb.setCell (p:=⟨g,o.length*2,none⟩) hg (.int .i64 ((a:Int) - 1));have hfr:OwnV 174 2 _ B _ _ c _:=OwnV.front hst o.length (by simp at hm0;omega);rw[os_take] at hfr;have hcap:=hw.cap;simp only[List.length_cons] at hm0;generalize hod:o.length=q at hm0 c0 hfree hst hbs hfr;have HOD:=hid hod;clear hod hw;subst hm0;by_cases h1:1 < a
  ·go_wp2_with fail;go_ret;exact⟨_,q+1,c,rfl,by rw[← HP.out,pops_more h1];exact⟨by simp[HOD.out],hst⟩,hbs⟩
  have h1':a≤1:=by omega
  go_wp2_with fail;go_roundw
  case rel=>exact⟨q,o,rfl,by omega,⟨HOD.out.symm,hfr⟩,by rw[← HP.out,pops_less (by omega)],fun e he=>HA'.out e (by simp[he]),hbs⟩
  simp[lenOf]
theorem run_push(w:World)(B:Nat)(A:Option Addr)(n c:Nat)(st:List (Nat×Nat))(N T:Nat)(h:OwnP w B A n c st)(hn:n≤1099511627776)(hB:B≤w.heap.size)(g:Nat)
  (c0:w.cell? ⟨g,0,none⟩=some (.int .i64 (N:Int))) (c1:w.cell? ⟨g,1,none⟩=some (.int .i64 (T:Int))) :
  ∃ A' c' w',(Builtin.append_ #[158,158] 158 #[.slice A n c,.slice (some ⟨g,0,none⟩) 1 1]).run Tryz.prog w=.ok (.slice A' (n+1) c') w'∧OwnP w' B A' (n+1) c' ((N,T)::st)∧Below B w w'∧OwnP w' B A n c st ∧
   ∀ k,(∀ g',A=some ⟨g',0,none⟩→k≠g')→k < w.heap.size→w'.heap[k]? = w.heap[k]?:=by
 obtain⟨h0,h⟩:=h
 have hc:∀ j u,([.int .i64 (N:Int),.int .i64 (T:Int)]:List Value)[j]? = some u→w.cell? ((⟨g,0,none⟩:Addr).add j)=some u:=by
  intro j u hu
  match j,hu with
  | 0,hu=>simp at hu;subst hu;exact c0
  | 1,hu=>simp at hu;subst hu;exact c1
 have hone:∀ u∈([.int .i64 (N:Int),.int .i64 (T:Int)]:List Value),u.oneCell'=true:=by
  intro u hu
  simp at hu
  rcases hu with rfl | rfl <;> rfl
 have hlen:((N,T)::st).length=st.length+1:=rfl
 cases A with
 | none =>
  have hgl:g < w.heap.size:=World.block_lt_of_cell? w _ c0
  obtain⟨A',c',w',h1,h2,h3,h4⟩:=run_appV elO w B none n c (os st) h (some ⟨g,0,none⟩) 1 1 [.int .i64 (N:Int),.int .i64 (T:Int)] w.heap.size (fun _=>⟨_,rfl,hgl,hc⟩) rfl hone (by omega) (by unfold maxLen;omega) hB
  refine⟨A',c',w',h1,⟨by rw[hlen,h0],h2⟩,h3,⟨h0,?_⟩,fun k _ hk=>h4 0 (fun g' hg'=>by cases hg') k (Nat.zero_le _) hk⟩
  exact h.keep fun b _ hb=>h4 0 (fun g' hg'=>by cases hg') b (Nat.zero_le _) hb
 | some ad =>
  have e:∃ g',ad=⟨g',0,none⟩:=by
   rcases h.2 with ⟨hv,_⟩ | ⟨g',cap,cur,hv,_⟩
   ·cases hv
   ·injection hv with h1;injection h1 with h1;exact⟨g',h1⟩
  obtain⟨g',rfl⟩:=e
  obtain⟨A',c',w',h1,h2,h3,h4,h5⟩:=run_appK elO w B g' n c (os st) h ⟨g,0,none⟩ 1 1 [.int .i64 (N:Int),.int .i64 (T:Int)] hc rfl hone (by omega) (by unfold maxLen;omega) hB
  exact⟨A',c',w',h1,⟨by rw[hlen,h0],h2⟩,h3,⟨h0,h4⟩,fun k hk hlt=>h5 k (hk g' rfl) hlt⟩
def LitP(bx N T:Nat)(v:Value)(w:World):Prop:=∃ g,v=.slice (some ⟨g,0,none⟩) 1 1∧bx < g∧g < w.heap.size∧w.cell? ⟨g,0,none⟩=some (.int .i64 (N:Int))∧w.cell? ⟨g,1,none⟩=some (.int .i64 (T:Int))
def PushP(B n:Nat)(st:List (Nat×Nat))(v:Value)(w:World):Prop:=∃ A' c',v=.slice A' (n+1) c'∧OwnP w B A' (n+1) c' st
structure PushW(B:Nat)(A:Option Addr)(n c:Nat)(st:List (Nat×Nat))(bx:Nat)(z:Int)(w0 w:World):Prop where
 bel:Below B w0 w
 own:OwnP w B A n c st
 cell:w.cell? ⟨bx,2,none⟩=some (.int .i64 z)
 lt:bx < w.heap.size
 low:∀ g,A=some ⟨g,0,none⟩→g < bx
theorem OwnP.keep{w w':World}{B n c:Nat}{A:Option Addr}{st:List (Nat×Nat)}(h:OwnP w B A n c st)(hk:∀ b,B≤b→b < w.heap.size→w'.heap[b]? = w.heap[b]?):OwnP w' B A n c st:=⟨h.1,h.2.keep hk⟩
theorem cell_block{w w':World}{g o:Nat}(h:w'.heap[g]? = w.heap[g]?):w'.cell? ⟨g,o,none⟩=w.cell? ⟨g,o,none⟩:=World.cell?_of_block h
theorem LitP.keep{bx N T:Nat}{v:Value}{w w':World}(h:LitP bx N T v w)(hs:w.heap.size≤w'.heap.size)(hk:∀ k,bx < k→k < w.heap.size→w'.heap[k]? = w.heap[k]?):LitP bx N T v w':=by
 obtain⟨g,e,h1,h2,h3,h4⟩:=h;have:=hk g h1 h2;exact⟨g,e,h1,by omega,(cell_block this).trans h3,(cell_block this).trans h4⟩
theorem PushP.keep{B n:Nat}{st:List (Nat×Nat)}{v:Value}{w w':World}(h:PushP B n st v w)(hk:∀ k,k < w.heap.size→w'.heap[k]? = w.heap[k]?):PushP B n st v w':=by
 obtain⟨A',c',e,h⟩:=h;exact⟨A',c',e,h.keep fun b _ hb=>hk b hb⟩
theorem PushW.alloc{B:Nat}{A:Option Addr}{n c:Nat}{st:List (Nat×Nat)}{bx:Nat}{z:Int}{w0 w:World}(h:PushW B A n c st bx z w0 w)(hB:B≤w0.heap.size)(o:Obj):PushW B A n c st bx z w0 (w.alloc o):=by
 have hs:=h.bel.size;refine⟨h.bel.alloc (by omega) o,h.own.keep fun b _ hb=>Below.heap_alloc w o b hb,?_,by simp;have:=h.lt;omega,h.low⟩;exact(cell_block (Below.heap_alloc w o bx h.lt)).trans h.cell
theorem built_pair(x y:Int):Tryz.prog.built 174 [(0,.int .i64 x),(1,.int .i64 y)]=some #[.int .i64 x,.int .i64 y]:=by
 rfl
theorem hl_hold(a b h:Nat)(e:hold a b=h):hl (a:Int) (b:Int)=(h:Int):=by
 rw[← e];unfold hl hold;rw[← Int.natCast_mul];split <;> split <;> omega
def SqV(B:Nat)(A:Option Addr)(n c:Nat)(st:List (Nat×Nat))(bx N T:Nat)(j:Nat)(v:Value)(w:World):Prop :=
 match j with
 | 0=>v=.slice A n c
 | 1=>v=.pointer (some ⟨bx,2,none⟩)
 | 2=>v=.int .i64 (N:Int)
 | 3=>v=.slice A n c
 | 4=>v=.int .i64 (T:Int)
 | 5=>v=.agg #[.int .i64 (N:Int),.int .i64 (T:Int)]
 | 6=>LitP bx N T v w
 | 7=>PushP B n ((N,T)::st) v w
 | 8=>PushP B n ((N,T)::st) v w
 | _=>True
theorem SqV.keep{B:Nat}{A:Option Addr}{n c:Nat}{st:List (Nat×Nat)}{bx N T:Nat}{w w':World}(hs:w.heap.size≤w'.heap.size)(hk:∀ k,k < w.heap.size→w'.heap[k]? = w.heap[k]?)(j:Nat)(v:Value)(h:SqV B A n c st bx N T j v w):SqV B A n c st bx N T j v w':=by
 unfold SqV at h ⊢;split at h <;> first | exact h | exact LitP.keep h hs (fun k _ hk'=>hk k hk') | exact PushP.keep h hk
theorem SqV.push{B:Nat}{A:Option Addr}{n c:Nat}{st:List (Nat×Nat)}{bx N T:Nat}{w w':World}(hlow:∀ g,A=some ⟨g,0,none⟩→g < bx)(hs:w.heap.size≤w'.heap.size)(hk:∀ k,(∀ g',A=some ⟨g',0,none⟩→k≠g')→k < w.heap.size→w'.heap[k]? = w.heap[k]?)(j:Nat)(hj:j≠7)(hj2:j≠8)(v:Value)(h:SqV B A n c st bx N T j v w):SqV B A n c st bx N T j v w':=by
 unfold SqV at h ⊢;split at h <;> first | exact h | exact LitP.keep h hs (fun k hk1 hk'=>hk k (fun g' hg'=>by have:=hlow g' hg';omega) hk') | (exact absurd rfl hj) | (exact absurd rfl hj2)
theorem behind_seq(B:Nat)(A:Option Addr)(n c:Nat)(st:List (Nat×Nat))(p:Int)(N:Nat)(w:World)(h:OwnP w B A n c st)(hB:B≤w.heap.size)(hn:n≤1099511627776):
  Calls Tryz.prog 130 #[.slice A n c,nd 3 p (N:Int)] w (Paths B w ((N,times st)::st)):=by
 generalize hTd:times st=T;have HT:Hid (times st=T):=hid hTd;clear hTd;have hlow:∀ g,A=some ⟨g,0,none⟩→g < w.heap.size:=fun g hg=>by
  rcases h.2.2 with ⟨hv,_⟩ | ⟨g',cap,cur,hv,_,hg',_⟩
  ·rw[hg] at hv;cases hv
  rw[hg] at hv;injection hv with h1;injection h1 with h1;injection h1 with h1;rw[h1];exact(Array.getElem?_eq_some_iff.1 hg').1
 have hw0:PushW B A n c st w.heap.size (N:Int) w (w.alloc (.cells #[.int .i64 3,.int .i64 p,.int .i64 (N:Int)] 70)) :=
  ⟨(Below.refl _ _).alloc hB _,h.keep fun b _ hb=>Below.heap_alloc w _ b hb,by simp[World.cell?_alloc_mark],by simp,hlow⟩
 have hB0:=hB;clear h hlow;have HW:=hid hw0;clear hw0;go_enter Tryz.func130,Tryz.ntmps130;go_wp2_with fail;have hw0:=HW.out;clear HW;generalize w.alloc (.cells #[.int .i64 3,.int .i64 p,.int .i64 (N:Int)] 70)=ws at hw0 ⊢;generalize w.heap.size=bx at hw0 ⊢;refine Reg.region (by kernel_rfl) (by kernel_rfl) (SqV B A n c st bx N T) (PushW B A n c st bx (N:Int) w) ⟨hw0.bel.drew,hw0.own,hw0.cell,hw0.lt,hw0.low⟩ (Reg.steps_of ?_) ?_
 ·refine⟨?_,?_,?_,?_,?_,?_,?_,?_,?_,trivial⟩<;>intro a w1 E D hW
  ·have e0:a.eval (.tmp 0)=.slice A n c:=E 0 rfl;exact Reg.val rfl (Reg.wanted_free rfl) hW (.slice A n c) (by have c:=Reg.consts a;generalize a.eval=ρ at *;simp[go_sem,c.1,c.2,e0]) rfl
  ·have e3:a.eval (.tmp 3)=.pointer (some ⟨bx,0,none⟩):=E 3 rfl;exact Reg.val rfl (Reg.wanted_free rfl) hW (.pointer (some ⟨bx,2,none⟩)) (by have c:=Reg.consts a;generalize a.eval=ρ at *;simp[go_sem,c.1,c.2,e3]) rfl
  ·have d1:a.eval (.tmp 11)=.pointer (some ⟨bx,2,none⟩):=D 1 rfl;have hc:=hW.cell;exact Reg.val rfl (Reg.wanted_free rfl) hW (.int .i64 (N:Int)) (by have c:=Reg.consts a;generalize a.eval=ρ at *;simp[go_sem,c.1,c.2,d1,hc]) rfl
  ·have e0:a.eval (.tmp 0)=.slice A n c:=E 0 rfl;exact Reg.val rfl (Reg.wanted_free rfl) hW (.slice A n c) (by have c:=Reg.consts a;generalize a.eval=ρ at *;simp[go_sem,c.1,c.2,e0]) rfl
  ·have d3:a.eval (.tmp 13)=.slice A n c:=D 3 rfl;refine Reg.call rfl (Reg.wanted_free rfl) 133 #[.slice A n c] (by have c:=Reg.consts a;generalize a.eval=ρ at *;simp[go_sem,c.1,c.2,d3]) ?_;refine(times_any B A n c st w1 hW.own hn).mono ?_;rintro e w2⟨rfl,rfl⟩;exact⟨_,rfl,HT.out▸rfl,hW,fun _ _ h=>h⟩
  ·have d2:a.eval (.tmp 12)=.int .i64 (N:Int):=D 2 rfl;have d4:a.eval (.tmp 14)=.int .i64 (T:Int):=D 4 rfl;have hbd:=built_pair (N:Int) (T:Int);exact Reg.val rfl (Reg.wanted_free rfl) hW (.agg #[.int .i64 (N:Int),.int .i64 (T:Int)]) (by have c:=Reg.consts a;generalize a.eval=ρ at *;simp[execOp,go_sem,c.1,c.2,d2,d4,hbd]) rfl
  ·have d5:a.eval (.tmp 15)=.agg #[.int .i64 (N:Int),.int .i64 (T:Int)]:=D 5 rfl;refine Reg.grow rfl (Reg.wanted_free rfl) (.slice (some ⟨w1.heap.size,0,none⟩) 1 1) (w1.alloc (.cells #[.int .i64 (N:Int),.int .i64 (T:Int)] 174)) ?_ ?_ (hW.alloc hB0 _) (fun j v _ h=>SqV.keep (by simp) (fun k hk=>Below.heap_alloc w1 _ k hk) j v h)
   ·have c:=Reg.consts a;generalize a.eval=ρ at *;simp[execOp,go_sem,c.1,c.2,d5]
   exact⟨w1.heap.size,rfl,hW.lt,by simp,by simp[World.cell?_alloc_mark],by simp[World.cell?_alloc_mark]⟩
  ·have d0:a.eval (.tmp 10)=.slice A n c:=D 0 rfl;obtain⟨g,d6,hg1,hg2,hg3,hg4⟩:LitP bx N T (a.eval (.tmp 16)) w1:=D 6 rfl;have hB1:B≤w1.heap.size:=by have:=hW.bel.size;omega
   obtain⟨A',c',w',hrun,h1,h2,h3,h4⟩:=run_push w1 B A n c st N T hW.own hn hB1 g hg3 hg4;have hs:=h2.size;refine Reg.growL rfl (Reg.wanted_free rfl) (.slice A' (n+1) c') w' ?_ ⟨A',c',rfl,h1⟩ ⟨hW.bel.trans h2,h3,(cell_block (h4 bx (fun g' hg'=>by have:=hW.low g' hg';omega) hW.lt)).trans hW.cell,by have:=hW.lt;omega,hW.low⟩ ?_
   ·have c:=Reg.consts a;generalize a.eval=ρ at *;simp only[execOp,resolve,invoke,builtin,Sem.run_bind,Sem.run_pure,Result.andThen_ok,List.map_toArray,List.map_cons,List.map_nil,d0,d6,hrun]
   intro live hcl h0 j v hj hv;refine SqV.push hW.low hs h4 j ?_ ?_ v hv
   ·rintro rfl;rw[h0] at hj;cases hj
   rintro rfl;have:=Reg.not_live hcl h0 (j:=8) rfl rfl;rw[this] at hj;cases hj
  obtain⟨A',c',d7,h1⟩:PushP B n ((N,T)::st) (a.eval (.tmp 17)) w1:=D 7 rfl;exact Reg.val rfl (Reg.wanted_free rfl) hW (.slice A' (n+1) c') (by have c:=Reg.consts a;generalize a.eval=ρ at *;simp[go_sem,c.1,c.2,d7]) ⟨A',c',rfl,h1⟩
 intro a w3 hs hd E D hW;obtain⟨A',c',d8,h1⟩:PushP B n ((N,T)::st) (a.eval (.tmp 4)) w3:=D 8 (by decide);have hb3:=hW.bel;rw[Reg.act_lit a 53 hs,hd];simp only[List.range,List.range.loop,List.map,d8];clear E D d8 hW hw0;generalize a.eval=ρ;clear a hs hd;go_wp2_with fail;go_ret;exact⟨A',n+1,c',rfl,h1,hb3⟩
def RpV(B:Nat)(A:Option Addr)(n c:Nat)(st:List (Nat×Nat))(bx N T H:Nat)(j:Nat)(v:Value)(w:World):Prop :=
 match j with
 | 0=>v=.slice A n c
 | 1=>v=.pointer (some ⟨bx,2,none⟩)
 | 2=>v=.int .i64 (N:Int)
 | 3=>v=.slice A n c
 | 4=>v=.int .i64 (T:Int)
 | 5=>v=.int .i64 (H:Int)
 | 6=>v=.agg #[.int .i64 1,.int .i64 (H:Int)]
 | 7=>LitP bx 1 H v w
 | 8=>PushP B n ((1,H)::st) v w
 | 9=>PushP B n ((1,H)::st) v w
 | _=>True
theorem RpV.keep{B:Nat}{A:Option Addr}{n c:Nat}{st:List (Nat×Nat)}{bx N T H:Nat}{w w':World}(hs:w.heap.size≤w'.heap.size)(hk:∀ k,k < w.heap.size→w'.heap[k]? = w.heap[k]?)(j:Nat)(v:Value)(h:RpV B A n c st bx N T H j v w):RpV B A n c st bx N T H j v w':=by
 unfold RpV at h ⊢;split at h <;> first | exact h | exact LitP.keep h hs (fun k _ hk'=>hk k hk') | exact PushP.keep h hk
theorem RpV.push{B:Nat}{A:Option Addr}{n c:Nat}{st:List (Nat×Nat)}{bx N T H:Nat}{w w':World}(hlow:∀ g,A=some ⟨g,0,none⟩→g < bx)(hs:w.heap.size≤w'.heap.size)(hk:∀ k,(∀ g',A=some ⟨g',0,none⟩→k≠g')→k < w.heap.size→w'.heap[k]? = w.heap[k]?)(j:Nat)(hj:j≠8)(hj2:j≠9)(v:Value)(h:RpV B A n c st bx N T H j v w):RpV B A n c st bx N T H j v w':=by
 unfold RpV at h ⊢;split at h <;> first | exact h | exact LitP.keep h hs (fun k hk1 hk'=>hk k (fun g' hg'=>by have:=hlow g' hg';omega) hk') | (exact absurd rfl hj) | (exact absurd rfl hj2)
theorem behind_rep(B:Nat)(A:Option Addr)(n c:Nat)(st:List (Nat×Nat))(p:Int)(N:Nat)(w:World)(h:OwnP w B A n c st)(hB:B≤w.heap.size)(hn:n≤1099511627776)(hN:1≤N)(hN2:N≤9223372036854775807)(hT1:1≤times st)(hT2:times st≤4097):
  Calls Tryz.prog 130 #[.slice A n c,nd 4 p (N:Int)] w (Paths B w ((1,hold N (times st))::st)):=by
 generalize hTd:times st=T at hT1 hT2 ⊢;generalize hHd:hold N T=H;have HT:Hid (times st=T):=hid hTd;have HH:Hid (hl (N:Int) (T:Int)=(H:Int)):=hid (hl_hold N T H hHd);clear hHd;clear hTd;have hlow:∀ g,A=some ⟨g,0,none⟩→g < w.heap.size:=fun g hg=>by
  rcases h.2.2 with ⟨hv,_⟩ | ⟨g',cap,cur,hv,_,hg',_⟩
  ·rw[hg] at hv;cases hv
  rw[hg] at hv;injection hv with h1;injection h1 with h1;injection h1 with h1;rw[h1];exact(Array.getElem?_eq_some_iff.1 hg').1
 have hw0:PushW B A n c st w.heap.size (N:Int) w (w.alloc (.cells #[.int .i64 4,.int .i64 p,.int .i64 (N:Int)] 70)) :=
  ⟨(Below.refl _ _).alloc hB _,h.keep fun b _ hb=>Below.heap_alloc w _ b hb,by simp[World.cell?_alloc_mark],by simp,hlow⟩
 have hB0:=hB;clear h hlow;have HW:=hid hw0;clear hw0;go_enter Tryz.func130,Tryz.ntmps130;go_wp2_with fail;have hw0:=HW.out;clear HW;generalize w.alloc (.cells #[.int .i64 4,.int .i64 p,.int .i64 (N:Int)] 70)=ws at hw0 ⊢;generalize w.heap.size=bx at hw0 ⊢;refine Reg.region (by kernel_rfl) (by kernel_rfl) (RpV B A n c st bx N T H) (PushW B A n c st bx (N:Int) w) ⟨hw0.bel.drew,hw0.own,hw0.cell,hw0.lt,hw0.low⟩ (Reg.steps_of ?_) ?_
 ·refine⟨?_,?_,?_,?_,?_,?_,?_,?_,?_,?_,trivial⟩<;>intro a w1 E D hW
  ·have e0:a.eval (.tmp 0)=.slice A n c:=E 0 rfl;exact Reg.val rfl (Reg.wanted_free rfl) hW (.slice A n c) (by have c:=Reg.consts a;generalize a.eval=ρ at *;simp[go_sem,c.1,c.2,e0]) rfl
  ·have e3:a.eval (.tmp 3)=.pointer (some ⟨bx,0,none⟩):=E 3 rfl;exact Reg.val rfl (Reg.wanted_free rfl) hW (.pointer (some ⟨bx,2,none⟩)) (by have c:=Reg.consts a;generalize a.eval=ρ at *;simp[go_sem,c.1,c.2,e3]) rfl
  ·have d1:a.eval (.tmp 21)=.pointer (some ⟨bx,2,none⟩):=D 1 rfl;have hc:=hW.cell;exact Reg.val rfl (Reg.wanted_free rfl) hW (.int .i64 (N:Int)) (by have c:=Reg.consts a;generalize a.eval=ρ at *;simp[go_sem,c.1,c.2,d1,hc]) rfl
  ·have e0:a.eval (.tmp 0)=.slice A n c:=E 0 rfl;exact Reg.val rfl (Reg.wanted_free rfl) hW (.slice A n c) (by have c:=Reg.consts a;generalize a.eval=ρ at *;simp[go_sem,c.1,c.2,e0]) rfl
  ·have d3:a.eval (.tmp 23)=.slice A n c:=D 3 rfl;refine Reg.call rfl (Reg.wanted_free rfl) 133 #[.slice A n c] (by have c:=Reg.consts a;generalize a.eval=ρ at *;simp[go_sem,c.1,c.2,d3]) ?_;refine(times_any B A n c st w1 hW.own hn).mono ?_;rintro e w2⟨rfl,rfl⟩;exact⟨_,rfl,HT.out▸rfl,hW,fun _ _ h=>h⟩
  ·have d2:a.eval (.tmp 22)=.int .i64 (N:Int):=D 2 rfl;have d4:a.eval (.tmp 24)=.int .i64 (T:Int):=D 4 rfl;refine Reg.call rfl (Reg.wanted_free rfl) 132 #[.int .i64 (N:Int),.int .i64 (T:Int)] (by have c:=Reg.consts a;generalize a.eval=ρ at *;simp[go_sem,c.1,c.2,d2,d4]) ?_;refine(held_any (N:Int) (T:Int) w1 (by omega) (by omega) (by omega) (by omega)).mono ?_;rintro e w2⟨rfl,rfl⟩;exact⟨_,rfl,HH.out▸rfl,hW,fun _ _ h=>h⟩
  ·have d5:a.eval (.tmp 25)=.int .i64 (H:Int):=D 5 rfl;have hbd:=built_pair 1 (H:Int);exact Reg.val rfl (Reg.wanted_free rfl) hW (.agg #[.int .i64 1,.int .i64 (H:Int)]) (by have c:=Reg.consts a;generalize a.eval=ρ at *;simp[execOp,go_sem,c.1,c.2,d5,hbd]) rfl
  ·have d6:a.eval (.tmp 26)=.agg #[.int .i64 1,.int .i64 (H:Int)]:=D 6 rfl;refine Reg.grow rfl (Reg.wanted_free rfl) (.slice (some ⟨w1.heap.size,0,none⟩) 1 1) (w1.alloc (.cells #[.int .i64 1,.int .i64 (H:Int)] 174)) ?_ ?_ (hW.alloc hB0 _) (fun j v _ h=>RpV.keep (by simp) (fun k hk=>Below.heap_alloc w1 _ k hk) j v h)
   ·have c:=Reg.consts a;generalize a.eval=ρ at *;simp[execOp,go_sem,c.1,c.2,d6]
   exact⟨w1.heap.size,rfl,hW.lt,by simp,by simp[World.cell?_alloc_mark],by simp[World.cell?_alloc_mark]⟩
  ·have d0:a.eval (.tmp 20)=.slice A n c:=D 0 rfl;obtain⟨g,d7,hg1,hg2,hg3,hg4⟩:LitP bx 1 H (a.eval (.tmp 27)) w1:=D 7 rfl;have hB1:B≤w1.heap.size:=by have:=hW.bel.size;omega
   obtain⟨A',c',w',hrun,h1,h2,h3,h4⟩:=run_push w1 B A n c st 1 H hW.own hn hB1 g hg3 hg4;have hs:=h2.size;refine Reg.growL rfl (Reg.wanted_free rfl) (.slice A' (n+1) c') w' ?_ ⟨A',c',rfl,h1⟩ ⟨hW.bel.trans h2,h3,(cell_block (h4 bx (fun g' hg'=>by have:=hW.low g' hg';omega) hW.lt)).trans hW.cell,by have:=hW.lt;omega,hW.low⟩ ?_
   ·have c:=Reg.consts a;generalize a.eval=ρ at *;simp only[execOp,resolve,invoke,builtin,Sem.run_bind,Sem.run_pure,Result.andThen_ok,List.map_toArray,List.map_cons,List.map_nil,d0,d7,hrun]
   intro live hcl h0 j v hj hv;refine RpV.push hW.low hs h4 j ?_ ?_ v hv
   ·rintro rfl;rw[h0] at hj;cases hj
   rintro rfl;have:=Reg.not_live hcl h0 (j:=9) rfl rfl;rw[this] at hj;cases hj
  obtain⟨A',c',d8,h1⟩:PushP B n ((1,H)::st) (a.eval (.tmp 28)) w1:=D 8 rfl;exact Reg.val rfl (Reg.wanted_free rfl) hW (.slice A' (n+1) c') (by have c:=Reg.consts a;generalize a.eval=ρ at *;simp[go_sem,c.1,c.2,d8]) ⟨A',c',rfl,h1⟩
 intro a w3 hs hd E D hW;obtain⟨A',c',d9,h1⟩:PushP B n ((1,H)::st) (a.eval (.tmp 4)) w3:=D 9 (by decide);have hb3:=hW.bel;rw[Reg.act_lit a 53 hs,hd];simp only[List.range,List.range.loop,List.map,d9];clear E D d9 hW hw0;generalize a.eval=ρ;clear a hs hd;go_wp2_with fail;go_ret;exact⟨A',n+1,c',rfl,h1,hb3⟩
theorem behind_any(B:Nat)(A:Option Addr)(n c:Nat)(st:List (Nat×Nat))(k p z:Int)(w:World)(h:OwnP w B A n c st)(hB:B≤w.heap.size)(hn:n≤1099511627776)(hf:fine ⟨k,p,z⟩=true)(hz:z≤9223372036854775807)
  (hT1:1≤times st) (hT2:times st≤4097) (ha:∀ e∈st,1≤e.1∧e.1≤1099511627776) :
  Calls Tryz.prog 130 #[.slice A n c,nd k p z] w (Paths B w (behind st ⟨k,p,z⟩)):=by
 have hz1:1≤z:=fine_one hf
 by_cases h3:k=3
 ·subst h3
  obtain⟨N,rfl⟩:=Int.eq_ofNat_of_zero_le (show 0≤z by omega)
  exact behind_seq B A n c st p N w h hB hn
 ·by_cases h4:k=4
  ·subst h4
   obtain⟨N,rfl⟩:=Int.eq_ofNat_of_zero_le (show 0≤z by omega)
   exact behind_rep B A n c st p N w h hB hn (by omega) (by omega) hT1 hT2
  ·have e:behind st ⟨k,p,z⟩=pops st:=by unfold behind;rw[if_neg h3,if_neg h4]
   rw[e]
   exact behind_leaf B A n c st k p z w h hB hn h3 h4 ha
theorem Outer.low{o:List (Nat×Nat)}{fs:List F}(h:Outer o fs)(M:Nat)(hM:∀ f∈fs,f.cnt < M):∀ e∈o,1≤e.1∧e.1≤M:=by
 induction o generalizing fs with
 | nil=>simp
 | cons x o ih =>
  obtain⟨a,t⟩:=x;cases fs with
  | nil=>exact h.elim
  | cons f fs =>
   obtain⟨h1,_,_,_,h5⟩:=h;intro e he;rcases List.mem_cons.1 he with rfl | he
   ·have:=hM f (by simp);dsimp only;omega
   exact ih h5 (fun g hg=>hM g (by simp[hg])) e he
theorem flats_len(fs:List F)(f:F)(h:f∈fs):f.cnt≤(flats fs).length:=by
 induction fs with
 | nil=>cases h
 | cons g fs ih =>
  simp only[flats,List.length_append];rcases List.mem_cons.1 h with rfl | h
  ·have:=F.cnt_le_sz f;rw[F.flat_length];omega
  have:=ih h;omega
theorem InvP.low{st:List (Nat×Nat)}{cur:F}{fs:List F}(h:InvP st cur fs){tl:List Nd}(hr:cur.flat++flats fs=tl)(M:Nat)(hM:tl.length < M):∀ e∈st,1≤e.1∧e.1≤M:=by
 have hl:=congrArg List.length hr;rw[List.length_append,F.flat_length] at hl;cases st with
 | nil=>simp
 | cons x o =>
  obtain⟨a,t⟩:=x;obtain⟨_,h1,h2,_,_,h5⟩:=h;intro e he;rcases List.mem_cons.1 he with rfl | he
  ·have:=F.cnt_le_sz cur;dsimp only;omega
  exact Outer.low h5 M (fun f hf=>by have:=flats_len fs f hf;omega) e he
theorem pops_len(st:List (Nat×Nat)):(pops st).length≤st.length:=by
 induction st with
 | nil=>simp[pops]
 | cons e o ih =>
  obtain⟨a,t⟩:=e;simp only[pops];split
  ·simp
  simp only[List.length_cons];omega
theorem behind_len(st:List (Nat×Nat))(x:Nd):(behind st x).length≤st.length+1:=by
 unfold behind;split
 ·simp
 split
 ·simp
 have:=pops_len st;omega
def lv(T:Nat):Int:=if T≤4096 then (T:Int) else 0
def lb(T:Nat):Bool:=decide (T≤4096)
def Len(T:Nat)(w:World)(e:Ending)(w':World):Prop:=e=.returned (.tuple #[.int .i64 (lv T),.bool (lb T)])∧Below w.heap.size w w'
theorem Len.mk{T:Nat}{z:Int}{b:Bool}{w w':World}(h1:lv T=z)(h2:lb T=b)(hb:Below w.heap.size w w'):Len T w (.returned (.tuple #[.int .i64 z,.bool b])) w':=⟨by rw[h1,h2],hb⟩
theorem times_q(B:Nat)(A:Option Addr)(n c:Nat)(st:List (Nat×Nat))(w:World)(T:Nat)(hT:times st=T)(h:OwnP w B A n c st)(hn:n≤1099511627776):
  Calls Tryz.prog 133 #[.slice A n c] w fun e w'=>e=.returned (.int .i64 (T:Int))∧w'=w:=by
 refine(times_any B A n c st w h hn).mono ?_;rintro e w'⟨rfl,rfl⟩;exact⟨by rw[hT],rfl⟩
theorem held_q(a b h:Nat)(w:World)(ha:1≤a)(hb:1≤b)(hb2:b≤4097)(ha2:a≤9223372036854775807)(hh:hold a b=h):Calls Tryz.prog 132 #[.int .i64 (a:Int),.int .i64 (b:Int)] w fun e w'=>e=.returned (.int .i64 (h:Int))∧w'=w:=by
 refine(held_any (a:Int) (b:Int) w (by omega) (by omega) (by omega) (by omega)).mono ?_;rintro e w'⟨rfl,rfl⟩;exact⟨by rw[hl_hold a b h hh],rfl⟩
theorem kn_kz{x:Nd}(h:fine x=true)(h0:kn x=0):kz x=0:=by rw[kz_kn h,h0];rfl
theorem kn_kz'{x:Nd}(h:fine x=true)(h0:kn x≠0):∃ K:Nat,kz x=(K:Int)∧0 < K:=⟨kn x,kz_kn h,by omega⟩
theorem length_tree(A:Option Addr)(n cap:Nat)(l:List Nd)(x0:Nd)(k0:F)(w:World)(h:RdN w w.heap.size A n l)(hc:n≤cap)(hn:n≤1048576)(hok:(F.cons x0 k0 .nil).ok)(hl:l=x0::k0.flat):
  Calls Tryz.prog 122 #[.slice A n cap] w (Len (F.tick x0 k0.len) w):=by
 have hwh:wholeB l=true:=by rw[hl];exact tree_whole hok
 obtain⟨i1,i2,i3,i4⟩:=InvP.start hok rfl;have e1:(F.cons x0 k0 .nil).flat=l:=by rw[hl];simp[F.flat]
 have e2:(F.cons x0 k0 .nil).len=F.tick x0 k0.len:=by simp[F.len]
 have i2:=i2.trans e1;rw[e2] at i3;generalize hTd:F.tick x0 k0.len=T at i3 ⊢;generalize (F.cons x0 k0 .nil)=f0 at i1 i2 i3;have I1:=hid i1;have I2:=hid i2;have I3:=hid i3;have HWH:=hid hwh;clear i1 i2 i3 i4 hwh hok hl e1 e2 hTd;go_enter Tryz.func122,Tryz.ntmps122;go_wp2_with fail;refine(whole_any A n cap l w h hc (by omega)).mono ?_;rw[HWH.out];rintro e w1⟨rfl,hb1⟩;go_wp2_with fail;go_loopw [4,5,13] (fun sm q s wr=>∃(i sum:Nat) (st:List (Nat×Nat)) (cur:F) (fs:List F) (A1:Option Addr) (n1 c1:Nat),i≤n∧s=.int .i64 i∧sm=.int .i64 sum∧q=.slice A1 n1 c1∧OwnP wr w.heap.size A1 n1 c1 st∧InvP st cur fs ∧
  cur.flat++flats fs=l.drop i∧min 4097 (sum+rem st cur fs)=min 4097 T∧sum≤4096∧Below w.heap.size w wr∧n1≤i) (fun _ _ s _=>n - (intOf s).toNat)
 case atStart=>exact⟨0,0,[],f0,[],none,0,0,by omega,rfl,rfl,rfl,OwnP.nil _ _,I1.out,I2.out,by rw[I3.out,Nat.zero_add],by omega,hb1,by omega⟩
 obtain⟨i,sum,st,cur,fs,A1,n1,c1,hi,rfl,rfl,rfl,hp,hv,hrest,hsum,hs2,hb,hn1⟩:=hrel;have HV:=hid hv;have HR:=hid hrest;have HS:=hid hsum;clear hv hrest hsum;by_cases hlt:i < n
 ·obtain⟨ad,x,rfl,_,hx,hin,c0,c1',c2⟩:=(h.on hb).at_ hlt;have hdr:=drop_cons hx;have hlow:=InvP.low HV.out HR.out 1048577 (by rw[List.length_drop,h.len];omega);obtain⟨hf,cur',fs',j1,j2,j3,j4⟩:=Tab.step HV.out (HR.out.trans hdr);obtain⟨hT1,hT2⟩:=InvP.times HV.out;obtain⟨xk,xp,xn⟩:=x;have hz2:xn≤9223372036854775807:=hin.2.2.2;have hz1:1≤xn:=fine_one hf;have HF:=hid hf;have J1:=hid j1;have J2:=hid j2;have J3:=hid j3;have HLOW:=hid hlow;clear hf j1 j2 j3 j4 hdr hx hin hlow;obtain⟨N,rfl⟩:=Int.eq_ofNat_of_zero_le (show 0≤xn by omega);generalize hTd:times st=t at hT1 hT2;have HT:=hid hTd;clear hTd;by_cases hk:kn ⟨xk,xp,N⟩=0
  ·have hkz:=kn_kz HF.out hk;have HKZ:=hid hkz;have HK:=hid hk;clear hkz hk;go_wp2_with fail;refine(kids1_any _ _ _ _).mono ?_;rw[HKZ.out];rintro e w2⟨rfl,hb2⟩;obtain⟨d0,d1,d2⟩:=new_nd hb2;go_wp2_with fail;have hb2':=(bl1 wr _).trans (hb2.mono (by simp));have hp2:OwnP w2 w.heap.size A1 n1 c1 st:=hp.keep fun b _ hlt=>hb2'.block b hlt;have hp2d:∀ q,OwnP (w2.drewN q) w.heap.size A1 n1 c1 st:=fun _=>hp2;have hbw:=hb.trans (hb2'.mono hb.size);have hbd:∀ q,Below w.heap.size w (w2.drewN q):=fun q=>⟨hbw.os,hbw.tape,hbw.output,hbw.size,hbw.block⟩;have hBs:=hbw.size;have HPD:=hid hp2d;have HBD:=hid hbd;clear hp2d hbd hbw;have hH:=hold_le N t;have hH1:=hold_pos (a:=N) (b:=t) (by omega) hT1;generalize hHd:hold N t=H at hH hH1;have HH:=hid hHd;clear hHd;have hwr:IntKind.i64.wrap ((sum:Int)+(H:Int))=(sum:Int)+(H:Int):=IntWalk.i64_in _ (by omega);have hN1:1≤N:=by omega
   have hN2:N≤9223372036854775807:=by omega
   go_quiet ((first | (go_at_call 133;exact Calls.quiet_of_same (times_q w.heap.size A1 n1 c1 st _ t HT.out hp2 (by omega))) | (go_at_call 132;exact Calls.quiet_of_same (held_q N t H _ hN1 hT1 hT2 hN2 HH.out))));clear hwr;by_cases hs3:sum+H≤4096
   ·have hs3':(sum:Int)+(H:Int)≤4096:=by omega
    go_wp2_with fail;refine(behind_any w.heap.size A1 n1 c1 st xk xp (N:Int) _ (HPD.out _) hBs (by omega) HF.out hz2 (by rw[HT.out];exact hT1) (by rw[HT.out];exact hT2) (fun e he=>by have:=HLOW.out e he;omega)).mono ?_;rintro e w3⟨A3,n3,c3,rfl,hp3,hb3⟩;have hn3:n3≤i+1:=by
     have h1:=hp3.1;have h2:=behind_len st ⟨xk,xp,(N:Int)⟩;have h3:=hp.1;omega
    have hbb:Below w.heap.size w w3:=(HBD.out _).trans hb3;go_wp2_with fail;go_roundw
    case rel=>exact⟨i+1,sum+H,_,cur',fs',A3,n3,c3,by omega,by go_num,by go_num,rfl,hp3,J1.out,J2.out.symm,by have:=J3.out sum;rw[if_pos HK.out,HT.out] at this;have h2:=HH.out;rw[show ((N:Int)).toNat=N from rfl,h2] at this;exact this.trans HS.out,hs3,hbb,hn3⟩
    simp[intOf];omega
   have hs3':¬ (sum:Int)+(H:Int)≤4096:=by omega
   go_wp2_with fail;go_ret2;have e4:4096 < T:=by have:=J3.out sum;rw[if_pos HK.out,HT.out] at this;have h1:=HS.out;have h2:=HH.out;rw[show ((N:Int)).toNat=N from rfl,h2] at this;omega
   exact Len.mk (by unfold lv;rw[if_neg (by omega)]) (by unfold lb;exact decide_eq_false (by omega)) (HBD.out _)
  obtain⟨K,hkz,hK0⟩:=kn_kz' HF.out hk;have HKZ:=hid hkz;have HK:=hid hk;have hK1:¬ (K:Int)=0:=by omega
  have hs3':¬ (4096:Int) < (sum:Int):=by omega
  clear hkz hk;go_wp2_with fail;refine(kids1_any _ _ _ _).mono ?_;rw[HKZ.out];rintro e w2⟨rfl,hb2⟩;obtain⟨d0,d1,d2⟩:=new_nd hb2;have hb2':=(bl1 wr _).trans (hb2.mono (by simp));have hp2:OwnP w2 w.heap.size A1 n1 c1 st:=hp.keep fun b _ hlt=>hb2'.block b hlt;have hbw:=hb.trans (hb2'.mono hb.size);have hBs:=hbw.size;go_wp2_with fail;refine(behind_any w.heap.size A1 n1 c1 st xk xp (N:Int) _ hp2 hBs (by omega) HF.out hz2 (by rw[HT.out];exact hT1) (by rw[HT.out];exact hT2) (fun e he=>by have:=HLOW.out e he;omega)).mono ?_;rintro e w3⟨A3,n3,c3,rfl,hp3,hb3⟩;have hn3:n3≤i+1:=by
   have h1:=hp3.1;have h2:=behind_len st ⟨xk,xp,(N:Int)⟩;have h3:=hp.1;omega
  go_wp2_with fail;go_roundw
  case rel=>exact⟨i+1,sum,_,cur',fs',A3,n3,c3,by omega,by go_num,by go_num,rfl,hp3,J1.out,J2.out.symm,by have:=J3.out sum;rw[if_neg HK.out,Nat.add_zero] at this;exact this.trans HS.out,hs2,hbw.trans hb3,hn3⟩
  simp[intOf];omega
 have hge:n≤i:=by omega
 obtain⟨r0,r1⟩:=InvP.done HV.out (by rw[HR.out];exact List.drop_eq_nil_of_le (by rw[h.len];exact hge));have e4:=HS.out;rw[r0] at e4;have e5:sum=T:=by omega
 have E5:=hid e5;clear r0 r1 e4 e5;go_wp2_with fail;go_ret2;exact Len.mk (by have:=E5.out;unfold lv;rw[if_pos (by omega),this]) (by have:=E5.out;unfold lb;exact decide_eq_true (by omega)) hb
end Go.Proofs.YtdkngfdnfekgfaaGreat
