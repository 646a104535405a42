import Derived.Test.YtfmndmhjjbeokaaGreatDoorLow9
import Derived.Great.BuildSlice
import Derived.IntWalk
import Derived.BigQuiet
import Derived.Deep.QuietTactic
set_option maxHeartbeats 3200000
set_option maxRecDepth 100000
set_option linter.unusedSimpArgs false
set_option linter.unusedVariables false
namespace Go.Proofs.YtfmndmhjjbeokaaGreatDoor
open Go.RowKit Tab
theorem R4(w:World)(B:Nat)(A:Option Addr)(n c:Nat)(st:List (Nat×Nat))(N T:Nat)(h:Gu w B A n c st)(hn:n<=1099511627776)(hB:B<=w.heap.size)(g:Nat)
  (c0:w.cell? ⟨g,0,none⟩=some (.int .i64 (N:Int))) (c1:w.cell? ⟨g,1,none⟩=some (.int .i64 (T:Int))) :
  ∃ A' c' w',(Builtin.append_ #[152,152] 152 #[.slice A n c,.slice (some ⟨g,0,none⟩) 1 1]).run Tryz.prog w=.ok (.slice A' (n+1) c') w'/\Gu w' B A' (n+1) c' ((N,T)::st)/\Below B w w'/\Gu w' B A n c st/\
   ∀ k,(∀ g',A=some ⟨g',0,none⟩->k≠g')->k < w.heap.size->w'.heap[k]? = w.heap[k]?:=by
 obtain⟨h0,h⟩:=h;have hc:∀ j u,([.int .i64 (N:Int),.int .i64 (T:Int)]:List Value)[j]? = some u->w.cell? ((⟨g,0,none⟩:Addr).add j)=some u:=by
  intro j u hu
  match j,hu with
  | 0,hu=>simp at hu;subst hu;exact c0
  | 1,hu=>simp at hu;subst hu;exact c1
 have aA:∀ u∈([.int .i64 (N:Int),.int .i64 (T:Int)]:List Value),u.oneCell'=true:=by
  intro u hu;simp at hu;rcases hu with rfl | rfl <;> rfl
 have aB:((N,T)::st).length=st.length+1:=rfl;cases A with
 | none =>
  have aE:g < w.heap.size:=Bj w _ c0;obtain⟨A',c',w',h1,h2,h3,h4⟩:=R6 elO w B none n c (os st) h (some ⟨g,0,none⟩) 1 1 [.int .i64 (N:Int),.int .i64 (T:Int)] w.heap.size (fun _=>⟨_,rfl,aE,hc⟩) rfl aA (by omega) (by unfold maxLen;omega) hB;refine⟨A',c',w',h1,⟨by rw[aB,h0],h2⟩,h3,⟨h0,?_⟩,fun k _ hk=>h4 0 (fun g' aC=>by cases aC) k (Cr _) hk⟩;exact h.keep fun b _ hb=>h4 0 (fun g' aC=>by cases aC) b (Cr _) hb
 | some ad =>
  have e:∃ g',ad=⟨g',0,none⟩:=by
   rcases h.2 with ⟨hv,_⟩ | ⟨g',cap,aF,hv,_⟩
   ·cases hv
   injection hv with h1;injection h1 with h1;exact⟨g',h1⟩
  obtain⟨g',rfl⟩:=e;obtain⟨A',c',w',h1,h2,h3,h4,h5⟩:=Z8 elO w B g' n c (os st) h ⟨g,0,none⟩ 1 1 [.int .i64 (N:Int),.int .i64 (T:Int)] hc rfl aA (by omega) (by unfold maxLen;omega) hB;exact⟨A',c',w',h1,⟨by rw[aB,h0],h2⟩,h3,⟨h0,h4⟩,fun k hk aD=>h5 k (hk g' rfl) aD⟩
def LitP(bx N T:Nat)(v:Value)(w:World):Prop:=∃ g,v=.slice (some ⟨g,0,none⟩) 1 1/\bx < g/\g < w.heap.size/\w.cell? ⟨g,0,none⟩=some (.int .i64 (N:Int))/\w.cell? ⟨g,1,none⟩=some (.int .i64 (T:Int))
def Ic(B n:Nat)(st:List (Nat×Nat))(v:Value)(w:World):Prop:=∃ A' c',v=.slice A' (n+1) c'/\Gu w B A' (n+1) c' st
structure Ou(B:Nat)(A:Option Addr)(n c:Nat)(st:List (Nat×Nat))(bx:Nat)(z:Int)(w0 w:World):Prop where
 bel:Below B w0 w
 own:Gu w B A n c st
 cell:w.cell? ⟨bx,2,none⟩=some (.int .i64 z)
 lt:bx < w.heap.size
 low:∀ g,A=some ⟨g,0,none⟩->g < bx
theorem Gu.keep{w w':World}{B n c:Nat}{A:Option Addr}{st:List (Nat×Nat)}(h:Gu w B A n c st)(hk:∀ b,B<=b->b < w.heap.size->w'.heap[b]? = w.heap[b]?):Gu w' B A n c st:=⟨h.1,h.2.keep hk⟩
theorem Er{w w':World}{g o:Nat}(h:w'.heap[g]? = w.heap[g]?):w'.cell? ⟨g,o,none⟩=w.cell? ⟨g,o,none⟩:=Bf h
theorem LitP.keep{bx N T:Nat}{v:Value}{w w':World}(h:LitP bx N T v w)(hs:w.heap.size<=w'.heap.size)(hk:∀ k,bx < k->k < w.heap.size->w'.heap[k]? = w.heap[k]?):LitP bx N T v w':=by
 obtain⟨g,e,h1,h2,h3,h4⟩:=h;have:=hk g h1 h2;exact⟨g,e,h1,by omega,(Er this).trans h3,(Er this).trans h4⟩
theorem Ic.keep{B n:Nat}{st:List (Nat×Nat)}{v:Value}{w w':World}(h:Ic B n st v w)(hk:∀ k,k < w.heap.size->w'.heap[k]? = w.heap[k]?):Ic B n st v w':=by
 obtain⟨A',c',e,h⟩:=h;exact⟨A',c',e,h.keep fun b _ hb=>hk b hb⟩
theorem Ou.alloc{B:Nat}{A:Option Addr}{n c:Nat}{st:List (Nat×Nat)}{bx:Nat}{z:Int}{w0 w:World}(h:Ou B A n c st bx z w0 w)(hB:B<=w0.heap.size)(o:Obj):Ou B A n c st bx z w0 (w.alloc o):=by
 have hs:=h.bel.size;refine⟨h.bel.alloc (by omega) o,h.own.keep fun b _ hb=>C3 w o b hb,?_,by simp;have:=h.lt;omega,h.low⟩;exact(Er (C3 w o bx h.lt)).trans h.cell
theorem On(x y:Int):Tryz.prog.built 174 [(0,.int .i64 x),(1,.int .i64 y)]=some #[.int .i64 x,.int .i64 y]:=by
 rfl
theorem hl_hold(a b h:Nat)(e:hold a b=h):hl (a:Int) (b:Int)=(h:Int):=by
 rw[<- e];unfold hl hold;rw[<- Int.natCast_mul];split <;> split <;> omega
def SqV(B:Nat)(A:Option Addr)(n c:Nat)(st:List (Nat×Nat))(bx N T:Nat)(j:Nat)(v:Value)(w:World):Prop :=
 match j with
 | 0=>v=.slice A n c
 | 1=>v=.pointer (some ⟨bx,2,none⟩)
 | 2=>v=.int .i64 (N:Int)
 | 3=>v=.slice A n c
 | 4=>v=.int .i64 (T:Int)
 | 5=>v=.agg #[.int .i64 (N:Int),.int .i64 (T:Int)]
 | 6=>LitP bx N T v w
 | 7=>Ic B n ((N,T)::st) v w
 | 8=>Ic B n ((N,T)::st) v w
 | _=>True
theorem SqV.keep{B:Nat}{A:Option Addr}{n c:Nat}{st:List (Nat×Nat)}{bx N T:Nat}{w w':World}(hs:w.heap.size<=w'.heap.size)(hk:∀ k,k < w.heap.size->w'.heap[k]? = w.heap[k]?)(j:Nat)(v:Value)(h:SqV B A n c st bx N T j v w):SqV B A n c st bx N T j v w':=by
 unfold SqV at h |-;split at h <;> first | exact h | exact LitP.keep h hs (fun k _ aA=>hk k aA) | exact Ic.keep h hk
theorem SqV.push{B:Nat}{A:Option Addr}{n c:Nat}{st:List (Nat×Nat)}{bx N T:Nat}{w w':World}(aA:∀ g,A=some ⟨g,0,none⟩->g < bx)(hs:w.heap.size<=w'.heap.size)(hk:∀ k,(∀ g',A=some ⟨g',0,none⟩->k≠g')->k < w.heap.size->w'.heap[k]? = w.heap[k]?)(j:Nat)(hj:j≠7)(aC:j≠8)(v:Value)(h:SqV B A n c st bx N T j v w):SqV B A n c st bx N T j v w':=by
 unfold SqV at h |-;split at h <;> first | exact h | exact LitP.keep h hs (fun k aE aB=>hk k (fun g' aD=>by have:=aA g' aD;omega) aB) | (exact absurd rfl hj) | (exact absurd rfl aC)
theorem Vx(B:Nat)(A:Option Addr)(n c:Nat)(st:List (Nat×Nat))(p:Int)(N:Nat)(w:World)(h:Gu w B A n c st)(hB:B<=w.heap.size)(hn:n<=1099511627776):
  Calls Tryz.prog 104 #[.slice A n c,nd 3 p (N:Int)] w (W9 B w ((N,times st)::st)):=by
 generalize aE:times st=T;have HT:Hd (times st=T):=hid aE;clear aE;have aB:∀ g,A=some ⟨g,0,none⟩->g < w.heap.size:=fun g hg=>by
  rcases h.2.2 with ⟨hv,_⟩ | ⟨g',cap,aO,hv,_,aD,_⟩
  ·rw[hg] at hv;cases hv
  rw[hg] at hv;injection hv with h1;injection h1 with h1;injection h1 with h1;rw[h1];exact(Bt.1 aD).1
 have aA:Ou B A n c st w.heap.size (N:Int) w (w.alloc (.cells #[.int .i64 3,.int .i64 p,.int .i64 (N:Int)] 54)) :=
  ⟨(Aj _ _).alloc hB _,h.keep fun b _ hb=>C3 w _ b hb,by simp[Ab],by simp,aB⟩
 have aL:=hB;clear h aB;have HW:=hid aA;clear aA;go_in;go_wp2_with fail;have aA:=HW.o;clear HW;generalize w.alloc (.cells #[.int .i64 3,.int .i64 p,.int .i64 (N:Int)] 54)=ws at aA |-;generalize w.heap.size=bx at aA |-;refine Reg.region (by kernel_rfl) (by kernel_rfl) (SqV B A n c st bx N T) (Ou B A n c st bx (N:Int) w) ⟨aA.bel.drew,aA.own,aA.cell,aA.lt,aA.low⟩ (Reg.steps_of ?_) ?_
 ·refine⟨?_,?_,?_,?_,?_,?_,?_,?_,?_,trivial⟩<;>intro a w1 E D hW
  ·have e0:a.eval _=.slice A n c:=E 0 rfl;exact Reg.val rfl (Reg.wanted_free rfl) hW (.slice A n c) (by have c:=Reg.consts a;generalize a.eval=ρ at *;simp[go_sem,c.1,c.2,e0]) rfl
  ·have e3:a.eval _=.pointer (some ⟨bx,0,none⟩):=E 3 rfl;exact Reg.val rfl (Reg.wanted_free rfl) hW (.pointer (some ⟨bx,2,none⟩)) (by have c:=Reg.consts a;generalize a.eval=ρ at *;simp[go_sem,c.1,c.2,e3]) rfl
  ·have d1:a.eval (.tmp 11)=.pointer (some ⟨bx,2,none⟩):=D 1 rfl;have hc:=hW.cell;exact Reg.val rfl (Reg.wanted_free rfl) hW (.int .i64 (N:Int)) (by have c:=Reg.consts a;generalize a.eval=ρ at *;simp[go_sem,c.1,c.2,d1,hc]) rfl
  ·have e0:a.eval _=.slice A n c:=E 0 rfl;exact Reg.val rfl (Reg.wanted_free rfl) hW (.slice A n c) (by have c:=Reg.consts a;generalize a.eval=ρ at *;simp[go_sem,c.1,c.2,e0]) rfl
  ·have d3:a.eval (.tmp 13)=.slice A n c:=D 3 rfl;refine Reg.call rfl (Reg.wanted_free rfl) 107 #[.slice A n c] (by have c:=Reg.consts a;generalize a.eval=ρ at *;simp[go_sem,c.1,c.2,d3]) ?_;refine(Ly B A n c st w1 hW.own hn).mono ?_;rintro e w2⟨rfl,rfl⟩;exact⟨_,rfl,HT.o▸rfl,hW,fun _ _ h=>h⟩
  ·have d2:a.eval (.tmp 12)=.int .i64 (N:Int):=D 2 rfl;have d4:a.eval (.tmp 14)=.int .i64 (T:Int):=D 4 rfl;have aI:=On (N:Int) (T:Int);exact Reg.val rfl (Reg.wanted_free rfl) hW (.agg #[.int .i64 (N:Int),.int .i64 (T:Int)]) (by have c:=Reg.consts a;generalize a.eval=ρ at *;simp[execOp,go_sem,c.1,c.2,d2,d4,aI]) rfl
  ·have d5:a.eval (.tmp 15)=.agg #[.int .i64 (N:Int),.int .i64 (T:Int)]:=D 5 rfl;refine Reg.grow rfl (Reg.wanted_free rfl) (.slice (some ⟨w1.heap.size,0,none⟩) 1 1) (w1.alloc (.cells #[.int .i64 (N:Int),.int .i64 (T:Int)] 174)) ?_ ?_ (hW.alloc aL _) (fun j v _ h=>SqV.keep (by simp) (fun k hk=>C3 w1 _ k hk) j v h)
   ·have c:=Reg.consts a;generalize a.eval=ρ at *;simp[execOp,go_sem,c.1,c.2,d5]
   exact⟨w1.heap.size,rfl,hW.lt,by simp,by simp[Ab],by simp[Ab]⟩
  ·have d0:a.eval (.tmp 10)=.slice A n c:=D 0 rfl;obtain⟨g,d6,aN,aM,aG,aF⟩:LitP bx N T (a.eval (.tmp 16)) w1:=D 6 rfl;have aK:B<=w1.heap.size:=by have:=hW.bel.size;omega
   obtain⟨A',c',w',aC,h1,h2,h3,h4⟩:=R4 w1 B A n c st N T hW.own hn aK g aG aF;have hs:=h2.size;refine Reg.growL rfl (Reg.wanted_free rfl) (.slice A' (n+1) c') w' ?_ ⟨A',c',rfl,h1⟩ ⟨hW.bel.trans h2,h3,(Er (h4 bx (fun g' aD=>by have:=hW.low g' aD;omega) hW.lt)).trans hW.cell,by have:=hW.lt;omega,hW.low⟩ ?_
   ·have c:=Reg.consts a;generalize a.eval=ρ at *;simp only[execOp,resolve,invoke,builtin,Sem.run_bind,Sem.run_pure,At,Cs,Cp,Da,d0,d6,aC]
   intro live aH h0 j v hj hv;refine SqV.push hW.low hs h4 j ?_ ?_ v hv
   ·rintro rfl;rw[h0] at hj;cases hj
   rintro rfl;have:=Reg.not_live aH h0 (j:=8) rfl rfl;rw[this] at hj;cases hj
  obtain⟨A',c',d7,h1⟩:Ic B n ((N,T)::st) (a.eval (.tmp 17)) w1:=D 7 rfl;exact Reg.val rfl (Reg.wanted_free rfl) hW (.slice A' (n+1) c') (by have c:=Reg.consts a;generalize a.eval=ρ at *;simp[go_sem,c.1,c.2,d7]) ⟨A',c',rfl,h1⟩
 intro a w3 hs hd E D hW;obtain⟨A',c',d8,h1⟩:Ic B n ((N,T)::st) (a.eval (.tmp 4)) w3:=D 8 (by decide);have aJ:=hW.bel;rw[Reg.act_lit a 53 hs,hd];simp only[List.range,List.range.loop,List.map,d8];clear E D d8 hW aA;generalize a.eval=ρ;clear a hs hd;go_wp2;go_ret;exact⟨A',n+1,c',rfl,h1,aJ⟩
def RpV(B:Nat)(A:Option Addr)(n c:Nat)(st:List (Nat×Nat))(bx N T H:Nat)(j:Nat)(v:Value)(w:World):Prop :=
 match j with
 | 0=>v=.slice A n c
 | 1=>v=.pointer (some ⟨bx,2,none⟩)
 | 2=>v=.int .i64 (N:Int)
 | 3=>v=.slice A n c
 | 4=>v=.int .i64 (T:Int)
 | 5=>v=.int .i64 (H:Int)
 | 6=>v=.agg #[.int .i64 1,.int .i64 (H:Int)]
 | 7=>LitP bx 1 H v w
 | 8=>Ic B n ((1,H)::st) v w
 | 9=>Ic B n ((1,H)::st) v w
 | _=>True
theorem RpV.keep{B:Nat}{A:Option Addr}{n c:Nat}{st:List (Nat×Nat)}{bx N T H:Nat}{w w':World}(hs:w.heap.size<=w'.heap.size)(hk:∀ k,k < w.heap.size->w'.heap[k]? = w.heap[k]?)(j:Nat)(v:Value)(h:RpV B A n c st bx N T H j v w):RpV B A n c st bx N T H j v w':=by
 unfold RpV at h |-;split at h <;> first | exact h | exact LitP.keep h hs (fun k _ aA=>hk k aA) | exact Ic.keep h hk
theorem RpV.push{B:Nat}{A:Option Addr}{n c:Nat}{st:List (Nat×Nat)}{bx N T H:Nat}{w w':World}(aA:∀ g,A=some ⟨g,0,none⟩->g < bx)(hs:w.heap.size<=w'.heap.size)(hk:∀ k,(∀ g',A=some ⟨g',0,none⟩->k≠g')->k < w.heap.size->w'.heap[k]? = w.heap[k]?)(j:Nat)(hj:j≠8)(aC:j≠9)(v:Value)(h:RpV B A n c st bx N T H j v w):RpV B A n c st bx N T H j v w':=by
 unfold RpV at h |-;split at h <;> first | exact h | exact LitP.keep h hs (fun k aE aB=>hk k (fun g' aD=>by have:=aA g' aD;omega) aB) | (exact absurd rfl hj) | (exact absurd rfl aC)
theorem Vy(B:Nat)(A:Option Addr)(n c:Nat)(st:List (Nat×Nat))(p:Int)(N:Nat)(w:World)(h:Gu w B A n c st)(hB:B<=w.heap.size)(hn:n<=1099511627776)(hN:1<=N)(aR:N<=9223372036854775807)(aM:1<=times st)(aL:times st<=4097):
  Calls Tryz.prog 104 #[.slice A n c,nd 4 p (N:Int)] w (W9 B w ((1,hold N (times st))::st)):=by
 generalize aE:times st=T at aM aL |-;generalize aF:hold N T=H;have HT:Hd (times st=T):=hid aE;have HH:Hd (hl (N:Int) (T:Int)=(H:Int)):=hid (hl_hold N T H aF);clear aF;clear aE;have aB:∀ g,A=some ⟨g,0,none⟩->g < w.heap.size:=fun g hg=>by
  rcases h.2.2 with ⟨hv,_⟩ | ⟨g',cap,aT,hv,_,aD,_⟩
  ·rw[hg] at hv;cases hv
  rw[hg] at hv;injection hv with h1;injection h1 with h1;injection h1 with h1;rw[h1];exact(Bt.1 aD).1
 have aA:Ou B A n c st w.heap.size (N:Int) w (w.alloc (.cells #[.int .i64 4,.int .i64 p,.int .i64 (N:Int)] 54)) :=
  ⟨(Aj _ _).alloc hB _,h.keep fun b _ hb=>C3 w _ b hb,by simp[Ab],by simp,aB⟩
 have aO:=hB;clear h aB;have HW:=hid aA;clear aA;go_in;go_wp2_with fail;have aA:=HW.o;clear HW;generalize w.alloc (.cells #[.int .i64 4,.int .i64 p,.int .i64 (N:Int)] 54)=ws at aA |-;generalize w.heap.size=bx at aA |-;refine Reg.region (by kernel_rfl) (by kernel_rfl) (RpV B A n c st bx N T H) (Ou B A n c st bx (N:Int) w) ⟨aA.bel.drew,aA.own,aA.cell,aA.lt,aA.low⟩ (Reg.steps_of ?_) ?_
 ·refine⟨?_,?_,?_,?_,?_,?_,?_,?_,?_,?_,trivial⟩<;>intro a w1 E D hW
  ·have e0:a.eval _=.slice A n c:=E 0 rfl;exact Reg.val rfl (Reg.wanted_free rfl) hW (.slice A n c) (by have c:=Reg.consts a;generalize a.eval=ρ at *;simp[go_sem,c.1,c.2,e0]) rfl
  ·have e3:a.eval _=.pointer (some ⟨bx,0,none⟩):=E 3 rfl;exact Reg.val rfl (Reg.wanted_free rfl) hW (.pointer (some ⟨bx,2,none⟩)) (by have c:=Reg.consts a;generalize a.eval=ρ at *;simp[go_sem,c.1,c.2,e3]) rfl
  ·have d1:a.eval (.tmp 21)=.pointer (some ⟨bx,2,none⟩):=D 1 rfl;have hc:=hW.cell;exact Reg.val rfl (Reg.wanted_free rfl) hW (.int .i64 (N:Int)) (by have c:=Reg.consts a;generalize a.eval=ρ at *;simp[go_sem,c.1,c.2,d1,hc]) rfl
  ·have e0:a.eval _=.slice A n c:=E 0 rfl;exact Reg.val rfl (Reg.wanted_free rfl) hW (.slice A n c) (by have c:=Reg.consts a;generalize a.eval=ρ at *;simp[go_sem,c.1,c.2,e0]) rfl
  ·have d3:a.eval (.tmp 23)=.slice A n c:=D 3 rfl;refine Reg.call rfl (Reg.wanted_free rfl) 107 #[.slice A n c] (by have c:=Reg.consts a;generalize a.eval=ρ at *;simp[go_sem,c.1,c.2,d3]) ?_;refine(Ly B A n c st w1 hW.own hn).mono ?_;rintro e w2⟨rfl,rfl⟩;exact⟨_,rfl,HT.o▸rfl,hW,fun _ _ h=>h⟩
  ·have d2:a.eval (.tmp 22)=.int .i64 (N:Int):=D 2 rfl;have d4:a.eval (.tmp 24)=.int .i64 (T:Int):=D 4 rfl;refine Reg.call rfl (Reg.wanted_free rfl) 106 #[.int .i64 (N:Int),.int .i64 (T:Int)] (by have c:=Reg.consts a;generalize a.eval=ρ at *;simp[go_sem,c.1,c.2,d2,d4]) ?_;refine(S8 (N:Int) (T:Int) w1 (by omega) (by omega) (by omega) (by omega)).mono ?_;rintro e w2⟨rfl,rfl⟩;exact⟨_,rfl,HH.o▸rfl,hW,fun _ _ h=>h⟩
  ·have d5:a.eval (.tmp 25)=.int .i64 (H:Int):=D 5 rfl;have aJ:=On 1 (H:Int);exact Reg.val rfl (Reg.wanted_free rfl) hW (.agg #[.int .i64 1,.int .i64 (H:Int)]) (by have c:=Reg.consts a;generalize a.eval=ρ at *;simp[execOp,go_sem,c.1,c.2,d5,aJ]) rfl
  ·have d6:a.eval (.tmp 26)=.agg #[.int .i64 1,.int .i64 (H:Int)]:=D 6 rfl;refine Reg.grow rfl (Reg.wanted_free rfl) (.slice (some ⟨w1.heap.size,0,none⟩) 1 1) (w1.alloc (.cells #[.int .i64 1,.int .i64 (H:Int)] 174)) ?_ ?_ (hW.alloc aO _) (fun j v _ h=>RpV.keep (by simp) (fun k hk=>C3 w1 _ k hk) j v h)
   ·have c:=Reg.consts a;generalize a.eval=ρ at *;simp[execOp,go_sem,c.1,c.2,d6]
   exact⟨w1.heap.size,rfl,hW.lt,by simp,by simp[Ab],by simp[Ab]⟩
  ·have d0:a.eval (.tmp 20)=.slice A n c:=D 0 rfl;obtain⟨g,d7,aQ,aP,aH,aG⟩:LitP bx 1 H (a.eval (.tmp 27)) w1:=D 7 rfl;have aN:B<=w1.heap.size:=by have:=hW.bel.size;omega
   obtain⟨A',c',w',aC,h1,h2,h3,h4⟩:=R4 w1 B A n c st 1 H hW.own hn aN g aH aG;have hs:=h2.size;refine Reg.growL rfl (Reg.wanted_free rfl) (.slice A' (n+1) c') w' ?_ ⟨A',c',rfl,h1⟩ ⟨hW.bel.trans h2,h3,(Er (h4 bx (fun g' aD=>by have:=hW.low g' aD;omega) hW.lt)).trans hW.cell,by have:=hW.lt;omega,hW.low⟩ ?_
   ·have c:=Reg.consts a;generalize a.eval=ρ at *;simp only[execOp,resolve,invoke,builtin,Sem.run_bind,Sem.run_pure,At,Cs,Cp,Da,d0,d7,aC]
   intro live aI h0 j v hj hv;refine RpV.push hW.low hs h4 j ?_ ?_ v hv
   ·rintro rfl;rw[h0] at hj;cases hj
   rintro rfl;have:=Reg.not_live aI h0 (j:=9) rfl rfl;rw[this] at hj;cases hj
  obtain⟨A',c',d8,h1⟩:Ic B n ((1,H)::st) (a.eval (.tmp 28)) w1:=D 8 rfl;exact Reg.val rfl (Reg.wanted_free rfl) hW (.slice A' (n+1) c') (by have c:=Reg.consts a;generalize a.eval=ρ at *;simp[go_sem,c.1,c.2,d8]) ⟨A',c',rfl,h1⟩
 intro a w3 hs hd E D hW;obtain⟨A',c',d9,h1⟩:Ic B n ((1,H)::st) (a.eval (.tmp 4)) w3:=D 9 (by decide);have aK:=hW.bel;rw[Reg.act_lit a 53 hs,hd];simp only[List.range,List.range.loop,List.map,d9];clear E D d9 hW aA;generalize a.eval=ρ;clear a hs hd;go_wp2;go_ret;exact⟨A',n+1,c',rfl,h1,aK⟩
theorem Ku(B:Nat)(A:Option Addr)(n c:Nat)(st:List (Nat×Nat))(k p z:Int)(w:World)(h:Gu w B A n c st)(hB:B<=w.heap.size)(hn:n<=1099511627776)(hf:fine ⟨k,p,z⟩=true)(hz:z<=9223372036854775807)
  (aB:1<=times st) (aA:times st<=4097) (ha:∀ e∈st,1<=e.1/\e.1<=1099511627776) :
  Calls Tryz.prog 104 #[.slice A n c,nd k p z] w (W9 B w (behind st ⟨k,p,z⟩)):=by
 have aC:1<=z:=fine_one hf;by_cases h3:k=3
 ·subst h3;obtain⟨N,rfl⟩:=Ax (show 0<=z by omega);exact Vx B A n c st p N w h hB hn
 by_cases h4:k=4
 ·subst h4;obtain⟨N,rfl⟩:=Ax (show 0<=z by omega);exact Vy B A n c st p N w h hB hn (by omega) (by omega) aB aA
 have e:behind st ⟨k,p,z⟩=pops st:=by unfold behind;rw[if_neg h3,if_neg h4]
 rw[e];exact Th B A n c st k p z w h hB hn h3 h4 ha
theorem Outer.low{o:List (Nat×Nat)}{fs:List F}(h:Outer o fs)(M:Nat)(hM:∀ f∈fs,f.cnt < M):∀ e∈o,1<=e.1/\e.1<=M:=by
 induction o generalizing fs with
 | nil=>simp
 | cons x o ih =>
  obtain⟨a,t⟩:=x;cases fs with
  | nil=>exact h.elim
  | cons f fs =>
   obtain⟨h1,_,_,_,h5⟩:=h;intro e he;rcases Ba.1 he with rfl | he
   ·have:=hM f (by simp);dsimp only;omega
   exact ih h5 (fun g hg=>hM g (by simp[hg])) e he
theorem Y7(fs:List F)(f:F)(h:f∈fs):f.cnt<=(flats fs).length:=by
 induction fs with
 | nil=>cases h
 | cons g fs ih =>
  simp only[flats,Aa];rcases Ba.1 h with rfl | h
  ·have:=F.cnt_le_sz f;rw[F.flat_length];omega
  have:=ih h;omega
theorem InvP.low{st:List (Nat×Nat)}{aA:F}{fs:List F}(h:InvP st aA fs){tl:List Nd}(hr:aA.flat++flats fs=tl)(M:Nat)(hM:tl.length < M):∀ e∈st,1<=e.1/\e.1<=M:=by
 have hl:=congrArg List.length hr;rw[Aa,F.flat_length] at hl;cases st with
 | nil=>simp
 | cons x o =>
  obtain⟨a,t⟩:=x;obtain⟨_,h1,h2,_,_,h5⟩:=h;intro e he;rcases Ba.1 he with rfl | he
  ·have:=F.cnt_le_sz aA;dsimp only;omega
  exact Outer.low h5 M (fun f hf=>by have:=Y7 fs f hf;omega) e he
theorem bh(st:List (Nat×Nat)):(pops st).length<=st.length:=by
 induction st with
 | nil=>simp[pops]
 | cons e o ih =>
  obtain⟨a,t⟩:=e;simp only[pops];split
  ·simp
  simp only[Ad];omega
theorem Kt(st:List (Nat×Nat))(x:Nd):(behind st x).length<=st.length+1:=by
 unfold behind;split
 ·simp
 split
 ·simp
 have:=bh st;omega
def lv(T:Nat):Int:=if T<=4096 then (T:Int) else 0
def lb(T:Nat):Bool:=decide (T<=4096)
def Len(T:Nat)(w:World)(e:Ending)(w':World):Prop:=e=.returned (.tuple #[.int .i64 (lv T),.bool (lb T)])/\Below w.heap.size w w'
theorem Len.mk{T:Nat}{z:Int}{b:Bool}{w w':World}(h1:lv T=z)(h2:lb T=b)(hb:Below w.heap.size w w'):Len T w (.returned (.tuple #[.int .i64 z,.bool b])) w':=⟨by rw[h1,h2],hb⟩
theorem fj(B:Nat)(A:Option Addr)(n c:Nat)(st:List (Nat×Nat))(w:World)(T:Nat)(hT:times st=T)(h:Gu w B A n c st)(hn:n<=1099511627776):
  Calls Tryz.prog 107 #[.slice A n c] w fun e w'=>e=.returned (.int .i64 (T:Int))/\w'=w:=by
 refine(Ly B A n c st w h hn).mono ?_;rintro e w'⟨rfl,rfl⟩;exact⟨by rw[hT],rfl⟩
theorem mc(a b h:Nat)(w:World)(ha:1<=a)(hb:1<=b)(aA:b<=4097)(aB:a<=9223372036854775807)(hh:hold a b=h):Calls Tryz.prog 106 #[.int .i64 (a:Int),.int .i64 (b:Int)] w fun e w'=>e=.returned (.int .i64 (h:Int))/\w'=w:=by
 refine(S8 (a:Int) (b:Int) w (by omega) (by omega) (by omega) (by omega)).mono ?_;rintro e w'⟨rfl,rfl⟩;exact⟨by rw[hl_hold a b h hh],rfl⟩
theorem na{x:Nd}(h:fine x=true)(h0:kn x=0):kz x=0:=by rw[Wt h,h0];rfl
theorem lw{x:Nd}(h:fine x=true)(h0:kn x≠0):∃ K:Nat,kz x=(K:Int)/\0 < K:=⟨kn x,Wt h,by omega⟩
theorem Sy(A:Option Addr)(n cap:Nat)(l:List Nd)(x0:Nd)(k0:F)(w:World)(h:RdN w w.heap.size A n l)(hc:n<=cap)(hn:n<=1048576)(aT:(F.cons x0 k0 .nil).ok)(hl:l=x0::k0.flat):
  Calls Tryz.prog 71 #[.slice A n cap] w (Len (F.tick x0 k0.len) w):=by
 have bA:Eg l=true:=by rw[hl];exact Ge aT
 obtain⟨i1,i2,i3,i4⟩:=InvP.start aT rfl;have e1:(F.cons x0 k0 .nil).flat=l:=by rw[hl];simp[F.flat]
 have e2:(F.cons x0 k0 .nil).len=F.tick x0 k0.len:=by simp[F.len]
 have i2:=i2.trans e1;rw[e2] at i3;generalize aP:F.tick x0 k0.len=T at i3 |-;generalize (F.cons x0 k0 .nil)=f0 at i1 i2 i3;have I1:=hid i1;have I2:=hid i2;have I3:=hid i3;have bQ:=hid bA;clear i1 i2 i3 i4 bA aT hl e1 e2 aP;go_in;go_wp2_with fail;refine(whole_any A n cap l w h hc (by omega)).mono ?_;rw[bQ.o];rintro e w1⟨rfl,bM⟩;go_wp2;go_loopw [4,5,13] (fun sm q s wr=>∃(i sum:Nat) (st:List (Nat×Nat)) (aR:F) (fs:List F) (A1:Option Addr) (n1 c1:Nat),i<=n/\s=.int .i64 i/\sm=.int .i64 sum/\q=.slice A1 n1 c1/\Gu wr w.heap.size A1 n1 c1 st/\InvP st aR fs/\
  aR.flat++flats fs=l.drop i/\min 4097 (sum+rem st aR fs)=min 4097 T/\sum<=4096/\Below w.heap.size w wr/\n1<=i) (fun _ _ s _=>n - (intOf s).toNat)
 case atStart=>exact⟨0,0,[],f0,[],none,0,0,by omega,rfl,rfl,rfl,Gu.nil _ _,I1.o,I2.o,by rw[I3.o,Dr],by omega,bM,by omega⟩
 obtain⟨i,sum,st,aR,fs,A1,n1,c1,hi,rfl,rfl,rfl,hp,hv,aC,aD,bJ,hb,bT⟩:=hrel;have HV:=hid hv;have HR:=hid aC;have HS:=hid aD;clear hv aC aD;by_cases aH:i < n
 ·obtain⟨ad,x,rfl,_,hx,bB,c0,bW,c2⟩:=(h.on hb).at_ aH;have bC:=drop_cons hx;have aI:=InvP.low HV.o HR.o 1048577 (by rw[C1,h.len];omega);obtain⟨hf,aM,bF,j1,j2,j3,j4⟩:=Tab.step HV.o (HR.o.trans bC);obtain⟨aL,aQ⟩:=InvP.times HV.o;obtain⟨xk,xp,xn⟩:=x;have aZ:xn<=9223372036854775807:=bB.2.2.2;have bS:1<=xn:=fine_one hf;have HF:=hid hf;have J1:=hid j1;have J2:=hid j2;have J3:=hid j3;have aN:=hid aI;clear hf j1 j2 j3 j4 bC hx bB aI;obtain⟨N,rfl⟩:=Ax (show 0<=xn by omega);generalize aP:times st=t at aL aQ;have HT:=hid aP;clear aP;by_cases hk:kn ⟨xk,xp,N⟩=0
  ·have aJ:=na HF.o hk;have aY:=hid aJ;have HK:=hid hk;clear aJ hk;go_wp2_with fail;refine(J5 _ _ _ _).mono ?_;rw[aY.o];rintro e w2⟨rfl,aK⟩;obtain⟨d0,d1,d2⟩:=Va aK;go_wp2_with fail;have aA:=(bl1 wr _).trans (aK.mono (by simp));have aO:Gu w2 w.heap.size A1 n1 c1 st:=hp.keep fun b _ aH=>aA.block b aH;have aG:∀ q,Gu (w2.drewN q) w.heap.size A1 n1 c1 st:=fun _=>aO;have aB:=hb.trans (aA.mono hb.size);have bD:∀ q,Below w.heap.size w (w2.drewN q):=fun q=>⟨aB.os,aB.tape,aB.output,aB.size,aB.block⟩;have aX:=aB.size;have bR:=hid aG;have bG:=hid bD;clear aG bD aB;have hH:=hold_le N t;have bP:=hold_pos (a:=N) (b:=t) (by omega) aL;generalize bE:hold N t=H at hH bP;have HH:=hid bE;clear bE;have bH:IntKind.i64.wrap ((sum:Int)+(H:Int))=(sum:Int)+(H:Int):=Dt _ (by omega);have bO:1<=N:=by omega
   have bN:N<=9223372036854775807:=by omega
   go_quiet ((first | (go_at_call 107;exact Calls.quiet_of_same (fj w.heap.size A1 n1 c1 st _ t HT.o aO (by omega))) | (go_at_call 106;exact Calls.quiet_of_same (mc N t H _ bO aL aQ bN HH.o))));clear bH;by_cases bI:sum+H<=4096
   ·have aE:(sum:Int)+(H:Int)<=4096:=by omega
    go_wp2_with fail;refine(Ku w.heap.size A1 n1 c1 st xk xp (N:Int) _ (bR.o _) aX (by omega) HF.o aZ (by rw[HT.o];exact aL) (by rw[HT.o];exact aQ) (fun e he=>by have:=aN.o e he;omega)).mono ?_;rintro e w3⟨A3,n3,c3,rfl,aF,aV⟩;have aU:n3<=i+1:=by
     have h1:=aF.1;have h2:=Kt st ⟨xk,xp,(N:Int)⟩;have h3:=hp.1;omega
    have bL:Below w.heap.size w w3:=(bG.o _).trans aV;go_wp2;go_roundw
    case rel=>exact⟨i+1,sum+H,_,aM,bF,A3,n3,c3,by omega,by go_num,by go_num,rfl,aF,J1.o,J2.o.symm,by have:=J3.o sum;rw[if_pos HK.o,HT.o] at this;have h2:=HH.o;rw[show ((N:Int)).toNat=N from rfl,h2] at this;exact this.trans HS.o,bI,bL,aU⟩
    simp[intOf];omega
   have aE:¬ (sum:Int)+(H:Int)<=4096:=by omega
   go_wp2;go_ret2;have e4:4096 < T:=by have:=J3.o sum;rw[if_pos HK.o,HT.o] at this;have h1:=HS.o;have h2:=HH.o;rw[show ((N:Int)).toNat=N from rfl,h2] at this;omega
   exact Len.mk (by unfold lv;rw[if_neg (by omega)]) (by unfold lb;exact Ac (by omega)) (bG.o _)
  obtain⟨K,aJ,bV⟩:=lw HF.o hk;have aY:=hid aJ;have HK:=hid hk;have bU:¬ (K:Int)=0:=by omega
  have aE:¬ (4096:Int) < (sum:Int):=by omega
  clear aJ hk;go_wp2_with fail;refine(J5 _ _ _ _).mono ?_;rw[aY.o];rintro e w2⟨rfl,aK⟩;obtain⟨d0,d1,d2⟩:=Va aK;have aA:=(bl1 wr _).trans (aK.mono (by simp));have aO:Gu w2 w.heap.size A1 n1 c1 st:=hp.keep fun b _ aH=>aA.block b aH;have aB:=hb.trans (aA.mono hb.size);have aX:=aB.size;go_wp2_with fail;refine(Ku w.heap.size A1 n1 c1 st xk xp (N:Int) _ aO aX (by omega) HF.o aZ (by rw[HT.o];exact aL) (by rw[HT.o];exact aQ) (fun e he=>by have:=aN.o e he;omega)).mono ?_;rintro e w3⟨A3,n3,c3,rfl,aF,aV⟩;have aU:n3<=i+1:=by
   have h1:=aF.1;have h2:=Kt st ⟨xk,xp,(N:Int)⟩;have h3:=hp.1;omega
  go_wp2;go_roundw
  case rel=>exact⟨i+1,sum,_,aM,bF,A3,n3,c3,by omega,by go_num,by go_num,rfl,aF,J1.o,J2.o.symm,by have:=J3.o sum;rw[if_neg HK.o,Nat.add_zero] at this;exact this.trans HS.o,bJ,aB.trans aV,aU⟩
  simp[intOf];omega
 have bK:n<=i:=by omega
 obtain⟨r0,r1⟩:=InvP.done HV.o (by rw[HR.o];exact Cq (by rw[h.len];exact bK));have e4:=HS.o;rw[r0] at e4;have e5:sum=T:=by omega
 have E5:=hid e5;clear r0 r1 e4 e5;go_wp2;go_ret2;exact Len.mk (by have:=E5.o;unfold lv;rw[if_pos (by omega),this]) (by have:=E5.o;unfold lb;exact Ae (by omega)) hb
theorem j8(A:Option Addr)(n cap:Nat)(l:List Nd)(w:World)(h:RdN w w.heap.size A n l)(hc:n<=cap)(hn:n<=1048576)(hw:Eg l=false):
  Calls Tryz.prog 71 #[.slice A n cap] w (Len 4097 w):=by
 have HW:=hid hw;clear hw;go_in;go_wp2_with fail;refine(whole_any A n cap l w h hc (by omega)).mono ?_;rw[HW.o];rintro e w1⟨rfl,aA⟩;go_wp2;go_ret2;exact Len.mk rfl rfl aA
theorem Vp(A:Option Addr)(n cap:Nat)(l:List Nd)(x0:Nd)(k0:F)(w:World)(h:RdN w w.heap.size A n l)(hc:n<=cap)(hn:n<=1048576)(aG:(F.cons x0 k0 .nil).ok)(hl:l=x0::k0.flat):
  Calls Tryz.prog 70 #[.slice A n cap] w (Ans (.int .i64 (k0.dep+1:Nat)) w):=by
 have aL:Eg l=true:=by rw[hl];exact Ge aG
 obtain⟨i1,i2,i3,i4⟩:=InvP.start aG rfl;have e1:(F.cons x0 k0 .nil).flat=l:=by rw[hl];simp[F.flat]
 have e2:(F.cons x0 k0 .nil).dep=k0.dep+1:=by simp[F.dep]
 have i2:=i2.trans e1;rw[e2] at i4;have hD:k0.dep+1<=n:=by
  have:=F.dep_le_sz k0;have h1:=h.len;rw[hl] at h1;simp only[Ad,F.flat_length] at h1;omega
 generalize k0.dep+1=D at i4 hD |-;generalize (F.cons x0 k0 .nil)=f0 at i1 i2 i4;have I1:=hid i1;have I2:=hid i2;have I4:=hid i4;have aZ:=hid aL;clear i1 i2 i3 i4 aL aG hl e1 e2;go_in;go_wp2_with fail;refine(whole_any A n cap l w h hc (by omega)).mono ?_;rw[aZ.o];rintro e w1⟨rfl,aV⟩;go_wp2;go_loopw [3,4,12] (fun sm q s wr=>∃(i d:Nat) (st:List (Nat×Nat)) (aF:F) (fs:List F) (A1:Option Addr) (n1 c1:Nat),i<=n/\s=.int .i64 i/\sm=.int .i64 d/\q=.slice A1 n1 c1/\Gu wr w.heap.size A1 n1 c1 st/\InvP st aF fs/\
  aF.flat++flats fs=l.drop i/\max d (deepR st aF fs)=D/\Below w.heap.size w wr/\n1<=i) (fun _ _ s _=>n - (intOf s).toNat)
 case atStart=>exact⟨0,0,[],f0,[],none,0,0,by omega,rfl,rfl,rfl,Gu.nil _ _,I1.o,I2.o,by rw[I4.o];omega,aV,by omega⟩
 obtain⟨i,d,st,aF,fs,A1,n1,c1,hi,rfl,rfl,rfl,hp,hv,aA,aB,hb,bA⟩:=hrel;have hd:d<=D:=by omega
 have HV:=hid hv;have HR:=hid aA;have HS:=hid aB;clear hv aA aB;by_cases aH:i < n
 ·obtain⟨ad,x,rfl,_,hx,aN,c0,bC,c2⟩:=(h.on hb).at_ aH;have aJ:=drop_cons hx;have aC:=InvP.low HV.o HR.o 1048577 (by rw[C1,h.len];omega);have aI:=deep_ge HV.o (HR.o.trans aJ);obtain⟨hf,aE,aP,j1,j2,j3,j4⟩:=Tab.step HV.o (HR.o.trans aJ);obtain⟨aY,aX⟩:=InvP.times HV.o;obtain⟨xk,xp,xn⟩:=x;have aQ:xn<=9223372036854775807:=aN.2.2.2;have hj:max (max d (n1+1)) (deepR (behind st ⟨xk,xp,xn⟩) aE aP)=D:=by
   have h1:=hp.1;have h2:=HS.o;rw[h1];omega
  have HF:=hid hf;have J1:=hid j1;have J2:=hid j2;have J4:=hid hj;have aK:=hid aC;clear hf j1 j2 j3 j4 aJ hx aN aC aI hj;have bB:=hb.size;have aD:=bl1 wr (.cells #[.int .i64 xk,.int .i64 xp,.int .i64 xn] 54);have aR:Gu (wr.alloc (.cells #[.int .i64 xk,.int .i64 xp,.int .i64 xn] 54)) w.heap.size A1 n1 c1 st:=hp.keep fun b _ aH=>aD.block b aH;have aO:=hb.trans (aD.mono hb.size);go_wp2_with fail
  all_goals
   refine(Ku w.heap.size A1 n1 c1 st xk xp xn _ aR aO.size (by omega) HF.o aQ aY aX (fun e he=>by have:=aK.o e he;omega)).mono ?_;rintro e w3⟨A3,n3,c3,rfl,aM,aU⟩;have aT:n3<=i+1:=by
    have h1:=aM.1;have h2:=Kt st ⟨xk,xp,xn⟩;have h3:=hp.1;omega
   go_wp2;go_roundw
   case rel=>exact⟨i+1,max d (n1+1),_,aE,aP,A3,n3,c3,by omega,by go_num,Fa (by omega),rfl,aM,J1.o,J2.o.symm,J4.o,aO.trans aU,aT⟩
   simp[intOf];omega
 have aI:n<=i:=by omega
 obtain⟨r0,r1⟩:=InvP.done HV.o (by rw[HR.o];exact Cq (by rw[h.len];exact aI));have e4:=HS.o;rw[r1] at e4;have e5:d=D:=by omega
 have E5:=hid e5;clear r0 r1 e4 e5;go_wp2;go_ret;exact Ans.mk (by rw[E5.o];rfl) hb
theorem Ts{l:List Nd}(h:Eg l=true):0 < l.length/\size l 0=l.length:=by
 unfold Eg at h;simp only[Au,Av] at h;exact h
theorem Yi{l:List Nd}(h:Eg l=false)(h0:0 < l.length):¬ size l 0=l.length:=fun h1=>by
 unfold Eg at h
 rw[Ae h0,Ae h1] at h
 cases h
theorem Sf(A:Option Addr)(n cap:Nat)(l:List Nd)(w:World)(h:RdN w w.heap.size A n l)(hc:n<=cap)(hn:n<=1048576)(hw:Eg l=false):
  Calls Tryz.prog 45 #[.slice A n cap] w (Ans (.int .i64 (0:Nat)) w):=by
 by_cases h0:0 < n
 ·have hs:=Yi hw (by rw[h.len];exact h0);rw[h.len] at hs;generalize hS:size l 0=S at hs;have HS:=hid hS;have aC:((S:Int) == (n:Int))=false:=Ak.2 (by omega);have aA:((n:Int) == 0)=false:=Ak.2 (by omega);clear hS hs hw;go_in;go_wp2_with fail;refine(Hx A n cap l 0 w h hc (by omega)).mono ?_;rw[HS.o];rintro e w1⟨rfl,aB⟩;go_wp2_with fail
  all_goals
   go_ret;exact Ans.mk rfl aB
 have aA:((n:Int) == 0)=true:=Ck.2 (by omega);clear hw;go_in;go_wp2;go_ret;exact Ans.mk rfl (Aj _ _)
theorem Mr(A:Option Addr)(n cap:Nat)(l:List Nd)(x0:Nd)(k0:F)(w:World)(h:RdN w w.heap.size A n l)(hc:n<=cap)(hn:n<=1048576)(aA:(F.cons x0 k0 .nil).ok)(hl:l=x0::k0.flat):
  Calls Tryz.prog 45 #[.slice A n cap] w (Ans (.int .i64 (k0.dep+1:Nat)) w):=by
 have hw:Eg l=true:=by rw[hl];exact Ge aA
 obtain⟨h0,hs⟩:=Ts hw;rw[h.len] at h0 hs;have HS:=hid hs;have hd:l.drop 0=(F.cons x0 k0 .nil).flat++[]:=by rw[hl];simp[F.flat]
 have hR:=fun w (h:RdN w w.heap.size A n l)=>Ur A n cap l hc (by omega) (k0.sz+1) 0 x0 k0 .nil [] w (by omega) h aA hd;have HR:=hid hR;have aD:((n:Int) == 0)=false:=Ak.2 (by omega);clear hs hw hR hd hl aA;go_in;go_wp2_with fail;refine(Hx A n cap l 0 w h hc (by omega)).mono ?_;rw[HS.o];rintro e w1⟨rfl,aB⟩;go_wp2_with fail;refine(HR.o w1 (h.on aB)).mono ?_;rintro e w2⟨rfl,aC⟩;go_wp2;go_ret;exact Ans.mk rfl (aB.trans (aC.mono aB.size))
theorem Q5(A:Option Addr)(n cap:Nat)(l:List Nd)(x0:Nd)(k0:F)(w:World)(h:RdN w w.heap.size A n l)(hc:n<=cap)(hn:n<=1048576)(aB:(F.cons x0 k0 .nil).ok)(hl:l=x0::k0.flat):
  Calls Tryz.prog 46 #[.slice A n cap] w (Len (F.tick x0 k0.len) w):=by
 have hD:=fun w (h:RdN w w.heap.size A n l)=>Mr A n cap l x0 k0 w h hc hn aB hl;have hd:l.drop 0=(F.cons x0 k0 .nil).flat++[]:=by rw[hl];simp[F.flat]
 have hR:=fun w (h:RdN w w.heap.size A n l)=>Sa A n cap l hc (by omega) (k0.sz+1) 0 x0 k0 .nil [] w (by omega) h aB hd;have HD:=hid hD;have HR:=hid hR;clear hD hR hd hl aB;have aE:(((k0.dep+1:Nat):Int) == 0)=false:=Ak.2 (by omega);generalize k0.dep+1=D at HD aE;generalize F.tick x0 k0.len=T at HR |-;generalize aD:hl4 T=H at HR;have hh:H=min T 4097:=by rw[<- aD];rfl
 clear aD;by_cases hT:T<=4096
 ·obtain rfl:H=T:=by omega
  clear hh;go_in;go_wp2_with fail;refine(HD.o w h).mono ?_;rintro e w1⟨rfl,aA⟩;go_wp2_with fail;refine(HR.o w1 (h.on aA)).mono ?_;rintro e w2⟨rfl,aC⟩;go_wp2;go_ret2;exact Len.mk (by unfold lv;rw[if_pos hT]) (by unfold lb;exact Ae hT) (aA.trans (aC.mono aA.size))
 obtain rfl:H=4097:=by omega
 clear hh;go_in;go_wp2_with fail;refine(HD.o w h).mono ?_;rintro e w1⟨rfl,aA⟩;go_wp2_with fail;refine(HR.o w1 (h.on aA)).mono ?_;rintro e w2⟨rfl,aC⟩;go_wp2;go_ret2;exact Len.mk (by unfold lv;rw[if_neg hT]) (by unfold lb;exact Ac hT) (aA.trans (aC.mono aA.size))
def rt(n D T:Nat):Int:=if 128 < n then 3 else if 16 < D then 14 else if 4096 < T then 18 else 0
def rn(n:Nat):Int:=if 128 < n then 3 else 12
theorem Uo(A:Option Addr)(n cap:Nat)(l:List Nd)(w:World)(h:RdN w w.heap.size A n l)(hc:n<=cap)(hn:n<=1048576)(hw:Eg l=false):
  Calls Tryz.prog 36 #[.slice A n cap] w (Ans (.int .i64 (rn n)) w):=by
 have HW:=hid hw;clear hw;by_cases h1:128 < n
 ·have HE:Hd (rn n=3):=hid (if_pos h1);have aB:(128:Int) < (n:Int):=by omega
  go_in;go_wp2;go_ret;exact Ans.mk (by rw[HE.o];rfl) (Aj _ _)
 have HE:Hd (rn n=12):=hid (if_neg h1);have aB:¬ (128:Int) < (n:Int):=by omega
 go_in;go_wp2_with fail;refine(whole_any A n cap l w h hc (by omega)).mono ?_;rw[HW.o];rintro e w1⟨rfl,aA⟩;go_wp2;go_ret;exact Ans.mk (by rw[HE.o];rfl) aA
theorem Mp(A:Option Addr)(n cap:Nat)(l:List Nd)(w:World)(h:RdN w w.heap.size A n l)(hc:n<=cap)(hn:n<=1048576)(hw:Eg l=false):
  Calls Tryz.prog 18 #[.slice A n cap] w (Ans (.int .i64 (rn n)) w):=by
 have HW:=hid hw;clear hw;by_cases h1:128 < n
 ·have HE:Hd (rn n=3):=hid (if_pos h1);have aB:(128:Int) < (n:Int):=by omega
  go_in;go_wp2;go_ret;exact Ans.mk (by rw[HE.o];rfl) (Aj _ _)
 have HE:Hd (rn n=12):=hid (if_neg h1);have aB:¬ (128:Int) < (n:Int):=by omega
 go_in;go_wp2_with fail;refine(Sf A n cap l w h hc hn HW.o).mono ?_;rintro e w1⟨rfl,aA⟩;go_wp2;go_ret;exact Ans.mk (by rw[HE.o];rfl) aA
theorem Ij(A:Option Addr)(n cap:Nat)(l:List Nd)(x0:Nd)(k0:F)(w:World)(h:RdN w w.heap.size A n l)(hc:n<=cap)(hn:n<=1048576)(aC:(F.cons x0 k0 .nil).ok)(hl:l=x0::k0.flat):
  Calls Tryz.prog 36 #[.slice A n cap] w (Ans (.int .i64 (rt n (k0.dep+1) (F.tick x0 k0.len))) w):=by
 have aF:Eg l=true:=by rw[hl];exact Ge aC
 have aE:=hid aF;have HD:=hid fun w (h:RdN w w.heap.size A n l)=>Vp A n cap l x0 k0 w h hc hn aC hl;have HL:=hid fun w (h:RdN w w.heap.size A n l)=>Sy A n cap l x0 k0 w h hc hn aC hl;clear aF aC hl;generalize k0.dep+1=D at HD |-;generalize F.tick x0 k0.len=T at HL |-;by_cases h1:128 < n
 ·have HE:Hd (rt n D T=3):=hid (if_pos h1);have aH:(128:Int) < (n:Int):=by omega
  go_in;go_wp2;go_ret;exact Ans.mk (by rw[HE.o];rfl) (Aj _ _)
 have aH:¬ (128:Int) < (n:Int):=by omega
 by_cases h2:16 < D
 ·have HE:Hd (rt n D T=14):=hid (by unfold rt;rw[if_neg h1,if_pos h2]);have aG:(16:Int) < (D:Int):=by omega
  go_in;go_wp2_with fail;refine(whole_any A n cap l w h hc (by omega)).mono ?_;rw[aE.o];rintro e w1⟨rfl,aA⟩;go_wp2_with fail;refine(HD.o w1 (h.on aA)).mono ?_;rintro e w2⟨rfl,aB⟩;have k2:=aA.trans (aB.mono aA.size);go_wp2;go_ret;exact Ans.mk (by rw[HE.o];rfl) k2
 have aG:¬ (16:Int) < (D:Int):=by omega
 by_cases h3:4096 < T
 ·have HE:Hd (rt n D T=18):=hid (by unfold rt;rw[if_neg h1,if_neg h2,if_pos h3]);have hB:lb T=false:=by unfold lb;exact Ac (by omega)
  have HB:=hid hB;clear hB;go_in;go_wp2_with fail;refine(whole_any A n cap l w h hc (by omega)).mono ?_;rw[aE.o];rintro e w1⟨rfl,aA⟩;go_wp2_with fail;refine(HD.o w1 (h.on aA)).mono ?_;rintro e w2⟨rfl,aB⟩;have k2:=aA.trans (aB.mono aA.size);go_wp2_with fail;refine(HL.o w2 (h.on k2)).mono ?_;unfold Len;rw[HB.o];rintro e w3⟨rfl,aD⟩;have k3:=k2.trans (aD.mono k2.size);go_wp2;go_ret;exact Ans.mk (by rw[HE.o];rfl) k3
 have HE:Hd (rt n D T=0):=hid (by unfold rt;rw[if_neg h1,if_neg h2,if_neg h3]);have hB:lb T=true:=by unfold lb;exact Ae (by omega)
 have HB:=hid hB;clear hB;go_in;go_wp2_with fail;refine(whole_any A n cap l w h hc (by omega)).mono ?_;rw[aE.o];rintro e w1⟨rfl,aA⟩;go_wp2_with fail;refine(HD.o w1 (h.on aA)).mono ?_;rintro e w2⟨rfl,aB⟩;have k2:=aA.trans (aB.mono aA.size);go_wp2_with fail;refine(HL.o w2 (h.on k2)).mono ?_;unfold Len;rw[HB.o];rintro e w3⟨rfl,aD⟩;have k3:=k2.trans (aD.mono k2.size);go_wp2;go_ret;exact Ans.mk (by rw[HE.o];rfl) k3
theorem Jb(A:Option Addr)(n cap:Nat)(l:List Nd)(x0:Nd)(k0:F)(w:World)(h:RdN w w.heap.size A n l)(hc:n<=cap)(hn:n<=1048576)(aC:(F.cons x0 k0 .nil).ok)(hl:l=x0::k0.flat):
  Calls Tryz.prog 18 #[.slice A n cap] w (Ans (.int .i64 (rt n (k0.dep+1) (F.tick x0 k0.len))) w):=by
 have aE:Eg l=true:=by rw[hl];exact Ge aC
 have aI:=hid aE;have HD:=hid fun w (h:RdN w w.heap.size A n l)=>Mr A n cap l x0 k0 w h hc hn aC hl;have HL:=hid fun w (h:RdN w w.heap.size A n l)=>Q5 A n cap l x0 k0 w h hc hn aC hl;clear aE aC hl;have aF:(((k0.dep+1:Nat):Int) == 0)=false:=Ak.2 (by omega);generalize k0.dep+1=D at HD aF |-;generalize F.tick x0 k0.len=T at HL |-;by_cases h1:128 < n
 ·have HE:Hd (rt n D T=3):=hid (if_pos h1);have aH:(128:Int) < (n:Int):=by omega
  go_in;go_wp2;go_ret;exact Ans.mk (by rw[HE.o];rfl) (Aj _ _)
 have aH:¬ (128:Int) < (n:Int):=by omega
 by_cases h2:16 < D
 ·have HE:Hd (rt n D T=14):=hid (by unfold rt;rw[if_neg h1,if_pos h2]);have aG:(16:Int) < (D:Int):=by omega
  go_in;go_wp2_with fail;refine(HD.o w h).mono ?_;rintro e w1⟨rfl,aA⟩;go_wp2_with fail;refine(HD.o w1 (h.on aA)).mono ?_;rintro e w2⟨rfl,aB⟩;have k2:=aA.trans (aB.mono aA.size);go_wp2;go_ret;exact Ans.mk (by rw[HE.o];rfl) k2
 have aG:¬ (16:Int) < (D:Int):=by omega
 by_cases h3:4096 < T
 ·have HE:Hd (rt n D T=18):=hid (by unfold rt;rw[if_neg h1,if_neg h2,if_pos h3]);have hB:lb T=false:=by unfold lb;exact Ac (by omega)
  have HB:=hid hB;clear hB;go_in;go_wp2_with fail;refine(HD.o w h).mono ?_;rintro e w1⟨rfl,aA⟩;go_wp2_with fail;refine(HD.o w1 (h.on aA)).mono ?_;rintro e w2⟨rfl,aB⟩;have k2:=aA.trans (aB.mono aA.size);go_wp2_with fail;refine(HL.o w2 (h.on k2)).mono ?_;unfold Len;rw[HB.o];rintro e w3⟨rfl,aD⟩;have k3:=k2.trans (aD.mono k2.size);go_wp2;go_ret;exact Ans.mk (by rw[HE.o];rfl) k3
 have HE:Hd (rt n D T=0):=hid (by unfold rt;rw[if_neg h1,if_neg h2,if_neg h3]);have hB:lb T=true:=by unfold lb;exact Ae (by omega)
 have HB:=hid hB;clear hB;go_in;go_wp2_with fail;refine(HD.o w h).mono ?_;rintro e w1⟨rfl,aA⟩;go_wp2_with fail;refine(HD.o w1 (h.on aA)).mono ?_;rintro e w2⟨rfl,aB⟩;have k2:=aA.trans (aB.mono aA.size);go_wp2_with fail;refine(HL.o w2 (h.on k2)).mono ?_;unfold Len;rw[HB.o];rintro e w3⟨rfl,aD⟩;have k3:=k2.trans (aD.mono k2.size);go_wp2;go_ret;exact Ans.mk (by rw[HE.o];rfl) k3
