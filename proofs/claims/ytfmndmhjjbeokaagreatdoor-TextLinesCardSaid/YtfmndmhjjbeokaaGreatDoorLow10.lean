import Derived.Test.YtfmndmhjjbeokaaGreatDoorLow2
import Derived.Test.YtfmndmhjjbeokaaGreatDoorLow9
import Derived.IntWalk
import Derived.BigQuiet
import Derived.Deep.CutRange
namespace Go.Proofs.YtfmndmhjjbeokaaGreatDoor
open Go.RowKit Tab
set_option linter.unusedSimpArgs false
set_option linter.unusedVariables false
structure ChV where
 from_:Int
 to_:Int
 queue:Bool
 cap:Int
 max:Int
 late:Int
structure PtV where
 name:ByteArray
 bud:Int
 per:Int
 sched:Bool
 stop:Bool
 pa:Option Addr
 pn:Nat
 pc:Nat
 h0:Int
 h1:Int
 h2:Int
 h3:Int
 h4:Int
abbrev cv (x:ChV):Value:=.agg #[.int .i64 x.from_,.int .i64 x.to_,.bool x.queue,.int .i64 x.cap,.int .u32 x.max,.int .i64 x.late]
abbrev pv (x:PtV):Value:=.agg #[.string x.name,.int .i64 x.bud,.int .i64 x.per,.bool x.sched,.bool x.stop,.slice x.pa x.pn x.pc,.int .i64 x.h0,.int .i64 x.h1,.int .i64 x.h2,.int .i64 x.h3,.int .i64 x.h4]
end Go.Proofs.YtfmndmhjjbeokaaGreatDoor
namespace Go.Proofs.YtfmndmhjjbeokaaGreatDoor
open Go.RowKit Tab
set_option linter.unusedSimpArgs false
set_option linter.unusedVariables false
structure Sl where
 a:Option Addr
 c:Nat
 l:List Nat
def Sl.v (s:Sl):Value:=.slice s.a s.l.length s.c
theorem OwnV.keep' {E s B n c:Nat} {w w':World} {A:Option Addr} {l:List Value} (h:OwnV E s w B A n c l) (hk:∀ g,obk A=some g→w'.heap[g]? = w.heap[g]?):OwnV E s w' B A n c l:=by
 refine ⟨h.1,?_⟩
 rcases h.2 with hv | ⟨g,cap,cur,hv,hbg,hg,r⟩
 ·exact .inl hv
 ·exact .inr ⟨g,cap,cur,hv,hbg,by rw [hk g (by injection hv with h1;rw [h1];rfl)];exact hg,r⟩
end Go.Proofs.YtfmndmhjjbeokaaGreatDoor
namespace Go.Proofs.YtfmndmhjjbeokaaGreatDoor
open Go.RowKit Tab
set_option linter.unusedSimpArgs false
set_option linter.unusedVariables false
theorem OwnV.obk_ge {E s B n c b:Nat} {w:World} {A:Option Addr} {l:List Value} (h:OwnV E s w B A n c l) (hA:obk A=some b):B≤b∧b < w.heap.size:=by
 rcases h.2 with ⟨hv,_⟩ | ⟨g,cap,cur,hv,hbg,hg,_⟩
 ·injection hv with h1
  subst h1
  cases hA
 ·injection hv with h1
  subst h1
  injection hA with hA
  have hA:g=b:=hA
  subst hA
  exact ⟨hbg,(Array.getElem?_eq_some_iff.1 hg).1⟩
def cast (l:List Nat):List Int:=l.map fun x:Nat=>(x:Int)
structure Stp (w:World) (B g n k:Nat) (R:Nat→Option Addr×Nat) (S:Nat→List Nat):Prop where
 outer:∃ f,Vec w g n f∧∀ i,i < k→f i=.slice (R i).1 (S i).length (R i).2
 rows:∀ i,i < k→OwnV 3 1 w B (R i).1 (S i).length (R i).2 (is (cast (S i)))
 low:B≤g
 ne:∀ i,i < k→obk (R i).1≠some g
 inj:∀ i j b,i < k→j < k→i≠j→obk (R i).1=some b→obk (R j).1≠some b
section
variable {w w':World} {g n k B:Nat} {R:Nat→Option Addr×Nat} {S:Nat→List Nat}
theorem Stp.on (h:Stp w B g n k R S) (hb:Below w.heap.size w w'):Stp w' B g n k R S:=by
 obtain ⟨f,h1,h2⟩:=h.outer
 exact ⟨⟨f,h1.on hb,h2⟩,fun i hi=>(h.rows i hi).below rfl hb,h.low,h.ne,h.inj⟩
theorem Stp.push (h:Stp w B g n k R S) {A:Option Addr} {c:Nat} {l:List Nat} (hx:OwnV 3 1 w B A l.length c (is (cast l))) (hg:obk A≠some g) (hA:∀ i b,i < k→obk (R i).1=some b→obk A≠some b) (hk:k < n) :
  Stp (w.setCell ⟨g,k,none⟩ (.slice A l.length c)) B g n (k+1) (put1 R k (A,c)) (put1 S k l):=by
 obtain ⟨f,h1,h2⟩:=h.outer
 have hlt:∀ i,i < k+1→i≠k→i < k:=fun i _ _=>by omega
 have hset:∀ A n c l,OwnV 3 1 w B A n c l→obk A≠some g→∀ v,OwnV 3 1 (w.setCell ⟨g,k,none⟩ v) B A n c l:=fun A n c l ho hne v =>
  ho.keep' fun b hb=>Below.heap_setCell _ _ _ _ fun e=>hne (by rw [hb];exact congrArg some e)
 refine ⟨⟨_,h1.set k _,fun i hi=>?_⟩,fun i hi=>?_,h.low,fun i hi=>?_,fun i j b hi hj hij e=>?_⟩
 ·by_cases e:i=k
  ·subst e;rw [put1_same,put1_same,put1_same]
  ·rw [put1_other e,put1_other e,put1_other e];exact h2 i (hlt i hi e)
 ·by_cases e:i=k
  ·subst e;rw [put1_same,put1_same];exact hset _ _ _ _ hx hg _
  ·rw [put1_other e,put1_other e];exact hset _ _ _ _ (h.rows i (hlt i hi e)) (h.ne i (hlt i hi e)) _
 ·by_cases e:i=k
  ·subst e;rw [put1_same];exact hg
  ·rw [put1_other e];exact h.ne i (hlt i hi e)
 ·by_cases e1:i=k
  ·subst e1
   have e2:j≠i:=fun e=>hij e.symm
   rw [put1_same] at e
   rw [put1_other e2]
   exact fun e3=>hA j b (hlt j hj e2) e3 e
  ·rw [put1_other e1] at e
   by_cases e2:j=k
   ·subst e2;rw [put1_same];exact hA i b (hlt i hi e1) e
   ·rw [put1_other e2];exact h.inj i j b (hlt i hi e1) (hlt j hj e2) hij e
theorem RdS.congr {A:Option Addr} {T:Nat→List Nat} (h:RdS w B A n S) (e:∀ i,i < n→S i=T i):RdS w B A n T:=by
 obtain ⟨R,h1,h2⟩:=h
 exact ⟨R,h1.congr fun i hi=>by rw [e i hi],fun i hi=>by rw [← e i hi];exact h2 i hi⟩
end
theorem Mat.weak {w:World} {B B' g n k:Nat} {G:Nat→Nat} {m:Nat→Nat→Bool} (h:Mat w B g n k G m) (hB:B'≤B):Mat w B' g n k G m :=
 ⟨h.outer,h.rows,Nat.le_trans hB h.low,fun i hi=>Nat.le_trans hB (h.ge i hi),h.ne,h.inj⟩
end Go.Proofs.YtfmndmhjjbeokaaGreatDoor
