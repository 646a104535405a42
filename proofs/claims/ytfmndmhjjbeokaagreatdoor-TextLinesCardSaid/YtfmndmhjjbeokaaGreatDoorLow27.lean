import Derived.Test.YtfmndmhjjbeokaaGreatDoorLow26
import Derived.Test.YtfmndmhjjbeokaaGreatDoorLow7
import Derived.Test.YtfmndmhjjbeokaaGreatDoorLow6
import Derived.Laws.MakeOwn
import Derived.Laws.OwnMore
import Derived.BigQuiet
import Derived.Laws.StructEq
namespace Go.Proofs.YtfmndmhjjbeokaaGreatDoor
namespace Tab
set_option linter.unusedSimpArgs false
set_option linter.unusedVariables false
def runI (I:Itr) (p i:Nat):Nat:=fwdI I p I.length i
def timI (I:Itr) (i p:Nat):Nat:=(runI I p i - i) / p+1
def pre (I:Itr) (k:Nat):Nat:=szI (I.take k)
def savA (I:Itr) (i p:Nat):Int:=savI ((I.drop i).take p) (timI I i p)
def Cand (I:Itr) (i p:Nat):Prop:=1≤p∧i+2*p≤I.length∧2≤timI I i p
def Beats (s:Bst) (v:Int) (j q:Nat):Prop:=v < s.most∨(v=s.most∧(s.at_ < j∨(s.at_=j∧s.p≤q)))
def MadeBst (I:Itr) (s:Bst):Prop:=s=⟨0,0,0,0⟩∨(Cand I s.at_ s.p∧s.n=timI I s.at_ s.p∧s.most=savA I s.at_ s.p∧0 < s.most)
theorem MadeBst.nn {I:Itr} {s:Bst} (h:MadeBst I s):0≤s.most:=by
 rcases h with rfl | h
 ·exact Int.le_refl _
 ·have:=h.2.2.2;omega
def Opt (I:Itr) (s:Bst):Prop:=MadeBst I s∧∀ j q,Cand I j q→Beats s (savA I j q) j q
theorem Opt.same {I:Itr} {s t:Bst} (hs:Opt I s) (ht:Opt I t):s=t:=by
 obtain ⟨h1,h2⟩:=hs
 obtain ⟨h3,h4⟩:=ht
 rcases h1 with e1 | ⟨c1,n1,m1,p1⟩
 ·rcases h3 with e3 | ⟨c3,n3,m3,p3⟩
  ·rw [e1,e3]
  ·exfalso
   have:=h2 _ _ c3
   rw [← m3,e1] at this
   unfold Beats at this
   dsimp only at this
   omega
 ·rcases h3 with e3 | ⟨c3,n3,m3,p3⟩
  ·exfalso
   have:=h4 _ _ c1
   rw [← m1,e3] at this
   unfold Beats at this
   dsimp only at this
   omega
  ·have a:=h2 _ _ c3
   have b:=h4 _ _ c1
   rw [← m3] at a
   rw [← m1] at b
   unfold Beats at a b
   have e1:s.most=t.most:=by omega
   have e2:s.at_=t.at_:=by omega
   have e3:s.p=t.p:=by omega
   have e4:s.n=t.n:=by rw [n1,n3,e2,e3]
   obtain ⟨sm,sa,sp,sn⟩:=s
   obtain ⟨tm,ta,tp,tn⟩:=t
   dsimp only at e1 e2 e3 e4
   rw [e1,e2,e3,e4]
theorem Beats.far {s:Bst} {u v:Int} {i j q:Nat} (h:Beats s u i q) (hv:v≤u) (hij:i≤j):Beats s v j q:=by
 unfold Beats at h ⊢
 omega
end Tab
end Go.Proofs.YtfmndmhjjbeokaaGreatDoor
namespace Go.Proofs.YtfmndmhjjbeokaaGreatDoor
open Go.RowKit Tab
set_option linter.unusedSimpArgs false
set_option linter.unusedVariables false
end Go.Proofs.YtfmndmhjjbeokaaGreatDoor
namespace Go.Proofs.YtfmndmhjjbeokaaGreatDoor
open Go.RowKit Tab
set_option linter.unusedSimpArgs false
set_option linter.unusedVariables false
def SameP (x y:Pq):Prop:=x.1.name=y.1.name∧x.1.bud=y.1.bud∧x.1.per=y.1.per∧x.1.sched=y.1.sched∧x.1.stop=y.1.stop∧(x.1.h0=y.1.h0∧x.1.h1=y.1.h1∧x.1.h2=y.1.h2∧x.1.h3=y.1.h3∧x.1.h4=y.1.h4)∧x.2=y.2
instance (x y:Pq):Decidable (SameP x y):=by unfold SameP;infer_instance
end Go.Proofs.YtfmndmhjjbeokaaGreatDoor
