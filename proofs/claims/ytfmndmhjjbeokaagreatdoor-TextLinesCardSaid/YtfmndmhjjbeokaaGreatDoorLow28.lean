import Derived.Test.YtfmndmhjjbeokaaGreatDoorLow27
import Derived.Deep.RegionWith
import Derived.Test.YtfmndmhjjbeokaaGreatDoorLow23
namespace Go.Proofs.YtfmndmhjjbeokaaGreatDoor
open Go.RowKit Tab
set_option linter.unusedSimpArgs false
set_option linter.unusedVariables false
def chT (x:ChV):Int×Int×Bool×Int×Int×Int:=(x.from_,x.to_,x.queue,x.cap,x.max,x.late)
theorem chT_inj {x y:ChV} (h:chT x=chT y):x=y:=by
 obtain ⟨a,b,c,d,e,f⟩:=x
 obtain ⟨a2,b2,c2,d2,e2,f2⟩:=y
 unfold chT at h
 simp at h
 obtain ⟨rfl,rfl,rfl,rfl,rfl,rfl⟩:=h
 rfl
instance:DecidableEq ChV:=fun x y=>if h:chT x=chT y then isTrue (chT_inj h) else isFalse fun e=>h (by rw [e])
def SameB (P:List Pq) (C:List ChV) (P':List Pq) (C':List ChV):Prop:=P.length=P'.length∧(∀ (i:Nat) (x y:Pq),P[i]? = some x→P'[i]? = some y→SameP x y)∧C=C'
def SameC (P:List Pq) (C:List ChV) (T:List NdT) (P':List Pq) (C':List ChV) (T':List NdT):Prop:=SameB P C P' C'∧T.length=T'.length∧(∀ (i:Nat) (x y:NdT),T[i]? = some x→T'[i]? = some y→sameN x.l y.l=true)
end Go.Proofs.YtfmndmhjjbeokaaGreatDoor
namespace Go.Proofs.YtfmndmhjjbeokaaGreatDoor
open Go.RowKit Tab
set_option linter.unusedSimpArgs false
set_option linter.unusedVariables false
theorem Qui.one {P:Program} {f:FuncId} {args:Array Value} {w:World} {n:Nat} {v:Value} (h:Calls P f args (w.drewN n) (Qui v (w.drewN n))):Calls P f args (w.drewN n) fun e w''=>e=.returned v∧∃ m,w''=w.drewN m :=
 h.mono fun _ _ ⟨he,m,hm⟩=>⟨he,n+m,by rw [hm,World.drewN_drewN]⟩
end Go.Proofs.YtfmndmhjjbeokaaGreatDoor
namespace Go.Proofs.YtfmndmhjjbeokaaGreatDoor
open Go.RowKit Tab
set_option linter.unusedSimpArgs false
set_option linter.unusedVariables false
structure Cf where
 A1:Option Addr
 A2:Option Addr
 A3:Option Addr
 n1:Nat
 n2:Nat
 n3:Nat
 c1:Nat
 c2:Nat
 c3:Nat
 P:List Pq
 C:List ChV
 T:List NdT
abbrev cfv (x:Cf):Value:=.agg #[.slice x.A1 x.n1 x.c1,.slice x.A2 x.n2 x.c2,.slice x.A3 x.n3 x.c3]
def SizX (x:Cf):Prop:=x.n1*104≤140737488351232∧x.n2*48≤140737488351232∧x.n3*24≤140737488351232∧(∀ y∈x.P,y.1.pn*16≤140737488351232)∧∀ y∈x.T,y.n*24≤140737488351232
structure CfR (w:World) (x:Cf):Prop where
 pp:RdB pcq w w.heap.size x.A1 x.n1 x.P
 ch:RdB cc w w.heap.size x.A2 x.n2 x.C
 tb:RdB tcn w w.heap.size x.A3 x.n3 x.T
 pt:∀ y∈x.P,PtAx w w.heap.size y∧y.1.pn≤y.1.pc∧y.1.pn≤140737488351232
 tt:∀ y∈x.T,NdAt w w.heap.size y
 k1:x.n1≤x.c1
 k2:x.n2≤x.c2
 k3:x.n3≤x.c3
 m1:x.n1≤140737488351232
 m2:x.n2≤140737488351232
 m3:x.n3≤140737488351232
 z:SizX x
theorem CfR.on {w w':World} {x:Cf} (h:CfR w x) (hb:Below w.heap.size w w'):CfR w' x :=
 ⟨h.pp.on hb,h.ch.on hb,h.tb.on hb,fun y hy=>⟨(h.pt y hy).1.on hb,(h.pt y hy).2⟩,fun y hy=>(h.tt y hy).on hb,h.k1,h.k2,h.k3,h.m1,h.m2,h.m3,h.z⟩
noncomputable def whF (x:Cf):Int×Int:=whereF x.P x.C x.T
def SamX (x y:Cf):Prop:=SameC x.P x.C x.T y.P y.C y.T
theorem SameP.symm {x y:Pq} (h:SameP x y):SameP y x:=by
 obtain ⟨h1,h2,h3,h4,h5,⟨h6,h7,h8,h9,h10⟩,h11⟩:=h
 exact ⟨h1.symm,h2.symm,h3.symm,h4.symm,h5.symm,⟨h6.symm,h7.symm,h8.symm,h9.symm,h10.symm⟩,h11.symm⟩
theorem SameP.refl (x:Pq):SameP x x:=⟨rfl,rfl,rfl,rfl,rfl,⟨rfl,rfl,rfl,rfl,rfl⟩,rfl⟩
theorem nd_eta {x y:Nd} (h:ndEq x y=true):x=y:=by
 obtain ⟨a,b,c⟩:=x
 obtain ⟨d,e,f⟩:=y
 unfold ndEq at h
 simp at h
 obtain ⟨⟨h1,h2⟩,h3⟩:=h
 subst h1 h2 h3
 rfl
theorem sameN_eq:∀ {a b:List Nd},sameN a b=true→a=b
 | [],[],_=>rfl
 | [],_::_,h=>by simp [sameN] at h
 | _::_,[],h=>by simp [sameN] at h
 | x::a,y::b,h=>by
  simp only [sameN,Bool.and_eq_true] at h
  rw [nd_eta h.1,sameN_eq h.2]
theorem sameN_refl:∀ a:List Nd,sameN a a=true
 | []=>rfl
 | x::a=>by simp [sameN,ndEq,sameN_refl a]
theorem SamX.symm {x y:Cf} (h:SamX x y):SamX y x:=by
 obtain ⟨⟨h1,h2,h3⟩,h4,h5⟩:=h
 exact ⟨⟨h1.symm,fun i a b ha hb=>(h2 i b a hb ha).symm,h3.symm⟩,h4.symm,fun i a b ha hb=>by rw [sameN_eq (h5 i b a hb ha)];exact sameN_refl _⟩
theorem SamX.refl (x:Cf):SamX x x:=⟨⟨rfl,fun i a b ha hb=>by rw [ha] at hb;injection hb with hb;subst hb;exact SameP.refl a,rfl⟩,rfl,fun i a b ha hb=>by rw [ha] at hb;injection hb with hb;subst hb;exact sameN_refl _⟩
structure CfO (w:World) (B:Nat) (x:Cf):Prop where
 pp:OwnV 60 11 w B x.A1 x.n1 x.c1 (x.P.flatMap pcq)
 ch:OwnV 66 6 w B x.A2 x.n2 x.c2 (x.C.flatMap cc)
 tb:OwnV 34 1 w B x.A3 x.n3 x.c3 (x.T.flatMap tcn)
 pt:∀ y∈x.P,OwnV 62 2 w B y.1.pa y.1.pn y.1.pc (y.2.flatMap prc)∧∀ k,obk y.1.pa=some k→obk x.A1≠some k∧obk x.A2≠some k∧obk x.A3≠some k
 tt:∀ y∈x.T,OwnV 54 3 w B y.A y.n y.c (ns y.l)∧∀ k,obk y.A=some k→obk x.A1≠some k∧obk x.A2≠some k∧obk x.A3≠some k
 d12:∀ k,obk x.A1=some k→obk x.A2≠some k
 d13:∀ k,obk x.A1=some k→obk x.A3≠some k
 d23:∀ k,obk x.A2=some k→obk x.A3≠some k
 dp:∀ (i j:Nat) (a b:Pq),x.P[i]? = some a→x.P[j]? = some b→i≠j→∀ k,obk a.1.pa=some k→obk b.1.pa≠some k
 dt:∀ (i j:Nat) (a b:NdT),x.T[i]? = some a→x.T[j]? = some b→i≠j→∀ k,obk a.A=some k→obk b.A≠some k
 dq:∀ (i j:Nat) (a:Pq) (b:NdT),x.P[i]? = some a→x.T[j]? = some b→∀ k,obk a.1.pa=some k→obk b.A≠some k
def CpV (x:Cf) (v:Value) (w:World):Prop:=∃ y,v=cfv y∧CfR w y∧SamX y x
theorem CpV.on {x:Cf} {v:Value} {w w':World} (h:CpV x v w) (hb:Below w.heap.size w w'):CpV x v w':=by
 obtain ⟨y,h1,h2,h3⟩:=h
 exact ⟨y,h1,h2.on hb,h3⟩
end Go.Proofs.YtfmndmhjjbeokaaGreatDoor
