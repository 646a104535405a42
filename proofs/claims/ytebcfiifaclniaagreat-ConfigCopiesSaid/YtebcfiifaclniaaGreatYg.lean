/- Configurations as a whole; what package config is to answer; law 12's same. -/
import Derived.Test.YtebcfiifaclniaaGreatLow10
import Derived.Test.YtebcfiifaclniaaGreatLow8
namespace Go.Proofs.YtebcfiifaclniaaGreat
open Go.RowKit Tab
set_option linter.unusedSimpArgs false
set_option linter.unusedVariables false

/-- A configuration: where its rows lie, what they hold. -/
structure Cf where
  A1 : Option Addr
  A2 : Option Addr
  A3 : Option Addr
  n1 : Nat
  n2 : Nat
  n3 : Nat
  c1 : Nat
  c2 : Nat
  c3 : Nat
  P : List Pq
  C : List ChV
  T : List NdT
abbrev cfv (x : Cf) : Value := .agg #[.slice x.A1 x.n1 x.c1, .slice x.A2 x.n2 x.c2, .slice x.A3 x.n3 x.c3]
/-- As many bytes as may be reached. -/
def SizX (x : Cf) : Prop := x.n1 * 104 ≤ 140737488351232 ∧ x.n2 * 48 ≤ 140737488351232 ∧ x.n3 * 24 ≤ 140737488351232 ∧ (∀ y ∈ x.P, y.1.pn * 16 ≤ 140737488351232) ∧ ∀ y ∈ x.T, y.n * 24 ≤ 140737488351232
structure CfR (w : World) (x : Cf) : Prop where
  pp : RdB pcq w w.heap.size x.A1 x.n1 x.P
  ch : RdB cc w w.heap.size x.A2 x.n2 x.C
  tb : RdB tcn w w.heap.size x.A3 x.n3 x.T
  pt : ∀ y ∈ x.P, PtAx w w.heap.size y ∧ y.1.pn ≤ y.1.pc ∧ y.1.pn ≤ 140737488351232
  tt : ∀ y ∈ x.T, NdAt w w.heap.size y
  k1 : x.n1 ≤ x.c1
  k2 : x.n2 ≤ x.c2
  k3 : x.n3 ≤ x.c3
  m1 : x.n1 ≤ 140737488351232
  m2 : x.n2 ≤ 140737488351232
  m3 : x.n3 ≤ 140737488351232
  z : SizX x
theorem CfR.on {w w' : World} {x : Cf} (h : CfR w x) (hb : Below w.heap.size w w') : CfR w' x :=
  ⟨h.pp.on hb, h.ch.on hb, h.tb.on hb, fun y hy => ⟨(h.pt y hy).1.on hb, (h.pt y hy).2⟩, fun y hy => (h.tt y hy).on hb, h.k1, h.k2, h.k3, h.m1, h.m2, h.m3, h.z⟩
noncomputable def whF (x : Cf) : Int × Int := whereF x.P x.C x.T
def SamX (x y : Cf) : Prop := SameC x.P x.C x.T y.P y.C y.T
theorem SameP.symm {x y : Pq} (h : SameP x y) : SameP y x := by
  obtain ⟨h1, h2, h3, h4, h5, ⟨h6, h7, h8, h9, h10⟩, h11⟩ := h
  exact ⟨h1.symm, h2.symm, h3.symm, h4.symm, h5.symm, ⟨h6.symm, h7.symm, h8.symm, h9.symm, h10.symm⟩, h11.symm⟩
theorem SameP.refl (x : Pq) : SameP x x := ⟨rfl, rfl, rfl, rfl, rfl, ⟨rfl, rfl, rfl, rfl, rfl⟩, rfl⟩
theorem nd_eta {x y : Nd} (h : ndEq x y = true) : x = y := by
  obtain ⟨a, b, c⟩ := x
  obtain ⟨d, e, f⟩ := y
  unfold ndEq at h
  simp at h
  obtain ⟨⟨h1, h2⟩, h3⟩ := h
  subst h1 h2 h3
  rfl
theorem sameN_eq : ∀ {a b : List Nd}, sameN a b = true → a = b
  | [], [], _ => rfl
  | [], _ :: _, h => by simp [sameN] at h
  | _ :: _, [], h => by simp [sameN] at h
  | x :: a, y :: b, h => by
    simp only [sameN, Bool.and_eq_true] at h
    rw [nd_eta h.1, sameN_eq h.2]
theorem sameN_refl : ∀ a : List Nd, sameN a a = true
  | [] => rfl
  | x :: a => by simp [sameN, ndEq, sameN_refl a]
theorem SamX.symm {x y : Cf} (h : SamX x y) : SamX y x := by
  obtain ⟨⟨h1, h2, h3⟩, h4, h5⟩ := h
  exact ⟨⟨h1.symm, fun i a b ha hb => (h2 i b a hb ha).symm, h3.symm⟩, h4.symm, fun i a b ha hb => by rw [sameN_eq (h5 i b a hb ha)]; exact sameN_refl _⟩
theorem SamX.refl (x : Cf) : SamX x x := ⟨⟨rfl, fun i a b ha hb => by rw [ha] at hb; injection hb with hb; subst hb; exact SameP.refl a, rfl⟩, rfl, fun i a b ha hb => by rw [ha] at hb; injection hb with hb; subst hb; exact sameN_refl _⟩
theorem CfR.rwhere {w : World} {x : Cf} (hx : CfR w x) : Calls Tryz.prog 52 #[cfv x] w (Ans (.tuple #[.int .i64 (whF x).1, .int .i64 (whF x).2]) w) :=
  xwhere_any x.A1 x.A2 x.A3 x.n1 x.n2 x.n3 x.c1 x.c2 x.c3 x.P x.C x.T w hx.pp hx.ch hx.tb (fun z hz => (hx.pt z hz).1) hx.tt
/-- Rows of a configuration's own, each in a block of its own. -/
structure CfO (w : World) (B : Nat) (x : Cf) : Prop where
  pp : OwnV 39 11 w B x.A1 x.n1 x.c1 (x.P.flatMap pcq)
  ch : OwnV 47 6 w B x.A2 x.n2 x.c2 (x.C.flatMap cc)
  tb : OwnV 44 1 w B x.A3 x.n3 x.c3 (x.T.flatMap tcn)
  pt : ∀ y ∈ x.P, OwnV 41 2 w B y.1.pa y.1.pn y.1.pc (y.2.flatMap prc) ∧ ∀ k, obk y.1.pa = some k → obk x.A1 ≠ some k ∧ obk x.A2 ≠ some k ∧ obk x.A3 ≠ some k
  tt : ∀ y ∈ x.T, OwnV 43 3 w B y.A y.n y.c (ns y.l) ∧ ∀ k, obk y.A = some k → obk x.A1 ≠ some k ∧ obk x.A2 ≠ some k ∧ obk x.A3 ≠ some k
  d12 : ∀ k, obk x.A1 = some k → obk x.A2 ≠ some k
  d13 : ∀ k, obk x.A1 = some k → obk x.A3 ≠ some k
  d23 : ∀ k, obk x.A2 = some k → obk x.A3 ≠ some k
  dp : ∀ (i j : Nat) (a b : Pq), x.P[i]? = some a → x.P[j]? = some b → i ≠ j → ∀ k, obk a.1.pa = some k → obk b.1.pa ≠ some k
  dt : ∀ (i j : Nat) (a b : NdT), x.T[i]? = some a → x.T[j]? = some b → i ≠ j → ∀ k, obk a.A = some k → obk b.A ≠ some k
  dq : ∀ (i j : Nat) (a : Pq) (b : NdT), x.P[i]? = some a → x.T[j]? = some b → ∀ k, obk a.1.pa = some k → obk b.A ≠ some k
/-- What a copy is. -/
def CpA (x : Cf) (w : World) (e : Ending) (w' : World) : Prop := ∃ y, e = .returned (cfv y) ∧ CfR w' y ∧ SamX y x ∧ CfO w' w.heap.size y ∧ Below w.heap.size w w'
/-- What package config is to answer. -/
structure ConfigW : Prop where
  where_ : ∀ (x : Cf) (w : World), CfR w x → Calls Tryz.prog 27 #[cfv x] w (Ans (.tuple #[.int .i64 (whF x).1, .int .i64 (whF x).2]) w)
  right : ∀ (x : Cf) (w : World), CfR w x → Calls Tryz.prog 28 #[cfv x] w (Ans (.int .i64 (whF x).1) w)
  name : ∀ (s : ByteArray) (w : World), s.size ≤ 140737488351232 → Calls Tryz.prog 29 #[.string s] w (Ans (.bool (nameF s)) w)
  same : ∀ (x y : Cf) (w : World), CfR w x → CfR w y → Calls Tryz.prog 6 #[cfv x, cfv y] w (Ans (.bool (sameF x.P x.C x.T y.P y.C y.T)) w)
  copy : ∀ (x : Cf) (w : World), CfR w x → Calls Tryz.prog 5 #[cfv x] w (CpA x w)
/-- A copy in a slot. -/
def CpV (x : Cf) (v : Value) (w : World) : Prop := ∃ y, v = cfv y ∧ CfR w y ∧ SamX y x
theorem CpV.on {x : Cf} {v : Value} {w w' : World} (h : CpV x v w) (hb : Below w.heap.size w w') : CpV x v w' := by
  obtain ⟨y, h1, h2, h3⟩ := h
  exact ⟨y, h1, h2.on hb, h3⟩
end Go.Proofs.YtebcfiifaclniaaGreat
