/- Configurations as a whole; what package config is to answer; law 12's same. -/
import Derived.Test.YtgoeikihjffeoaaGreatYf
import Derived.Test.YtgoeikihjffeoaaGreatLow7
namespace Go.Proofs.YtgoeikihjffeoaaGreat
open Go.RowKit Tab
set_option linter.unusedSimpArgs false
set_option linter.unusedVariables false

/-- A configuration: where its rows lie, what they hold. -/
structure Cf where
  A1 : Option Addr
  A2 : Option Addr
  A3 : Option Addr
  n1 : Nat
  n2 : Nat
  n3 : Nat
  c1 : Nat
  c2 : Nat
  c3 : Nat
  P : List Pq
  C : List ChV
  T : List NdT
abbrev cfv (x : Cf) : Value := .agg #[.slice x.A1 x.n1 x.c1, .slice x.A2 x.n2 x.c2, .slice x.A3 x.n3 x.c3]
/-- As many bytes as may be reached. -/
def SizX (x : Cf) : Prop := x.n1 * 104 ≤ 140737488351232 ∧ x.n2 * 48 ≤ 140737488351232 ∧ x.n3 * 24 ≤ 140737488351232 ∧ (∀ y ∈ x.P, y.1.pn * 16 ≤ 140737488351232) ∧ ∀ y ∈ x.T, y.n * 24 ≤ 140737488351232
structure CfR (w : World) (x : Cf) : Prop where
  pp : RdB pcq w w.heap.size x.A1 x.n1 x.P
  ch : RdB cc w w.heap.size x.A2 x.n2 x.C
  tb : RdB tcn w w.heap.size x.A3 x.n3 x.T
  pt : ∀ y ∈ x.P, PtAx w w.heap.size y ∧ y.1.pn ≤ y.1.pc ∧ y.1.pn ≤ 140737488351232
  tt : ∀ y ∈ x.T, NdAt w w.heap.size y
  k1 : x.n1 ≤ x.c1
  k2 : x.n2 ≤ x.c2
  k3 : x.n3 ≤ x.c3
  m1 : x.n1 ≤ 140737488351232
  m2 : x.n2 ≤ 140737488351232
  m3 : x.n3 ≤ 140737488351232
  z : SizX x
theorem CfR.on {w w' : World} {x : Cf} (h : CfR w x) (hb : Below w.heap.size w w') : CfR w' x :=
  ⟨h.pp.on hb, h.ch.on hb, h.tb.on hb, fun y hy => ⟨(h.pt y hy).1.on hb, (h.pt y hy).2⟩, fun y hy => (h.tt y hy).on hb, h.k1, h.k2, h.k3, h.m1, h.m2, h.m3, h.z⟩
noncomputable def whF (x : Cf) : Int × Int := whereF x.P x.C x.T
def SamX (x y : Cf) : Prop := SameC x.P x.C x.T y.P y.C y.T
theorem SameP.symm {x y : Pq} (h : SameP x y) : SameP y x := by
  obtain ⟨h1, h2, h3, h4, h5, ⟨h6, h7, h8, h9, h10⟩, h11⟩ := h
  exact ⟨h1.symm, h2.symm, h3.symm, h4.symm, h5.symm, ⟨h6.symm, h7.symm, h8.symm, h9.symm, h10.symm⟩, h11.symm⟩
theorem SameP.refl (x : Pq) : SameP x x := ⟨rfl, rfl, rfl, rfl, rfl, ⟨rfl, rfl, rfl, rfl, rfl⟩, rfl⟩
theorem nd_eta {x y : Nd} (h : ndEq x y = true) : x = y := by
  obtain ⟨a, b, c⟩ := x
  obtain ⟨d, e, f⟩ := y
  unfold ndEq at h
  simp at h
  obtain ⟨⟨h1, h2⟩, h3⟩ := h
  subst h1 h2 h3
  rfl
theorem sameN_eq : ∀ {a b : List Nd}, sameN a b = true → a = b
  | [], [], _ => rfl
  | [], _ :: _, h => by simp [sameN] at h
  | _ :: _, [], h => by simp [sameN] at h
  | x :: a, y :: b, h => by
    simp only [sameN, Bool.and_eq_true] at h
    rw [nd_eta h.1, sameN_eq h.2]
theorem sameN_refl : ∀ a : List Nd, sameN a a = true
  | [] => rfl
  | x :: a => by simp [sameN, ndEq, sameN_refl a]
theorem SamX.symm {x y : Cf} (h : SamX x y) : SamX y x := by
  obtain ⟨⟨h1, h2, h3⟩, h4, h5⟩ := h
  exact ⟨⟨h1.symm, fun i a b ha hb => (h2 i b a hb ha).symm, h3.symm⟩, h4.symm, fun i a b ha hb => by rw [sameN_eq (h5 i b a hb ha)]; exact sameN_refl _⟩
theorem SamX.refl (x : Cf) : SamX x x := ⟨⟨rfl, fun i a b ha hb => by rw [ha] at hb; injection hb with hb; subst hb; exact SameP.refl a, rfl⟩, rfl, fun i a b ha hb => by rw [ha] at hb; injection hb with hb; subst hb; exact sameN_refl _⟩
theorem CfR.rsame {w : World} {x y : Cf} (hx : CfR w x) (hy : CfR w y) : Calls Tryz.prog 16 #[cfv x, cfv y] w (Ans (.bool (sameF x.P x.C x.T y.P y.C y.T)) w) :=
  rsamec_any x.A1 x.A2 x.A3 y.A1 y.A2 y.A3 x.n1 x.n2 x.n3 x.c1 x.c2 x.c3 y.n1 y.n2 y.n3 y.c1 y.c2 y.c3 x.P y.P x.C y.C x.T y.T w hx.pp hx.ch hx.tb hy.pp hy.ch hy.tb (fun z hz => ⟨(hx.pt z hz).1.procs, (hx.pt z hz).2.2⟩) (fun z hz => (hy.pt z hz).1.procs) hx.tt hy.tt hx.m1 hx.m2 hx.m3
theorem CfR.rwhere {w : World} {x : Cf} (hx : CfR w x) : Calls Tryz.prog 23 #[cfv x] w (Ans (.tuple #[.int .i64 (whF x).1, .int .i64 (whF x).2]) w) :=
  xwhere_any x.A1 x.A2 x.A3 x.n1 x.n2 x.n3 x.c1 x.c2 x.c3 x.P x.C x.T w hx.pp hx.ch hx.tb (fun z hz => (hx.pt z hz).1) hx.tt
/-- Rows of a configuration's own, each in a block of its own. -/
structure CfO (w : World) (B : Nat) (x : Cf) : Prop where
  pp : OwnV 49 11 w B x.A1 x.n1 x.c1 (x.P.flatMap pcq)
  ch : OwnV 57 6 w B x.A2 x.n2 x.c2 (x.C.flatMap cc)
  tb : OwnV 54 1 w B x.A3 x.n3 x.c3 (x.T.flatMap tcn)
  pt : ∀ y ∈ x.P, OwnV 51 2 w B y.1.pa y.1.pn y.1.pc (y.2.flatMap prc) ∧ ∀ k, obk y.1.pa = some k → obk x.A1 ≠ some k ∧ obk x.A2 ≠ some k ∧ obk x.A3 ≠ some k
  tt : ∀ y ∈ x.T, OwnV 53 3 w B y.A y.n y.c (ns y.l) ∧ ∀ k, obk y.A = some k → obk x.A1 ≠ some k ∧ obk x.A2 ≠ some k ∧ obk x.A3 ≠ some k
  d12 : ∀ k, obk x.A1 = some k → obk x.A2 ≠ some k
  d13 : ∀ k, obk x.A1 = some k → obk x.A3 ≠ some k
  d23 : ∀ k, obk x.A2 = some k → obk x.A3 ≠ some k
  dp : ∀ (i j : Nat) (a b : Pq), x.P[i]? = some a → x.P[j]? = some b → i ≠ j → ∀ k, obk a.1.pa = some k → obk b.1.pa ≠ some k
  dt : ∀ (i j : Nat) (a b : NdT), x.T[i]? = some a → x.T[j]? = some b → i ≠ j → ∀ k, obk a.A = some k → obk b.A ≠ some k
  dq : ∀ (i j : Nat) (a : Pq) (b : NdT), x.P[i]? = some a → x.T[j]? = some b → ∀ k, obk a.1.pa = some k → obk b.A ≠ some k
/-- What a copy is. -/
def CpA (x : Cf) (w : World) (e : Ending) (w' : World) : Prop := ∃ y, e = .returned (cfv y) ∧ CfR w' y ∧ SamX y x ∧ CfO w' w.heap.size y ∧ Below w.heap.size w w'
/-- What package config is to answer. -/
structure ConfigW : Prop where
  where_ : ∀ (x : Cf) (w : World), CfR w x → Calls Tryz.prog 22 #[cfv x] w (Ans (.tuple #[.int .i64 (whF x).1, .int .i64 (whF x).2]) w)
  right : ∀ (x : Cf) (w : World), CfR w x → Calls Tryz.prog 9 #[cfv x] w (Ans (.int .i64 (whF x).1) w)
  name : ∀ (s : ByteArray) (w : World), s.size ≤ 140737488351232 → Calls Tryz.prog 11 #[.string s] w (Ans (.bool (nameF s)) w)
  same : ∀ (x y : Cf) (w : World), CfR w x → CfR w y → Calls Tryz.prog 15 #[cfv x, cfv y] w (Ans (.bool (sameF x.P x.C x.T y.P y.C y.T)) w)
  copy : ∀ (x : Cf) (w : World), CfR w x → Calls Tryz.prog 17 #[cfv x] w (CpA x w)
/-- A copy in a slot. -/
def CpV (x : Cf) (v : Value) (w : World) : Prop := ∃ y, v = cfv y ∧ CfR w y ∧ SamX y x
theorem CpV.on {x : Cf} {v : Value} {w w' : World} (h : CpV x v w) (hb : Below w.heap.size w w') : CpV x v w' := by
  obtain ⟨y, h1, h2, h3⟩ := h
  exact ⟨y, h1, h2.on hb, h3⟩
set_option maxRecDepth 100000 in
set_option maxHeartbeats 2000000 in
theorem lsame12_any (hW : ConfigW) (x : Cf) (w : World) (hI : CfR w x) :
    Calls Tryz.prog 8 #[cfv x] w (Ans (.bool true) w) := by
  have HW := Lib.hid hW
  have HC0 : Hid (∀ V, Below w.heap.size w V → Calls Tryz.prog 22 #[cfv x] V (Ans (.tuple #[.int .i64 (whF x).1, .int .i64 (whF x).2]) V)) := Lib.hid fun V hv => HW.out.where_ x V (hI.on hv)
  have HC00 : Hid (∀ V, Below w.heap.size w V → Calls Tryz.prog 23 #[cfv x] V (Ans (.tuple #[.int .i64 (whF x).1, .int .i64 (whF x).2]) V)) := Lib.hid fun V hv => (hI.on hv).rwhere
  have HC1 : Hid (∀ V, Below w.heap.size w V → Calls Tryz.prog 9 #[cfv x] V (Ans (.int .i64 (whF x).1) V)) := Lib.hid fun V hv => HW.out.right x V (hI.on hv)
  have HC2 : Hid (∀ V, Below w.heap.size w V → Calls Tryz.prog 15 #[cfv x, cfv x] V (Ans (.bool true) V)) := Lib.hid fun V hv => by
    have h := HW.out.same x x V (hI.on hv) (hI.on hv)
    rw [sameF_yes (SamX.refl x)] at h
    exact h
  have HC3 : Hid (∀ V, Below w.heap.size w V → Calls Tryz.prog 17 #[cfv x] V (CpA x V)) := Lib.hid fun V hv => HW.out.copy x V (hI.on hv)
  have HC4 : Hid (∀ V, Below w.heap.size w V → ∀ y, CfR V y → SamX y x → Calls Tryz.prog 16 #[cfv y, cfv x] V (Ans (.bool true) V)) := Lib.hid fun V hv y hy hs => by
    have h := hy.rsame (hI.on hv)
    rw [sameF_yes hs] at h
    exact h
  generalize (whF x).1 = z at HC0 HC00 HC1
  generalize (whF x).2 = i at HC0 HC00
  have hbox := box_vec w (.slice x.A1 x.n1 x.c1) (.slice x.A2 x.n2 x.c2) (.slice x.A3 x.n3 x.c3) 26
  have hb0 := bl1 w (.cells #[.slice x.A1 x.n1 x.c1, .slice x.A2 x.n2 x.c2, .slice x.A3 x.n3 x.c3] 26)
  have HB0 := Lib.hid hb0
  clear hI hb0 HW hW
  obtain ⟨A1, A2, A3, n1, n2, n3, c1, c2, c3, P, C, T⟩ := x
  dsimp only [cfv] at HC0 HC00 HC1 HC2 HC3 HC4 hbox HB0 ⊢
  generalize (⟨A1, A2, A3, n1, n2, n3, c1, c2, c3, P, C, T⟩ : Cf) = x at HC3 HC4
  go_enter Tryz.func8, Tryz.ntmps8
  go_upto_region 1 with fail
  generalize w.alloc (.cells #[.slice A1 n1 c1, .slice A2 n2 c2, .slice A3 n3 c3] 26) = W at hbox HB0 ⊢
  have HBX := Lib.hid fun V (hv : Below W.heap.size W V) => (hbox.on hv).three
  obtain ⟨gc, hgc⟩ : ∃ gc, gc = w.heap.size := ⟨_, rfl⟩
  rw [← hgc] at HBX ⊢
  have HGC := Lib.hid hgc
  clear hbox hgc
  obtain ⟨m0, m1, m2⟩ := HBX.out W (Below.refl _ _)
  go_wp2_with fail
  refine (HC0.out W HB0.out).mono ?_
  rintro e w1 ⟨rfl, hb1⟩
  have HB1 := Lib.hid hb1
  clear hb1 m0 m1 m2
  obtain ⟨m0, m1, m2⟩ := HBX.out w1 HB1.out
  go_wp2_with fail
  refine (HC00.out w1 (HB0.out.trans (HB1.out.mono HB0.out.size))).mono ?_
  rintro e w2 ⟨rfl, hb2⟩
  have HB2 := Lib.hid (HB1.out.trans (hb2.mono HB1.out.size))
  have HB3 := Lib.hid (HB0.out.trans (HB2.out.mono HB0.out.size))
  clear hb2 m0 m1 m2
  obtain ⟨m0, m1, m2⟩ := HBX.out w2 HB2.out
  have HD1 := Lib.hid fun V (hv : Below w2.heap.size w2 V) => HC1.out V (HB3.out.trans (hv.mono HB3.out.size))
  have HD2 := Lib.hid fun V (hv : Below w2.heap.size w2 V) => HC2.out V (HB3.out.trans (hv.mono HB3.out.size))
  have HD3 := Lib.hid fun V (hv : Below w2.heap.size w2 V) => HC3.out V (HB3.out.trans (hv.mono HB3.out.size))
  have HD4 := Lib.hid fun V (hv : Below w2.heap.size w2 V) => HC4.out V (HB3.out.trans (hv.mono HB3.out.size))
  clear HC0 HC00 HBX HC1 HC2 HC3 HC4
  go_upto_region 3 with fail
  refine Rgs.region (by kernel_rfl) (by kernel_rfl) (fun (opn : Nat) (vl : Value) (wv : World) => match opn with | 0 => vl = .int .i64 z | 1 => vl = .int .i64 z | 2 => vl = .bool true | 3 => vl = .bool true | 4 => vl = .int .i64 i | 5 => vl = .int .i64 i | 6 => vl = .bool true | 7 => vl = .bool true | 8 => vl = .bool true | 9 => vl = .agg #[.slice A1 n1 c1, .slice A2 n2 c2, .slice A3 n3 c3] | 10 => vl = .int .i64 z | 11 => vl = .int .i64 z | 12 => vl = .bool true | 13 => vl = .bool true | 14 => vl = .bool true | 15 => vl = .agg #[.slice A1 n1 c1, .slice A2 n2 c2, .slice A3 n3 c3] | 16 => vl = .agg #[.slice A1 n1 c1, .slice A2 n2 c2, .slice A3 n3 c3] | 17 => vl = .bool true | 18 => vl = .bool true | 19 => vl = .bool true | 20 => vl = .agg #[.slice A1 n1 c1, .slice A2 n2 c2, .slice A3 n3 c3] | 21 => CpV x vl wv | 22 => vl = .agg #[.slice A1 n1 c1, .slice A2 n2 c2, .slice A3 n3 c3] | 23 => vl = .bool true | 24 => vl = .bool true | 25 => vl = .bool true | _ => True) (fun _ _ w' => Below w2.heap.size w2 w') (Below.refl _ _).drew (Rgs.steps_of ?_) ?_
  · refine ⟨?_, ?_, ?_, ?_, ?_, ?_, ?_, ?_, ?_, ?_, ?_, ?_, ?_, ?_, ?_, ?_, ?_, ?_, ?_, ?_, ?_, ?_, ?_, ?_, ?_, ?_, trivial⟩
    · intro a w1 live S E D C h0 hk hW
      have e3 : a.eval (.tmp 3) = .int .i64 z := E 3 rfl
      exact Rgs.val rfl (Reg.wanted_free rfl) (.int .i64 z) (by have c := Reg.consts a; generalize a.eval = ρ at *; simp [execOp, go_sem, c.1, c.2, e3]) rfl hW
    · intro a w1 live S E D C h0 hk hW
      have e5 : a.eval (.tmp 5) = .int .i64 z := E 5 rfl
      exact Rgs.val rfl (Reg.wanted_free rfl) (.int .i64 z) (by have c := Reg.consts a; generalize a.eval = ρ at *; simp [execOp, go_sem, c.1, c.2, e5]) rfl hW
    · intro a w1 live S E D C h0 hk hW
      have d0 : a.eval (.tmp 17) = .int .i64 z := D 0 rfl _ _ rfl rfl
      have d1 : a.eval (.tmp 18) = .int .i64 z := D 1 rfl _ _ rfl rfl
      exact Rgs.val rfl (Reg.wanted_free rfl) (.bool true) (by have c := Reg.consts a; generalize a.eval = ρ at *; simp [execOp, go_sem, c.1, c.2, d0, d1]) rfl hW
    · intro a w1 live S E D C h0 hk hW
      have d2 : a.eval (.tmp 19) = .bool true := D 2 rfl _ _ rfl rfl
      exact Rgs.val rfl (Reg.wanted_free rfl) (.bool true) (by have c := Reg.consts a; generalize a.eval = ρ at *; simp [execOp, go_sem, c.1, c.2, d2]) rfl hW
    · intro a w1 live S E D C h0 hk hW
      have dg : a.eval (.tmp 20) = .bool true := D 3 rfl _ _ rfl rfl
      have e4 : a.eval (.tmp 4) = .int .i64 i := E 4 rfl
      exact Rgs.val rfl (Reg.wanted_if rfl rfl dg rfl) (.int .i64 i) (by have c := Reg.consts a; generalize a.eval = ρ at *; simp [execOp, go_sem, c.1, c.2, e4]) rfl hW
    · intro a w1 live S E D C h0 hk hW
      have dg : a.eval (.tmp 20) = .bool true := D 3 rfl _ _ rfl rfl
      have e6 : a.eval (.tmp 6) = .int .i64 i := E 6 rfl
      exact Rgs.val rfl (Reg.wanted_if rfl rfl dg rfl) (.int .i64 i) (by have c := Reg.consts a; generalize a.eval = ρ at *; simp [execOp, go_sem, c.1, c.2, e6]) rfl hW
    · intro a w1 live S E D C h0 hk hW
      have dg : a.eval (.tmp 20) = .bool true := D 3 rfl _ _ rfl rfl
      have d4 : a.eval (.tmp 21) = .int .i64 i := D 4 rfl _ _ rfl rfl
      have d5 : a.eval (.tmp 22) = .int .i64 i := D 5 rfl _ _ rfl rfl
      exact Rgs.val rfl (Reg.wanted_if rfl rfl dg rfl) (.bool true) (by have c := Reg.consts a; generalize a.eval = ρ at *; simp [execOp, go_sem, c.1, c.2, d4, d5]) rfl hW
    · intro a w1 live S E D C h0 hk hW
      have d3 : a.eval (.tmp 20) = .bool true := D 3 rfl _ _ rfl rfl
      have d6 : a.eval (.tmp 23) = .bool true := D 6 rfl _ _ rfl rfl
      exact Rgs.val rfl (Reg.wanted_free rfl) (.bool true) (by have c := Reg.consts a; generalize a.eval = ρ at *; simp [execOp, go_sem, c.1, c.2, d3, d6]) rfl hW
    · intro a w1 live S E D C h0 hk hW
      have d7 : a.eval (.tmp 24) = .bool true := D 7 rfl _ _ rfl rfl
      exact Rgs.val rfl (Reg.wanted_free rfl) (.bool true) (by have c := Reg.consts a; generalize a.eval = ρ at *; simp [execOp, go_sem, c.1, c.2, d7]) rfl hW
    · intro a w1 live S E D C h0 hk hW
      have dg : a.eval (.tmp 25) = .bool true := D 8 rfl _ _ rfl rfl
      have e1 : a.eval (.tmp 1) = .pointer (some ⟨gc, 0, none⟩) := E 1 rfl
      have hc0 := (hW.cell (p := ⟨gc, 0, none⟩) (World.block_lt_of_cell? _ _ m0)).trans m0
      have hc1 := (hW.cell (p := ⟨gc, 1, none⟩) (World.block_lt_of_cell? _ _ m1)).trans m1
      have hc2 := (hW.cell (p := ⟨gc, 2, none⟩) (World.block_lt_of_cell? _ _ m2)).trans m2
      exact Rgs.val rfl (Reg.wanted_if rfl rfl dg rfl) (.agg #[.slice A1 n1 c1, .slice A2 n2 c2, .slice A3 n3 c3]) (by have c := Reg.consts a; generalize a.eval = ρ at *; simp [execOp, go_sem, c.1, c.2, e1, hc0, hc1, hc2]) rfl hW
    · intro a w1 live S E D C h0 hk hW
      have dg : a.eval (.tmp 25) = .bool true := D 8 rfl _ _ rfl rfl
      have d9 : a.eval (.tmp 26) = .agg #[.slice A1 n1 c1, .slice A2 n2 c2, .slice A3 n3 c3] := D 9 rfl _ _ rfl rfl
      have dg : a.eval (.tmp 25) = .bool true := D 8 rfl _ _ rfl rfl
      have d9 : a.eval (.tmp 26) = .agg #[.slice A1 n1 c1, .slice A2 n2 c2, .slice A3 n3 c3] := D 9 rfl _ _ rfl rfl
      refine Rgs.call rfl (Reg.wanted_if rfl rfl dg rfl) 9 #[.agg #[.slice A1 n1 c1, .slice A2 n2 c2, .slice A3 n3 c3]] (by have c := Reg.consts a; generalize a.eval = ρ at *; simp [execOp, go_sem, c.1, c.2, d9]) ?_
      refine (HD1.out w1 hW).mono ?_
      rintro e w5 ⟨rfl, hb5⟩
      exact ⟨_, rfl, rfl, hW.trans (hb5.mono hW.size), fun jq vq _ hq => by
          revert hq
          match jq with
          | 21 => exact fun h => h.on hb5
          | 0 | 1 | 2 | 3 | 4 | 5 | 6 | 7 | 8 | 9 | 10 | 11 | 12 | 13 | 14 | 15 | 16 | 17 | 18 | 19 | 20 | 22 | 23 | 24 | 25 | _ + 26 => exact fun h => h⟩
    · intro a w1 live S E D C h0 hk hW
      have dg : a.eval (.tmp 25) = .bool true := D 8 rfl _ _ rfl rfl
      have e5 : a.eval (.tmp 5) = .int .i64 z := E 5 rfl
      exact Rgs.val rfl (Reg.wanted_if rfl rfl dg rfl) (.int .i64 z) (by have c := Reg.consts a; generalize a.eval = ρ at *; simp [execOp, go_sem, c.1, c.2, e5]) rfl hW
    · intro a w1 live S E D C h0 hk hW
      have dg : a.eval (.tmp 25) = .bool true := D 8 rfl _ _ rfl rfl
      have d10 : a.eval (.tmp 27) = .int .i64 z := D 10 rfl _ _ rfl rfl
      have d11 : a.eval (.tmp 28) = .int .i64 z := D 11 rfl _ _ rfl rfl
      exact Rgs.val rfl (Reg.wanted_if rfl rfl dg rfl) (.bool true) (by have c := Reg.consts a; generalize a.eval = ρ at *; simp [execOp, go_sem, c.1, c.2, d10, d11]) rfl hW
    · intro a w1 live S E D C h0 hk hW
      have d8 : a.eval (.tmp 25) = .bool true := D 8 rfl _ _ rfl rfl
      have d12 : a.eval (.tmp 29) = .bool true := D 12 rfl _ _ rfl rfl
      exact Rgs.val rfl (Reg.wanted_free rfl) (.bool true) (by have c := Reg.consts a; generalize a.eval = ρ at *; simp [execOp, go_sem, c.1, c.2, d8, d12]) rfl hW
    · intro a w1 live S E D C h0 hk hW
      have d13 : a.eval (.tmp 30) = .bool true := D 13 rfl _ _ rfl rfl
      exact Rgs.val rfl (Reg.wanted_free rfl) (.bool true) (by have c := Reg.consts a; generalize a.eval = ρ at *; simp [execOp, go_sem, c.1, c.2, d13]) rfl hW
    · intro a w1 live S E D C h0 hk hW
      have dg : a.eval (.tmp 31) = .bool true := D 14 rfl _ _ rfl rfl
      have e1 : a.eval (.tmp 1) = .pointer (some ⟨gc, 0, none⟩) := E 1 rfl
      have hc0 := (hW.cell (p := ⟨gc, 0, none⟩) (World.block_lt_of_cell? _ _ m0)).trans m0
      have hc1 := (hW.cell (p := ⟨gc, 1, none⟩) (World.block_lt_of_cell? _ _ m1)).trans m1
      have hc2 := (hW.cell (p := ⟨gc, 2, none⟩) (World.block_lt_of_cell? _ _ m2)).trans m2
      exact Rgs.val rfl (Reg.wanted_if rfl rfl dg rfl) (.agg #[.slice A1 n1 c1, .slice A2 n2 c2, .slice A3 n3 c3]) (by have c := Reg.consts a; generalize a.eval = ρ at *; simp [execOp, go_sem, c.1, c.2, e1, hc0, hc1, hc2]) rfl hW
    · intro a w1 live S E D C h0 hk hW
      have dg : a.eval (.tmp 31) = .bool true := D 14 rfl _ _ rfl rfl
      have e1 : a.eval (.tmp 1) = .pointer (some ⟨gc, 0, none⟩) := E 1 rfl
      have hc0 := (hW.cell (p := ⟨gc, 0, none⟩) (World.block_lt_of_cell? _ _ m0)).trans m0
      have hc1 := (hW.cell (p := ⟨gc, 1, none⟩) (World.block_lt_of_cell? _ _ m1)).trans m1
      have hc2 := (hW.cell (p := ⟨gc, 2, none⟩) (World.block_lt_of_cell? _ _ m2)).trans m2
      exact Rgs.val rfl (Reg.wanted_if rfl rfl dg rfl) (.agg #[.slice A1 n1 c1, .slice A2 n2 c2, .slice A3 n3 c3]) (by have c := Reg.consts a; generalize a.eval = ρ at *; simp [execOp, go_sem, c.1, c.2, e1, hc0, hc1, hc2]) rfl hW
    · intro a w1 live S E D C h0 hk hW
      have dg : a.eval (.tmp 31) = .bool true := D 14 rfl _ _ rfl rfl
      have d15 : a.eval (.tmp 32) = .agg #[.slice A1 n1 c1, .slice A2 n2 c2, .slice A3 n3 c3] := D 15 rfl _ _ rfl rfl
      have d16 : a.eval (.tmp 33) = .agg #[.slice A1 n1 c1, .slice A2 n2 c2, .slice A3 n3 c3] := D 16 rfl _ _ rfl rfl
      have dg : a.eval (.tmp 31) = .bool true := D 14 rfl _ _ rfl rfl
      have d15 : a.eval (.tmp 32) = .agg #[.slice A1 n1 c1, .slice A2 n2 c2, .slice A3 n3 c3] := D 15 rfl _ _ rfl rfl
      have d16 : a.eval (.tmp 33) = .agg #[.slice A1 n1 c1, .slice A2 n2 c2, .slice A3 n3 c3] := D 16 rfl _ _ rfl rfl
      refine Rgs.call rfl (Reg.wanted_if rfl rfl dg rfl) 15 #[.agg #[.slice A1 n1 c1, .slice A2 n2 c2, .slice A3 n3 c3], .agg #[.slice A1 n1 c1, .slice A2 n2 c2, .slice A3 n3 c3]] (by have c := Reg.consts a; generalize a.eval = ρ at *; simp [execOp, go_sem, c.1, c.2, d15, d16]) ?_
      refine (HD2.out w1 hW).mono ?_
      rintro e w5 ⟨rfl, hb5⟩
      exact ⟨_, rfl, rfl, hW.trans (hb5.mono hW.size), fun jq vq _ hq => by
          revert hq
          match jq with
          | 21 => exact fun h => h.on hb5
          | 0 | 1 | 2 | 3 | 4 | 5 | 6 | 7 | 8 | 9 | 10 | 11 | 12 | 13 | 14 | 15 | 16 | 17 | 18 | 19 | 20 | 22 | 23 | 24 | 25 | _ + 26 => exact fun h => h⟩
    · intro a w1 live S E D C h0 hk hW
      have d14 : a.eval (.tmp 31) = .bool true := D 14 rfl _ _ rfl rfl
      have d17 : a.eval (.tmp 34) = .bool true := D 17 rfl _ _ rfl rfl
      exact Rgs.val rfl (Reg.wanted_free rfl) (.bool true) (by have c := Reg.consts a; generalize a.eval = ρ at *; simp [execOp, go_sem, c.1, c.2, d14, d17]) rfl hW
    · intro a w1 live S E D C h0 hk hW
      have d18 : a.eval (.tmp 35) = .bool true := D 18 rfl _ _ rfl rfl
      exact Rgs.val rfl (Reg.wanted_free rfl) (.bool true) (by have c := Reg.consts a; generalize a.eval = ρ at *; simp [execOp, go_sem, c.1, c.2, d18]) rfl hW
    · intro a w1 live S E D C h0 hk hW
      have dg : a.eval (.tmp 36) = .bool true := D 19 rfl _ _ rfl rfl
      have e1 : a.eval (.tmp 1) = .pointer (some ⟨gc, 0, none⟩) := E 1 rfl
      have hc0 := (hW.cell (p := ⟨gc, 0, none⟩) (World.block_lt_of_cell? _ _ m0)).trans m0
      have hc1 := (hW.cell (p := ⟨gc, 1, none⟩) (World.block_lt_of_cell? _ _ m1)).trans m1
      have hc2 := (hW.cell (p := ⟨gc, 2, none⟩) (World.block_lt_of_cell? _ _ m2)).trans m2
      exact Rgs.val rfl (Reg.wanted_if rfl rfl dg rfl) (.agg #[.slice A1 n1 c1, .slice A2 n2 c2, .slice A3 n3 c3]) (by have c := Reg.consts a; generalize a.eval = ρ at *; simp [execOp, go_sem, c.1, c.2, e1, hc0, hc1, hc2]) rfl hW
    · intro a w1 live S E D C h0 hk hW
      have dg : a.eval (.tmp 36) = .bool true := D 19 rfl _ _ rfl rfl
      have d20 : a.eval (.tmp 37) = .agg #[.slice A1 n1 c1, .slice A2 n2 c2, .slice A3 n3 c3] := D 20 rfl _ _ rfl rfl
      have dg : a.eval (.tmp 36) = .bool true := D 19 rfl _ _ rfl rfl
      have d20 : a.eval (.tmp 37) = .agg #[.slice A1 n1 c1, .slice A2 n2 c2, .slice A3 n3 c3] := D 20 rfl _ _ rfl rfl
      refine Rgs.call rfl (Reg.wanted_if rfl rfl dg rfl) 17 #[.agg #[.slice A1 n1 c1, .slice A2 n2 c2, .slice A3 n3 c3]] (by have c := Reg.consts a; generalize a.eval = ρ at *; simp [execOp, go_sem, c.1, c.2, d20]) ?_
      refine (HD3.out w1 hW).mono ?_
      rintro e w5 ⟨y, rfl, hyR, hyS, hyo, hb5⟩
      exact ⟨_, rfl, ⟨y, rfl, hyR, hyS⟩, hW.trans (hb5.mono hW.size), fun jq vq _ hq => by
          revert hq
          match jq with
          | 21 => exact fun h => h.on hb5
          | 0 | 1 | 2 | 3 | 4 | 5 | 6 | 7 | 8 | 9 | 10 | 11 | 12 | 13 | 14 | 15 | 16 | 17 | 18 | 19 | 20 | 22 | 23 | 24 | 25 | _ + 26 => exact fun h => h⟩
    · intro a w1 live S E D C h0 hk hW
      have dg : a.eval (.tmp 36) = .bool true := D 19 rfl _ _ rfl rfl
      have e1 : a.eval (.tmp 1) = .pointer (some ⟨gc, 0, none⟩) := E 1 rfl
      have hc0 := (hW.cell (p := ⟨gc, 0, none⟩) (World.block_lt_of_cell? _ _ m0)).trans m0
      have hc1 := (hW.cell (p := ⟨gc, 1, none⟩) (World.block_lt_of_cell? _ _ m1)).trans m1
      have hc2 := (hW.cell (p := ⟨gc, 2, none⟩) (World.block_lt_of_cell? _ _ m2)).trans m2
      exact Rgs.val rfl (Reg.wanted_if rfl rfl dg rfl) (.agg #[.slice A1 n1 c1, .slice A2 n2 c2, .slice A3 n3 c3]) (by have c := Reg.consts a; generalize a.eval = ρ at *; simp [execOp, go_sem, c.1, c.2, e1, hc0, hc1, hc2]) rfl hW
    · intro a w1 live S E D C h0 hk hW
      have dg : a.eval (.tmp 36) = .bool true := D 19 rfl _ _ rfl rfl
      have d22 : a.eval (.tmp 39) = .agg #[.slice A1 n1 c1, .slice A2 n2 c2, .slice A3 n3 c3] := D 22 rfl _ _ rfl rfl
      have dg : a.eval (.tmp 36) = .bool true := D 19 rfl _ _ rfl rfl
      obtain ⟨y, d21, hyR, hyS⟩ := D 21 rfl _ _ rfl rfl
      have d21 : a.eval (.tmp 38) = .agg #[.slice y.A1 y.n1 y.c1, .slice y.A2 y.n2 y.c2, .slice y.A3 y.n3 y.c3] := d21
      have d22 : a.eval (.tmp 39) = .agg #[.slice A1 n1 c1, .slice A2 n2 c2, .slice A3 n3 c3] := D 22 rfl _ _ rfl rfl
      refine Rgs.call rfl (Reg.wanted_if rfl rfl dg rfl) 16 #[.agg #[.slice y.A1 y.n1 y.c1, .slice y.A2 y.n2 y.c2, .slice y.A3 y.n3 y.c3], .agg #[.slice A1 n1 c1, .slice A2 n2 c2, .slice A3 n3 c3]] (by have c := Reg.consts a; generalize a.eval = ρ at *; simp [execOp, go_sem, c.1, c.2, d21, d22]) ?_
      refine (HD4.out w1 hW y hyR hyS).mono ?_
      rintro e w5 ⟨rfl, hb5⟩
      exact ⟨_, rfl, rfl, hW.trans (hb5.mono hW.size), fun jq vq _ hq => by
          revert hq
          match jq with
          | 21 => exact fun h => h.on hb5
          | 0 | 1 | 2 | 3 | 4 | 5 | 6 | 7 | 8 | 9 | 10 | 11 | 12 | 13 | 14 | 15 | 16 | 17 | 18 | 19 | 20 | 22 | 23 | 24 | 25 | _ + 26 => exact fun h => h⟩
    · intro a w1 live S E D C h0 hk hW
      have d19 : a.eval (.tmp 36) = .bool true := D 19 rfl _ _ rfl rfl
      have d23 : a.eval (.tmp 40) = .bool true := D 23 rfl _ _ rfl rfl
      exact Rgs.val rfl (Reg.wanted_free rfl) (.bool true) (by have c := Reg.consts a; generalize a.eval = ρ at *; simp [execOp, go_sem, c.1, c.2, d19, d23]) rfl hW
    · intro a w1 live S E D C h0 hk hW
      have d24 : a.eval (.tmp 41) = .bool true := D 24 rfl _ _ rfl rfl
      exact Rgs.val rfl (Reg.wanted_free rfl) (.bool true) (by have c := Reg.consts a; generalize a.eval = ρ at *; simp [execOp, go_sem, c.1, c.2, d24]) rfl hW
  · intro a w9 live hs hd E Dv Hl hW
    have e2 : a.eval (.tmp 2) = .bool true := by
      obtain ⟨v, hv, he⟩ := Dv 25 _ rfl
      exact (he 2 rfl).trans hv
    rw [Reg.act_lit a 42 hs, hd]
    simp only [List.range, List.range.loop, List.map, e2]
    have HB9 := Lib.hid (HB3.out.trans (hW.mono HB3.out.size))
    clear E Dv Hl hW e2 m0 m1 m2
    generalize a.eval = ρ
    clear a hs hd
    go_wp2_with fail
    go_ret
    exact Ans.mk rfl HB9.out
end Go.Proofs.YtgoeikihjffeoaaGreat
