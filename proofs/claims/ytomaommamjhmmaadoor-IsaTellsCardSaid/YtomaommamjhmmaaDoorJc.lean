/- Instructions: the document's own Fetch. -/
import Derived.Test.YtomaommamjhmmaaDoorJb
import Derived.StillTailTactics
namespace Go.Proofs.YtomaommamjhmmaaDoor
open Go.RowKit
set_option linter.unusedSimpArgs false
set_option linter.unusedVariables false

/-- The n-th byte, 0 of none. -/
def byteZ (l : List UInt8) (n : Nat) : Int := ((l[n]?.getD 0).toNat : Int)
def fetB (l : List UInt8) (pc : Int) : Bool := decide (0 ≤ pc) && (decide (pc % 4 = 0) && decide (pc + 4 ≤ l.length))
def fetF (l : List UInt8) (pc : Int) : InsV := if fetB l pc = true then ⟨byteZ l pc.toNat, byteZ l (pc.toNat + 1), byteZ l (pc.toNat + 2), byteZ l (pc.toNat + 3)⟩ else ⟨0, 0, 0, 0⟩
theorem wrapI {z : Int} (h : -9223372036854775808 ≤ z ∧ z ≤ 9223372036854775807) : IntKind.i64.wrap z = z := by
  simp only [IntKind.wrap, IntKind.bits, IntKind.signed]
  simp
  omega
theorem szIn (w : World) : (sizeOf 26).run Tryd.prog w = .ok 4 w := by go_simp
theorem agIn (w : World) : (isAgg 26).run Tryd.prog w = .ok true w := by go_simp
theorem set4 {T B g : Nat} {w w0 : World} {v0 v1 v2 v3 : Value} (h : OwnV T 4 w B (some ⟨g, 0, none⟩) 1 1 [v0, v1, v2, v3]) (hb : Below B w0 w) (hg : B ≤ g) (x0 x1 x2 x3 : Value) :
    (w.cell? ⟨g, 0, none⟩ = some v0 ∧ w.frozen? ⟨g, 0, none⟩ = false) ∧ (w.cell? ⟨g, 1, none⟩ = some v1 ∧ w.frozen? ⟨g, 1, none⟩ = false) ∧ (w.cell? ⟨g, 2, none⟩ = some v2 ∧ w.frozen? ⟨g, 2, none⟩ = false) ∧ (w.cell? ⟨g, 3, none⟩ = some v3 ∧ w.frozen? ⟨g, 3, none⟩ = false) ∧
      OwnV T 4 ((((w.setCell ⟨g, 0, none⟩ x0).setCell ⟨g, 1, none⟩ x1).setCell ⟨g, 2, none⟩ x2).setCell ⟨g, 3, none⟩ x3) B (some ⟨g, 0, none⟩) 1 1 [x0, x1, x2, x3] ∧ Below B w0 ((((w.setCell ⟨g, 0, none⟩ x0).setCell ⟨g, 1, none⟩ x1).setCell ⟨g, 2, none⟩ x2).setCell ⟨g, 3, none⟩ x3) :=
  ⟨rowf h 0 _ rfl, rowf h 1 _ rfl, rowf h 2 _ rfl, rowf h 3 _ rfl, (((OwnV.set h 0 _ (by show 0 < 4; omega)).set 1 _ (by show 1 < 4; omega)).set 2 _ (by show 2 < 4; omega)).set 3 _ (by show 3 < 4; omega), (((hb.setCell (p := ⟨g, 0, none⟩) hg _).setCell (p := ⟨g, 1, none⟩) hg _).setCell (p := ⟨g, 2, none⟩) hg _).setCell (p := ⟨g, 3, none⟩) hg _⟩
set_option maxRecDepth 100000 in
set_option maxHeartbeats 8000000 in
theorem rfetch_any (A : Option Addr) (n k : Nat) (l : List UInt8) (pc : Int) (w : World) (h : Rd w w.heap.size A n l) (hn : n ≤ 140737488355328) (hk : n ≤ k) (hp : -9223372036854775808 ≤ pc ∧ pc ≤ 9223372036854775807) :
    Calls Tryd.prog 10 #[.slice A n k, .int .i64 pc] w (Ans (.tuple #[iv (fetF l pc), .bool (fetB l pc)]) w) := by
  have hl := h.1
  have hb0 := bl1 w (.cells #[.int .i64 0, .int .i64 0, .int .i64 0, .int .i64 0] 26)
  have HRS0 := Lib.hid (ownV_lit w 26 4 w.heap.size #[.int .i64 0, .int .i64 0, .int .i64 0, .int .i64 0] 1 rfl (Nat.le_refl _) (by unfold maxLen; omega))
  have HRD := Lib.hid (h.below hb0)
  have HB0 := Lib.hid hb0
  clear hb0 h
  cases hf : fetB l pc with
  | false =>
    have hF : fetF l pc = ⟨0, 0, 0, 0⟩ := by unfold fetF; rw [hf]; rfl
    rw [hF]
    unfold fetB at hf
    have hnot : pc < 0 ∨ (0 ≤ pc ∧ ¬ pc % 4 = 0) ∨ (0 ≤ pc ∧ pc % 4 = 0 ∧ (n : Int) - 4 < pc) := by
      rcases (by omega : pc < 0 ∨ 0 ≤ pc) with h1 | h1
      · exact .inl h1
      · rw [decide_eq_true h1, Bool.true_and] at hf
        by_cases h2 : pc % 4 = 0
        · rw [decide_eq_true h2, Bool.true_and, decide_eq_false_iff_not] at hf
          exact .inr (.inr ⟨h1, by omega, by omega⟩)
        · exact .inr (.inl ⟨h1, by omega⟩)
    clear hf hF hl
    go_enter Tryd.func10, Tryd.ntmps10
    go_upto_region 1 with fail
    generalize w.alloc (.cells #[.int .i64 0, .int .i64 0, .int .i64 0, .int .i64 0] 26) = W0 at HRS0 HRD HB0 ⊢
    obtain ⟨g, hg⟩ : ∃ g, g = w.heap.size := ⟨_, rfl⟩
    have HG := Lib.hid hg
    have HRS : Hid (OwnV 26 4 W0 w.heap.size (some ⟨g, 0, none⟩) 1 1 [.int .i64 0, .int .i64 0, .int .i64 0, .int .i64 0]) := Lib.hid (by rw [hg]; exact HRS0.out)
    rw [← hg]
    clear hg HRS0
    obtain ⟨⟨c0a, c0b⟩, ⟨c1a, c1b⟩, ⟨c2a, c2b⟩, ⟨c3a, c3b⟩, ho, hb⟩ := set4 HRS.out HB0.out (Nat.le_of_eq HG.out.symm) (.int .i64 0) (.int .i64 0) (.int .i64 0) (.int .i64 0)
    have HO := Lib.hid ho
    have HB := Lib.hid hb
    clear ho hb
    rcases hnot with h1 | ⟨h1, h2⟩ | ⟨h1, h2, h3⟩
    · go_wp2_with fail
      refine bodyPost_ret (results_twoX rfl (agIn _) (szIn _) rfl HO.out) rfl ?_
      exact Ans.mk rfl HB.out
    · have h1' : ¬ pc < 0 := by omega
      go_wp2_with fail
      refine bodyPost_ret (results_twoX rfl (agIn _) (szIn _) rfl HO.out) rfl ?_
      exact Ans.mk rfl HB.out
    · have h1' : ¬ pc < 0 := by omega
      have hw : wrap64 ((n : Int) - 4) = (n : Int) - 4 := by unfold wrap64; omega
      go_wp2_with fail
      refine bodyPost_ret (results_twoX rfl (agIn _) (szIn _) rfl HO.out) rfl ?_
      exact Ans.mk rfl HB.out
  | true =>
    have hF : fetF l pc = ⟨byteZ l pc.toNat, byteZ l (pc.toNat + 1), byteZ l (pc.toNat + 2), byteZ l (pc.toNat + 3)⟩ := by unfold fetF; rw [if_pos hf]
    rw [hF]
    unfold fetB at hf
    simp only [Bool.and_eq_true, decide_eq_true_eq] at hf
    obtain ⟨h0, h4, hlen⟩ := hf
    obtain ⟨p, rfl⟩ := Int.eq_ofNat_of_zero_le h0
    have hpn : p + 4 ≤ n := by omega
    obtain ⟨ad, x0, rfl, had, e0, c0⟩ := HRD.out.at_ (k := p) (by omega)
    obtain ⟨ad1, x1, ea1, _, e1, c1⟩ := HRD.out.at_ (k := p + 1) (by omega)
    obtain ⟨ad2, x2, ea2, _, e2, c2⟩ := HRD.out.at_ (k := p + 2) (by omega)
    obtain ⟨ad3, x3, ea3, _, e3, c3⟩ := HRD.out.at_ (k := p + 3) (by omega)
    obtain rfl : ad = ad1 := by injection ea1
    obtain rfl : ad = ad2 := by injection ea2
    obtain rfl : ad = ad3 := by injection ea3
    have hB0 : byteZ l p = (x0.toNat : Int) := by unfold byteZ; rw [e0]; rfl
    have hB1 : byteZ l (p + 1) = (x1.toNat : Int) := by unfold byteZ; rw [e1]; rfl
    have hB2 : byteZ l (p + 2) = (x2.toNat : Int) := by unfold byteZ; rw [e2]; rfl
    have hB3 : byteZ l (p + 3) = (x3.toNat : Int) := by unfold byteZ; rw [e3]; rfl
    rw [Int.toNat_natCast, hB0, hB1, hB2, hB3]
    have b0 : x0.toNat < 256 := x0.toBitVec.isLt
    have b1 : x1.toNat < 256 := x1.toBitVec.isLt
    have b2 : x2.toNat < 256 := x2.toBitVec.isLt
    have b3 : x3.toNat < 256 := x3.toBitVec.isLt
    generalize x0.toNat = y0 at c0 b0 ⊢
    generalize x1.toNat = y1 at c1 b1 ⊢
    generalize x2.toNat = y2 at c2 b2 ⊢
    generalize x3.toNat = y3 at c3 b3 ⊢
    have w0 : wrap64 ((n : Int) - 4) = (n : Int) - 4 := by unfold wrap64; omega
    have i0 : ¬ (p : Int) < 0 := by omega
    have i1 : (p : Int) % 4 = 0 := h4
    have i2 : ¬ (n : Int) - 4 < (p : Int) := by omega
    have PN := Lib.hid hpn
    have BD := Lib.hid (And.intro b0 (And.intro b1 (And.intro b2 b3)))
    clear hF h0 h4 hlen had ea1 ea2 ea3 e0 e1 e2 e3 hB0 hB1 hB2 hB3 hl hpn b0 b1 b2 b3 HRD hp
    go_enter Tryd.func10, Tryd.ntmps10
    go_upto_region 1 with fail
    generalize w.alloc (.cells #[.int .i64 0, .int .i64 0, .int .i64 0, .int .i64 0] 26) = W0 at HRS0 HB0 c0 c1 c2 c3 ⊢
    obtain ⟨g, hg⟩ : ∃ g, g = w.heap.size := ⟨_, rfl⟩
    have HG := Lib.hid hg
    have HRS : Hid (OwnV 26 4 W0 w.heap.size (some ⟨g, 0, none⟩) 1 1 [.int .i64 0, .int .i64 0, .int .i64 0, .int .i64 0]) := Lib.hid (by rw [hg]; exact HRS0.out)
    rw [← hg]
    clear hg HRS0
    go_upto_region 3 with fail
    clear i0 i1 i2 w0
    have hpn := PN.out
    obtain ⟨b0, b1, b2, b3⟩ := BD.out
    have u1 : IntKind.i64.wrap ((p : Int) + 1) = (p : Int) + 1 := wrapI (by omega)
    have u2 : IntKind.i64.wrap ((p : Int) + 2) = (p : Int) + 2 := wrapI (by omega)
    have u3 : IntKind.i64.wrap ((p : Int) + 3) = (p : Int) + 3 := wrapI (by omega)
    have t0 : IntKind.i64.wrap (y0 : Int) = (y0 : Int) := wrapI (by omega)
    have t1 : IntKind.i64.wrap (y1 : Int) = (y1 : Int) := wrapI (by omega)
    have t2 : IntKind.i64.wrap (y2 : Int) = (y2 : Int) := wrapI (by omega)
    have t3 : IntKind.i64.wrap (y3 : Int) = (y3 : Int) := wrapI (by omega)
    have j0 : (p : Int) < (n : Int) := by omega
    have j1 : (p : Int) + 1 < (n : Int) := by omega
    have j2 : (p : Int) + 2 < (n : Int) := by omega
    have j3 : (p : Int) + 3 < (n : Int) := by omega
    have k1 : ((p : Int) + 1).toNat = p + 1 := by omega
    have k2 : ((p : Int) + 2).toNat = p + 2 := by omega
    have k3 : ((p : Int) + 3).toNat = p + 3 := by omega
    have g1 : (0 : Int) ≤ (p : Int) + 1 := by omega
    have g2 : (0 : Int) ≤ (p : Int) + 2 := by omega
    have g3 : (0 : Int) ≤ (p : Int) + 3 := by omega
    have a1 : ad.add (p + 1) = (⟨ad.block, ad.off + (p + 1), none⟩ : Addr) := by simp [Addr.add]
    have a2 : ad.add (p + 2) = (⟨ad.block, ad.off + (p + 2), none⟩ : Addr) := by simp [Addr.add]
    have a3 : ad.add (p + 3) = (⟨ad.block, ad.off + (p + 3), none⟩ : Addr) := by simp [Addr.add]
    rw [a1] at c1
    rw [a2] at c2
    rw [a3] at c3
    clear hpn b0 b1 b2 b3 PN BD a1 a2 a3
    obtain ⟨⟨c0a, c0b⟩, ⟨c1a, c1b⟩, ⟨c2a, c2b⟩, ⟨c3a, c3b⟩, ho, hb⟩ := set4 (OwnV.below HRS.out rfl (Below.refl _ _).drew) HB0.out.drew (Nat.le_of_eq HG.out.symm) (.int .i64 (y0 : Int)) (.int .i64 (y1 : Int)) (.int .i64 (y2 : Int)) (.int .i64 (y3 : Int))
    have HO := Lib.hid ho
    have HB := Lib.hid hb
    clear ho hb
    go_still_tail 24, (by kernel_rfl)
    change wpList _ _ _ _ _ W0.drew
    clear c0 c1 c2 c3
    generalize W0.drew = W9 at c0a c0b c1a c1b c2a c2b c3a c3b HO HB ⊢
    go_wp2_with fail
    refine bodyPost_ret (results_twoX rfl (agIn _) (szIn _) rfl HO.out) rfl ?_
    exact Ans.mk rfl HB.out
end Go.Proofs.YtomaommamjhmmaaDoor
