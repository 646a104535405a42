/- May two be turned about: by the program. -/
import Derived.Test.YtknlhhbkahollaaGswa
namespace Go.Proofs.Ytknlhhbkahollaa
open Go.RowKit Tab
set_option linter.unusedSimpArgs false
set_option linter.unusedVariables false

def freeF (P : List Pt) (C : List Ch) (a b : Int) : Bool := (decide (a = -1) || inP P.length a) && (decide (b = -1) || inP P.length b) && (decide (a = -1) || decide (b = -1) || !depF P C a.toNat b.toNat)
theorem inP_no {n : Nat} {p : Int} (h : p = -1) : inP n p = false := by rw [Bool.eq_false_iff]; intro e; rw [inP_iff] at e; omega
set_option maxRecDepth 100000 in
set_option maxHeartbeats 1600000 in
theorem free_any (A1 A2 A3 : Option Addr) (n1 n2 n3 c1 c2 c3 : Nat) (P : List PtV) (C : List ChV) (a b : Int) (w : World) (h : CfW w w.heap.size A1 A2 n1 n2 P C) (q1 : n1 ≤ 1048576) (q2 : n2 ≤ 1048576) :
    Calls Try.prog 18 #[.agg #[.slice A1 n1 c1, .slice A2 n2 c2, .slice A3 n3 c3], .int .i64 a, .int .i64 b] w (Ans (.bool (freeF (P.map ptOf) (C.map chOf) a b)) w) := by
  have hlen : P.length = n1 := h.p.len
  obtain ⟨v, hv⟩ : ∃ v, v = freeF (P.map ptOf) (C.map chOf) a b := ⟨_, rfl⟩
  rw [← hv]
  unfold freeF at hv
  rw [List.length_map, hlen] at hv
  have HV := Lib.hid hv
  have hbw := bl1 w (.cells #[.slice A1 n1 c1, .slice A2 n2 c2, .slice A3 n3 c3] 26)
  have hbox := box_vec w (.slice A1 n1 c1) (.slice A2 n2 c2) (.slice A3 n3 c3) 26
  have hCf := h.on hbw
  have hgsz : w.heap.size < (w.alloc (.cells #[.slice A1 n1 c1, .slice A2 n2 c2, .slice A3 n3 c3] 26)).heap.size := by simp
  have HB0 := Lib.hid hbw
  have HHAS := Lib.hid fun (p : Int) (w' : World) => has_any A1 A2 A3 n1 n2 n3 c1 c2 c3 p w'
  clear h hbw hlen hv
  obtain ⟨m0, m1, m2⟩ := hbox.three
  go_enter Try.func18, Try.ntmps18
  go_upto_region 1 with fail
  generalize w.alloc (.cells #[.slice A1 n1 c1, .slice A2 n2 c2, .slice A3 n3 c3] 26) = W at HB0 hCf hbox m0 m1 m2 hgsz ⊢
  obtain ⟨gb, hgb⟩ : ∃ gb, gb = w.heap.size := ⟨_, rfl⟩
  rw [← hgb] at hbox m0 m1 m2 hgsz ⊢
  have HBOX := Lib.hid hbox
  have HCF := Lib.hid hCf
  have HGZ := Lib.hid hgsz
  clear hgb hbox hCf hgsz
  by_cases ha : a = -1
  · have t1 : (a == -1) = true := by simp [ha]
    by_cases hb : b = -1
    · have t2 : (b == -1) = true := by simp [hb]
      have hvt : v = true := by rw [HV.out]; simp [ha, hb]
      subst hvt
      clear ha hb
      go_wp2_with fail
      go_ret
      exact ⟨rfl, HB0.out⟩
    · have t2 : (b == -1) = false := by simp [hb]
      have hvt : v = inP n1 b := by rw [HV.out]; simp [ha, hb]
      have HF := Lib.hid (HHAS.out b W)
      rw [← hvt] at HF
      clear ha hb hvt
      go_wp2_with fail
      refine HF.out.mono ?_
      rintro e w2 ⟨rfl, hb2⟩
      go_wp2_with fail
      go_ret
      exact ⟨rfl, HB0.out.trans (hb2.mono HB0.out.size)⟩
  · have t1 : (a == -1) = false := by simp [ha]
    by_cases hb : b = -1
    · have t2 : (b == -1) = true := by simp [hb]
      have hvt : v = inP n1 a := by rw [HV.out]; simp [ha, hb]
      have HF := Lib.hid (HHAS.out a W)
      rw [← hvt] at HF
      clear ha hb hvt
      go_wp2_with fail
      refine HF.out.mono ?_
      rintro e w2 ⟨rfl, hb2⟩
      go_wp2_with fail
      go_ret
      exact ⟨rfl, HB0.out.trans (hb2.mono HB0.out.size)⟩
    · have t2 : (b == -1) = false := by simp [hb]
      have hvt : v = (inP n1 a && inP n1 b && !depF (P.map ptOf) (C.map chOf) a.toNat b.toNat) := by rw [HV.out]; simp [ha, hb]
      have HVT := Lib.hid hvt
      have HF := Lib.hid (HHAS.out a W)
      clear ha hb hvt
      cases hia : inP n1 a with
      | false =>
        rw [hia] at HF
        have hvf : v = false := by rw [HVT.out, hia]; rfl
        subst hvf
        clear hia
        go_wp2_with fail
        refine HF.out.mono ?_
        rintro e w2 ⟨rfl, hb2⟩
        go_wp2_with fail
        go_ret
        exact ⟨rfl, HB0.out.trans (hb2.mono HB0.out.size)⟩
      | true =>
        rw [hia] at HF
        have HIA := Lib.hid hia
        clear hia
        go_wp2_with fail
        refine HF.out.mono ?_
        rintro e w2 ⟨rfl, hb2⟩
        obtain ⟨m0, m1, m2⟩ := (HBOX.out.below hb2 HGZ.out).three
        have HF := Lib.hid (HHAS.out b w2)
        have HB2 := Lib.hid hb2
        clear hb2
        cases hib : inP n1 b with
        | false =>
          rw [hib] at HF
          have hvf : v = false := by rw [HVT.out, hib, Bool.and_false, Bool.false_and]
          subst hvf
          clear hib
          go_wp2_with fail
          refine HF.out.mono ?_
          rintro e w3 ⟨rfl, hb3⟩
          have hb4 := HB2.out.trans (hb3.mono HB2.out.size)
          go_wp2_with fail
          go_ret
          exact ⟨rfl, HB0.out.trans (hb4.mono HB0.out.size)⟩
        | true =>
          rw [hib] at HF
          have g1 := inP_iff.1 HIA.out
          have g2 := inP_iff.1 hib
          have hvf : v = !depF (P.map ptOf) (C.map chOf) a.toNat b.toNat := by rw [HVT.out, HIA.out, hib]; rfl
          obtain ⟨x, rfl⟩ := Int.eq_ofNat_of_zero_le g1.1
          obtain ⟨y, rfl⟩ := Int.eq_ofNat_of_zero_le g2.1
          rw [Int.toNat_natCast, Int.toNat_natCast] at hvf
          have HG1 := Lib.hid g1
          have HG2 := Lib.hid g2
          have HVF := Lib.hid hvf
          clear hib g1 g2 hvf
          go_wp2_with fail
          refine HF.out.mono ?_
          rintro e w3 ⟨rfl, hb3⟩
          have hb4 := HB2.out.trans (hb3.mono HB2.out.size)
          obtain ⟨m0, m1, m2⟩ := (HBOX.out.below hb4 HGZ.out).three
          have HD := Lib.hid (depend_any A1 A2 A3 n1 n2 n3 c1 c2 c3 P C x y w3 (HCF.out.on hb4) q1 q2 (by have := HG1.out; omega) (by have := HG2.out; omega))
          generalize depF (P.map ptOf) (C.map chOf) x y = q at HD HVF
          have hvq := HVF.out
          subst hvq
          clear hb3
          go_wp2_with fail
          refine HD.out.mono ?_
          rintro e w5 ⟨rfl, hb5⟩
          have hb6 := hb4.trans (hb5.mono hb4.size)
          go_wp2_with fail
          go_ret
          exact ⟨rfl, HB0.out.trans (hb6.mono HB0.out.size)⟩
end Go.Proofs.Ytknlhhbkahollaa
