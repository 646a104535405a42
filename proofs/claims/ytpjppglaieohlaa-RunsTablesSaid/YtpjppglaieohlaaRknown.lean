/- Chapter 5's runs. -/
import Derived.Test.YtpjppglaieohlaaOf
namespace Go.Proofs.Ytpjppglaieohlaa
open Go.RowKit Tab
set_option linter.unusedSimpArgs false
set_option linter.unusedVariables false

theorem rv_eql (x y : Int) (W : World) : (binOp .eql 30 (rv x y) (rv x y)).run Try.prog W = .ok (.bool true) W := by
  simp [run_eql_struct, go_sem]
theorem RdR.lit (w : World) (C : Array Value) (L : List Rn) (m : Nat) (hl : L.length = m) (hC : C.toList = rs L) : RdR (w.alloc (.cells C 30)) (w.alloc (.cells C 30)).heap.size (some ⟨w.heap.size, 0, none⟩) m L :=
  ⟨hl, rdV_new w C 30 (rs L) hC⟩
theorem RdN.lit (w : World) (C : Array Value) (l : List Nd) (m : Nat) (hl : l.length = m) (hC : C.toList = ns l) (hb : ∀ x ∈ l, NdIn x) : RdN (w.alloc (.cells C 44)) (w.alloc (.cells C 44)).heap.size (some ⟨w.heap.size, 0, none⟩) m l :=
  ⟨hl, rdV_new w C 44 (ns l) hC, hb⟩
theorem RdR.first {w : World} {B n : Nat} {A : Option Addr} {r : Rn} {L : List Rn} (h : RdR w B A n (r :: L)) : ∃ ad, A = some ad ∧ ad.block < B ∧ w.cell? ad = some (.int .i64 r.p) ∧ w.cell? ⟨ad.block, ad.off + 1, none⟩ = some (.int .i64 (r.n : Int)) := by
  have hn : 0 < n := by rw [← h.len]; simp
  obtain ⟨ad, r', rfl, hb, hr, c0, c1⟩ := h.at_ hn
  have e : ad.add (0 * 2) = ad := by unfold Addr.add; simp
  rw [e] at c0 c1
  simp at hr
  subst hr
  exact ⟨ad, rfl, hb, c0, c1⟩
set_option maxRecDepth 100000 in
set_option maxHeartbeats 4000000 in
theorem known_any (w : World) : Calls Try.prog 12 #[] w (Ans (.bool true) w) := by
  have hb0 := bl1 w (.cells #[.int .i64 0, .int .i64 2, .int .i64 0, .int .i64 3, .int .i64 1, .int .i64 0, .int .i64 (-1), .int .i64 1] 30)
  have hr0 := RdR.lit w #[.int .i64 0, .int .i64 2, .int .i64 0, .int .i64 3, .int .i64 1, .int .i64 0, .int .i64 (-1), .int .i64 1] [⟨0, 2⟩, ⟨0, 3⟩, ⟨1, 0⟩, ⟨-1, 1⟩] 4 rfl rfl
  have hT := tidy_any _ 4 4 _ _ hr0 (Nat.le_refl _) (by omega) (by decide)
  have e1 : tidy [⟨0, 2⟩, ⟨0, 3⟩, ⟨1, 0⟩, ⟨-1, 1⟩] = [⟨0, 5⟩, ⟨-1, 1⟩] := rfl
  rw [e1] at hT
  have HT := Lib.hid hT
  clear hT hr0 e1
  go_enter Try.func12, Try.ntmps12
  go_wp2_with fail
  refine HT.out.mono ?_
  rintro e w1 ⟨A1, c1, rfl, hr1, hc1, hb1, _⟩
  have k1 := hb0.trans (hb1.mono hb0.size)
  have hc1 : 2 ≤ c1 := hc1
  have hr1 : RdR w1 w1.heap.size A1 2 [⟨0, 5⟩, ⟨-1, 1⟩] := hr1
  have HSW := Lib.hid fun w (h : RdR w w.heap.size A1 2 [⟨0, 5⟩, ⟨-1, 1⟩]) => (show Calls Try.prog 11 #[.slice A1 2 c1] w (Ans (.int .i64 1) w) from switches_any A1 2 c1 [⟨0, 5⟩, ⟨-1, 1⟩] w h hc1 (by omega) (by decide))
  have HRT := Lib.hid fun w (h : RdR w w.heap.size A1 2 [⟨0, 5⟩, ⟨-1, 1⟩]) => frame_right A1 2 c1 [⟨0, 5⟩, ⟨-1, 1⟩] w h hc1 (by omega) (by omega) (by decide) (by simp)
  have HTK := Lib.hid fun w (h : RdR w w.heap.size A1 2 [⟨0, 5⟩, ⟨-1, 1⟩]) => (show Calls Try.prog 7 #[.slice A1 2 c1, .int .i64 0] w (Ans (.int .i64 5) w) from ticks_any A1 2 c1 [⟨0, 5⟩, ⟨-1, 1⟩] 0 w h hc1 (by omega) (by decide))
  have HLN := Lib.hid fun w (h : RdR w w.heap.size A1 2 [⟨0, 5⟩, ⟨-1, 1⟩]) => (show Calls Try.prog 9 #[.slice A1 2 c1] w (Ans (.int .i64 6) w) from length_any A1 2 c1 [⟨0, 5⟩, ⟨-1, 1⟩] w h hc1 (by omega) (by decide))
  have HA5 := Lib.hid fun w (h : RdR w w.heap.size A1 2 [⟨0, 5⟩, ⟨-1, 1⟩]) => (show Calls Try.prog 10 #[.slice A1 2 c1, .int .i64 5] w (Ans (.int .i64 (-1)) w) from whose_any A1 2 c1 [⟨0, 5⟩, ⟨-1, 1⟩] 5 w h hc1 (by omega) (by decide) (by omega) (by omega))
  have HA4 := Lib.hid fun w (h : RdR w w.heap.size A1 2 [⟨0, 5⟩, ⟨-1, 1⟩]) => (show Calls Try.prog 10 #[.slice A1 2 c1, .int .i64 4] w (Ans (.int .i64 0) w) from whose_any A1 2 c1 [⟨0, 5⟩, ⟨-1, 1⟩] 4 w h hc1 (by omega) (by decide) (by omega) (by omega))
  have HSM := Lib.hid fun w (h : RdR w w.heap.size A1 2 [⟨0, 5⟩, ⟨-1, 1⟩]) => rsame_self A1 A1 2 c1 c1 [⟨0, 5⟩, ⟨-1, 1⟩] w h h (by omega)
  have HR := Lib.hid fun w' (hb : Below w1.heap.size w1 w') => hr1.on hb
  have HF := Lib.hid fun w' (hb : Below w1.heap.size w1 w') => (hr1.on hb).first
  clear hr1 hb0 hb1 HT
  go_wp2_with fail
  have hl1 := bl1 w1 (.cells #[.int .i64 4, .int .i64 0, .int .i64 2, .int .i64 1, .int .i64 0, .int .i64 5] 44)
  have hr2 := RdN.lit w1 #[.int .i64 4, .int .i64 0, .int .i64 2, .int .i64 1, .int .i64 0, .int .i64 5] (⟨4, 0, 2⟩ :: (F.cons ⟨1, 0, 5⟩ .nil .nil).flat) 2 rfl rfl (by intro x hx; simp [F.flat] at hx; rcases hx with rfl | rfl <;> exact ndIn_mk (by omega) (by omega) (by omega))
  have hok : (F.cons ⟨4, 0, 2⟩ (F.cons ⟨1, 0, 5⟩ .nil .nil) .nil).ok := ⟨by decide, rfl, ⟨by decide, rfl, trivial, trivial⟩, trivial⟩
  have hOf := of_tree _ 2 2 ⟨4, 0, 2⟩ (F.cons ⟨1, 0, 5⟩ .nil .nil) _ hr2 (Nat.le_refl _) hok (by omega) (by decide) (by decide) (right_tree _ 2 2 _ _ _ _ hr2 (Nat.le_refl _) (by omega) hok rfl)
  refine hOf.mono ?_
  intro e w3 hof
  have e9 : tidy (one ⟨4, 0, 2⟩ (F.cons ⟨1, 0, 5⟩ .nil .nil).lvs) = [⟨0, 10⟩] := rfl
  rw [e9] at hof
  unfold OfR at hof
  rw [if_neg (by decide)] at hof
  obtain ⟨A3, c3, rfl, hr3, hc3, hb3, _⟩ := hof
  have hr3 : RdR w3 w3.heap.size A3 1 [⟨0, 10⟩] := hr3
  have k3 := hl1.trans (hb3.mono hl1.size)
  obtain ⟨ad, rfl, hab, d0, d1⟩ := HF.out w3 k3
  obtain ⟨ad3, rfl, hab3, q0, q1⟩ := hr3.first
  have e2 := rv_eql 0 5
  have HQ := Lib.hid fun w' (hb : Below w3.heap.size w3 w') => (hr3.on hb).first
  have K5 := Lib.hid k3
  have L5 : Hid (Below w3.heap.size w3 w3) := Lib.hid (Below.refl _ _)
  clear hr2 hok hOf e9 hr3 hc3 q0 hl1 hb3 q1 k3
  go_wp2_with fail
  refine (HSW.out w3 (HR.out w3 K5.out)).mono ?_
  rintro e w5 ⟨rfl, hb5⟩
  have K6 := Lib.hid (K5.out.trans (hb5.mono K5.out.size))
  have L6 := Lib.hid (L5.out.trans (hb5.mono L5.out.size))
  clear hb5
  clear d0 d1
  go_wp2_with fail
  refine (frame_nil w5).mono ?_
  rintro e w6 ⟨rfl, hb6⟩
  have K7 := Lib.hid (K6.out.trans (hb6.mono K6.out.size))
  have L7 := Lib.hid (L6.out.trans (hb6.mono L6.out.size))
  clear hb6
  go_wp2_with fail
  refine (HRT.out w6 (HR.out w6 K7.out)).mono ?_
  rintro e w7 ⟨rfl, hb7⟩
  have K8 := Lib.hid (K7.out.trans (hb7.mono K7.out.size))
  have L8 := Lib.hid (L7.out.trans (hb7.mono L7.out.size))
  clear hb7
  obtain ⟨ad4, e4, _, _, q1⟩ := HQ.out w7 L8.out
  injection e4 with e4
  subst e4
  go_wp2_with fail
  refine (HTK.out w7 (HR.out w7 K8.out)).mono ?_
  rintro e w8 ⟨rfl, hb8⟩
  have K9 := Lib.hid (K8.out.trans (hb8.mono K8.out.size))
  have L9 := Lib.hid (L8.out.trans (hb8.mono L8.out.size))
  clear hb8
  clear q1
  go_wp2_with fail
  refine (HLN.out w8 (HR.out w8 K9.out)).mono ?_
  rintro e w9 ⟨rfl, hb9⟩
  have K10 := Lib.hid (K9.out.trans (hb9.mono K9.out.size))
  have L10 := Lib.hid (L9.out.trans (hb9.mono L9.out.size))
  clear hb9
  go_wp2_with fail
  refine (HA5.out w9 (HR.out w9 K10.out)).mono ?_
  rintro e w10 ⟨rfl, hb10⟩
  have K11 := Lib.hid (K10.out.trans (hb10.mono K10.out.size))
  have L11 := Lib.hid (L10.out.trans (hb10.mono L10.out.size))
  clear hb10
  go_wp2_with fail
  refine (HA4.out w10 (HR.out w10 K11.out)).mono ?_
  rintro e w11 ⟨rfl, hb11⟩
  have K12 := Lib.hid (K11.out.trans (hb11.mono K11.out.size))
  have L12 := Lib.hid (L11.out.trans (hb11.mono L11.out.size))
  clear hb11
  go_wp2_with fail
  refine (HSM.out w11 (HR.out w11 K12.out)).mono ?_
  rintro e w12 ⟨rfl, hb12⟩
  have K13 := Lib.hid (K12.out.trans (hb12.mono K12.out.size))
  have L13 := Lib.hid (L12.out.trans (hb12.mono L12.out.size))
  clear hb12
  go_wp2_with fail
  go_ret
  exact Ans.mk rfl (k1.trans (K13.out.mono k1.size))
end Go.Proofs.Ytpjppglaieohlaa
