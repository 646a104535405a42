/- Chapter 6's runs. -/
import Derived.Test.YtjbflndlfdekiaaAgain
import Derived.Test.YtjbflndlfdekiaaPeri
import Derived.Test.YtjbflndlfdekiaaRknown
namespace Go.Proofs.Ytjbflndlfdekiaa
open Go.RowKit Tab
set_option linter.unusedSimpArgs false
set_option linter.unusedVariables false

def L6 : List Rn := [⟨0, 1⟩, ⟨1, 1⟩, ⟨0, 1⟩, ⟨1, 1⟩, ⟨0, 1⟩, ⟨1, 1⟩]
theorem t6_eq : tabI 6 (itemsI L6) = [⟨4, 0, 3⟩, ⟨3, 0, 2⟩, ⟨1, 0, 1⟩, ⟨1, 1, 1⟩] := by kernel_rfl
theorem t4_len : (tabI 4 (itemsI (L6.take 4))).length = 5 := by kernel_rfl
theorem t1_len : (tabI 1 (itemsI (L6.take 1))).length = 1 := by kernel_rfl
theorem p6_len : (joinI (itemsI L6)).length = 7 := by kernel_rfl
theorem per6 : perI L6 = 2 := by kernel_rfl
theorem per0 : perI [] = 0 := by kernel_rfl
theorem best0 : bestI (itemsI []) = ⟨0, 0, 0, 0⟩ := by kernel_rfl
theorem frm6 (k : Nat) (h1 : 0 < k) (h2 : k ≤ 6) : Frm (L6.take k) k := by
  refine ⟨h1, by omega, ?_, fun r hr => ?_⟩
  · have : ticks (L6.take k) ≤ ticks L6 := take_ticks L6 k
    have e : ticks L6 = 6 := rfl
    omega
  · have := List.mem_of_mem_take hr
    unfold L6 at this
    simp at this
    rcases this with rfl | rfl | rfl | rfl | rfl | rfl <;> simp
theorem nd_eql1 (x y z : Int) (W : World) : (binOp .eql 53 (nd x y z) (nd x y z)).run Try.prog W = .ok (.bool true) W := by
  simp [run_eql_struct, go_sem]
theorem plain_nil (w : World) : Calls Try.prog 12 #[.slice none 0 0] w (Ans (.slice none 0 0) w) := by
  go_enter Try.func12, Try.ntmps12
  go_wp2_with fail
  refine (frame_nil w).mono ?_
  rintro e w1 ⟨rfl, hb1⟩
  go_wp2_with fail
  go_ret
  exact ⟨rfl, hb1⟩
theorem RdN.first {w : World} {B n : Nat} {A : Option Addr} {x : Nd} {l : List Nd} (h : RdN w B A n (x :: l)) : ∃ ad, A = some ad ∧ ad.block < B ∧ w.cell? ad = some (.int .i64 x.k) ∧ w.cell? ⟨ad.block, ad.off + 1, none⟩ = some (.int .i64 x.p) ∧ w.cell? ⟨ad.block, ad.off + 2, none⟩ = some (.int .i64 x.n) := by
  have hn : 0 < n := by rw [← h.len]; simp
  obtain ⟨ad, y, rfl, hb, hy, _, c0, c1, c2⟩ := h.at_ hn
  have e : ad.add (0 * 3) = ad := by unfold Addr.add; simp
  rw [e] at c0 c1 c2
  simp at hy
  subst hy
  exact ⟨ad, rfl, hb, c0, c1, c2⟩
set_option maxRecDepth 100000 in
set_option maxHeartbeats 4000000 in
theorem known6_any (w : World) : Calls Try.prog 11 #[] w (Ans (.bool true) w) := by
  have hb0 := bl1 w (.cells #[.int .i64 0, .int .i64 1, .int .i64 1, .int .i64 1, .int .i64 0, .int .i64 1, .int .i64 1, .int .i64 1, .int .i64 0, .int .i64 1, .int .i64 1, .int .i64 1] 41)
  have hr0 := RdR.lit w #[.int .i64 0, .int .i64 1, .int .i64 1, .int .i64 1, .int .i64 0, .int .i64 1, .int .i64 1, .int .i64 1, .int .i64 0, .int .i64 1, .int .i64 1, .int .i64 1] L6 6 rfl rfl
  obtain ⟨W, hW⟩ : ∃ W, W = w.alloc (.cells #[.int .i64 0, .int .i64 1, .int .i64 1, .int .i64 1, .int .i64 0, .int .i64 1, .int .i64 1, .int .i64 1, .int .i64 0, .int .i64 1, .int .i64 1, .int .i64 1] 41) := ⟨_, rfl⟩
  rw [← hW] at hb0 hr0
  have HW := Lib.hid hW
  clear hW
  have hnil : RdR W W.heap.size none 0 [] := ⟨rfl, RdV.nil⟩
  have HBN := Lib.hid (bestr_any none 0 0 [] W hnil (Nat.le_refl _) (by omega) (by simp))
  rw [best0] at HBN
  have HR := Lib.hid fun w' (hb : Below W.heap.size W w') => hr0.on hb
  obtain ⟨g, hg⟩ : ∃ g, g = w.heap.size := ⟨_, rfl⟩
  rw [← hg] at HR
  have HG := Lib.hid hg
  have HTB := Lib.hid fun (k : Nat) w' (hb : Below W.heap.size W w') (h1 : 0 < k) (h2 : k ≤ 6) => table_any6 (some ⟨g, 0, none⟩) k 6 (L6.take k) w' ((HR.out w' hb).front k h2) h2 (frm6 k h1 h2)
  have HPD := Lib.hid fun w' (hb : Below W.heap.size W w') => (period_any (some ⟨g, 0, none⟩) 6 6 L6 w' (HR.out w' hb) (by omega) (by omega)).mono fun _ _ h => Qui.ans h
  rw [per6] at HPD
  have HPL := Lib.hid fun w' (hb : Below W.heap.size W w') => plain_any (some ⟨g, 0, none⟩) 6 6 L6 w' (HR.out w' hb) (by omega) (frm6 6 (by omega) (by omega))
  have HP0 := Lib.hid fun w' => (period_any none 0 0 [] w' ⟨rfl, RdV.nil⟩ (by omega) (by omega)).mono fun _ _ h => Qui.ans h
  rw [per0] at HP0
  have HB0 := Lib.hid hb0
  clear hr0 hnil hg hb0
  go_enter Try.func11, Try.ntmps11
  go_wp2_with fail
  rw [← HW.out]
  refine HBN.out.mono ?_
  rintro e w1 ⟨rfl, k1⟩
  rw [← HG.out]
  have K1 := Lib.hid k1
  clear k1 HBN
  go_wp2_with fail
  refine (HTB.out 6 w1 K1.out (by omega) (by omega)).mono ?_
  rintro e w2 ⟨A2, m2, c2, rfl, hr2, hc2, k2⟩
  rw [show L6.take 6 = L6 from rfl, t6_eq] at hr2
  obtain rfl : m2 = 4 := by have := hr2.len; simpa using this.symm
  have K2 := Lib.hid (K1.out.trans (k2.mono K1.out.size))
  have HF := Lib.hid fun w' (hb : Below w2.heap.size w2 w') => (hr2.on hb).first
  clear hr2 k2
  go_wp2_with fail
  refine (HPD.out w2 K2.out).mono ?_
  rintro e w3 ⟨rfl, k3⟩
  have K3 := Lib.hid (K2.out.trans (k3.mono K2.out.size))
  obtain ⟨ad, rfl, _, d0, d1, d2⟩ := HF.out w3 k3
  have hne := nd_eql1 4 0 3
  clear k3 HF
  go_wp2_with fail
  refine (HTB.out 4 w3 K3.out (by omega) (by omega)).mono ?_
  rintro e w4 ⟨A4, m4, c4, rfl, hr4, hc4, k4⟩
  obtain rfl : m4 = 5 := by have := hr4.len; rw [t4_len] at this; exact this.symm
  have K4 := Lib.hid (K3.out.trans (k4.mono K3.out.size))
  clear hr4 k4 d0 d1 d2
  go_wp2_with fail
  refine (HTB.out 1 w4 K4.out (by omega) (by omega)).mono ?_
  rintro e w5 ⟨A5, m5, c5, rfl, hr5, hc5, k5⟩
  obtain rfl : m5 = 1 := by have := hr5.len; rw [t1_len] at this; exact this.symm
  have K5 := Lib.hid (K4.out.trans (k5.mono K4.out.size))
  clear hr5 k5
  go_wp2_with fail
  refine (HPL.out w5 K5.out).mono ?_
  rintro e w6 ⟨A6, m6, c6, rfl, hr6, hc6, k6⟩
  obtain rfl : m6 = 7 := by have := hr6.len; rw [p6_len] at this; exact this.symm
  have K6 := Lib.hid (K5.out.trans (k6.mono K5.out.size))
  clear hr6 k6
  go_wp2_with fail
  refine (plain_nil w6).mono ?_
  rintro e w7 ⟨rfl, k7⟩
  have K7 := Lib.hid (K6.out.trans (k7.mono K6.out.size))
  clear k7
  go_wp2_with fail
  refine (HP0.out w7).mono ?_
  rintro e w8 ⟨rfl, k8⟩
  have K8 := Lib.hid (K7.out.trans (k8.mono K7.out.size))
  clear k8
  go_wp2_with fail
  go_ret
  exact ⟨rfl, HB0.out.trans (K8.out.mono HB0.out.size)⟩
end Go.Proofs.Ytjbflndlfdekiaa
