/- Of a raw configuration no more than some. -/
import Derived.Test.YtgoeikihjffeoaaGreatYg
import Derived.Test.YtgoeikihjffeoaaGreatLow7
namespace Go.Proofs.YtgoeikihjffeoaaGreat
open Go.RowKit Tab
set_option linter.unusedSimpArgs false
set_option linter.unusedVariables false

theorem flat_take {α : Type} {f : α → List Value} {s : Nat} (hf : ∀ x, (f x).length = s) (l : List α) (k : Nat) : (l.take k).flatMap f = (l.flatMap f).take (k * s) := by
  induction l generalizing k with
  | nil => simp
  | cons x l ih =>
    cases k with
    | zero => simp
    | succ k =>
      rw [List.take_succ_cons, List.flatMap_cons, List.flatMap_cons, ih, List.take_append, hf, Nat.succ_mul, List.take_of_length_le (l := f x) (by rw [hf]; omega)]
      congr 2
      omega
theorem RdV.take {w : World} {B : Nat} {A : Option Addr} {l : List Value} (h : RdV w B A l) (k : Nat) : RdV w B A (l.take k) := fun hl => by
  obtain ⟨ad, e, hb, hc⟩ := h (by rw [List.length_take] at hl; omega)
  refine ⟨ad, e, hb, fun j v hj => hc j v ?_⟩
  rw [List.getElem?_take] at hj
  split at hj
  · exact hj
  · cases hj
theorem RdB.take {α : Type} {f : α → List Value} {s : Nat} {w : World} {B n k : Nat} {A : Option Addr} {l : List α} (h : RdB f w B A n l) (hf : ∀ x, (f x).length = s) (hk : k ≤ n) : RdB f w B A k (l.take k) :=
  ⟨by rw [List.length_take, h.len]; omega, by rw [flat_take hf]; exact h.rd.take _⟩
/-- No more than some. -/
def fewX (x : Cf) : Cf := ⟨x.A1, x.A2, x.A3, min x.n1 8, min x.n2 12, min x.n3 5, x.c1, x.c2, x.c3, x.P.take (min x.n1 8), x.C.take (min x.n2 12), x.T.take (min x.n3 5)⟩
theorem CfR.few {w : World} {x : Cf} (h : CfR w x) : CfR w (fewX x) := by
  have k1 := h.k1
  have k2 := h.k2
  have k3 := h.k3
  have m1 := h.m1
  have m2 := h.m2
  have m3 := h.m3
  have z := h.z
  exact ⟨h.pp.take pcq_len (Nat.min_le_left _ _), h.ch.take cc_len (Nat.min_le_left _ _), h.tb.take tcn_len (Nat.min_le_left _ _), fun y hy => h.pt y (List.mem_of_mem_take hy), fun y hy => h.tt y (List.mem_of_mem_take hy), by show min x.n1 8 ≤ x.c1; omega, by show min x.n2 12 ≤ x.c2; omega, by show min x.n3 5 ≤ x.c3; omega, by show min x.n1 8 ≤ _; omega, by show min x.n2 12 ≤ _; omega, by show min x.n3 5 ≤ _; omega, by have := z.1; show min x.n1 8 * 104 ≤ _; omega, by have := z.2.1; show min x.n2 12 * 48 ≤ _; omega, by have := z.2.2.1; show min x.n3 5 * 24 ≤ _; omega, fun y hy => z.2.2.2.1 y (List.mem_of_mem_take hy), fun y hy => z.2.2.2.2 y (List.mem_of_mem_take hy)⟩
set_option maxHeartbeats 1600000 in
theorem lfew12_in (A1 A2 A3 : Option Addr) (n1 n2 n3 c1 c2 c3 : Nat) (w : World) (h1 : n1 ≤ c1) (h2 : n2 ≤ c2) (h3 : n3 ≤ c3) (b1 : c1 ≤ maxLen) (b2 : c2 ≤ maxLen) (b3 : c3 ≤ maxLen) :
    Calls Tryz.prog 14 #[.agg #[.slice A1 n1 c1, .slice A2 n2 c2, .slice A3 n3 c3]] w fun e w' => e = .returned (.agg #[.slice A1 (min n1 8) c1, .slice A2 (min n2 12) c2, .slice A3 (min n3 5) c3]) ∧ Below w.heap.size w w' := by
  unfold maxLen at b1 b2 b3
  go_enter Tryz.func14, Tryz.ntmps14
  by_cases q1 : 8 < n1 <;> by_cases q2 : 12 < n2 <;> by_cases q3 : 5 < n3
  · have e1 : min n1 8 = 8 := by omega
    have e2 : min n2 12 = 12 := by omega
    have e3 : min n3 5 = 5 := by omega
    rw [e1, e2, e3]
    have i1 : (8 : Int) < (n1 : Int) := by omega
    have j1 : 8 ≤ c1 := by omega
    have i2 : (12 : Int) < (n2 : Int) := by omega
    have j2 : 12 ≤ c2 := by omega
    have i3 : (5 : Int) < (n3 : Int) := by omega
    have j3 : 5 ≤ c3 := by omega
    go_wp2_with fail
    have e : (w.alloc (.cells #[.slice A1 8 c1, .slice A2 12 c2, .slice A3 5 c3] 26)).heap.size = w.heap.size + 1 := by simp
    have hv := box_vec (w.alloc (.cells #[.slice A1 8 c1, .slice A2 12 c2, .slice A3 5 c3] 26)) (.slice A1 8 c1) (.slice A2 12 c2) (.slice A3 5 c3) 26
    rw [e] at hv
    obtain ⟨d0, d1, d2⟩ := hv.three
    exact bodyPost_ret (results_runC rfl rfl d0 d1 d2) rfl ⟨rfl, (bl1 w _).trans ((bl1 _ _).mono (by simp))⟩
  · have e1 : min n1 8 = 8 := by omega
    have e2 : min n2 12 = 12 := by omega
    have e3 : min n3 5 = n3 := by omega
    rw [e1, e2, e3]
    have i1 : (8 : Int) < (n1 : Int) := by omega
    have j1 : 8 ≤ c1 := by omega
    have i2 : (12 : Int) < (n2 : Int) := by omega
    have j2 : 12 ≤ c2 := by omega
    have i3 : ¬ (5 : Int) < (n3 : Int) := by omega
    go_wp2_with fail
    have e : (w.alloc (.cells #[.slice A1 8 c1, .slice A2 12 c2, .slice A3 n3 c3] 26)).heap.size = w.heap.size + 1 := by simp
    have hv := box_vec (w.alloc (.cells #[.slice A1 8 c1, .slice A2 12 c2, .slice A3 n3 c3] 26)) (.slice A1 8 c1) (.slice A2 12 c2) (.slice A3 n3 c3) 26
    rw [e] at hv
    obtain ⟨d0, d1, d2⟩ := hv.three
    exact bodyPost_ret (results_runC rfl rfl d0 d1 d2) rfl ⟨rfl, (bl1 w _).trans ((bl1 _ _).mono (by simp))⟩
  · have e1 : min n1 8 = 8 := by omega
    have e2 : min n2 12 = n2 := by omega
    have e3 : min n3 5 = 5 := by omega
    rw [e1, e2, e3]
    have i1 : (8 : Int) < (n1 : Int) := by omega
    have j1 : 8 ≤ c1 := by omega
    have i2 : ¬ (12 : Int) < (n2 : Int) := by omega
    have i3 : (5 : Int) < (n3 : Int) := by omega
    have j3 : 5 ≤ c3 := by omega
    go_wp2_with fail
    have e : (w.alloc (.cells #[.slice A1 8 c1, .slice A2 n2 c2, .slice A3 5 c3] 26)).heap.size = w.heap.size + 1 := by simp
    have hv := box_vec (w.alloc (.cells #[.slice A1 8 c1, .slice A2 n2 c2, .slice A3 5 c3] 26)) (.slice A1 8 c1) (.slice A2 n2 c2) (.slice A3 5 c3) 26
    rw [e] at hv
    obtain ⟨d0, d1, d2⟩ := hv.three
    exact bodyPost_ret (results_runC rfl rfl d0 d1 d2) rfl ⟨rfl, (bl1 w _).trans ((bl1 _ _).mono (by simp))⟩
  · have e1 : min n1 8 = 8 := by omega
    have e2 : min n2 12 = n2 := by omega
    have e3 : min n3 5 = n3 := by omega
    rw [e1, e2, e3]
    have i1 : (8 : Int) < (n1 : Int) := by omega
    have j1 : 8 ≤ c1 := by omega
    have i2 : ¬ (12 : Int) < (n2 : Int) := by omega
    have i3 : ¬ (5 : Int) < (n3 : Int) := by omega
    go_wp2_with fail
    have e : (w.alloc (.cells #[.slice A1 8 c1, .slice A2 n2 c2, .slice A3 n3 c3] 26)).heap.size = w.heap.size + 1 := by simp
    have hv := box_vec (w.alloc (.cells #[.slice A1 8 c1, .slice A2 n2 c2, .slice A3 n3 c3] 26)) (.slice A1 8 c1) (.slice A2 n2 c2) (.slice A3 n3 c3) 26
    rw [e] at hv
    obtain ⟨d0, d1, d2⟩ := hv.three
    exact bodyPost_ret (results_runC rfl rfl d0 d1 d2) rfl ⟨rfl, (bl1 w _).trans ((bl1 _ _).mono (by simp))⟩
  · have e1 : min n1 8 = n1 := by omega
    have e2 : min n2 12 = 12 := by omega
    have e3 : min n3 5 = 5 := by omega
    rw [e1, e2, e3]
    have i1 : ¬ (8 : Int) < (n1 : Int) := by omega
    have i2 : (12 : Int) < (n2 : Int) := by omega
    have j2 : 12 ≤ c2 := by omega
    have i3 : (5 : Int) < (n3 : Int) := by omega
    have j3 : 5 ≤ c3 := by omega
    go_wp2_with fail
    have e : (w.alloc (.cells #[.slice A1 n1 c1, .slice A2 12 c2, .slice A3 5 c3] 26)).heap.size = w.heap.size + 1 := by simp
    have hv := box_vec (w.alloc (.cells #[.slice A1 n1 c1, .slice A2 12 c2, .slice A3 5 c3] 26)) (.slice A1 n1 c1) (.slice A2 12 c2) (.slice A3 5 c3) 26
    rw [e] at hv
    obtain ⟨d0, d1, d2⟩ := hv.three
    exact bodyPost_ret (results_runC rfl rfl d0 d1 d2) rfl ⟨rfl, (bl1 w _).trans ((bl1 _ _).mono (by simp))⟩
  · have e1 : min n1 8 = n1 := by omega
    have e2 : min n2 12 = 12 := by omega
    have e3 : min n3 5 = n3 := by omega
    rw [e1, e2, e3]
    have i1 : ¬ (8 : Int) < (n1 : Int) := by omega
    have i2 : (12 : Int) < (n2 : Int) := by omega
    have j2 : 12 ≤ c2 := by omega
    have i3 : ¬ (5 : Int) < (n3 : Int) := by omega
    go_wp2_with fail
    have e : (w.alloc (.cells #[.slice A1 n1 c1, .slice A2 12 c2, .slice A3 n3 c3] 26)).heap.size = w.heap.size + 1 := by simp
    have hv := box_vec (w.alloc (.cells #[.slice A1 n1 c1, .slice A2 12 c2, .slice A3 n3 c3] 26)) (.slice A1 n1 c1) (.slice A2 12 c2) (.slice A3 n3 c3) 26
    rw [e] at hv
    obtain ⟨d0, d1, d2⟩ := hv.three
    exact bodyPost_ret (results_runC rfl rfl d0 d1 d2) rfl ⟨rfl, (bl1 w _).trans ((bl1 _ _).mono (by simp))⟩
  · have e1 : min n1 8 = n1 := by omega
    have e2 : min n2 12 = n2 := by omega
    have e3 : min n3 5 = 5 := by omega
    rw [e1, e2, e3]
    have i1 : ¬ (8 : Int) < (n1 : Int) := by omega
    have i2 : ¬ (12 : Int) < (n2 : Int) := by omega
    have i3 : (5 : Int) < (n3 : Int) := by omega
    have j3 : 5 ≤ c3 := by omega
    go_wp2_with fail
    have e : (w.alloc (.cells #[.slice A1 n1 c1, .slice A2 n2 c2, .slice A3 5 c3] 26)).heap.size = w.heap.size + 1 := by simp
    have hv := box_vec (w.alloc (.cells #[.slice A1 n1 c1, .slice A2 n2 c2, .slice A3 5 c3] 26)) (.slice A1 n1 c1) (.slice A2 n2 c2) (.slice A3 5 c3) 26
    rw [e] at hv
    obtain ⟨d0, d1, d2⟩ := hv.three
    exact bodyPost_ret (results_runC rfl rfl d0 d1 d2) rfl ⟨rfl, (bl1 w _).trans ((bl1 _ _).mono (by simp))⟩
  · have e1 : min n1 8 = n1 := by omega
    have e2 : min n2 12 = n2 := by omega
    have e3 : min n3 5 = n3 := by omega
    rw [e1, e2, e3]
    have i1 : ¬ (8 : Int) < (n1 : Int) := by omega
    have i2 : ¬ (12 : Int) < (n2 : Int) := by omega
    have i3 : ¬ (5 : Int) < (n3 : Int) := by omega
    go_wp2_with fail
    have e : (w.alloc (.cells #[.slice A1 n1 c1, .slice A2 n2 c2, .slice A3 n3 c3] 26)).heap.size = w.heap.size + 1 := by simp
    have hv := box_vec (w.alloc (.cells #[.slice A1 n1 c1, .slice A2 n2 c2, .slice A3 n3 c3] 26)) (.slice A1 n1 c1) (.slice A2 n2 c2) (.slice A3 n3 c3) 26
    rw [e] at hv
    obtain ⟨d0, d1, d2⟩ := hv.three
    exact bodyPost_ret (results_runC rfl rfl d0 d1 d2) rfl ⟨rfl, (bl1 w _).trans ((bl1 _ _).mono (by simp))⟩
theorem lfew12_any (x : Cf) (w : World) (h : CfR w x) (b1 : x.c1 ≤ maxLen) (b2 : x.c2 ≤ maxLen) (b3 : x.c3 ≤ maxLen) :
    Calls Tryz.prog 14 #[cfv x] w fun e w' => e = .returned (cfv (fewX x)) ∧ CfR w' (fewX x) ∧ Below w.heap.size w w' :=
  (lfew12_in x.A1 x.A2 x.A3 x.n1 x.n2 x.n3 x.c1 x.c2 x.c3 w h.k1 h.k2 h.k3 b1 b2 b3).mono fun _ _ k => ⟨k.1, h.few.on k.2, k.2⟩
end Go.Proofs.YtgoeikihjffeoaaGreat
