/- Closing of any matrix, by the program and by the document; a configuration cut to a few. -/
import Derived.Test.YtknlhhbkahollaaRclo
import Derived.Test.YtknlhhbkahollaaGmat
import Derived.Test.YtknlhhbkahollaaAsk
namespace Go.Proofs.Ytknlhhbkahollaa
open Go.RowKit Tab
set_option linter.unusedSimpArgs false
set_option linter.unusedVariables false

/-- Rows of a closing: none, if it is not square. -/
def cloN (n : Nat) (l : Nat → Nat) : Nat := if sqB n l = true then n else 0
theorem cloN_le (n : Nat) (l : Nat → Nat) : cloN n l ≤ n := by unfold cloN; split <;> omega
def CloU (n : Nat) (l : Nat → Nat) (m : Nat → Nat → Bool) (w : World) (e : Ending) (w' : World) : Prop := ∃ A c, e = .returned (.slice A (cloN n l) c) ∧ RdM w' w'.heap.size A (cloN n l) (fun _ => cloN n l) (War m n) ∧ Below w.heap.size w w'
theorem RdM.sq {w : World} {B n : Nat} {A : Option Addr} {l : Nat → Nat} {m : Nat → Nat → Bool} (h : RdM w B A n l m) (hl : ∀ i, i < n → l i = n) : RdM w B A n (fun _ => n) m := by
  obtain ⟨R, h1, h2⟩ := h
  exact ⟨R, h1.congr fun i hi => by rw [hl i hi], fun i hi => by
    have := h2 i hi
    rw [hl i hi] at this
    exact this⟩
theorem closure_u (A : Option Addr) (n c : Nat) (l : Nat → Nat) (m : Nat → Nat → Bool) (w : World) (h : RdM w w.heap.size A n l m) (hn : n ≤ 1024) :
    Calls Try.prog 12 #[.slice A n c] w (CloU n l m w) := by
  cases hs : sqB n l with
  | true =>
    refine (closure_any A n c m w (h.sq (sqB_iff.1 hs)) hn).mono ?_
    rintro e w5 ⟨g, G, rfl, hM, hb⟩
    have e : cloN n l = n := if_pos hs
    exact ⟨_, _, by rw [e], by rw [e]; exact hM.rdm, hb⟩
  | false =>
    refine (closure_none A n c l m w h hn hs).mono ?_
    rintro e w5 ⟨rfl, hb⟩
    have e : cloN n l = 0 := if_neg (by rw [hs]; decide)
    exact ⟨none, 0, by rw [e], by rw [e]; exact RdM.none _ _ _ _, hb⟩
theorem rclosure_u (A : Option Addr) (n c : Nat) (l : Nat → Nat) (m : Nat → Nat → Bool) (w : World) (h : RdM w w.heap.size A n l m) (hn : n ≤ 1024) :
    Calls Try.prog 15 #[.slice A n c] w (CloU n l m w) := by
  refine (rclosure_any A n c l m w h hn).mono fun e w5 hq => ?_
  cases hs : sqB n l with
  | true =>
    obtain ⟨X, y, rfl, _, hr, hb⟩ := hq.1 hs
    have e : cloN n l = n := if_pos hs
    exact ⟨X, y, by rw [e], by rw [e]; exact hr, hb⟩
  | false =>
    obtain ⟨rfl, hb⟩ := hq.2 hs
    have e : cloN n l = 0 := if_neg (by rw [hs]; decide)
    exact ⟨none, 0, by rw [e], by rw [e]; exact RdM.none _ _ _ _, hb⟩
theorem matrix_u (A1 A2 : Option Addr) (n c1 c2 : Nat) (m : Nat → Nat → Bool) (w : World) (h1 : RdM w w.heap.size A1 n (fun _ => n) m) (h2 : RdM w w.heap.size A2 n (fun _ => n) m) (hn : n ≤ 1024) :
    Calls Try.prog 11 #[.slice A1 n c1, .slice A2 n c2] w (Ans (.bool true) w) := by
  have h := matrix_any A1 A2 n n c1 c2 (fun _ => n) (fun _ => n) m m w h1 h2 (by omega) (fun _ _ => by omega)
  rw [matB_iff.2 ⟨rfl, fun i _ => ⟨rfl, fun j _ => rfl⟩⟩] at h
  exact h.mono fun e w' hq => hq.ans
theorem flat_take {α : Type} {f : α → List Value} {s : Nat} (hf : ∀ x, (f x).length = s) (l : List α) (k : Nat) : (l.take k).flatMap f = (l.flatMap f).take (k * s) := by
  induction l generalizing k with
  | nil => simp
  | cons x l ih =>
    cases k with
    | zero => simp
    | succ k =>
      have e : (k + 1) * s = (f x).length + k * s := by rw [hf, Nat.succ_mul, Nat.add_comm]
      rw [List.take_succ_cons, List.flatMap_cons, List.flatMap_cons, ih, e, List.take_length_add_append]
/-- A configuration's first ones. -/
theorem CfW.front {w : World} {B n1 n2 m1 m2 : Nat} {A1 A2 : Option Addr} {P : List PtV} {C : List ChV} (h : CfW w B A1 A2 n1 n2 P C) (h1 : m1 ≤ n1) (h2 : m2 ≤ n2) : CfW w B A1 A2 m1 m2 (P.take m1) (C.take m2) := by
  refine ⟨⟨by rw [List.length_take, h.p.len]; omega, ?_⟩, ⟨by rw [List.length_take, h.c.len]; omega, ?_⟩⟩
  · have e : (P.take m1).flatMap pcl = (P.flatMap pcl).take (m1 * 11) := flat_take pcl_len P m1
    rw [e]; exact h.p.rd.front _
  · have e : (C.take m2).flatMap cc = (C.flatMap cc).take (m2 * 6) := flat_take cc_len C m2
    rw [e]; exact h.c.rd.front _
set_option maxRecDepth 100000 in
set_option maxHeartbeats 2000000 in
theorem few_any (A1 A2 A3 : Option Addr) (n1 n2 n3 c1 c2 c3 : Nat) (w : World) (h1 : n1 ≤ c1) (h2 : n2 ≤ c2) (b1 : c1 ≤ maxLen) (b2 : c2 ≤ maxLen) :
    Calls Try.prog 14 #[.agg #[.slice A1 n1 c1, .slice A2 n2 c2, .slice A3 n3 c3]] w fun e w' => e = .returned (.agg #[.slice A1 (min n1 8) c1, .slice A2 (min n2 20) c2, .slice A3 n3 c3]) ∧ Below w.heap.size w w' := by
  unfold maxLen at b1 b2
  go_enter Try.func14, Try.ntmps14
  by_cases q1 : 8 < n1 <;> by_cases q2 : 20 < n2
  · have e1 : min n1 8 = 8 := by omega
    have e2 : min n2 20 = 20 := by omega
    rw [e1, e2]
    have i1 : (8 : Int) < (n1 : Int) := by omega
    have i2 : (20 : Int) < (n2 : Int) := by omega
    have j1 : 8 ≤ c1 := by omega
    have j2 : 20 ≤ c2 := by omega
    go_wp2_with fail
    have e : (w.alloc (.cells #[.slice A1 8 c1, .slice A2 20 c2, .slice A3 n3 c3] 26)).heap.size = w.heap.size + 1 := by simp
    have hv := box_vec (w.alloc (.cells #[.slice A1 8 c1, .slice A2 20 c2, .slice A3 n3 c3] 26)) (.slice A1 8 c1) (.slice A2 20 c2) (.slice A3 n3 c3) 26
    rw [e] at hv
    obtain ⟨d0, d1, d2⟩ := hv.three
    exact bodyPost_ret (results_runC rfl rfl d0 d1 d2) rfl ⟨rfl, (bl1 w _).trans ((bl1 _ _).mono (by simp))⟩
  · have e1 : min n1 8 = 8 := by omega
    have e2 : min n2 20 = n2 := by omega
    rw [e1, e2]
    have i1 : (8 : Int) < (n1 : Int) := by omega
    have i2 : ¬ (20 : Int) < (n2 : Int) := by omega
    have j1 : 8 ≤ c1 := by omega
    go_wp2_with fail
    have e : (w.alloc (.cells #[.slice A1 8 c1, .slice A2 n2 c2, .slice A3 n3 c3] 26)).heap.size = w.heap.size + 1 := by simp
    have hv := box_vec (w.alloc (.cells #[.slice A1 8 c1, .slice A2 n2 c2, .slice A3 n3 c3] 26)) (.slice A1 8 c1) (.slice A2 n2 c2) (.slice A3 n3 c3) 26
    rw [e] at hv
    obtain ⟨d0, d1, d2⟩ := hv.three
    exact bodyPost_ret (results_runC rfl rfl d0 d1 d2) rfl ⟨rfl, (bl1 w _).trans ((bl1 _ _).mono (by simp))⟩
  · have e1 : min n1 8 = n1 := by omega
    have e2 : min n2 20 = 20 := by omega
    rw [e1, e2]
    have i1 : ¬ (8 : Int) < (n1 : Int) := by omega
    have i2 : (20 : Int) < (n2 : Int) := by omega
    have j2 : 20 ≤ c2 := by omega
    go_wp2_with fail
    have e : (w.alloc (.cells #[.slice A1 n1 c1, .slice A2 20 c2, .slice A3 n3 c3] 26)).heap.size = w.heap.size + 1 := by simp
    have hv := box_vec (w.alloc (.cells #[.slice A1 n1 c1, .slice A2 20 c2, .slice A3 n3 c3] 26)) (.slice A1 n1 c1) (.slice A2 20 c2) (.slice A3 n3 c3) 26
    rw [e] at hv
    obtain ⟨d0, d1, d2⟩ := hv.three
    exact bodyPost_ret (results_runC rfl rfl d0 d1 d2) rfl ⟨rfl, (bl1 w _).trans ((bl1 _ _).mono (by simp))⟩
  · have e1 : min n1 8 = n1 := by omega
    have e2 : min n2 20 = n2 := by omega
    rw [e1, e2]
    have i1 : ¬ (8 : Int) < (n1 : Int) := by omega
    have i2 : ¬ (20 : Int) < (n2 : Int) := by omega
    go_wp2_with fail
    have e : (w.alloc (.cells #[.slice A1 n1 c1, .slice A2 n2 c2, .slice A3 n3 c3] 26)).heap.size = w.heap.size + 1 := by simp
    have hv := box_vec (w.alloc (.cells #[.slice A1 n1 c1, .slice A2 n2 c2, .slice A3 n3 c3] 26)) (.slice A1 n1 c1) (.slice A2 n2 c2) (.slice A3 n3 c3) 26
    rw [e] at hv
    obtain ⟨d0, d1, d2⟩ := hv.three
    exact bodyPost_ret (results_runC rfl rfl d0 d1 d2) rfl ⟨rfl, (bl1 w _).trans ((bl1 _ _).mono (by simp))⟩
end Go.Proofs.Ytknlhhbkahollaa
