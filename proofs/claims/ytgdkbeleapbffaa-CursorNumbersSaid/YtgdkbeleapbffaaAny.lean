/- Tables that may be, and others. -/
import Derived.Test.YtgdkbeleapbffaaPlayr
namespace Go.Proofs.Ytgdkbeleapbffaa
open Go.RowKit Tab
set_option linter.unusedSimpArgs false
set_option linter.unusedVariables false

theorem rt_cases (n D T : Nat) : (rt n D T = 0 ∧ n ≤ 128 ∧ D ≤ 16 ∧ T ≤ 4096) ∨ ¬ rt n D T = 0 := by
  unfold rt
  by_cases h1 : 128 < n
  · rw [if_pos h1]; exact .inr (by omega)
  · by_cases h2 : 16 < D
    · rw [if_neg h1, if_pos h2]; exact .inr (by omega)
    · by_cases h3 : 4096 < T
      · rw [if_neg h1, if_neg h2, if_pos h3]; exact .inr (by omega)
      · rw [if_neg h1, if_neg h2, if_neg h3]; exact .inl ⟨rfl, by omega, by omega, by omega⟩
theorem play_tree (A : Option Addr) (n cap : Nat) (x : Nd) (k : F) (As : Option Addr) (ns cs : Nat) (f : Nat → Int) (w : World) (h : RdN w w.heap.size A n (x :: k.flat)) (hc : n ≤ cap) (hok : (F.cons x k .nil).ok) (hn : n ≤ 1048576)
    (hs : RdC w w.heap.size As ns fun j => .int .i64 (f j)) (hcs : ns ≤ cs) (hns : ns ≤ 140737488351232) :
    Calls Try.prog 9 #[.slice A n cap, .slice As ns cs] w (Ans (.bool true) w) := by
  rcases rt_cases n (k.dep + 1) (F.tick x k.len) with ⟨_, h1, h2, h3⟩ | h0
  · exact play_right A n cap x k As ns cs f w h hc hok h1 h2 h3 hs hcs hns
  · exact play_wrong A n cap _ w _ (fun w' hb => right_tree A n cap _ x k w' (h.on hb) hc hn hok rfl) (fun w' hb => rright_tree A n cap _ x k w' (h.on hb) hc hn hok rfl) h0
set_option maxHeartbeats 400000 in
theorem right_long (A : Option Addr) (n cap : Nat) (w : World) (h1 : 128 < n) (hn : n ≤ 140737488351232) : Calls Try.prog 26 #[.slice A n cap] w (Ans (.int .i64 3) w) := by
  have h1' : (128 : Int) < (n : Int) := by omega
  go_enter Try.func26, Try.ntmps26
  go_wp2_with fail
  go_ret
  exact ⟨rfl, Below.refl _ _⟩
set_option maxHeartbeats 400000 in
theorem rright_long (A : Option Addr) (n cap : Nat) (w : World) (h1 : 128 < n) (hn : n ≤ 140737488351232) : Calls Try.prog 14 #[.slice A n cap] w (Ans (.int .i64 3) w) := by
  have h1' : (128 : Int) < (n : Int) := by omega
  go_enter Try.func14, Try.ntmps14
  go_wp2_with fail
  go_ret
  exact ⟨rfl, Below.refl _ _⟩
theorem play_row (A : Option Addr) (n cap : Nat) (l : List Nd) (As : Option Addr) (ns cs : Nat) (f : Nat → Int) (w : World) (h : RdN w w.heap.size A n l) (hc : n ≤ cap) (hn : n ≤ 140737488351232)
    (hs : RdC w w.heap.size As ns fun j => .int .i64 (f j)) (hcs : ns ≤ cs) (hns : ns ≤ 140737488351232) :
    Calls Try.prog 9 #[.slice A n cap, .slice As ns cs] w (Ans (.bool true) w) := by
  by_cases hl : 128 < n
  · exact play_wrong A n cap _ w 3 (fun w' _ => right_long A n cap w' hl hn) (fun w' _ => rright_long A n cap w' hl hn) (by decide)
  · by_cases hw : wholeB l = true
    · obtain ⟨x, k, hok, rfl⟩ := whole_tree hw
      exact play_tree A n cap x k As ns cs f w h hc hok (by omega) hs hcs hns
    · have hw' : wholeB l = false := by simpa using hw
      have e : rn n = 12 := if_neg hl
      refine play_wrong A n cap _ w 12 (fun w' hb => ?_) (fun w' hb => ?_) (by decide)
      · have := right_none A n cap l w' (h.on hb) hc (by omega) hw'
        rwa [e] at this
      · have := rright_none A n cap l w' (h.on hb) hc (by omega) hw'
        rwa [e] at this
end Go.Proofs.Ytgdkbeleapbffaa
