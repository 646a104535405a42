/- A row so many times, with others ahead and behind; whether a row of runs may be, by the document's own answer. -/
import Derived.Test.YtjbflndlfdekiaaLow4
import Derived.Test.YtjbflndlfdekiaaTabl
namespace Go.Proofs.Ytjbflndlfdekiaa
open Go.RowKit Tab
set_option linter.unusedSimpArgs false
set_option linter.unusedVariables false

theorem reps_succ (j : Nat) (l : List Rn) : reps (j + 1) l = reps j l ++ l := by
  induction j with
  | zero => simp [reps]
  | succ j ih =>
    show l ++ reps (j + 1) l = reps (j + 1) l ++ l
    rw [ih, ← List.append_assoc]
    congr 1
/-- It answers a, then some times l, then b. -/
def Again (a l b : List Rn) (k : Nat) (w : World) (e : Ending) (w' : World) : Prop :=
  ∃ (j : Nat) (A : Option Addr) (m c : Nat), e = .returned (.slice A m c) ∧ RdR w' w'.heap.size A m (a ++ reps j l ++ b) ∧ m ≤ c ∧ j ≤ k ∧ (1 ≤ k → 1 ≤ j) ∧ m ≤ 95 ∧ Below w.heap.size w w'
set_option maxRecDepth 100000 in
set_option maxHeartbeats 4000000 in
theorem again_any (A1 A2 A3 : Option Addr) (n1 n2 n3 c1 c2 c3 k : Nat) (a l b : List Rn) (w : World) (h1 : RdR w w.heap.size A1 n1 a) (h2 : RdR w w.heap.size A2 n2 l) (h3 : RdR w w.heap.size A3 n3 b)
    (q1 : n1 ≤ 6) (q2 : n2 ≤ 8) (q3 : n3 ≤ 6) (hk : k ≤ 16) :
    Calls Try.prog 8 #[.slice A1 n1 c1, .slice A2 n2 c2, .slice A3 n3 c3, .int .i64 (k : Int)] w (Again a l b k w) := by
  have hb0 := bl1 w (.cells #[] 41)
  have hx1 : OwnV 41 2 (w.alloc (.cells #[] 41)) w.heap.size (some ⟨w.heap.size, 0, none⟩) 0 0 (rs []) := ownV_lit w _ 2 w.heap.size #[] 0 rfl (Nat.le_refl _) (by unfold maxLen; omega)
  have hr1 := (h1.on hb0).rd
  have HL1 := Lib.hid h1.len
  have HL2 := Lib.hid h2.len
  have HL3 := Lib.hid h3.len
  go_enter Try.func8, Try.ntmps8
  go_wp2_with (at_builtin; go_loud (refine wpList_appV elR rfl (.tmp 11) (.tmp 12) rfl rfl w.heap.size _ 0 0 _ rfl hx1 A1 n1 c1 _ _ rfl hr1 (by rw [rs_length, HL1.out]) (rs_one _) (by omega) (by unfold maxLen; omega) hb0.size n1 (Nat.zero_add _) (rs a) (by simp [rs]) ?_; intro A4 c4 w4 hw4 hb4 _))
  have hb5 := hb0.trans hb4
  go_loopw [9, 10] (fun q s wr => ∃ (j m c5 : Nat) (A5 : Option Addr), j ≤ k ∧ s = .int .i64 j ∧ q = .slice A5 m c5 ∧ OwnV 41 2 wr w.heap.size A5 m c5 (rs (a ++ reps j l)) ∧ m = n1 + j * n2 ∧ m ≤ 89 ∧ Below w.heap.size w wr) (fun _ s _ => k - (intOf s).toNat)
  case atStart => exact ⟨0, n1, c4, A4, by omega, rfl, rfl, by simpa [reps] using hw4, by omega, by omega, hb5⟩
  case round =>
    obtain ⟨j, m, c5, A5, hj, rfl, rfl, how, hm, hm89, hb⟩ := hrel
    have HM := Lib.hid hm
    clear hm
    have hend : ¬ (j < k ∧ m + n2 < 90) → 1 ≤ k → 1 ≤ j := fun hc hk1 => by
      rcases Nat.eq_zero_or_pos j with h0 | h0
      · subst h0
        have := HM.out
        exact absurd ⟨by omega, by omega⟩ hc
      · exact h0
    have HE := Lib.hid hend
    clear hend
    have hr3 := h3.on hb
    by_cases hlt : j < k
    · by_cases hlt2 : m + n2 < 90
      · have hr2 := (h2.on hb).rd
        have hlt2' : (m : Int) + (n2 : Int) < 90 := by omega
        have hBs := hb.size
        clear HE
        go_wp2_with (at_builtin; go_loud (refine wpList_appV elR rfl (.tmp 27) (.tmp 28) rfl rfl w.heap.size A5 m c5 _ rfl how A2 n2 c2 _ _ rfl hr2 (by rw [rs_length, HL2.out]) (rs_one _) (by omega) (by unfold maxLen; omega) hBs (m + n2) rfl (rs (a ++ reps (j + 1) l)) (by rw [reps_succ, ← List.append_assoc]; exact (rs_append _ _).symm) ?_; intro A6 c6 w6 hw6 hb6 _))
        go_roundw
        case rel => exact ⟨j + 1, m + n2, c6, A6, by omega, by go_num, rfl, hw6, by rw [HM.out, Nat.succ_mul]; omega, by omega, hb.trans hb6⟩
        case measure => simp [intOf]; omega
      · have hlt2' : ¬ (m : Int) + (n2 : Int) < 90 := by omega
        have hrd := hr3.rd
        have hBs := hb.size
        go_wp2_with (at_builtin; go_loud (refine wpList_appV elR rfl (.tmp 30) (.tmp 31) rfl rfl w.heap.size A5 m c5 _ rfl how A3 n3 c3 _ _ rfl hrd (by rw [rs_length, HL3.out]) (rs_one _) (by omega) (by unfold maxLen; omega) hBs (m + n3) rfl (rs (a ++ reps j l ++ b)) (rs_append _ _).symm ?_; intro A6 c6 w6 hw6 hb6 _))
        go_ret
        exact ⟨j, A6, m + n3, c6, rfl, hw6.rdr, hw6.cap, hj, HE.out (fun hh => hlt2 hh.2), by omega, hb.trans hb6⟩
    · have hrd := hr3.rd
      have hBs := hb.size
      go_wp2_with (at_builtin; go_loud (refine wpList_appV elR rfl (.tmp 30) (.tmp 31) rfl rfl w.heap.size A5 m c5 _ rfl how A3 n3 c3 _ _ rfl hrd (by rw [rs_length, HL3.out]) (rs_one _) (by omega) (by unfold maxLen; omega) hBs (m + n3) rfl (rs (a ++ reps j l ++ b)) (rs_append _ _).symm ?_; intro A6 c6 w6 hw6 hb6 _))
      go_ret
      exact ⟨j, A6, m + n3, c6, rfl, hw6.rdr, hw6.cap, hj, HE.out (fun hh => hlt hh.1), by omega, hb.trans hb6⟩
set_option maxRecDepth 100000 in
set_option maxHeartbeats 4000000 in
theorem rruns_any (A : Option Addr) (n cap : Nat) (L : List Rn) (w : World) (h : RdR w w.heap.size A n L) (hc : n ≤ cap) (hL : Frm L n) :
    Calls Try.prog 9 #[.slice A n cap] w (Ans (.bool true) w) := by
  have hn := hL.le
  have hp := hL.pos
  have HT := Lib.hid hL.tk
  have HA := Lib.hid hL.all
  have HL := Lib.hid h.len
  clear hL
  go_enter Try.func9, Try.ntmps9
  go_wp2_with fail
  go_loopw [3, 5, 8] (fun q _ s wr => ∃ i t : Nat, i ≤ n ∧ s = .int .i64 i ∧ q = .int .i64 t ∧ t = ticks (L.take i) ∧ Below w.heap.size w wr) (fun _ _ s _ => n - (intOf s).toNat)
  case atStart => exact ⟨0, 0, by omega, rfl, rfl, by simp [ticks], Below.refl _ _⟩
  case round =>
    obtain ⟨i, t, hi, rfl, rfl, ht, hb⟩ := hrel
    by_cases hlt : i < n
    · obtain ⟨ad, r, rfl, had, hr, c0, c1⟩ := (h.on hb).at_ hlt
      have h1 := HA.out r (List.mem_of_getElem? hr)
      have hm := take_more hr
      have hle := take_ticks L (i + 1)
      have ht4 := HT.out
      have ht2 : t + r.n = ticks (L.take (i + 1)) := by rw [hm, ht]
      have ht3 : t + r.n ≤ 4096 := by omega
      have HT2 := Lib.hid ht2
      obtain ⟨rp, rn⟩ := r
      dsimp only at h1 c0 c1 ht3 HT2
      have hbl := bl1 wr (.cells #[.int .i64 rp, .int .i64 (rn : Int)] 41)
      have HB := Lib.hid (hb.trans (hbl.mono hb.size))
      have g1 : ¬ (rn : Int) < 1 := by omega
      have g2 : ¬ (4096 : Int) < (rn : Int) := by omega
      have g3 : ¬ rp < -1 := by omega
      have g4 : ¬ (6 : Int) ≤ rp := by omega
      clear hr hm hle ht ht2 hbl
      go_wp2_with fail
      go_roundw
      case rel => exact ⟨i + 1, t + rn, by omega, by go_num, by go_num, HT2.out, HB.out⟩
      case measure => simp [intOf]; omega
    · have hge : n ≤ i := by omega
      have e : L.take i = L := List.take_of_length_le (by rw [HL.out]; exact hge)
      have ht4 := HT.out
      rw [e] at ht
      have ht5 : (t : Int) ≤ 4096 := by omega
      have hn1 : (1 : Int) ≤ (n : Int) := by omega
      have hn2 : (n : Int) ≤ 96 := by omega
      clear e ht ht4
      go_wp2_with fail
      go_ret
      exact Ans.mk rfl hb
end Go.Proofs.Ytjbflndlfdekiaa
