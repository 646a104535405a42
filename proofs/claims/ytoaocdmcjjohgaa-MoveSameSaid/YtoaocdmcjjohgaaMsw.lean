/- How often a partition begins: by the document's own answer; a move makes it no more. -/
import Derived.Test.YtoaocdmcjjohgaaLow2
import Derived.Test.YtoaocdmcjjohgaaLow4
namespace Go.Proofs.Ytoaocdmcjjohgaa
open Go.RowKit Tab
set_option linter.unusedSimpArgs false
set_option linter.unusedVariables false

namespace Tab
theorem swi_tpush (out : List Rn) (x : Rn) : swi (tpush out x) ≤ swi out + if x.p = -1 then 0 else 1 := by
  rcases tpush_cases out x with ⟨h0, e⟩ | ⟨h0, rfl, e⟩ | ⟨o, y, h0, rfl, hp, e⟩ | ⟨o, y, h0, rfl, hp, e⟩
  · rw [e]; omega
  · rw [e]; simp [swi]
  · rw [e, swi_append, swi_append]
    simp only [swi]
    omega
  · rw [e, swi_append]
    simp only [swi]
    omega
theorem swi_tidyOn (l : List Rn) : ∀ out, swi (tidyOn out l) ≤ swi out + swi l := by
  induction l with
  | nil => intro out; exact Nat.le_add_right _ _
  | cons x l ih =>
    intro out
    have e : tidyOn out (x :: l) = tidyOn (tpush out x) l := rfl
    rw [e]
    have h1 := ih (tpush out x)
    have h2 := swi_tpush out x
    simp only [swi]
    omega
theorem swi_tidy (l : List Rn) : swi (tidy l) ≤ swi l := by
  have := swi_tidyOn l []
  simpa [tidy, swi] using this
/-- A move begins no partition more often. -/
theorem mv_swi {L : List Rn} {i j : Nat} {x y : Rn} (hij : i < j) (hx : L[i]? = some x) (hy : L[j]? = some y) (right : Bool) : swi (tidy (mv L i j right)) ≤ swi L := by
  have hl : swi L = swi (L.take i ++ x :: (mid L i j ++ y :: L.drop (j + 1))) := congrArg swi (split_far hij hx hy)
  rw [hl, mv_split hij hx hy]
  cases right with
  | true =>
    simp only [if_true]
    rw [tidy_drop0]
    refine Nat.le_trans (swi_tidy _) ?_
    simp only [swi_append, swi]
    omega
  | false =>
    simp only [Bool.false_eq_true, if_false]
    have e : L.take i ++ (⟨x.p, y.n + x.n⟩ : Rn) :: (mid L i j ++ (⟨y.p, 0⟩ : Rn) :: L.drop (j + 1)) = (L.take i ++ (⟨x.p, y.n + x.n⟩ : Rn) :: mid L i j) ++ (⟨y.p, 0⟩ : Rn) :: L.drop (j + 1) := by simp
    rw [e, tidy_drop0]
    refine Nat.le_trans (swi_tidy _) ?_
    simp only [swi_append, swi]
    omega
end Tab
set_option maxRecDepth 100000 in
set_option maxHeartbeats 1600000 in
theorem rswitches_any (A : Option Addr) (n cap : Nat) (L : List Rn) (w : World) (h : RdR w w.heap.size A n L) (hc : n ≤ cap) (hn : n ≤ 1048576) (ht : ticks L ≤ 1099511627776) :
    Calls Try.prog 22 #[.slice A n cap] w (Ans (.int .i64 (swi (tidy L) : Nat)) w) := by
  have hT := rtidy_any A n cap L w h hc hn ht
  have hle := tidy_le L
  rw [h.len] at hle
  generalize tidy L = T at hT hle ⊢
  unfold MadeR at hT
  have HT := Lib.hid hT
  clear hT h
  go_enter Try.func22, Try.ntmps22
  go_wp2_with fail
  refine HT.out.mono ?_
  rintro e w1 ⟨A1, c1, rfl, hr1, hc1, hb1, _⟩
  generalize hm1 : T.length = m1 at hr1 hc1 hle
  have HM1 := Lib.hid hm1
  clear hm1 HT
  go_wp2_with fail
  go_loopw [3, 9] (fun q s wr => ∃ (i m : Nat), i ≤ m1 ∧ s = .int .i64 i ∧ q = .int .i64 m ∧ m = swi (T.take i) ∧ Below w1.heap.size w1 wr) (fun _ s _ => m1 - (intOf s).toNat)
  case atStart => exact ⟨0, 0, by omega, rfl, rfl, by simp [swi], Below.refl _ _⟩
  case round =>
    obtain ⟨i, m, hi, rfl, rfl, hm, hb⟩ := hrel
    have hmt := swi_take T i
    rw [← hm] at hmt
    by_cases hlt : i < m1
    · obtain ⟨ad, r, rfl, had, hr, c0, c1⟩ := (hr1.on hb).at_ hlt
      have hmore := swi_more hr
      rw [← hm] at hmore
      have hbl := bl1 wr (.cells #[.int .i64 r.p, .int .i64 (r.n : Int)] 39)
      have HB := Lib.hid (hb.trans (hbl.mono hb.size))
      by_cases hp : r.p = -1
      · rw [if_pos hp] at hmore
        have hpb : (r.p != -1) = false := by rw [hp]; rfl
        have HM := Lib.hid hmore
        clear hp hmore hm hbl hr
        go_wp2_with fail
        go_roundw
        case rel => exact ⟨i + 1, m, by omega, by go_num, rfl, HM.out.symm, HB.out⟩
        case measure => simp [intOf]; omega
      · rw [if_neg hp] at hmore
        have hpb : (r.p != -1) = true := bne_iff_ne.2 hp
        have HM := Lib.hid hmore
        clear hp hmore hm hbl hr
        go_wp2_with fail
        go_roundw
        case rel => exact ⟨i + 1, m + 1, by omega, by go_num, by go_num, HM.out.symm, HB.out⟩
        case measure => simp [intOf]; omega
    · have hge : m1 ≤ i := by omega
      have e : m = swi T := by rw [hm, List.take_of_length_le (by rw [HM1.out]; exact hge)]
      have HE := Lib.hid e
      clear e hm
      go_wp2_with fail
      go_ret
      exact Ans.mk (by rw [HE.out]; rfl) (hb1.trans (hb.mono hb1.size))
theorem rv_neq (x y : Int) (W : World) : (binOp .neq 39 (rv x y) (rv x y)).run Try.prog W = .ok (.bool false) W := by
  simp [run_neq_struct, go_sem]
end Go.Proofs.Ytoaocdmcjjohgaa
