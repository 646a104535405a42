/- The document's own folding: nodes the same, a leaf, how often items come, which fold saves most. -/
import Derived.Test.YtgoeikihjffeoaaGreatRb
import Derived.Test.YtgoeikihjffeoaaGreatSamb
import Derived.Test.YtgoeikihjffeoaaGreatFold
import Derived.Test.YtgoeikihjffeoaaGreatLow3
import Derived.Laws.MakeOwn
import Derived.Laws.OwnMore
import Derived.BigQuiet
namespace Go.Proofs.YtgoeikihjffeoaaGreat
open Go.RowKit Tab
set_option linter.unusedSimpArgs false
set_option linter.unusedVariables false

set_option maxRecDepth 100000 in
set_option maxHeartbeats 1600000 in
theorem rnodes_any (A1 A2 : Option Addr) (n m c1 c2 : Nat) (l1 l2 : List Nd) (w : World) (h1 : RdN w w.heap.size A1 n l1) (h2 : RdN w w.heap.size A2 m l2) (hn : n ≤ 140737488351232) :
    Calls Tryz.prog 33 #[.slice A1 n c1, .slice A2 m c2] w (Qui (.bool (sameN l1 l2)) w) := by
  by_cases hnm : n = m
  · subst hnm
    generalize hb : sameN l1 l2 = b
    have HB := Lib.hid hb
    clear hb
    go_enter Tryz.func33, Tryz.ntmps33
    go_wp2_with fail
    go_loopw [5, 13] (fun _ s wr => ∃ i q : Nat, i ≤ n ∧ s = .int .i64 i ∧ sameN (l1.drop i) (l2.drop i) = b ∧ wr = w.drewN q) (fun _ s _ => n - (intOf s).toNat)
    case atStart => exact ⟨0, 0, by omega, rfl, by simpa using HB.out, rfl⟩
    case round =>
      obtain ⟨i, q, hi, rfl, hs, rfl⟩ := hrel
      have HS := Lib.hid hs
      clear hs
      by_cases hlt : i < n
      · obtain ⟨ad, x, rfl, _, hx, hin, c0, c1', c2'⟩ := h1.at_ hlt
        obtain ⟨ad2, y, rfl, _, hy, hin2, d0, d1, d2⟩ := h2.at_ hlt
        have e1 := drop_cons hx
        have e2 := drop_cons hy
        have hst := HS.out
        rw [e1, e2] at hst
        simp only [sameN] at hst
        have HST := Lib.hid hst
        have hne := fun W => nd_neqs x y W
        obtain ⟨xk, xp, xn⟩ := x
        obtain ⟨yk, yp, yn⟩ := y
        dsimp only at c0 c1' c2' d0 d1 d2 hne
        clear hx hy hin hin2 e1 e2 hst HS
        generalize hE : ndEq ⟨xk, xp, xn⟩ ⟨yk, yp, yn⟩ = E at HST hne
        clear hE
        cases E with
        | true =>
          have hne : ∀ W, (binOp .neq 53 (nd xk xp xn) (nd yk yp yn)).run Tryz.prog W = .ok (.bool false) W := hne
          go_wp2_with fail
          go_quiet (fail)
          go_wp2_with fail
          go_roundw
          case rel => exact ⟨i + 1, q + nq, by omega, by go_num, by simpa using HST.out, rfl⟩
          case measure => simp [intOf]; omega
        | false =>
          have hne : ∀ W, (binOp .neq 53 (nd xk xp xn) (nd yk yp yn)).run Tryz.prog W = .ok (.bool true) W := hne
          go_wp2_with fail
          go_quiet (fail)
          go_wp2_with fail
          go_ret
          exact ⟨by have := HST.out; simp at this; rw [← this]; rfl, q + nq, by rw [World.drewN_drewN]⟩
      · have hge : n ≤ i := by omega
        have e1 : l1.drop i = [] := List.drop_eq_nil_of_le (by rw [h1.len]; exact hge)
        have e2 : l2.drop i = [] := List.drop_eq_nil_of_le (by rw [h2.len]; exact hge)
        have hst := HS.out
        rw [e1, e2] at hst
        have HST := Lib.hid hst
        clear hst HS e1 e2
        go_wp2_with fail
        go_ret
        exact ⟨by rw [← HST.out]; rfl, q, rfl⟩
  · have hb := sameN_len (a := l1) (b := l2) (by rw [h1.len, h2.len]; exact hnm)
    rw [hb]
    have h3 : ((n : Int) == (m : Int)) = false := beq_eq_false_iff_ne.2 (by omega)
    have h4 : ((n : Int) != (m : Int)) = true := by rw [bne, h3]; rfl
    clear hb h1 h2
    go_enter Tryz.func33, Tryz.ntmps33
    go_wp2_with fail
    go_ret
    exact ⟨rfl, 0, rfl⟩
theorem blk_no {I : Itr} {i p t k : Nat} (hk : k < p) (h : sameAt I (i + k) (i + t * p + k) = false) : ¬ BlkI I i p t := fun hb => by
  have := hb k hk
  rw [h] at this
  cases this
end Go.Proofs.YtgoeikihjffeoaaGreat
