import Derived.Test.YtdkngfdnfekgfaaGreatLod24
import Derived.Test.YtdkngfdnfekgfaaGreatLod6
import Derived.Test.YtdkngfdnfekgfaaGreatLod11
import Derived.Laws.StructEq
import Derived.BigQuiet
import Derived.Test.YtdkngfdnfekgfaaGreatLod10
import Derived.Laws.MakeOwn
import Derived.Laws.OwnMore
namespace Go.Proofs.YtdkngfdnfekgfaaGreat
namespace Tab
set_option linter.unusedSimpArgs false
set_option linter.unusedVariables false
def runI (I : Itr) (p i : Nat) : Nat := fwdI I p I.length i
def timI (I : Itr) (i p : Nat) : Nat := (runI I p i - i) / p + 1
def savA (I : Itr) (i p : Nat) : Int := savI ((I.drop i).take p) (timI I i p)
def Cand (I : Itr) (i p : Nat) : Prop := 1 ≤ p ∧ i + 2 * p ≤ I.length ∧ 2 ≤ timI I i p
def Beats (s : Bst) (v : Int) (j q : Nat) : Prop := v < s.most ∨ (v = s.most ∧ (s.at_ < j ∨ (s.at_ = j ∧ s.p ≤ q)))
def MadeBst (I : Itr) (s : Bst) : Prop := s = ⟨0, 0, 0, 0⟩ ∨ (Cand I s.at_ s.p ∧ s.n = timI I s.at_ s.p ∧ s.most = savA I s.at_ s.p ∧ 0 < s.most)
theorem MadeBst.nn {I : Itr} {s : Bst} (h : MadeBst I s) : 0 ≤ s.most := by
  rcases h with rfl | h
  · exact Int.le_refl _
  · have := h.2.2.2; omega
def Opt (I : Itr) (s : Bst) : Prop := MadeBst I s ∧ ∀ j q, Cand I j q → Beats s (savA I j q) j q
theorem Opt.same {I : Itr} {s t : Bst} (hs : Opt I s) (ht : Opt I t) : s = t := by
  obtain ⟨h1, h2⟩ := hs
  obtain ⟨h3, h4⟩ := ht
  rcases h1 with e1 | ⟨c1, n1, m1, p1⟩
  · rcases h3 with e3 | ⟨c3, n3, m3, p3⟩
    · rw [e1, e3]
    · exfalso
      have := h2 _ _ c3
      rw [← m3, e1] at this
      unfold Beats at this
      dsimp only at this
      omega
  · rcases h3 with e3 | ⟨c3, n3, m3, p3⟩
    · exfalso
      have := h4 _ _ c1
      rw [← m1, e3] at this
      unfold Beats at this
      dsimp only at this
      omega
    · have a := h2 _ _ c3
      have b := h4 _ _ c1
      rw [← m3] at a
      rw [← m1] at b
      unfold Beats at a b
      have e1 : s.most = t.most := by omega
      have e2 : s.at_ = t.at_ := by omega
      have e3 : s.p = t.p := by omega
      have e4 : s.n = t.n := by rw [n1, n3, e2, e3]
      obtain ⟨sm, sa, sp, sn⟩ := s
      obtain ⟨tm, ta, tp, tn⟩ := t
      dsimp only at e1 e2 e3 e4
      rw [e1, e2, e3, e4]
theorem Beats.far {s : Bst} {u v : Int} {i j q : Nat} (h : Beats s u i q) (hv : v ≤ u) (hij : i ≤ j) : Beats s v j q := by
  unfold Beats at h ⊢
  omega
end Tab
end Go.Proofs.YtdkngfdnfekgfaaGreat
namespace Go.Proofs.YtdkngfdnfekgfaaGreat
open Go.RowKit Tab
set_option linter.unusedSimpArgs false
set_option linter.unusedVariables false
def Qui (v : Value) (w : World) (e : Ending) (w' : World) : Prop := e = .returned v ∧ ∃ m, w' = w.drewN m
theorem Qui.sum {P : Program} {f : FuncId} {args : Array Value} {w : World} {q n : Nat} {v : Value} (h : Calls P f args (w.drewN (q + n)) (Qui v (w.drewN (q + n)))) : Calls P f args (w.drewN (q + n)) fun e w'' => e = .returned v ∧ ∃ m, w'' = w.drewN (q + m) :=
  h.mono fun _ _ ⟨he, m, hm⟩ => ⟨he, n + m, by rw [hm, World.drewN_drewN, Nat.add_assoc]⟩
theorem nd_neqs (x y : Nd) (W : World) : (binOp .neq 70 (nd x.k x.p x.n) (nd y.k y.p y.n)).run Tryz.prog W = .ok (.bool (!(ndEq x y))) W := by
  obtain ⟨a, b, c⟩ := x
  obtain ⟨d, e, f⟩ := y
  unfold ndEq
  by_cases h1 : a = d
  · by_cases h2 : b = e
    · by_cases h3 : c = f
      · subst h1; subst h2; subst h3
        simp [run_neq_struct, go_sem]
      · subst h1; subst h2
        simp [run_neq_struct, go_sem, h3]
    · subst h1
      simp [run_neq_struct, go_sem, h2]
  · simp [run_neq_struct, go_sem, h1]
end Go.Proofs.YtdkngfdnfekgfaaGreat
namespace Go.Proofs.YtdkngfdnfekgfaaGreat
open Go.RowKit Tab
set_option linter.unusedSimpArgs false
set_option linter.unusedVariables false
set_option maxRecDepth 100000 in
set_option maxHeartbeats 1600000 in
theorem rnodes_any (A1 A2 : Option Addr) (n m c1 c2 : Nat) (l1 l2 : List Nd) (w : World) (h1 : RdN w w.heap.size A1 n l1) (h2 : RdN w w.heap.size A2 m l2) (hn : n ≤ 140737488351232) :
    Calls Tryz.prog 38 #[.slice A1 n c1, .slice A2 m c2] w (Qui (.bool (sameN l1 l2)) w) := by
  by_cases hnm : n = m
  · subst hnm
    generalize hb : sameN l1 l2 = b
    have HB := Lib.hid hb
    clear hb
    go_enter Tryz.func38, Tryz.ntmps38
    go_wp2_with fail
    go_loopw [5, 13] (fun _ s wr => ∃ i q : Nat, i ≤ n ∧ s = .int .i64 i ∧ sameN (l1.drop i) (l2.drop i) = b ∧ wr = w.drewN q) (fun _ s _ => n - (intOf s).toNat)
    case atStart => exact ⟨0, 0, by omega, rfl, by simpa using HB.out, rfl⟩
    case round =>
      obtain ⟨i, q, hi, rfl, hs, rfl⟩ := hrel
      have HS := Lib.hid hs
      clear hs
      by_cases hlt : i < n
      · obtain ⟨ad, x, rfl, _, hx, hin, c0, c1', c2'⟩ := h1.at_ hlt
        obtain ⟨ad2, y, rfl, _, hy, hin2, d0, d1, d2⟩ := h2.at_ hlt
        have e1 := drop_cons hx
        have e2 := drop_cons hy
        have hst := HS.out
        rw [e1, e2] at hst
        simp only [sameN] at hst
        have HST := Lib.hid hst
        have hne := fun W => nd_neqs x y W
        obtain ⟨xk, xp, xn⟩ := x
        obtain ⟨yk, yp, yn⟩ := y
        dsimp only at c0 c1' c2' d0 d1 d2 hne
        clear hx hy hin hin2 e1 e2 hst HS
        generalize hE : ndEq ⟨xk, xp, xn⟩ ⟨yk, yp, yn⟩ = E at HST hne
        clear hE
        cases E with
        | true =>
          have hne : ∀ W, (binOp .neq 70 (nd xk xp xn) (nd yk yp yn)).run Tryz.prog W = .ok (.bool false) W := hne
          go_wp2_with fail
          go_quiet (fail)
          go_wp2_with fail
          go_roundw
          case rel => exact ⟨i + 1, q + nq, by omega, by go_num, by simpa using HST.out, rfl⟩
          case measure => simp [intOf]; omega
        | false =>
          have hne : ∀ W, (binOp .neq 70 (nd xk xp xn) (nd yk yp yn)).run Tryz.prog W = .ok (.bool true) W := hne
          go_wp2_with fail
          go_quiet (fail)
          go_wp2_with fail
          go_ret
          exact ⟨by have := HST.out; simp at this; rw [← this]; rfl, q + nq, by rw [World.drewN_drewN]⟩
      · have hge : n ≤ i := by omega
        have e1 : l1.drop i = [] := List.drop_eq_nil_of_le (by rw [h1.len]; exact hge)
        have e2 : l2.drop i = [] := List.drop_eq_nil_of_le (by rw [h2.len]; exact hge)
        have hst := HS.out
        rw [e1, e2] at hst
        have HST := Lib.hid hst
        clear hst HS e1 e2
        go_wp2_with fail
        go_ret
        exact ⟨by rw [← HST.out]; rfl, q, rfl⟩
  · have hb := sameN_len (a := l1) (b := l2) (by rw [h1.len, h2.len]; exact hnm)
    rw [hb]
    have h3 : ((n : Int) == (m : Int)) = false := beq_eq_false_iff_ne.2 (by omega)
    have h4 : ((n : Int) != (m : Int)) = true := by rw [bne, h3]; rfl
    clear hb h1 h2
    go_enter Tryz.func38, Tryz.ntmps38
    go_wp2_with fail
    go_ret
    exact ⟨rfl, 0, rfl⟩
end Go.Proofs.YtdkngfdnfekgfaaGreat
