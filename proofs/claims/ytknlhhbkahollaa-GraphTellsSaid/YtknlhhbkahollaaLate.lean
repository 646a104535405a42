/- When the next one runs: how late, at worst, by the document's own answer. -/
import Derived.Test.YtknlhhbkahollaaWords
namespace Go.Proofs.Ytknlhhbkahollaa
open Go.RowKit Tab
set_option linter.unusedSimpArgs false
set_option linter.unusedVariables false

/-- From the tick t on, round, the first one behind it that is of q. -/
def distF (W : List Int) (q : Int) (t : Nat) : Nat → Nat → Nat
  | 0, d => d
  | f + 1, d => if W[(t + d) % W.length]? = some q then d else distF W q t f (d + 1)
def dist (W : List Int) (q : Int) (t : Nat) : Nat := distF W q t W.length 1
/-- The worst of the first k ticks of p. -/
def lateW (W : List Int) (p q : Int) : Nat → Nat
  | 0 => 0
  | k + 1 => if W[k]? = some p then max (lateW W p q k) (dist W q k) else lateW W p q k
def hasL (q : Int) : List Int → Bool
  | [] => false
  | x :: l => decide (x = q) || hasL q l
def lateL (W : List Int) (p q : Int) : Int := if hasL p W = false then 0 else if hasL q W = false then -1 else (lateW W p q W.length : Int)
theorem hasL_append (q : Int) (a b : List Int) : hasL q (a ++ b) = (hasL q a || hasL q b) := by
  induction a with
  | nil => rfl
  | cons x a ih => simp only [List.cons_append, hasL, ih, Bool.or_assoc]
theorem hasL_more {W : List Int} {i : Nat} {x : Int} (q : Int) (h : W[i]? = some x) : hasL q (W.take (i + 1)) = (hasL q (W.take i) || decide (x = q)) := by
  obtain ⟨hi, e⟩ := List.getElem?_eq_some_iff.1 h
  rw [List.take_succ_eq_append_getElem hi, hasL_append, e]
  simp [hasL]
theorem hasL_get {W : List Int} {q : Int} (h : hasL q W = true) : ∃ i, i < W.length ∧ W[i]? = some q := by
  induction W with
  | nil => cases h
  | cons x W ih =>
    simp only [hasL, Bool.or_eq_true, decide_eq_true_eq] at h
    rcases h with rfl | h
    · exact ⟨0, by simp, rfl⟩
    · obtain ⟨i, hi, e⟩ := ih h
      exact ⟨i + 1, by simp only [List.length_cons]; omega, by simpa using e⟩
/-- Within a round there is one. -/
theorem dist_ex {W : List Int} {q : Int} (h : hasL q W = true) (t : Nat) : ∃ e, 1 ≤ e ∧ e ≤ W.length ∧ W[(t + e) % W.length]? = some q := by
  obtain ⟨i, hi, e⟩ := hasL_get h
  have hn : 0 < W.length := by omega
  have h1 := Nat.mod_lt t hn
  have h2 := Nat.div_add_mod t W.length
  by_cases hlt : t % W.length < i
  · refine ⟨i - t % W.length, by omega, by omega, ?_⟩
    have h3 : (t + (i - t % W.length)) % W.length = i := by
      have h4 : t + (i - t % W.length) = i + W.length * (t / W.length) := by omega
      rw [h4, Nat.add_mul_mod_self_left, Nat.mod_eq_of_lt hi]
    rw [h3]
    exact e
  · refine ⟨W.length + i - t % W.length, by omega, by omega, ?_⟩
    have h3 : (t + (W.length + i - t % W.length)) % W.length = i := by
      have h4 : t + (W.length + i - t % W.length) = i + W.length * (t / W.length + 1) := by
        rw [Nat.mul_add, Nat.mul_one]
        omega
      rw [h4, Nat.add_mul_mod_self_left, Nat.mod_eq_of_lt hi]
    rw [h3]
    exact e
theorem distF_yes {W : List Int} {q : Int} {t f d : Nat} (h : W[(t + d) % W.length]? = some q) : distF W q t f d = d := by
  cases f with
  | zero => rfl
  | succ f => simp only [distF]; rw [if_pos h]
theorem distF_no {W : List Int} {q : Int} {t f d : Nat} (h : ¬ W[(t + d) % W.length]? = some q) : distF W q t (f + 1) d = distF W q t f (d + 1) := by simp only [distF]; rw [if_neg h]
set_option maxRecDepth 100000 in
set_option maxHeartbeats 4000000 in
theorem late_any (A : Option Addr) (n cap : Nat) (L : List Rn) (p q : Int) (w : World) (h : RdR w w.heap.size A n L) (hc : n ≤ cap) (hn : n ≤ 1048576) (ht : ticks L ≤ 8192) :
    Calls Try.prog 41 #[.slice A n cap, .int .i64 p, .int .i64 q] w (Ans (.int .i64 (lateL (wordsL L) p q)) w) := by
  have hW := words_any A n cap L w h hc hn ht
  have hl := wordsL_len L
  unfold MadI at hW
  generalize wordsL L = W at hW hl ⊢
  have hm : W.length ≤ 8192 := by omega
  have hlate0 : hasL p W = false → lateL W p q = 0 := fun e => if_pos e
  have hlate1 : hasL p W = true → hasL q W = false → lateL W p q = -1 := fun e e2 => by unfold lateL; rw [if_neg (by rw [e]; simp), if_pos e2]
  have hlate2 : hasL p W = true → hasL q W = true → lateL W p q = (lateW W p q W.length : Int) := fun e e2 => by unfold lateL; rw [if_neg (by rw [e]; simp), if_neg (by rw [e2]; simp)]
  generalize lateL W p q = R at hlate0 hlate1 hlate2 ⊢
  generalize hM : W.length = m at hW hm hlate2
  have HM := Lib.hid hM
  have HW := Lib.hid hW
  have HL0 := Lib.hid hlate0
  have HL1 := Lib.hid hlate1
  have HL2 := Lib.hid hlate2
  clear hW hlate0 hlate1 hlate2 hM h hl
  go_enter Try.func41, Try.ntmps41
  go_wp2_with fail
  refine HW.out.mono ?_
  rintro e w1 ⟨A1, c1, rfl, hr1, hc1, hb1⟩
  go_wp2_with fail
  go_loopw [9, 10, 12, 20] (fun s9 s10 _ s wr => ∃ i : Nat, i ≤ m ∧ s = .int .i64 i ∧ s9 = .bool (hasL q (W.take i)) ∧ s10 = .bool (hasL p (W.take i)) ∧ wr = w1) (fun _ _ _ s _ => m - (intOf s).toNat)
  case atStart => exact ⟨0, by omega, rfl, rfl, rfl, rfl⟩
  case round =>
    obtain ⟨i, hi, rfl, rfl, rfl, hw⟩ := hrel
    have hw' := hw.symm
    clear hw
    subst hw'
    by_cases hlt : i < m
    · obtain ⟨ad, x, rfl, had, hx, c0⟩ := hr1.at_ hlt
      have e1 := hasL_more q hx
      have e2 := hasL_more p hx
      have E1 := Lib.hid e1
      have E2 := Lib.hid e2
      clear e1 e2 hx
      generalize hasL q (W.take i) = b1 at E1 ⊢
      generalize hasL p (W.take i) = b2 at E2 ⊢
      have f1 : (x == q) = decide (x = q) := rfl
      have f2 : (x == p) = decide (x = p) := rfl
      cases b1 <;> cases b2 <;>
        (go_wp2_with fail
         go_roundw
         case rel => exact ⟨i + 1, by omega, by go_num, by rw [E1.out]; simp, by rw [E2.out]; simp, trivial⟩
         case measure => simp [intOf]; omega)
    · have hge : m ≤ i := by omega
      have e : W.take i = W := List.take_of_length_le (by rw [HM.out]; exact hge)
      rw [e]
      clear e
      cases hp : hasL p W with
      | false =>
        have e := HL0.out hp
        subst e
        go_wp2_with fail
        go_ret
        exact ⟨rfl, hb1⟩
      | true =>
        cases hq : hasL q W with
        | false =>
          have e := HL1.out hp hq
          subst e
          go_wp2_with fail
          go_ret
          exact ⟨rfl, hb1⟩
        | true =>
          have e := HL2.out hp hq
          have HE := Lib.hid e
          have HEX := Lib.hid fun t => dist_ex hq t
          clear e hp hq HL0 HL1 HL2
          go_wp2_with fail
          go_loopw [8, 13, 14, 15, 43] (fun s8 _ _ _ s wr => ∃ t k : Nat, t ≤ m ∧ s = .int .i64 t ∧ s8 = .int .i64 k ∧ k = lateW W p q t ∧ k ≤ m ∧ wr = w1) (fun _ _ _ _ s _ => m - (intOf s).toNat)
          case atStart => exact ⟨0, 0, by omega, rfl, rfl, rfl, by omega, rfl⟩
          case round =>
            obtain ⟨t, k, ht, rfl, rfl, hk, hkm, hw⟩ := hrel
            have hw' := hw.symm
            clear hw
            subst hw'
            have HK := Lib.hid hk
            clear hk
            by_cases hlt : t < m
            · obtain ⟨ad, x, rfl, had, hx, c0⟩ := hr1.at_ hlt
              have HX := Lib.hid hx
              clear hx
              by_cases hxp : x = p
              · subst hxp
                have hne : (x != x) = false := by simp
                go_wp2_with fail
                go_loopw [15] (fun s wr => ∃ d f : Nat, 1 ≤ d ∧ d + f = m + 1 ∧ s = .int .i64 d ∧ distF W q t f d = dist W q t ∧ (∃ e, d ≤ e ∧ e ≤ m ∧ W[(t + e) % m]? = some q) ∧ wr = w1) (fun s _ => m + 1 - (intOf s).toNat)
                case atStart =>
                  obtain ⟨e, h1, h2, h3⟩ := HEX.out t
                  rw [HM.out] at h2 h3
                  exact ⟨1, m, by omega, by omega, rfl, by unfold dist; rw [HM.out], ⟨e, h1, h2, h3⟩, rfl⟩
                case round =>
                  obtain ⟨d, f, hd1, hdf, rfl, hdist, hex, hw⟩ := hrel
                  have hw' := hw.symm
                  clear hw
                  subst hw'
                  have hdm : d ≤ m := by obtain ⟨e, h1, h2, _⟩ := hex; omega
                  obtain ⟨r, hr⟩ : ∃ r, r = (t + d) % m := ⟨_, rfl⟩
                  have hrm : r < m := by rw [hr]; exact Nat.mod_lt _ (by omega)
                  obtain ⟨ad2, y, e2, _, hy, d0⟩ := hr1.at_ hrm
                  injection e2 with e2
                  subst e2
                  have hr2 : ((t : Int) + (d : Int)) % (m : Int) = (r : Int) := by rw [hr, Int.natCast_emod]; rfl
                  have hr3 : ((t : Int) + (d : Int)).tmod (m : Int) = (r : Int) := by rw [Int.tmod_eq_emod_of_nonneg (by omega)]; exact hr2
                  have HD := Lib.hid hdist
                  have HX2 := Lib.hid hex
                  have HY := Lib.hid hy
                  have HRR := Lib.hid hr
                  have hm0 : ¬ m = 0 := by omega
                  clear hdist hex hy hr
                  by_cases hyq : y = q
                  · subst hyq
                    have hne2 : (y != y) = false := by simp
                    have hdd : distF W y t f d = d := distF_yes (by rw [HM.out, ← HRR.out]; exact HY.out)
                    have hD := HD.out
                    rw [hdd] at hD
                    have HD2 := Lib.hid hD
                    have hx1 : max (k : Int) (d : Int) = ((max k d : Nat) : Int) := by omega
                    have HLW : Hid (max k d = lateW W x y (t + 1)) := Lib.hid (by simp only [lateW]; rw [if_pos HX.out, HK.out, hD])
                    have hmx : max k d ≤ m := by omega
                    clear hD hdd HD
                    go_wp2_with fail
                    go_roundw
                    case rel => exact ⟨t + 1, max k d, by omega, by go_num, by congr 1; split <;> omega, HLW.out, hmx, trivial⟩
                    case measure => simp [intOf]; omega
                  · have hne2 : (y != q) = true := bne_iff_ne.2 hyq
                    have hno : ¬ W[(t + d) % W.length]? = some q := by
                      rw [HM.out, ← HRR.out, HY.out]
                      intro e
                      injection e with e
                      exact hyq e
                    have hx2 : ∃ e, d + 1 ≤ e ∧ e ≤ m ∧ W[(t + e) % m]? = some q := by
                      obtain ⟨e, h1, h2, h3⟩ := HX2.out
                      refine ⟨e, ?_, h2, h3⟩
                      rcases Nat.lt_or_ge d e with h4 | h4
                      · exact h4
                      · have : e = d := by omega
                        subst this
                        rw [HM.out] at hno
                        exact absurd h3 hno
                    obtain ⟨f', rfl⟩ : ∃ f', f = f' + 1 := ⟨f - 1, by obtain ⟨e, h1, h2, _⟩ := hx2; omega⟩
                    have hD := HD.out
                    rw [distF_no hno] at hD
                    have HD2 := Lib.hid hD
                    have HX3 := Lib.hid hx2
                    clear hD HD hno hx2 HX2
                    go_wp2_with fail
                    go_roundw
                    case rel => exact ⟨d + 1, f', by omega, by omega, by go_num, HD2.out, HX3.out, trivial⟩
                    case measure => simp [intOf]; omega
              · have hne : (x != p) = true := bne_iff_ne.2 hxp
                have HLW : Hid (k = lateW W p q (t + 1)) := Lib.hid (by
                  simp only [lateW]
                  rw [if_neg (by rw [HX.out]; intro e; injection e with e; exact hxp e)]
                  exact HK.out)
                go_wp2_with fail
                go_roundw
                case rel => exact ⟨t + 1, k, by omega, by go_num, rfl, HLW.out, hkm, trivial⟩
                case measure => simp [intOf]; omega
            · obtain rfl : t = m := by omega
              have hR : R = (k : Int) := by rw [HE.out, HK.out]
              have HR := Lib.hid hR
              clear hR
              go_wp2_with fail
              go_ret
              exact ⟨by rw [HR.out]; rfl, hb1⟩
end Go.Proofs.Ytknlhhbkahollaa
