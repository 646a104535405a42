/- How deep a table goes, how many ticks it has, by the document's own answer. -/
import Derived.Test.YtknlhhbkahollaaRkids
namespace Go.Proofs.Ytknlhhbkahollaa
open Go.RowKit Tab
set_option linter.unusedSimpArgs false
set_option linter.unusedVariables false

theorem kids_at {l t : List Nd} {p : Nat} {x : Nd} {k r : F} (hok : (F.cons x k r).ok) (hl : l.drop p = (F.cons x k r).flat ++ t) : kids l (p : Int) = plc l (p + 1) k.cnt ∧ p + 1 + k.sz ≤ l.length ∧ l.drop (p + 1) = k.flat ++ (r.flat ++ t) ∧ l[p]? = some x := by
  have hs := size_at hok hl
  have hx : l[p]? = some x := by
    have : (l.drop p)[0]? = some x := by rw [hl]; rfl
    simpa using this
  have hd : l.drop (p + 1) = k.flat ++ (r.flat ++ t) := by
    rw [← List.drop_drop, hl]
    simp [F.flat]
  refine ⟨?_, ?_, hd, hx⟩
  · unfold kids
    rw [if_neg (by omega), Int.toNat_natCast, hx, hok.2.1]
    rfl
  · have := congrArg List.length hl
    rw [List.length_drop, List.length_append, F.flat_length] at this
    simp only [F.sz] at this
    omega
theorem plc_get (l : List Nd) (p m i : Nat) (h : i < m) : (plc l p m)[i]? = some (pos l p i : Int) := by
  simp [plc, h]
set_option maxRecDepth 100000 in
set_option maxHeartbeats 1600000 in
theorem rdepth_any (A : Option Addr) (n cap : Nat) (l : List Nd) (hc : n ≤ cap) (hn : n ≤ 1099511627776) (M : Nat) : ∀ (p : Nat) (x : Nd) (k r : F) (t : List Nd) (w : World), k.sz < M → RdN w w.heap.size A n l → (F.cons x k r).ok → l.drop p = (F.cons x k r).flat ++ t →
    Calls Try.prog 60 #[.slice A n cap, .int .i64 p] w (Ans (.int .i64 (k.dep + 1 : Nat)) w) := by
  induction M with
  | zero => intro p x k r t w h; omega
  | succ M ih =>
    intro p x k r t w hM h hok hl
    obtain ⟨hk, hfit, hd, hx⟩ := kids_at hok hl
    have hlen := h.len
    rw [hlen] at hfit
    have hm : k.cnt ≤ n := by have := F.cnt_le_sz k; omega
    have HPD := Lib.hid fun j hj => pos_dr hok.2.2.1 hd (by omega) j hj
    have hkok := Lib.hid hok.2.2.1
    generalize hmd : k.cnt = m at hk hm HPD
    have hp63 : (p : Int) ≤ 1099511627776 := by omega
    have hdz := F.dep_le_sz k
    have HM := Lib.hid hmd
    have HK := Lib.hid hk
    have HIH := Lib.hid ih
    clear hk hmd hl hd hx hlen hok ih
    go_enter Try.func60, Try.ntmps60
    go_wp2_with fail
    refine (rkids_any A n cap l (p : Int) w h hc hn (by omega) (by omega)).mono ?_
    rw [HK.out]
    rintro e w1 ⟨A1, n1, c1, rfl, hr1, hc1, hb1⟩
    have hn1 : n1 = m := by have := hr1.len; simp [plc] at this; omega
    subst hn1
    go_wp2_with fail
    go_loopw [5, 12] (fun d s wr => ∃ (i e : Nat), i ≤ n1 ∧ s = .int .i64 i ∧ d = .int .i64 e ∧ max e (F.dr i k).dep = k.dep ∧ Below w1.heap.size w1 wr) (fun _ s _ => n1 - (intOf s).toNat)
    case atStart => exact ⟨0, 0, by omega, rfl, rfl, by simp [F.dr], Below.refl _ _⟩
    case round =>
      obtain ⟨i, e, hi, rfl, rfl, he, hb⟩ := hrel
      have HE := Lib.hid he
      have he2 : e ≤ k.dep := by omega
      clear he
      by_cases hlt : i < n1
      · obtain ⟨hd, hsz, hp1, hp2⟩ := HPD.out i (by omega)
        obtain ⟨y, ky, r', ed⟩ := dr_cons (f := k) (j := i) (by have := HM.out; omega)
        have hok' := dr_ok hkok.out i
        have ed2 := dr_succ ed
        rw [ed] at hd hsz hok'
        have hky : ky.sz < M := by simp only [F.sz] at hsz; omega
        have hdep : max e (max (ky.dep + 1) r'.dep) = k.dep := by have := HE.out; rw [ed] at this; exact this
        have hget := plc_get l (p + 1) n1 i hlt
        have HED := Lib.hid ed2
        have HDEP := Lib.hid hdep
        clear hsz ed ed2
        generalize pos l (p + 1) i = P at hd hp1 hp2 hget
        have hky2 : ky.dep + 1 ≤ k.dep := by omega
        obtain ⟨adk, z, rfl, _, hz, hcell⟩ := (hr1.on hb).at_ hlt
        rw [hget] at hz
        injection hz with hz
        subst hz
        clear hget
        have k1 := hb1.trans (hb.mono hb1.size)
        go_wp2_with fail
        refine (HIH.out P y ky r' _ wr hky (h.on k1) hok' hd).mono ?_
        rintro e2 w4 ⟨rfl, hb4⟩
        go_wp2_with fail
        go_roundw
        case rel => exact ⟨i + 1, max e (ky.dep + 1), by omega, by go_num, ret_num (by split <;> omega), by rw [HED.out]; have := HDEP.out; omega, hb.trans (hb4.mono hb.size)⟩
        case measure => simp [intOf]; omega
      · have hge : n1 ≤ i := by omega
        go_wp2_with fail
        go_ret
        refine Ans.mk (ret_num (b := (e : Int) + 1) ?_) (hb1.trans (hb.mono hb1.size))
        have e1 := HE.out
        have e2 : F.dr i k = .nil := by rw [show i = k.cnt by have := HM.out; omega]; exact dr_all k
        rw [e2] at e1
        simp only [F.dep] at e1
        omega
/-- Ticks, held. -/
def hl4 (a : Nat) : Nat := min a 4097
theorem hl4_add (a b : Nat) : hl4 (hl4 a + b) = hl4 (a + b) := by unfold hl4; omega
theorem hl4_mul (a b : Nat) (ha : 1 ≤ a) (hb : 1 ≤ b) : hl4 (hl4 a * hl4 b) = hl4 (a * b) := by
  unfold hl4
  by_cases h1 : a ≤ 4097
  · rw [Nat.min_eq_left h1]
    by_cases h2 : b ≤ 4097
    · rw [Nat.min_eq_left h2]
    · rw [Nat.min_eq_right (by omega : 4097 ≤ b)]
      have h3 : 1 * 4097 ≤ a * 4097 := Nat.mul_le_mul_right _ ha
      have h4 : a * 4097 ≤ a * b := Nat.mul_le_mul_left _ (by omega)
      omega
  · rw [Nat.min_eq_right (by omega : 4097 ≤ a)]
    have h3 : 4097 * 1 ≤ 4097 * min b 4097 := Nat.mul_le_mul_left _ (by omega)
    have h4 : 4097 * 1 ≤ 4097 * b := Nat.mul_le_mul_left _ hb
    have h5 : 4097 * b ≤ a * b := Nat.mul_le_mul_right _ (by omega)
    omega
set_option maxRecDepth 100000 in
set_option maxHeartbeats 1600000 in
theorem rlength_any (A : Option Addr) (n cap : Nat) (l : List Nd) (hc : n ≤ cap) (hn : n ≤ 1099511627776) (M : Nat) : ∀ (p : Nat) (x : Nd) (k r : F) (t : List Nd) (w : World), k.sz < M → RdN w w.heap.size A n l → (F.cons x k r).ok → l.drop p = (F.cons x k r).flat ++ t →
    Calls Try.prog 61 #[.slice A n cap, .int .i64 p] w (Ans (.int .i64 (hl4 (F.tick x k.len) : Nat)) w) := by
  induction M with
  | zero => intro p x k r t w h; omega
  | succ M ih =>
    intro p x k r t w hM h hok hl
    obtain ⟨hk, hfit, hd, hx⟩ := kids_at hok hl
    have hlen := h.len
    rw [hlen] at hfit
    have hm : k.cnt ≤ n := by have := F.cnt_le_sz k; omega
    have HPD := Lib.hid fun j hj => pos_dr hok.2.2.1 hd (by omega) j hj
    have hkok := Lib.hid hok
    generalize hmd : k.cnt = m at hk hm HPD
    have hp63 : (p : Int) ≤ 1099511627776 := by omega
    have hpn : p < n := by omega
    have HM := Lib.hid hmd
    have HK := Lib.hid hk
    have HX := Lib.hid hx
    have HIH := Lib.hid ih
    clear hk hmd hl hd hx hlen hok ih
    go_enter Try.func61, Try.ntmps61
    go_wp2_with fail
    refine (rkids_any A n cap l (p : Int) w h hc hn (by omega) (by omega)).mono ?_
    rw [HK.out]
    rintro e w1 ⟨A1, n1, c1, rfl, hr1, hc1, hb1⟩
    have hn1 : n1 = m := by have := hr1.len; simp [plc] at this; omega
    subst hn1
    go_wp2_with fail
    go_loopw [5, 12] (fun d s wr => ∃ (i e : Nat), i ≤ n1 ∧ s = .int .i64 i ∧ d = .int .i64 e ∧ e ≤ 4097 ∧ hl4 (e + (F.dr i k).len) = hl4 k.len ∧ Below w1.heap.size w1 wr) (fun _ s _ => n1 - (intOf s).toNat)
    case atStart => exact ⟨0, 0, by omega, rfl, rfl, by omega, by simp [F.dr], Below.refl _ _⟩
    case round =>
      obtain ⟨i, e, hi, rfl, rfl, he2, he, hb⟩ := hrel
      have HE := Lib.hid he
      clear he
      have k1 := hb1.trans (hb.mono hb1.size)
      by_cases hlt : i < n1
      · obtain ⟨hd, hsz, hp1, hp2⟩ := HPD.out i (by omega)
        obtain ⟨y, ky, r', ed⟩ := dr_cons (f := k) (j := i) (by have := HM.out; omega)
        have hok' := dr_ok hkok.out.2.2.1 i
        have ed2 := dr_succ ed
        rw [ed] at hd hsz hok'
        have hky : ky.sz < M := by simp only [F.sz] at hsz; omega
        have hdep : hl4 (e + (F.tick y ky.len + r'.len)) = hl4 k.len := by have := HE.out; rw [ed] at this; exact this
        have hget := plc_get l (p + 1) n1 i hlt
        have HED := Lib.hid ed2
        have HDEP := Lib.hid hdep
        clear hsz ed ed2 hdep
        generalize pos l (p + 1) i = P at hd hp1 hp2 hget
        obtain ⟨adk, z, rfl, _, hz, hcell⟩ := (hr1.on hb).at_ hlt
        rw [hget] at hz
        injection hz with hz
        subst hz
        clear hget
        have hb4097 : hl4 (F.tick y ky.len) ≤ 4097 := by unfold hl4; omega
        go_wp2_with fail
        refine (HIH.out P y ky r' _ wr hky (h.on k1) hok' hd).mono ?_
        generalize hV : hl4 (F.tick y ky.len) = V at hb4097 ⊢
        have HV := Lib.hid hV
        clear hV
        rintro e2 w4 ⟨rfl, hb4⟩
        go_wp2_with fail
        go_roundw
        case rel =>
          refine ⟨i + 1, min (e + V) 4097, by omega, by go_num, ret_num (by split <;> omega), by omega, ?_, hb.trans (hb4.mono hb.size)⟩
          rw [HED.out, ← HDEP.out]
          have := HV.out
          unfold hl4 at *
          omega
        case measure => simp [intOf]; omega
      · have hge : n1 ≤ i := by omega
        have e2 : F.dr i k = .nil := by rw [show i = k.cnt by have := HM.out; omega]; exact dr_all k
        have e1 := HE.out
        rw [e2] at e1
        have e3 : e = hl4 k.len := by simp only [F.len, hl4] at e1 ⊢; omega
        have HE3 := Lib.hid e3
        clear e1 e2 e3
        obtain ⟨ad, x', rfl, _, hx', hin, c0, c1, c2⟩ := (h.on k1).at_ hpn
        obtain ⟨xk, xp, xn⟩ := x'
        rw [HX.out] at hx'
        injection hx' with hx'
        subst hx'
        have h1n : 1 ≤ xn := fine_one hkok.out.1
        have hkc : Hid (k.cnt = kn ⟨xk, xp, xn⟩) := Lib.hid hkok.out.2.1
        have hkp : Hid k.ok := Lib.hid hkok.out.2.2.1
        have hx2 : xn ≤ 9223372036854775807 := hin.2.2.2
        clear hin hr1
        by_cases h3 : xk = 3
        · subst h3
          go_wp2_with fail
          go_ret
          refine Ans.mk (ret_num (b := (e : Int)) ?_) k1
          rw [HE3.out]
          rfl
        · by_cases h4 : xk = 4
          · subst h4
            have hlp : 1 ≤ k.len := F.len_pos hkp.out (by rw [hkc.out]; exact Nat.one_pos)
            have htk : F.tick ⟨4, xp, xn⟩ k.len = k.len * xn.toNat := rfl
            have hfin : ∀ z : Nat, z = min xn.toNat 4097 → hl4 (e * z) = hl4 (k.len * xn.toNat) := fun z hz => by
              rw [hz, HE3.out]
              exact hl4_mul _ _ hlp (by omega)
            have HF := Lib.hid hfin
            have HT := Lib.hid htk
            clear hfin htk h3
            by_cases hN : 4097 < xn
            · have hpr : (0 : Int) ≤ (e : Int) * 4097 := by omega
              go_wp2_with fail
              all_goals
                go_ret
                refine Ans.mk ?_ k1
                refine ret_num ?_
                rw [HT.out, ← HF.out 4097 (by omega)]
                unfold hl4
                omega
            · obtain ⟨N, rfl⟩ := Int.eq_ofNat_of_zero_le (show 0 ≤ xn by omega)
              have hN2 : N ≤ 4097 := by omega
              have h0 : e * N ≤ 4097 * 4097 := Nat.mul_le_mul he2 hN2
              have hpr : (0 : Int) ≤ (e : Int) * (N : Int) := Int.mul_nonneg (by omega) (by omega)
              have hpr2 : (e : Int) * (N : Int) ≤ 16785409 := (Int.natCast_mul e N) ▸ (show ((e * N : Nat) : Int) ≤ 16785409 by omega)
              clear h0
              go_wp2_with fail
              all_goals
                go_ret
                refine Ans.mk ?_ k1
                refine ret_num ?_
                rw [HT.out, ← HF.out N (by omega)]
                unfold hl4
                rw [← Int.natCast_mul] at *
                omega
          · have h3' : (xk == 3) = false := beq_eq_false_iff_ne.2 h3
            have h4' : (xk == 4) = false := beq_eq_false_iff_ne.2 h4
            have htk : F.tick ⟨xk, xp, xn⟩ k.len = xn.toNat := by unfold F.tick; rw [if_neg h3, if_neg h4]
            have HT := Lib.hid htk
            clear htk h3 h4
            go_wp2_with fail
            all_goals
              go_ret
              refine Ans.mk ?_ k1
              refine ret_num ?_
              rw [HT.out]
              unfold hl4
              omega
end Go.Proofs.Ytknlhhbkahollaa
