/- Contracts and mathematics that the texts behind it stand on: Rdeep, Rleaves, Inv, Times, Len, Right, Next, Table, Curm. -/
import Derived.Test.YtoaocdmcjjohgaaLow2
import Derived.Orders
import Derived.RegionTactic
import Derived.Below
import Derived.Test.YtoaocdmcjjohgaaLow1
import Derived.Great.BuildSlice
import Derived.IntWalk
import Derived.BigQuiet
import Derived.Deep.QuietTactic
import Derived.StillTailTactics
/- How deep a table goes, how many ticks it has, by the document's own answer. -/
namespace Go.Proofs.Ytoaocdmcjjohgaa
open Go.RowKit Tab
set_option linter.unusedSimpArgs false
set_option linter.unusedVariables false

theorem kids_at {l t : List Nd} {p : Nat} {x : Nd} {k r : F} (hok : (F.cons x k r).ok) (hl : l.drop p = (F.cons x k r).flat ++ t) : kids l (p : Int) = plc l (p + 1) k.cnt ∧ p + 1 + k.sz ≤ l.length ∧ l.drop (p + 1) = k.flat ++ (r.flat ++ t) ∧ l[p]? = some x := by
  have hs := size_at hok hl
  have hx : l[p]? = some x := by
    have : (l.drop p)[0]? = some x := by rw [hl]; rfl
    simpa using this
  have hd : l.drop (p + 1) = k.flat ++ (r.flat ++ t) := by
    rw [← List.drop_drop, hl]
    simp [F.flat]
  refine ⟨?_, ?_, hd, hx⟩
  · unfold kids
    rw [if_neg (by omega), Int.toNat_natCast, hx, hok.2.1]
    rfl
  · have := congrArg List.length hl
    rw [List.length_drop, List.length_append, F.flat_length] at this
    simp only [F.sz] at this
    omega
theorem plc_get (l : List Nd) (p m i : Nat) (h : i < m) : (plc l p m)[i]? = some (pos l p i : Int) := by
  simp [plc, h]
set_option maxRecDepth 100000 in
set_option maxHeartbeats 1600000 in
theorem rdepth_any (A : Option Addr) (n cap : Nat) (l : List Nd) (hc : n ≤ cap) (hn : n ≤ 1099511627776) (M : Nat) : ∀ (p : Nat) (x : Nd) (k r : F) (t : List Nd) (w : World), k.sz < M → RdN w w.heap.size A n l → (F.cons x k r).ok → l.drop p = (F.cons x k r).flat ++ t →
    Calls Try.prog 67 #[.slice A n cap, .int .i64 p] w (Ans (.int .i64 (k.dep + 1 : Nat)) w) := by
  induction M with
  | zero => intro p x k r t w h; omega
  | succ M ih =>
    intro p x k r t w hM h hok hl
    obtain ⟨hk, hfit, hd, hx⟩ := kids_at hok hl
    have hlen := h.len
    rw [hlen] at hfit
    have hm : k.cnt ≤ n := by have := F.cnt_le_sz k; omega
    have HPD := Lib.hid fun j hj => pos_dr hok.2.2.1 hd (by omega) j hj
    have hkok := Lib.hid hok.2.2.1
    generalize hmd : k.cnt = m at hk hm HPD
    have hp63 : (p : Int) ≤ 1099511627776 := by omega
    have hdz := F.dep_le_sz k
    have HM := Lib.hid hmd
    have HK := Lib.hid hk
    have HIH := Lib.hid ih
    clear hk hmd hl hd hx hlen hok ih
    go_enter Try.func67, Try.ntmps67
    go_wp2_with fail
    refine (rkids_any A n cap l (p : Int) w h hc hn (by omega) (by omega)).mono ?_
    rw [HK.out]
    rintro e w1 ⟨A1, n1, c1, rfl, hr1, hc1, hb1⟩
    have hn1 : n1 = m := by have := hr1.len; simp [plc] at this; omega
    subst hn1
    go_wp2_with fail
    go_loopw [5, 12] (fun d s wr => ∃ (i e : Nat), i ≤ n1 ∧ s = .int .i64 i ∧ d = .int .i64 e ∧ max e (F.dr i k).dep = k.dep ∧ Below w1.heap.size w1 wr) (fun _ s _ => n1 - (intOf s).toNat)
    case atStart => exact ⟨0, 0, by omega, rfl, rfl, by simp [F.dr], Below.refl _ _⟩
    case round =>
      obtain ⟨i, e, hi, rfl, rfl, he, hb⟩ := hrel
      have HE := Lib.hid he
      have he2 : e ≤ k.dep := by omega
      clear he
      by_cases hlt : i < n1
      · obtain ⟨hd, hsz, hp1, hp2⟩ := HPD.out i (by omega)
        obtain ⟨y, ky, r', ed⟩ := dr_cons (f := k) (j := i) (by have := HM.out; omega)
        have hok' := dr_ok hkok.out i
        have ed2 := dr_succ ed
        rw [ed] at hd hsz hok'
        have hky : ky.sz < M := by simp only [F.sz] at hsz; omega
        have hdep : max e (max (ky.dep + 1) r'.dep) = k.dep := by have := HE.out; rw [ed] at this; exact this
        have hget := plc_get l (p + 1) n1 i hlt
        have HED := Lib.hid ed2
        have HDEP := Lib.hid hdep
        clear hsz ed ed2
        generalize pos l (p + 1) i = P at hd hp1 hp2 hget
        have hky2 : ky.dep + 1 ≤ k.dep := by omega
        obtain ⟨adk, z, rfl, _, hz, hcell⟩ := (hr1.on hb).at_ hlt
        rw [hget] at hz
        injection hz with hz
        subst hz
        clear hget
        have k1 := hb1.trans (hb.mono hb1.size)
        go_wp2_with fail
        refine (HIH.out P y ky r' _ wr hky (h.on k1) hok' hd).mono ?_
        rintro e2 w4 ⟨rfl, hb4⟩
        go_wp2_with fail
        go_roundw
        case rel => exact ⟨i + 1, max e (ky.dep + 1), by omega, by go_num, ret_num (by split <;> omega), by rw [HED.out]; have := HDEP.out; omega, hb.trans (hb4.mono hb.size)⟩
        case measure => simp [intOf]; omega
      · have hge : n1 ≤ i := by omega
        go_wp2_with fail
        go_ret
        refine Ans.mk (ret_num (b := (e : Int) + 1) ?_) (hb1.trans (hb.mono hb1.size))
        have e1 := HE.out
        have e2 : F.dr i k = .nil := by rw [show i = k.cnt by have := HM.out; omega]; exact dr_all k
        rw [e2] at e1
        simp only [F.dep] at e1
        omega
/-- Ticks, held. -/
def hl4 (a : Nat) : Nat := min a 4097
theorem hl4_add (a b : Nat) : hl4 (hl4 a + b) = hl4 (a + b) := by unfold hl4; omega
theorem hl4_mul (a b : Nat) (ha : 1 ≤ a) (hb : 1 ≤ b) : hl4 (hl4 a * hl4 b) = hl4 (a * b) := by
  unfold hl4
  by_cases h1 : a ≤ 4097
  · rw [Nat.min_eq_left h1]
    by_cases h2 : b ≤ 4097
    · rw [Nat.min_eq_left h2]
    · rw [Nat.min_eq_right (by omega : 4097 ≤ b)]
      have h3 : 1 * 4097 ≤ a * 4097 := Nat.mul_le_mul_right _ ha
      have h4 : a * 4097 ≤ a * b := Nat.mul_le_mul_left _ (by omega)
      omega
  · rw [Nat.min_eq_right (by omega : 4097 ≤ a)]
    have h3 : 4097 * 1 ≤ 4097 * min b 4097 := Nat.mul_le_mul_left _ (by omega)
    have h4 : 4097 * 1 ≤ 4097 * b := Nat.mul_le_mul_left _ hb
    have h5 : 4097 * b ≤ a * b := Nat.mul_le_mul_right _ (by omega)
    omega
set_option maxRecDepth 100000 in
set_option maxHeartbeats 1600000 in
theorem rlength_any (A : Option Addr) (n cap : Nat) (l : List Nd) (hc : n ≤ cap) (hn : n ≤ 1099511627776) (M : Nat) : ∀ (p : Nat) (x : Nd) (k r : F) (t : List Nd) (w : World), k.sz < M → RdN w w.heap.size A n l → (F.cons x k r).ok → l.drop p = (F.cons x k r).flat ++ t →
    Calls Try.prog 68 #[.slice A n cap, .int .i64 p] w (Ans (.int .i64 (hl4 (F.tick x k.len) : Nat)) w) := by
  induction M with
  | zero => intro p x k r t w h; omega
  | succ M ih =>
    intro p x k r t w hM h hok hl
    obtain ⟨hk, hfit, hd, hx⟩ := kids_at hok hl
    have hlen := h.len
    rw [hlen] at hfit
    have hm : k.cnt ≤ n := by have := F.cnt_le_sz k; omega
    have HPD := Lib.hid fun j hj => pos_dr hok.2.2.1 hd (by omega) j hj
    have hkok := Lib.hid hok
    generalize hmd : k.cnt = m at hk hm HPD
    have hp63 : (p : Int) ≤ 1099511627776 := by omega
    have hpn : p < n := by omega
    have HM := Lib.hid hmd
    have HK := Lib.hid hk
    have HX := Lib.hid hx
    have HIH := Lib.hid ih
    clear hk hmd hl hd hx hlen hok ih
    go_enter Try.func68, Try.ntmps68
    go_wp2_with fail
    refine (rkids_any A n cap l (p : Int) w h hc hn (by omega) (by omega)).mono ?_
    rw [HK.out]
    rintro e w1 ⟨A1, n1, c1, rfl, hr1, hc1, hb1⟩
    have hn1 : n1 = m := by have := hr1.len; simp [plc] at this; omega
    subst hn1
    go_wp2_with fail
    go_loopw [5, 12] (fun d s wr => ∃ (i e : Nat), i ≤ n1 ∧ s = .int .i64 i ∧ d = .int .i64 e ∧ e ≤ 4097 ∧ hl4 (e + (F.dr i k).len) = hl4 k.len ∧ Below w1.heap.size w1 wr) (fun _ s _ => n1 - (intOf s).toNat)
    case atStart => exact ⟨0, 0, by omega, rfl, rfl, by omega, by simp [F.dr], Below.refl _ _⟩
    case round =>
      obtain ⟨i, e, hi, rfl, rfl, he2, he, hb⟩ := hrel
      have HE := Lib.hid he
      clear he
      have k1 := hb1.trans (hb.mono hb1.size)
      by_cases hlt : i < n1
      · obtain ⟨hd, hsz, hp1, hp2⟩ := HPD.out i (by omega)
        obtain ⟨y, ky, r', ed⟩ := dr_cons (f := k) (j := i) (by have := HM.out; omega)
        have hok' := dr_ok hkok.out.2.2.1 i
        have ed2 := dr_succ ed
        rw [ed] at hd hsz hok'
        have hky : ky.sz < M := by simp only [F.sz] at hsz; omega
        have hdep : hl4 (e + (F.tick y ky.len + r'.len)) = hl4 k.len := by have := HE.out; rw [ed] at this; exact this
        have hget := plc_get l (p + 1) n1 i hlt
        have HED := Lib.hid ed2
        have HDEP := Lib.hid hdep
        clear hsz ed ed2 hdep
        generalize pos l (p + 1) i = P at hd hp1 hp2 hget
        obtain ⟨adk, z, rfl, _, hz, hcell⟩ := (hr1.on hb).at_ hlt
        rw [hget] at hz
        injection hz with hz
        subst hz
        clear hget
        have hb4097 : hl4 (F.tick y ky.len) ≤ 4097 := by unfold hl4; omega
        go_wp2_with fail
        refine (HIH.out P y ky r' _ wr hky (h.on k1) hok' hd).mono ?_
        generalize hV : hl4 (F.tick y ky.len) = V at hb4097 ⊢
        have HV := Lib.hid hV
        clear hV
        rintro e2 w4 ⟨rfl, hb4⟩
        go_wp2_with fail
        go_roundw
        case rel =>
          refine ⟨i + 1, min (e + V) 4097, by omega, by go_num, ret_num (by split <;> omega), by omega, ?_, hb.trans (hb4.mono hb.size)⟩
          rw [HED.out, ← HDEP.out]
          have := HV.out
          unfold hl4 at *
          omega
        case measure => simp [intOf]; omega
      · have hge : n1 ≤ i := by omega
        have e2 : F.dr i k = .nil := by rw [show i = k.cnt by have := HM.out; omega]; exact dr_all k
        have e1 := HE.out
        rw [e2] at e1
        have e3 : e = hl4 k.len := by simp only [F.len, hl4] at e1 ⊢; omega
        have HE3 := Lib.hid e3
        clear e1 e2 e3
        obtain ⟨ad, x', rfl, _, hx', hin, c0, c1, c2⟩ := (h.on k1).at_ hpn
        obtain ⟨xk, xp, xn⟩ := x'
        rw [HX.out] at hx'
        injection hx' with hx'
        subst hx'
        have h1n : 1 ≤ xn := fine_one hkok.out.1
        have hkc : Hid (k.cnt = kn ⟨xk, xp, xn⟩) := Lib.hid hkok.out.2.1
        have hkp : Hid k.ok := Lib.hid hkok.out.2.2.1
        have hx2 : xn ≤ 9223372036854775807 := hin.2.2.2
        clear hin hr1
        by_cases h3 : xk = 3
        · subst h3
          go_wp2_with fail
          go_ret
          refine Ans.mk (ret_num (b := (e : Int)) ?_) k1
          rw [HE3.out]
          rfl
        · by_cases h4 : xk = 4
          · subst h4
            have hlp : 1 ≤ k.len := F.len_pos hkp.out (by rw [hkc.out]; exact Nat.one_pos)
            have htk : F.tick ⟨4, xp, xn⟩ k.len = k.len * xn.toNat := rfl
            have hfin : ∀ z : Nat, z = min xn.toNat 4097 → hl4 (e * z) = hl4 (k.len * xn.toNat) := fun z hz => by
              rw [hz, HE3.out]
              exact hl4_mul _ _ hlp (by omega)
            have HF := Lib.hid hfin
            have HT := Lib.hid htk
            clear hfin htk h3
            by_cases hN : 4097 < xn
            · have hpr : (0 : Int) ≤ (e : Int) * 4097 := by omega
              go_wp2_with fail
              all_goals
                go_ret
                refine Ans.mk ?_ k1
                refine ret_num ?_
                rw [HT.out, ← HF.out 4097 (by omega)]
                unfold hl4
                omega
            · obtain ⟨N, rfl⟩ := Int.eq_ofNat_of_zero_le (show 0 ≤ xn by omega)
              have hN2 : N ≤ 4097 := by omega
              have h0 : e * N ≤ 4097 * 4097 := Nat.mul_le_mul he2 hN2
              have hpr : (0 : Int) ≤ (e : Int) * (N : Int) := Int.mul_nonneg (by omega) (by omega)
              have hpr2 : (e : Int) * (N : Int) ≤ 16785409 := (Int.natCast_mul e N) ▸ (show ((e * N : Nat) : Int) ≤ 16785409 by omega)
              clear h0
              go_wp2_with fail
              all_goals
                go_ret
                refine Ans.mk ?_ k1
                refine ret_num ?_
                rw [HT.out, ← HF.out N (by omega)]
                unfold hl4
                rw [← Int.natCast_mul] at *
                omega
          · have h3' : (xk == 3) = false := beq_eq_false_iff_ne.2 h3
            have h4' : (xk == 4) = false := beq_eq_false_iff_ne.2 h4
            have htk : F.tick ⟨xk, xp, xn⟩ k.len = xn.toNat := by unfold F.tick; rw [if_neg h3, if_neg h4]
            have HT := Lib.hid htk
            clear htk h3 h4
            go_wp2_with fail
            all_goals
              go_ret
              refine Ans.mk ?_ k1
              refine ret_num ?_
              rw [HT.out]
              unfold hl4
              omega
end Go.Proofs.Ytoaocdmcjjohgaa

/- The leaves of a table, by the document's own answer. -/
namespace Go.Proofs.Ytoaocdmcjjohgaa
open Go.RowKit Tab
set_option linter.unusedSimpArgs false
set_option linter.unusedVariables false

/-- It answers the row with more behind it. -/
def MoreR (B : Nat) (A0 : Option Addr) (L : List Rn) (w : World) (e : Ending) (w' : World) : Prop := ∃ A c, e = .returned (.slice A L.length c) ∧ OwnV 39 2 w' B A L.length c (rs L) ∧ Below B w w' ∧ Grew A0 A w w'
theorem MoreR.mk {B : Nat} {L L' : List Rn} {w w' : World} {A0 A : Option Addr} {n c : Nat} (hL : L = L') (hn : n = L.length) (h : OwnV 39 2 w' B A n c (rs L)) (hb : Below B w w') (hg : Grew A0 A w w') : MoreR B A0 L' w (.returned (.slice A n c)) w' := by
  subst hL; subst hn
  exact ⟨A, c, rfl, h, hb, hg⟩
set_option maxRecDepth 100000 in
set_option maxHeartbeats 3200000 in
theorem leaf1_any (B : Nat) (A : Option Addr) (n cap : Nat) (l : List Nd) (hc : n ≤ cap) (hn : n ≤ 1099511627776) (p : Nat) (x : Nd) (w : World) (h : RdN w B A n l) (hx : l[p]? = some x) (hf : fine x = true) (h3 : ¬ x.k = 3) (h4 : ¬ x.k = 4) (hB : B ≤ w.heap.size)
    (A0 : Option Addr) (n0 c0 : Nat) (L : List Rn) (hL : L.length = n0) (h0 : OwnV 39 2 w B A0 n0 c0 (rs L)) (hs : n0 ≤ 1048576) :
    Calls Try.prog 56 #[.slice A n cap, .int .i64 p, .slice A0 n0 c0] w (MoreR B A0 (L ++ [⟨whose x, x.n.toNat⟩]) w) := by
  have hpl : p < n := by rw [← h.len]; exact (List.getElem?_eq_some_iff.1 hx).1
  obtain ⟨ad, y, rfl, hab, hy, hin, d0, d1, d2⟩ := h.at_ hpl
  rw [hx] at hy
  injection hy with hy
  subst hy
  obtain ⟨xk, xp, xn⟩ := x
  have hn1 := fine_one hf
  have hff := (fine_iff _ _ _).1 hf
  obtain ⟨N, rfl⟩ := Int.eq_ofNat_of_zero_le (show 0 ≤ xn by dsimp only at hn1; omega)
  have hlt0 : (p : Int) < (n : Int) := by omega
  have hlt1 : 0 ≤ (p : Int) := by omega
  dsimp only at h3 h4
  have hk : xk = 1 ∨ xk = 2 := by omega
  have H0 := Lib.hid h0
  have hal : (ad.add (p * 3)).block < w.heap.size := by rw [add_block]; omega
  clear h hf hff hx hin h0 h3 h4
  have hfin : ∀ (v : Int) (A2 : Option Addr) (c2 : Nat) (w2 : World), v = whose ⟨xk, xp, (N : Int)⟩ → OwnV 39 2 w2 B A2 (n0 + 1) c2 (rs (L ++ [⟨v, N⟩])) → Below B (w.alloc (.cells #[.int .i64 v, .int .i64 (N : Int)] 39)) w2 → Grew A0 A2 (w.alloc (.cells #[.int .i64 v, .int .i64 (N : Int)] 39)) w2 → MoreR B A0 (L ++ [⟨whose ⟨xk, xp, (N : Int)⟩, (N : Int).toNat⟩]) w (.returned (.slice A2 (n0 + 1) c2)) w2 := fun v A2 c2 w2 hv hw hb hg => by
    refine MoreR.mk (L := L ++ [⟨v, N⟩]) (by rw [hv]; simp) (by simp [hL]) hw ?_ ((Grew.bel (bl1 w _)).trans hg)
    exact ((Below.refl B w).alloc hB _).trans hb
  have HF := Lib.hid hfin
  clear hfin
  rcases hk with rfl | rfl
  · have hw1 : OwnV 39 2 (w.alloc (.cells #[.int .i64 xp, .int .i64 (N : Int)] 39)) B A0 n0 c0 (rs L) := H0.out.below rfl (bl1 w (.cells #[.int .i64 xp, .int .i64 (N : Int)] 39))
    have hr1 := rdV_new w #[.int .i64 xp, .int .i64 (N : Int)] 39 (rs [⟨xp, N⟩]) rfl
    have hB1 : B ≤ (w.alloc (.cells #[.int .i64 xp, .int .i64 (N : Int)] 39)).heap.size := by simp; omega
    go_enter Try.func56, Try.ntmps56
    go_wp2_with fail
    go_region_law (refine step_appX elR rfl (.tmp 17) (.tmp 29) rfl rfl B A0 n0 c0 _ rfl hw1 _ 1 1 _ _ rfl hr1 rfl Nat.one_pos (rs_one _) (by omega) (by unfold maxLen; omega) hB1 (n0 + 1) rfl (rs (L ++ [⟨xp, N⟩])) (rs_append _ _).symm ?_; intro A2 c2 w2 hw2 hb2 hg2)
    all_goals
      go_wp2_with fail
      go_ret
      exact HF.out xp A2 c2 w2 rfl hw2 ⟨hb2.os, hb2.tape, hb2.output, hb2.size, hb2.block⟩ hg2.drew
  · have hw1 : OwnV 39 2 (w.alloc (.cells #[.int .i64 (-1), .int .i64 (N : Int)] 39)) B A0 n0 c0 (rs L) := H0.out.below rfl (bl1 w (.cells #[.int .i64 (-1), .int .i64 (N : Int)] 39))
    have hr1 := rdV_new w #[.int .i64 (-1), .int .i64 (N : Int)] 39 (rs [⟨-1, N⟩]) rfl
    have hB1 : B ≤ (w.alloc (.cells #[.int .i64 (-1), .int .i64 (N : Int)] 39)).heap.size := by simp; omega
    go_enter Try.func56, Try.ntmps56
    go_wp2_with (at_builtin; go_loud (refine wpList_appX elR rfl (.tmp 33) (.tmp 40) rfl rfl B A0 n0 c0 _ rfl hw1 _ 1 1 _ _ rfl hr1 rfl Nat.one_pos (rs_one _) (by omega) (by unfold maxLen; omega) hB1 (n0 + 1) rfl (rs (L ++ [⟨-1, N⟩])) (rs_append _ _).symm ?_; intro A2 c2 w2 hw2 hb2 hg2))
    go_ret
    exact HF.out (-1) A2 c2 w2 rfl hw2 hb2 hg2
theorem OwnV.older {E s : Nat} {w : World} {B n c : Nat} {A : Option Addr} {l : List Value} (h : OwnV E s w B A n c l) {g : Nat} (e : obk A = some g) : g < w.heap.size := by
  rcases h.2 with ⟨hv, _⟩ | ⟨g', cap, cur, hv, _, hg, _⟩
  · injection hv with h1
    rw [h1] at e
    cases e
  · injection hv with h1
    rw [h1] at e
    injection e with e
    rw [← e]
    exact (Array.getElem?_eq_some_iff.1 hg).1
theorem reps_more (i : Nat) (s : List Rn) : reps (i + 1) s = reps i s ++ s := by
  induction i with
  | zero => simp [reps]
  | succ j ih =>
    have e : reps (j + 1) s = s ++ reps j s := rfl
    have e2 : reps (j + 1 + 1) s = s ++ reps (j + 1) s := rfl
    rw [e2, ih, ← List.append_assoc, ← e, ih]
theorem reps_split (i N : Nat) (s : List Rn) (h : i ≤ N) : reps i s ++ reps (N - i) s = reps N s := by
  induction i with
  | zero => simp [reps]
  | succ i ih =>
    rw [← ih (by omega), reps_one (n := N - i) (by omega), show N - i - 1 = N - (i + 1) by omega, ← List.append_assoc, reps_more]
set_option maxRecDepth 100000 in
set_option maxHeartbeats 3200000 in
theorem rleaves_any (B : Nat) (A : Option Addr) (n cap : Nat) (l : List Nd) (hc : n ≤ cap) (hn : n ≤ 1099511627776) (M : Nat) : ∀ (p : Nat) (x : Nd) (k r : F) (t : List Nd) (w : World) (A0 : Option Addr) (n0 c0 : Nat) (L : List Rn), k.sz < M → RdN w B A n l → (F.cons x k r).ok → l.drop p = (F.cons x k r).flat ++ t → B ≤ w.heap.size → L.length = n0 → OwnV 39 2 w B A0 n0 c0 (rs L) → n0 + (one x k.lvs).length ≤ 1048576 →
    Calls Try.prog 56 #[.slice A n cap, .int .i64 p, .slice A0 n0 c0] w (MoreR B A0 (L ++ one x k.lvs) w) := by
  induction M with
  | zero => intro p x k r t w A0 n0 c0 L h; omega
  | succ M ih =>
    intro p x k r t w A0 n0 c0 L hM h hok hl hB hL h0 hs
    obtain ⟨hk, hfit, hd, hx⟩ := kids_at hok hl
    have hlen := h.len
    rw [hlen] at hfit
    have hpn : p < n := by omega
    by_cases h3 : x.k = 3
    · have hm : k.cnt ≤ n := by have := F.cnt_le_sz k; omega
      have HPD := Lib.hid fun j hj => pos_dr hok.2.2.1 hd (by omega) j hj
      have hkok := Lib.hid hok
      rw [lvs_seq h3] at hs ⊢
      generalize hmd : k.cnt = m at hk hm HPD
      have hp63 : (p : Int) ≤ 1099511627776 := by omega
      obtain ⟨ad, x', rfl, hab, hx', hin, c0', c1', c2'⟩ := h.at_ hpn
      rw [hx] at hx'
      injection hx' with hx'
      subst hx'
      obtain ⟨xk, xp, xn⟩ := x
      dsimp only at h3
      subst h3
      have HM := Lib.hid hmd
      have HK := Lib.hid hk
      have HIH := Lib.hid ih
      have HR := Lib.hid h
      have H0 := Lib.hid h0
      have HL := Lib.hid hL
      clear hk hmd hl hd hx hlen hok ih hin h h0
      go_enter Try.func56, Try.ntmps56
      go_wp2_with fail
      refine (rkids_new (some ad) n cap l (p : Int) w (HR.out.more hB) hc hn (by omega) (by omega)).mono ?_
      rw [HK.out]
      rintro e w1 ⟨A1, n1, c1, rfl, hr1, hc1, hb1, hnew⟩
      have hn1 : n1 = m := by have := hr1.len; simp [plc] at this; omega
      subst hn1
      have hw1 := H0.out.below rfl hb1
      have hs1 := hb1.size
      have HFAR : Hid (∀ ad, A1 = some ad → some ad.block ≠ obk A0) := Lib.hid fun ad' e' => by
        have h1 := hnew ad' e'
        intro e2
        have h2 := H0.out.older e2.symm
        omega
      have HW1 := Lib.hid hw1
      have HR1 := Lib.hid hr1
      clear hw1 hnew hr1 c0' c1' c2'
      go_wp2_with fail
      go_loopw [2, 63] (fun o s wr => ∃ (i : Nat) (Ao : Option Addr) (co : Nat) (Li : List Rn), i ≤ n1 ∧ s = .int .i64 i ∧ o = .slice Ao (L ++ Li).length co ∧ Li ++ (F.dr i k).lvs = k.lvs ∧ OwnV 39 2 wr B Ao (L ++ Li).length co (rs (L ++ Li)) ∧ Below B w wr ∧ Grew A0 Ao w1 wr) (fun _ s _ => n1 - (intOf s).toNat)
      case atStart => exact ⟨0, A0, c0, [], by omega, rfl, by rw [List.append_nil, HL.out], by simp [F.dr], by rw [List.append_nil, HL.out]; exact HW1.out, hb1.mono hB, Grew.refl _ _⟩
      case round =>
        obtain ⟨i, Ao, co, Li, hi, rfl, rfl, hLi, how, hb, hg⟩ := hrel
        have HLI := Lib.hid hLi
        have HOW := Lib.hid how
        have HG := Lib.hid hg
        have hbs := hb.size
        clear hLi how hg
        by_cases hlt : i < n1
        · obtain ⟨hd, hsz, hp1, hp2⟩ := HPD.out i (by omega)
          obtain ⟨y, ky, r', ed⟩ := dr_cons (f := k) (j := i) (by have := HM.out; omega)
          have hok' := dr_ok hkok.out.2.2.1 i
          have ed2 := dr_succ ed
          rw [ed] at hd hsz hok'
          have hky : ky.sz < M := by simp only [F.sz] at hsz; omega
          have hlv : Li ++ (one y ky.lvs ++ r'.lvs) = k.lvs := by have := HLI.out; rw [ed] at this; exact this
          have hlen2 : (L ++ Li).length + (one y ky.lvs).length ≤ 1048576 := by
            have := congrArg List.length hlv
            simp only [List.length_append] at this ⊢
            have := HL.out
            omega
          have hget := plc_get l (p + 1) n1 i hlt
          have HED := Lib.hid ed2
          have HLV := Lib.hid hlv
          clear hsz ed ed2 hlv
          generalize pos l (p + 1) i = P at hd hp1 hp2 hget
          obtain ⟨adk, z, rfl, hadk, hz, hcell⟩ := HR1.out.at_ hlt
          rw [hget] at hz
          injection hz with hz
          subst hz
          have hcell2 : wr.cell? (adk.add i) = some (.int .i64 (P : Int)) := by
            refine (World.cell?_of_block ?_).trans hcell
            rw [add_block]
            exact HG.out.gb.block adk.block hadk (HFAR.out adk rfl)
          clear hget hcell
          have hcall := HIH.out P y ky r' _ wr Ao (L ++ Li).length co (L ++ Li) hky (HR.out.below hb) hok' hd (by omega) rfl HOW.out hlen2
          have HCALL := Lib.hid hcall
          clear hcall hd hok' hlen2
          generalize (L ++ Li).length = q at HCALL ⊢
          go_wp2_with fail
          refine HCALL.out.mono ?_
          rintro e2 w4 ⟨A4, c4, rfl, how4, hb4, hg4⟩
          have HOW4 := Lib.hid how4
          have HG4 := Lib.hid hg4
          clear how4 hg4
          generalize hqd : (L ++ Li ++ one y ky.lvs).length = q4
          have HQD := Lib.hid hqd
          clear hqd
          go_wp2_with fail
          go_roundw
          case rel => exact ⟨i + 1, A4, c4, Li ++ one y ky.lvs, by omega, by go_num, by rw [← HQD.out, List.append_assoc], by rw [HED.out, List.append_assoc]; exact HLV.out, by rw [← List.append_assoc]; exact HOW4.out, hb.trans hb4, HG.out.trans HG4.out⟩
          case measure => simp [intOf]; omega
        · have hge : n1 ≤ i := by omega
          have e2 : F.dr i k = .nil := by rw [show i = k.cnt by have := HM.out; omega]; exact dr_all k
          have e3 : Li = k.lvs := by have := HLI.out; rw [e2] at this; simpa [F.lvs] using this
          have HE3 := Lib.hid e3
          clear e2 e3
          generalize hqd : (L ++ Li).length = q
          have HQD := Lib.hid hqd
          clear hqd
          go_wp2_with fail
          go_ret
          have hw := HOW.out
          rw [HQD.out] at hw
          exact MoreR.mk (L := L ++ Li) (by rw [HE3.out]) HQD.out.symm hw hb ((Grew.bel hb1).trans HG.out)
    · by_cases h4 : x.k = 4
      · rw [lvs_rep h4] at hs ⊢
        obtain ⟨ad, x', rfl, hab, hx', hin, c0', c1', c2'⟩ := h.at_ hpn
        rw [hx] at hx'
        injection hx' with hx'
        subst hx'
        obtain ⟨xk, xp, xn⟩ := x
        dsimp only at h4 hs
        subst h4
        have hn1 := fine_one hok.1
        obtain ⟨N, rfl⟩ := Int.eq_ofNat_of_zero_le (show 0 ≤ xn by dsimp only at hn1; omega)
        have hN2 : (N : Int) ≤ 9223372036854775807 := hin.2.2.2
        have hc' : k.cnt = 1 := hok.2.1
        cases k with
        | nil => simp [F.cnt] at hc'
        | cons y q r2 =>
          obtain rfl : r2 = .nil := F.cnt_zero (by simp only [F.cnt] at hc'; omega)
          have e1 : (F.cons y q .nil).lvs = one y q.lvs := by simp [F.lvs]
          rw [Int.toNat_natCast, e1] at hs
          simp only [Int.toNat_natCast, e1]
          have hq : q.sz < M := by simp only [F.sz] at hM; omega
          have hok2 := hok.2.2.1
          have HOK := Lib.hid hok2
          have HD := Lib.hid hd
          have HIH := Lib.hid ih
          have HR := Lib.hid h
          have H0 := Lib.hid h0
          have HL := Lib.hid hL
          have hp63 : (p : Int) ≤ 1099511627776 := by omega
          have HX := Lib.hid hx
          clear h3 hk hd hx hlen hok hl ih hin h h0 hok2 hc' c2' e1 hn1 hM
          generalize hsd : one y q.lvs = sl at hs ⊢
          have HSD := Lib.hid hsd
          clear hsd
          go_enter Try.func56, Try.ntmps56
          go_wp2_with fail
          clear c0' c1'
          go_loopw [2, 7] (fun o s wr => ∃ (i : Nat) (Ao : Option Addr) (co : Nat), i ≤ N ∧ s = .int .i64 i ∧ o = .slice Ao (L ++ reps i sl).length co ∧ OwnV 39 2 wr B Ao (L ++ reps i sl).length co (rs (L ++ reps i sl)) ∧ Below B w wr ∧ Grew A0 Ao w wr) (fun _ s _ => N - (intOf s).toNat)
          case atStart => exact ⟨0, A0, c0, by omega, rfl, by simp [reps, HL.out], by simp only [reps, List.append_nil, HL.out]; exact H0.out, Below.refl _ _, Grew.refl _ _⟩
          case round =>
            obtain ⟨i, Ao, co, hi, rfl, rfl, how, hb, hg⟩ := hrel
            have HOW := Lib.hid how
            have HG := Lib.hid hg
            have hbs := hb.size
            clear how hg
            obtain ⟨ad', x', e, _, hx', _, k0, k1, k2⟩ := (HR.out.below hb).at_ hpn
            injection e with e
            subst e
            rw [HX.out] at hx'
            injection hx' with hx'
            subst hx'
            clear k0 k1
            by_cases hlt : i < N
            · have hlen2 : (L ++ reps i sl).length + (one y q.lvs).length ≤ 1048576 := by
                rw [HSD.out]
                have := congrArg List.length (reps_split (i + 1) N sl (by omega))
                rw [reps_more] at this
                simp only [List.length_append] at this ⊢
                have := HL.out
                omega
              have hcall := HIH.out (p + 1) y q .nil _ wr Ao (L ++ reps i sl).length co (L ++ reps i sl) hq (HR.out.below hb) HOK.out HD.out (by omega) rfl HOW.out hlen2
              rw [HSD.out] at hcall
              have HCALL := Lib.hid hcall
              clear hcall hlen2
              generalize (L ++ reps i sl).length = q1 at HCALL ⊢
              go_wp2_with fail
              refine HCALL.out.mono ?_
              rintro e2 w4 ⟨A4, c4, rfl, how4, hb4, hg4⟩
              have HOW4 := Lib.hid how4
              have HG4 := Lib.hid hg4
              clear how4 hg4
              generalize hqd : (L ++ reps i sl ++ sl).length = q4
              have HQD := Lib.hid hqd
              clear hqd
              go_wp2_with fail
              go_roundw
              case rel => exact ⟨i + 1, A4, c4, by omega, by go_num, by rw [← HQD.out, List.append_assoc, ← reps_more], by rw [reps_more, ← List.append_assoc]; exact HOW4.out, hb.trans hb4, HG.out.trans HG4.out⟩
              case measure => simp [intOf]; omega
            · have hge : N ≤ i := by omega
              have e3 : i = N := by omega
              have HE3 := Lib.hid e3
              clear e3
              generalize hqd : (L ++ reps i sl).length = q1
              have HQD := Lib.hid hqd
              clear hqd
              go_wp2_with fail
              go_ret
              have hw := HOW.out
              rw [HQD.out] at hw
              exact MoreR.mk (L := L ++ reps i sl) (by rw [HE3.out]) HQD.out.symm hw hb HG.out
      · have hk0 : k = .nil := F.cnt_zero (by rw [hok.2.1]; unfold kn; rw [if_neg h3, if_neg h4])
        rw [lvs_leaf h3 h4]
        exact leaf1_any B A n cap l hc hn p x w h hx hok.1 h3 h4 hB A0 n0 c0 L hL h0 (by omega)
end Go.Proofs.Ytoaocdmcjjohgaa

/- A region that draws its order, by what each of its operations yields: whatever order is drawn. Named here: the model's regions alone, no program. -/
namespace Go.Proofs.Ytoaocdmcjjohgaa
open Go Go.RowKit
namespace Reg
set_option linter.unusedSimpArgs false

def dstN (ops : Array Oper) (j : Nat) : Tmp := ((ops[j]?).bind (·.dst)).getD 0
def waits (o : Oper) (j : Nat) : Bool := o.after.toList.any fun e => e.on == j && Region.binds .any e
def writes (ops : Array Oper) (t : Tmp) : Bool := ops.toList.any fun o => o.dst == some t
/-- Every operation has a slot of its own, and waits for earlier ones alone. -/
def good (ops : Array Oper) (n : Nat) : Bool :=
  (List.range ops.size).all fun i => match ops[i]? with
    | some o => (match o.dst with
        | some d => decide (d < n) && (List.range ops.size).all fun j => j == i || (match ops[j]? with | some p => !(p.dst == some d) | none => true)
        | none => false) && o.after.toList.all fun e => decide (e.on < i)
    | none => false

theorem good_at {ops : Array Oper} {n : Nat} (h : good ops n = true) {i : Nat} {o : Oper} (hi : ops[i]? = some o) :
    ∃ d, o.dst = some d ∧ d < n ∧ (∀ j p, ops[j]? = some p → j ≠ i → p.dst ≠ some d) ∧ ∀ e ∈ o.after, e.on < i := by
  have hlt : i < ops.size := (Array.getElem?_eq_some_iff.1 hi).1
  have h1 := List.all_eq_true.1 h i (List.mem_range.2 hlt)
  rw [hi] at h1
  simp only [Bool.and_eq_true] at h1
  obtain ⟨h2, h3⟩ := h1
  cases hd : o.dst with
  | none => rw [hd] at h2; cases h2
  | some d =>
    rw [hd] at h2
    simp only [Bool.and_eq_true, decide_eq_true_iff] at h2
    refine ⟨d, rfl, h2.1, fun j p hj hne => ?_, fun e he => ?_⟩
    · have hjl : j < ops.size := (Array.getElem?_eq_some_iff.1 hj).1
      have h4 := List.all_eq_true.1 h2.2 j (List.mem_range.2 hjl)
      rw [hj] at h4
      simp only [Bool.or_eq_true, beq_iff_eq, Bool.not_eq_true', beq_eq_false_iff_ne] at h4
      exact h4.resolve_left hne
    · have := List.all_eq_true.1 h3 e (Array.mem_toList_iff.2 he)
      simpa using this

theorem dst_of {ops : Array Oper} {i : Nat} {o : Oper} {d : Tmp} (hi : ops[i]? = some o) (hd : o.dst = some d) : dstN ops i = d := by
  simp [dstN, hi, hd]

/-- Whoever has come up, those that it waits for have. -/
def Closed (ops : Array Oper) (live : Nat → Bool) : Prop := ∀ j p, ops[j]? = some p → live j = true → ∀ k, waits p k = true → live k = true
structure Inv (ops : Array Oper) (a0 : Act) (V : Nat → Value → World → Prop) (W : World → Prop) (listed : Array Bool) (a : Act) (w : World) : Prop where
  size : a.tmps.size = a0.tmps.size
  defers : a.defers = a0.defers
  env : ∀ t, writes ops t = false → a.eval (.tmp t) = a0.eval (.tmp t)
  val : ∀ j, j < ops.size → listed.getD j false = true → V j (a.eval (.tmp (dstN ops j))) w
  world : W w
  closed : Closed ops fun j => listed.getD j false

theorem eval_same (a : Act) (d : Tmp) (v : Value) (h : d < a.tmps.size) : (a.put (some d) v).eval (.tmp d) = v := by
  simp [Act.eval, Act.put, h]
theorem eval_other (a : Act) (d t : Tmp) (v : Value) (h : d ≠ t) : (a.put (some d) v).eval (.tmp t) = a.eval (.tmp t) := by
  simp [Act.eval, Act.put, Array.getElem?_setIfInBounds_ne h]

/-- What a step owes; live: who has come up. -/
def Owes (live : Nat → Bool) (V : Nat → Value → World → Prop) (W : World → Prop) (i : Nat) (o : Oper) (a : Act) (w : World) (a' : Act) (w' : World) : Prop :=
  ∃ v, a' = a.put o.dst v ∧ V i v w' ∧ W w' ∧ ∀ j v, live j = true → V j v w → V j v w'

theorem Inv.step {ops : Array Oper} {a0 : Act} {V : Nat → Value → World → Prop} {W : World → Prop} {listed : Array Bool} {a a' : Act} {w w' : World} (hg : good ops a0.tmps.size = true)
    {i : Nat} {o : Oper} (hi : ops[i]? = some o) (h : Inv ops a0 V W listed a w) (hr : ∀ k, waits o k = true → listed.getD k false = true) (hs : Owes (fun j => listed.getD j false) V W i o a w a' w') : Inv ops a0 V W (listed.setIfInBounds i true) a' w' := by
  obtain ⟨v, rfl, hv, hw, hm⟩ := hs
  obtain ⟨d, hd, hdn, hdist, _⟩ := good_at hg hi
  have hsz : d < a.tmps.size := by rw [h.size]; exact hdn
  rw [hd]
  refine ⟨by simp [Act.put, h.size], by simp [Act.put, h.defers], fun t ht => ?_, fun j hj hl => ?_, hw, fun j p hj hl k hk => ?_⟩
  · have hne : d ≠ t := by
      rintro rfl
      have : writes ops d = true := List.any_eq_true.2 ⟨o, Array.mem_toList_iff.2 (Array.mem_of_getElem? hi), by simp [hd]⟩
      rw [this] at ht; cases ht
    rw [eval_other _ _ _ _ hne]; exact h.env t ht
  · by_cases hji : j = i
    · subst hji
      rw [dst_of hi hd, eval_same _ _ _ hsz]; exact hv
    · obtain ⟨p, hp⟩ : ∃ p, ops[j]? = some p := ⟨_, Array.getElem?_eq_getElem hj⟩
      obtain ⟨e, he, _⟩ := good_at hg hp
      have hne : d ≠ dstN ops j := by
        rw [dst_of hp he]
        rintro rfl
        exact hdist j p hp hji he
      rw [eval_other _ _ _ _ hne]
      rw [getD_set_ne false (Ne.symm hji)] at hl
      exact hm j _ hl (h.val j hj hl)
  · by_cases hji : j = i
    · subst hji
      rw [hi] at hj
      injection hj with hj
      subst hj
      exact getD_set_true (hr k hk)
    · have hl' : (listed.setIfInBounds i true).getD j false = true := hl
      rw [getD_set_ne false (Ne.symm hji)] at hl'
      exact getD_set_true (h.closed j p hj hl' k hk)

/-- How many have not come up. -/
def left (listed : Array Bool) : Nat := listed.toList.countP (· == false)

theorem left_set {listed : Array Bool} {i : Nat} (h : listed.getD i true = false) : left (listed.setIfInBounds i true) + 1 = left listed := by
  have hlt : i < listed.size := by
    rcases Nat.lt_or_ge i listed.size with h' | h'
    · exact h'
    · simp [Array.getElem?_eq_none h'] at h
  have hi : listed.toList[i]'(by simpa using hlt) = false := by
    simpa [hlt] using h
  unfold left
  rw [Array.toList_setIfInBounds, List.countP_set (by simpa using hlt), hi]
  have : 0 < listed.toList.countP (· == false) := List.countP_pos_iff.2 ⟨false, by rw [← hi]; exact List.getElem_mem _, rfl⟩
  rw [if_pos (by decide), if_neg (by decide)]
  omega

theorem all_listed {ops : Array Oper} {n : Nat} (hg : good ops n = true) {listed : Array Bool} (hs : listed.size = ops.size) (hr : Region.ready .any ops listed = []) :
    ∀ j, j < ops.size → listed.getD j false = true := by
  intro j
  induction j using Nat.strongRecOn with
  | ind j ih =>
    intro hj
    have hjl : j < listed.size := by omega
    cases hb : listed.getD j false with
    | true => rfl
    | false =>
      have hb' : listed.getD j true = false := by
        simpa [hjl] using hb
      obtain ⟨o, ho⟩ : ∃ o, ops[j]? = some o := ⟨_, Array.getElem?_eq_getElem hj⟩
      obtain ⟨_, _, _, _, hacy⟩ := good_at hg ho
      have : j ∈ Region.ready .any ops listed := mem_ready.2 ⟨hb', o, ho, fun e he _ => ih e.on (hacy e he) (by have := hacy e he; omega)⟩
      rw [hr] at this; cases this

/-- What is asked of one operation. -/
def Goal (P : Program) (ops : Array Oper) (Q : Exit → Act → World → Prop) (V : Nat → Value → World → Prop) (W : World → Prop) (i : Nat) (o : Oper) (a : Act) (w : World) : Prop :=
  ∀ live : Nat → Bool, Closed ops live → live i = false → wpOp P ops Q i (Owes live V W i o a w) a w
/-- The whole obligation. -/
def Steps (P : Program) (ops : Array Oper) (Q : Exit → Act → World → Prop) (a0 : Act) (V : Nat → Value → World → Prop) (W : World → Prop) : Prop :=
  ∀ i o, ops[i]? = some o → ∀ (a : Act) (w : World), (∀ t, writes ops t = false → a.eval (.tmp t) = a0.eval (.tmp t)) →
    (∀ j, waits o j = true → V j (a.eval (.tmp (dstN ops j))) w) → W w → Goal P ops Q V W i o a w

theorem any_of {P : Program} {ops : Array Oper} {Q : Exit → Act → World → Prop} {a0 : Act} {V : Nat → Value → World → Prop} {W : World → Prop} (hg : good ops a0.tmps.size = true) (hst : Steps P ops Q a0 V W)
    (hend : ∀ listed a w, Inv ops a0 V W listed a w → (∀ j, j < ops.size → listed.getD j false = true) → Q .normal a w) :
    ∀ (fuel : Nat) (listed : Array Bool) (a : Act) (w : World), listed.size = ops.size → left listed ≤ fuel → Inv ops a0 V W listed a w → wpAny P .any ops Q fuel listed a w := by
  intro fuel
  induction fuel with
  | zero =>
    intro listed a w hs hl h
    have hr : Region.ready .any ops listed = [] := by
      cases hc : Region.ready .any ops listed with
      | nil => rfl
      | cons i r =>
        have hi : i ∈ Region.ready .any ops listed := by rw [hc]; exact List.mem_cons_self
        have := left_set (mem_ready.1 hi).1
        omega
    exact ⟨hr, hend listed a w h (all_listed hg hs hr)⟩
  | succ fuel ih =>
    intro listed a w hs hl h
    refine ⟨fun hr => hend listed a w h (all_listed hg hs hr), fun i hi => ?_⟩
    obtain ⟨h0, o, ho, hall⟩ := mem_ready.1 hi
    have hi' : i < ops.size := (Array.getElem?_eq_some_iff.1 ho).1
    have hwait : ∀ k, waits o k = true → k < i ∧ listed.getD k false = true := fun k hk => by
      obtain ⟨e, he, heq⟩ := List.any_eq_true.1 hk
      have he := Array.mem_toList_iff.1 he
      simp only [Bool.and_eq_true, beq_iff_eq] at heq
      obtain ⟨rfl, hb⟩ := heq
      obtain ⟨_, _, _, _, hacy⟩ := good_at hg ho
      exact ⟨hacy e he, hall e he hb⟩
    have hstep := hst i o ho a w h.env (fun j hj => h.val j (by have := (hwait j hj).1; omega) (hwait j hj).2) h.world (fun j => listed.getD j false) h.closed (by
      have hlt : i < listed.size := by omega
      simpa [hlt] using h0)
    refine wpOp_mono (fun a' w' hw => ?_) hstep
    refine ih _ a' w' (by simpa using hs) ?_ (h.step hg ho (fun k hk => (hwait k hk).2) hw)
    have := left_set h0
    omega

theorem region {P : Program} {id : Nat} {ops : Array Oper} {Q : Exit → Act → World → Prop} {a0 : Act} {w0 : World} (hm : P.follows .mixedOrders = true) (hg : good ops a0.tmps.size = true) (V : Nat → Value → World → Prop) (W : World → Prop)
    (hW : W w0.drew) (hst : Steps P ops Q a0 V W)
    (hend : ∀ a w, a.tmps.size = a0.tmps.size → a.defers = a0.defers → (∀ t, writes ops t = false → a.eval (.tmp t) = a0.eval (.tmp t)) → (∀ j, j < ops.size → V j (a.eval (.tmp (dstN ops j))) w) → W w → Q .normal a w) :
    (Code.region id ops true).wp P Q a0 w0 := by
  refine wp_region_any hm ?_
  refine any_of hg hst (fun listed a w h hall => hend a w h.size h.defers h.env (fun j hj => h.val j hj (hall j hj)) h.world) ops.size (Array.replicate ops.size false) a0 w0.drew (by simp) ?_ ?_
  · unfold left
    have := List.countP_le_length (p := (· == false)) (l := (Array.replicate ops.size false).toList)
    simpa using this
  · refine ⟨rfl, rfl, fun _ _ => rfl, fun j hj hl => ?_, hW, fun j p hj hl k hk => ?_⟩
    · simp [hj] at hl
    · have hjl : j < ops.size := (Array.getElem?_eq_some_iff.1 hj).1
      have hl' : (Array.replicate ops.size false).getD j false = true := hl
      simp [hjl] at hl'

/-- The obligations one by one. -/
def All (F : Nat → Oper → Prop) : Nat → List Oper → Prop
  | _, [] => True
  | i, o :: l => F i o ∧ All F (i + 1) l
theorem All.get {F : Nat → Oper → Prop} (l : List Oper) : ∀ (i : Nat), All F i l → ∀ j o, l[j]? = some o → F (i + j) o := by
  induction l with
  | nil => intro i _ j o hp; simp at hp
  | cons q l ih =>
    intro i h j o hp
    cases j with
    | zero => simp at hp; subst hp; exact h.1
    | succ j =>
      have := ih (i + 1) h.2 j o (by simpa using hp)
      rwa [Nat.add_assoc, Nat.add_comm 1] at this
theorem steps_of {P : Program} {l : List Oper} {Q : Exit → Act → World → Prop} {a0 : Act} {V : Nat → Value → World → Prop} {W : World → Prop}
    (h : All (fun i o => ∀ (a : Act) (w : World), (∀ t, writes l.toArray t = false → a.eval (.tmp t) = a0.eval (.tmp t)) →
      (∀ j, waits o j = true → V j (a.eval (.tmp (dstN l.toArray j))) w) → W w → Goal P l.toArray Q V W i o a w) 0 l) : Steps P l.toArray Q a0 V W := by
  intro i o hi
  have := All.get l 0 h i o (by simpa using hi)
  rwa [Nat.zero_add] at this

section
variable {P : Program} {ops : Array Oper} {Q : Exit → Act → World → Prop} {V : Nat → Value → World → Prop} {W : World → Prop} {i : Nat} {o : Oper} {a : Act} {w : World}
/-- An operation that yields a value, and does nothing else. -/
theorem val (hi : ops[i]? = some o) (hw : Region.wanted o (yielded ops a.tmps) = true) (hW : W w) (v : Value) (hr : (execOp a.eval o).run P w = .ok (.value v) w) (hv : V i v w) : Goal P ops Q V W i o a w := by
  intro live _ _
  unfold wpOp
  rw [hi]
  simp only [hw, if_true]
  refine .inl ?_
  unfold Oper.wp
  rw [hr]
  exact ⟨v, rfl, hv, hW, fun _ _ _ h => h⟩
/-- An operation that yields a value, in another world; what those that have come up yielded is to stand. -/
theorem growL (hi : ops[i]? = some o) (hw : Region.wanted o (yielded ops a.tmps) = true) (v : Value) (w' : World) (hr : (execOp a.eval o).run P w = .ok (.value v) w') (hv : V i v w') (hW : W w')
    (hm : ∀ live : Nat → Bool, Closed ops live → live i = false → ∀ j v, live j = true → V j v w → V j v w') : Goal P ops Q V W i o a w := by
  intro live hc h0
  unfold wpOp
  rw [hi]
  simp only [hw, if_true]
  refine .inl ?_
  unfold Oper.wp
  rw [hr]
  exact ⟨v, rfl, hv, hW, hm live hc h0⟩
theorem grow (hi : ops[i]? = some o) (hw : Region.wanted o (yielded ops a.tmps) = true) (v : Value) (w' : World) (hr : (execOp a.eval o).run P w = .ok (.value v) w') (hv : V i v w') (hW : W w') (hm : ∀ j v, j ≠ i → V j v w → V j v w') : Goal P ops Q V W i o a w :=
  growL hi hw v w' hr hv hW fun live _ h0 j v hj h => hm j v (fun e => by rw [e, h0] at hj; cases hj) h
/-- A call of a Go function. -/
theorem call (hi : ops[i]? = some o) (hw : Region.wanted o (yielded ops a.tmps) = true) (f : FuncId) (args : Array Value) (hr : (execOp a.eval o).run P w = .ok (.enter f args) w)
    (hc : Calls P f args w fun e w' => ∃ v, e = .returned v ∧ V i v w' ∧ W w' ∧ ∀ j v, V j v w → V j v w') : Goal P ops Q V W i o a w := by
  intro live _ _
  unfold wpOp
  rw [hi]
  simp only [hw, if_true]
  refine .inl ?_
  unfold Oper.wp
  rw [hr]
  refine hc.mono fun e w' he => ?_
  obtain ⟨v, rfl, h1, h2, h3⟩ := he
  exact ⟨v, rfl, h1, h2, fun j v _ => h3 j v⟩
/-- An operation whose guard says no. -/
theorem skip (hi : ops[i]? = some o) (hw : Region.wanted o (yielded ops a.tmps) = false) (hW : W w) (hv : V i undef w) : Goal P ops Q V W i o a w := by
  intro live _ _
  unfold wpOp
  rw [hi]
  simp only [hw]
  exact ⟨undef, rfl, hv, hW, fun _ _ _ h => h⟩
/-- Whoever waits for one that has not come up has not either. -/
theorem not_live {live : Nat → Bool} (hc : Closed ops live) {k : Nat} (h : live k = false) {j : Nat} {p : Oper} (hj : ops[j]? = some p) (hw : waits p k = true) : live j = false := by
  cases e : live j with
  | false => rfl
  | true => rw [hc j p hj e k hw] at h; cases h
theorem wanted_free (h : o.guard = none) : Region.wanted o (yielded ops a.tmps) = true := by simp [Region.wanted, h]
theorem wanted_if {g : Nat} {want b : Bool} (h : o.guard = some (g, want)) {t : Tmp} (ht : (ops[g]?).bind (·.dst) = some t) (hv : a.eval (.tmp t) = .bool b) (hb : (b == want) = true) : Region.wanted o (yielded ops a.tmps) = true := by
  have hlt : t < a.tmps.size := by
    rcases Nat.lt_or_ge t a.tmps.size with h' | h'
    · exact h'
    · simp [Act.eval, Array.getElem?_eq_none h', undef] at hv
  have h2 : a.tmps[t]? = some (.bool b) := by
    simpa [Act.eval, hlt] using hv
  simp only [Region.wanted, h, yielded, ht, Option.bind_some, h2]
  have : b = want := by simpa using hb
  simp [this]
end

/-- What a frame says of constants and functions. -/
theorem consts (a : Act) : (∀ v, a.eval (.const v) = v) ∧ (∀ f, a.eval (.func f) = .func (.func f) #[] #[]) := ⟨fun _ => rfl, fun _ => rfl⟩

/-- A frame by its slots. -/
theorem act_lit (a : Act) (n : Nat) (h : a.tmps.size = n) : a = ⟨((List.range n).map fun t => a.eval (.tmp t)).toArray, a.defers⟩ := by
  cases a with
  | mk tmps defers =>
    simp only at h
    congr 1
    apply Array.ext
    · simp [h]
    · intro i h1 h2
      simp [Act.eval, h1]
end Reg
end Go.Proofs.Ytoaocdmcjjohgaa

/- The path of open nodes in memory: how often the next node is gone through; the path behind a node. -/
namespace Go.Proofs.Ytoaocdmcjjohgaa
open Go.RowKit Tab
set_option linter.unusedSimpArgs false
set_option linter.unusedVariables false

/-- A path as cells: the outermost first. -/
def os : List (Nat × Nat) → List Value
  | [] => []
  | (a, t) :: o => os o ++ [.int .i64 (a : Int), .int .i64 (t : Int)]
theorem os_length (st : List (Nat × Nat)) : (os st).length = st.length * 2 := by
  induction st with
  | nil => rfl
  | cons e o ih => obtain ⟨a, t⟩ := e; simp only [os, List.length_append, ih, List.length_cons, List.length_nil]; omega
theorem os_last (a t : Nat) (o : List (Nat × Nat)) : (os ((a, t) :: o))[o.length * 2]? = some (.int .i64 (a : Int)) ∧ (os ((a, t) :: o))[o.length * 2 + 1]? = some (.int .i64 (t : Int)) := by
  have := os_length o
  constructor
  · simp only [os]; rw [List.getElem?_append_right (by omega), this, Nat.sub_self]; rfl
  · simp only [os]; rw [List.getElem?_append_right (by omega), this, show o.length * 2 + 1 - o.length * 2 = 1 by omega]; rfl
theorem os_set (a t : Nat) (o : List (Nat × Nat)) (b : Nat) : (os ((a, t) :: o)).set (o.length * 2) (.int .i64 (b : Int)) = os ((b, t) :: o) := by
  have := os_length o
  simp only [os]
  rw [List.set_append_right _ _ (by omega), this, Nat.sub_self]
  rfl
theorem os_dec (a t : Nat) (o : List (Nat × Nat)) (h : 1 ≤ a) : (os ((a, t) :: o)).set (o.length * 2) (.int .i64 ((a : Int) - 1)) = os ((a - 1, t) :: o) := by
  rw [show (a : Int) - 1 = ((a - 1 : Nat) : Int) by omega]
  exact os_set a t o (a - 1)
theorem OwnV.front {E s : Nat} {w : World} {B : Nat} {A : Option Addr} {n c : Nat} {l : List Value} (h : OwnV E s w B A n c l) (m : Nat) (hm : m ≤ n) : OwnV E s w B A m c (l.take (m * s)) := by
  have h0 : m * s ≤ n * s := Nat.mul_le_mul_right _ hm
  refine ⟨by rw [List.length_take, h.1]; omega, ?_⟩
  rcases h.2 with ⟨hv, hz⟩ | ⟨g, cap, cur, hv, hbg, hg, hnc, hcm, hcs, ht⟩
  · refine .inl ⟨?_, by omega⟩
    simp only [Value.slice.injEq] at hv ⊢
    exact ⟨hv.1, by omega, hv.2.2⟩
  · simp only [Value.slice.injEq] at hv
    obtain ⟨rfl, _, rfl⟩ := hv
    refine .inr ⟨g, c, cur, rfl, hbg, hg, by omega, hcm, hcs, ?_⟩
    rw [← ht, List.take_take, Nat.min_eq_left h0]
theorem os_take (a t : Nat) (o : List (Nat × Nat)) : (os ((a, t) :: o)).take (o.length * 2) = os o := by
  simp only [os]
  exact List.take_left' (os_length o)
theorem pops_more {a t : Nat} {o : List (Nat × Nat)} (h : 1 < a) : pops ((a, t) :: o) = (a - 1, t) :: o := by simp only [pops]; rw [if_pos h]
theorem pops_less {a t : Nat} {o : List (Nat × Nat)} (h : ¬ 1 < a) : pops ((a, t) :: o) = pops o := by simp only [pops]; rw [if_neg h]
end Go.Proofs.Ytoaocdmcjjohgaa

/- How many ticks a table has, how deep it goes, by the program. -/
namespace Go.Proofs.Ytoaocdmcjjohgaa
open Go.RowKit Tab
set_option linter.unusedSimpArgs false
set_option linter.unusedVariables false

theorem Outer.low {o : List (Nat × Nat)} {fs : List F} (h : Outer o fs) (M : Nat) (hM : ∀ f ∈ fs, f.cnt < M) : ∀ e ∈ o, 1 ≤ e.1 ∧ e.1 ≤ M := by
  induction o generalizing fs with
  | nil => simp
  | cons x o ih =>
    obtain ⟨a, t⟩ := x
    cases fs with
    | nil => exact h.elim
    | cons f fs =>
      obtain ⟨h1, _, _, _, h5⟩ := h
      intro e he
      rcases List.mem_cons.1 he with rfl | he
      · have := hM f (by simp)
        dsimp only
        omega
      · exact ih h5 (fun g hg => hM g (by simp [hg])) e he
theorem flats_len (fs : List F) (f : F) (h : f ∈ fs) : f.cnt ≤ (flats fs).length := by
  induction fs with
  | nil => cases h
  | cons g fs ih =>
    simp only [flats, List.length_append]
    rcases List.mem_cons.1 h with rfl | h
    · have := F.cnt_le_sz f; rw [F.flat_length]; omega
    · have := ih h; omega
theorem InvP.low {st : List (Nat × Nat)} {cur : F} {fs : List F} (h : InvP st cur fs) {tl : List Nd} (hr : cur.flat ++ flats fs = tl) (M : Nat) (hM : tl.length < M) : ∀ e ∈ st, 1 ≤ e.1 ∧ e.1 ≤ M := by
  have hl := congrArg List.length hr
  rw [List.length_append, F.flat_length] at hl
  cases st with
  | nil => simp
  | cons x o =>
    obtain ⟨a, t⟩ := x
    obtain ⟨_, h1, h2, _, _, h5⟩ := h
    intro e he
    rcases List.mem_cons.1 he with rfl | he
    · have := F.cnt_le_sz cur
      dsimp only
      omega
    · exact Outer.low h5 M (fun f hf => by have := flats_len fs f hf; omega) e he

theorem pops_len (st : List (Nat × Nat)) : (pops st).length ≤ st.length := by
  induction st with
  | nil => simp [pops]
  | cons e o ih =>
    obtain ⟨a, t⟩ := e
    simp only [pops]
    split
    · simp
    · simp only [List.length_cons]; omega
theorem behind_len (st : List (Nat × Nat)) (x : Nd) : (behind st x).length ≤ st.length + 1 := by
  unfold behind
  split
  · simp
  · split
    · simp
    · have := pops_len st; omega
/-- What is told of so many ticks. -/
def lv (T : Nat) : Int := if T ≤ 4096 then (T : Int) else 0
def lb (T : Nat) : Bool := decide (T ≤ 4096)
def Len (T : Nat) (w : World) (e : Ending) (w' : World) : Prop := e = .returned (.tuple #[.int .i64 (lv T), .bool (lb T)]) ∧ Below w.heap.size w w'
theorem Len.mk {T : Nat} {z : Int} {b : Bool} {w w' : World} (h1 : lv T = z) (h2 : lb T = b) (hb : Below w.heap.size w w') : Len T w (.returned (.tuple #[.int .i64 z, .bool b])) w' := ⟨by rw [h1, h2], hb⟩
theorem kn_kz {x : Nd} (h : fine x = true) (h0 : kn x = 0) : kz x = 0 := by rw [kz_kn h, h0]; rfl
theorem kn_kz' {x : Nd} (h : fine x = true) (h0 : kn x ≠ 0) : ∃ K : Nat, kz x = (K : Int) ∧ 0 < K := ⟨kn x, kz_kn h, by omega⟩

end Go.Proofs.Ytoaocdmcjjohgaa

/- Refusals of tables, by the program and by the document's own answer; rows that are the same. -/
namespace Go.Proofs.Ytoaocdmcjjohgaa
open Go.RowKit Tab
set_option linter.unusedSimpArgs false
set_option linter.unusedVariables false

theorem whole_size {l : List Nd} (h : wholeB l = true) : 0 < l.length ∧ size l 0 = l.length := by
  unfold wholeB at h
  simp only [Bool.and_eq_true, decide_eq_true_eq] at h
  exact h
theorem not_whole {l : List Nd} (h : wholeB l = false) (h0 : 0 < l.length) : ¬ size l 0 = l.length := fun h1 => by
  unfold wholeB at h
  rw [decide_eq_true h0, decide_eq_true h1] at h
  cases h
set_option maxHeartbeats 400000 in
theorem rDepth_none (A : Option Addr) (n cap : Nat) (l : List Nd) (w : World) (h : RdN w w.heap.size A n l) (hc : n ≤ cap) (hn : n ≤ 1048576) (hw : wholeB l = false) :
    Calls Try.prog 54 #[.slice A n cap] w (Ans (.int .i64 (0 : Nat)) w) := by
  by_cases h0 : 0 < n
  · have hs := not_whole hw (by rw [h.len]; exact h0)
    rw [h.len] at hs
    generalize hS : size l 0 = S at hs
    have HS := Lib.hid hS
    have hs' : ((S : Int) == (n : Int)) = false := beq_eq_false_iff_ne.2 (by omega)
    have hn0 : ((n : Int) == 0) = false := beq_eq_false_iff_ne.2 (by omega)
    clear hS hs hw
    go_enter Try.func54, Try.ntmps54
    go_wp2_with fail
    refine (rsize_any A n cap l 0 w h hc (by omega)).mono ?_
    rw [HS.out]
    rintro e w1 ⟨rfl, hb1⟩
    go_wp2_with fail
    all_goals
      go_ret
      exact Ans.mk rfl hb1
  · have hn0 : ((n : Int) == 0) = true := beq_iff_eq.2 (by omega)
    clear hw
    go_enter Try.func54, Try.ntmps54
    go_wp2_with fail
    go_ret
    exact Ans.mk rfl (Below.refl _ _)
set_option maxHeartbeats 400000 in
theorem rDepth_tree (A : Option Addr) (n cap : Nat) (l : List Nd) (x0 : Nd) (k0 : F) (w : World) (h : RdN w w.heap.size A n l) (hc : n ≤ cap) (hn : n ≤ 1048576) (hok : (F.cons x0 k0 .nil).ok) (hl : l = x0 :: k0.flat) :
    Calls Try.prog 54 #[.slice A n cap] w (Ans (.int .i64 (k0.dep + 1 : Nat)) w) := by
  have hw : wholeB l = true := by rw [hl]; exact tree_whole hok
  obtain ⟨h0, hs⟩ := whole_size hw
  rw [h.len] at h0 hs
  have HS := Lib.hid hs
  have hd : l.drop 0 = (F.cons x0 k0 .nil).flat ++ [] := by rw [hl]; simp [F.flat]
  have hR := fun w (h : RdN w w.heap.size A n l) => rdepth_any A n cap l hc (by omega) (k0.sz + 1) 0 x0 k0 .nil [] w (by omega) h hok hd
  have HR := Lib.hid hR
  have hn0 : ((n : Int) == 0) = false := beq_eq_false_iff_ne.2 (by omega)
  clear hs hw hR hd hl hok
  go_enter Try.func54, Try.ntmps54
  go_wp2_with fail
  refine (rsize_any A n cap l 0 w h hc (by omega)).mono ?_
  rw [HS.out]
  rintro e w1 ⟨rfl, hb1⟩
  go_wp2_with fail
  refine (HR.out w1 (h.on hb1)).mono ?_
  rintro e w2 ⟨rfl, hb2⟩
  go_wp2_with fail
  go_ret
  exact Ans.mk rfl (hb1.trans (hb2.mono hb1.size))
set_option maxHeartbeats 400000 in
theorem rLength_none (A : Option Addr) (n cap : Nat) (l : List Nd) (w : World) (h : RdN w w.heap.size A n l) (hc : n ≤ cap) (hn : n ≤ 1048576) (hw : wholeB l = false) :
    Calls Try.prog 55 #[.slice A n cap] w (Len 4097 w) := by
  have HW := Lib.hid hw
  clear hw
  go_enter Try.func55, Try.ntmps55
  go_wp2_with fail
  refine (rDepth_none A n cap l w h hc hn HW.out).mono ?_
  rintro e w1 ⟨rfl, hb1⟩
  go_wp2_with fail
  go_ret2
  exact Len.mk rfl rfl hb1
set_option maxHeartbeats 400000 in
theorem rLength_tree (A : Option Addr) (n cap : Nat) (l : List Nd) (x0 : Nd) (k0 : F) (w : World) (h : RdN w w.heap.size A n l) (hc : n ≤ cap) (hn : n ≤ 1048576) (hok : (F.cons x0 k0 .nil).ok) (hl : l = x0 :: k0.flat) :
    Calls Try.prog 55 #[.slice A n cap] w (Len (F.tick x0 k0.len) w) := by
  have hD := fun w (h : RdN w w.heap.size A n l) => rDepth_tree A n cap l x0 k0 w h hc hn hok hl
  have hd : l.drop 0 = (F.cons x0 k0 .nil).flat ++ [] := by rw [hl]; simp [F.flat]
  have hR := fun w (h : RdN w w.heap.size A n l) => rlength_any A n cap l hc (by omega) (k0.sz + 1) 0 x0 k0 .nil [] w (by omega) h hok hd
  have HD := Lib.hid hD
  have HR := Lib.hid hR
  clear hD hR hd hl hok
  have hd0 : (((k0.dep + 1 : Nat) : Int) == 0) = false := beq_eq_false_iff_ne.2 (by omega)
  generalize k0.dep + 1 = D at HD hd0
  generalize F.tick x0 k0.len = T at HR ⊢
  generalize hHd : hl4 T = H at HR
  have hh : H = min T 4097 := by rw [← hHd]; rfl
  clear hHd
  by_cases hT : T ≤ 4096
  · obtain rfl : H = T := by omega
    clear hh
    go_enter Try.func55, Try.ntmps55
    go_wp2_with fail
    refine (HD.out w h).mono ?_
    rintro e w1 ⟨rfl, hb1⟩
    go_wp2_with fail
    refine (HR.out w1 (h.on hb1)).mono ?_
    rintro e w2 ⟨rfl, hb2⟩
    go_wp2_with fail
    go_ret2
    exact Len.mk (by unfold lv; rw [if_pos hT]) (by unfold lb; exact decide_eq_true hT) (hb1.trans (hb2.mono hb1.size))
  · obtain rfl : H = 4097 := by omega
    clear hh
    go_enter Try.func55, Try.ntmps55
    go_wp2_with fail
    refine (HD.out w h).mono ?_
    rintro e w1 ⟨rfl, hb1⟩
    go_wp2_with fail
    refine (HR.out w1 (h.on hb1)).mono ?_
    rintro e w2 ⟨rfl, hb2⟩
    go_wp2_with fail
    go_ret2
    exact Len.mk (by unfold lv; rw [if_neg hT]) (by unfold lb; exact decide_eq_false hT) (hb1.trans (hb2.mono hb1.size))
/-- The refusal of a table of n nodes, so deep, with so many ticks. -/
def rt (n D T : Nat) : Int := if 128 < n then 3 else if 16 < D then 14 else if 4096 < T then 18 else 0
/-- Of what is none. -/
def rn (n : Nat) : Int := if 128 < n then 3 else 12
set_option maxHeartbeats 400000 in
theorem rright_none (A : Option Addr) (n cap : Nat) (l : List Nd) (w : World) (h : RdN w w.heap.size A n l) (hc : n ≤ cap) (hn : n ≤ 1048576) (hw : wholeB l = false) :
    Calls Try.prog 33 #[.slice A n cap] w (Ans (.int .i64 (rn n)) w) := by
  have HW := Lib.hid hw
  clear hw
  by_cases h1 : 128 < n
  · have HE : Hid (rn n = 3) := Lib.hid (if_pos h1)
    have h1' : (128 : Int) < (n : Int) := by omega
    go_enter Try.func33, Try.ntmps33
    go_wp2_with fail
    go_ret
    exact Ans.mk (by rw [HE.out]; rfl) (Below.refl _ _)
  · have HE : Hid (rn n = 12) := Lib.hid (if_neg h1)
    have h1' : ¬ (128 : Int) < (n : Int) := by omega
    go_enter Try.func33, Try.ntmps33
    go_wp2_with fail
    refine (rDepth_none A n cap l w h hc hn HW.out).mono ?_
    rintro e w1 ⟨rfl, hb1⟩
    go_wp2_with fail
    go_ret
    exact Ans.mk (by rw [HE.out]; rfl) hb1
set_option maxHeartbeats 800000 in
theorem rright_tree (A : Option Addr) (n cap : Nat) (l : List Nd) (x0 : Nd) (k0 : F) (w : World) (h : RdN w w.heap.size A n l) (hc : n ≤ cap) (hn : n ≤ 1048576) (hok : (F.cons x0 k0 .nil).ok) (hl : l = x0 :: k0.flat) :
    Calls Try.prog 33 #[.slice A n cap] w (Ans (.int .i64 (rt n (k0.dep + 1) (F.tick x0 k0.len))) w) := by
  have hwh : wholeB l = true := by rw [hl]; exact tree_whole hok
  have HWH := Lib.hid hwh
  have HD := Lib.hid fun w (h : RdN w w.heap.size A n l) => rDepth_tree A n cap l x0 k0 w h hc hn hok hl
  have HL := Lib.hid fun w (h : RdN w w.heap.size A n l) => rLength_tree A n cap l x0 k0 w h hc hn hok hl
  clear hwh hok hl
  have hd0 : (((k0.dep + 1 : Nat) : Int) == 0) = false := beq_eq_false_iff_ne.2 (by omega)
  generalize k0.dep + 1 = D at HD hd0 ⊢
  generalize F.tick x0 k0.len = T at HL ⊢
  by_cases h1 : 128 < n
  · have HE : Hid (rt n D T = 3) := Lib.hid (if_pos h1)
    have h1' : (128 : Int) < (n : Int) := by omega
    go_enter Try.func33, Try.ntmps33
    go_wp2_with fail
    go_ret
    exact Ans.mk (by rw [HE.out]; rfl) (Below.refl _ _)
  have h1' : ¬ (128 : Int) < (n : Int) := by omega
  by_cases h2 : 16 < D
  · have HE : Hid (rt n D T = 14) := Lib.hid (by unfold rt; rw [if_neg h1, if_pos h2])
    have h2' : (16 : Int) < (D : Int) := by omega
    go_enter Try.func33, Try.ntmps33
    go_wp2_with fail
    refine (HD.out w h).mono ?_
    rintro e w1 ⟨rfl, hb1⟩
    go_wp2_with fail
    refine (HD.out w1 (h.on hb1)).mono ?_
    rintro e w2 ⟨rfl, hb2⟩
    have k2 := hb1.trans (hb2.mono hb1.size)
    go_wp2_with fail
    go_ret
    exact Ans.mk (by rw [HE.out]; rfl) k2
  have h2' : ¬ (16 : Int) < (D : Int) := by omega
  by_cases h3 : 4096 < T
  · have HE : Hid (rt n D T = 18) := Lib.hid (by unfold rt; rw [if_neg h1, if_neg h2, if_pos h3])
    have hB : lb T = false := by unfold lb; exact decide_eq_false (by omega)
    have HB := Lib.hid hB
    clear hB
    go_enter Try.func33, Try.ntmps33
    go_wp2_with fail
    refine (HD.out w h).mono ?_
    rintro e w1 ⟨rfl, hb1⟩
    go_wp2_with fail
    refine (HD.out w1 (h.on hb1)).mono ?_
    rintro e w2 ⟨rfl, hb2⟩
    have k2 := hb1.trans (hb2.mono hb1.size)
    go_wp2_with fail
    refine (HL.out w2 (h.on k2)).mono ?_
    unfold Len
    rw [HB.out]
    rintro e w3 ⟨rfl, hb3⟩
    have k3 := k2.trans (hb3.mono k2.size)
    go_wp2_with fail
    go_ret
    exact Ans.mk (by rw [HE.out]; rfl) k3
  · have HE : Hid (rt n D T = 0) := Lib.hid (by unfold rt; rw [if_neg h1, if_neg h2, if_neg h3])
    have hB : lb T = true := by unfold lb; exact decide_eq_true (by omega)
    have HB := Lib.hid hB
    clear hB
    go_enter Try.func33, Try.ntmps33
    go_wp2_with fail
    refine (HD.out w h).mono ?_
    rintro e w1 ⟨rfl, hb1⟩
    go_wp2_with fail
    refine (HD.out w1 (h.on hb1)).mono ?_
    rintro e w2 ⟨rfl, hb2⟩
    have k2 := hb1.trans (hb2.mono hb1.size)
    go_wp2_with fail
    refine (HL.out w2 (h.on k2)).mono ?_
    unfold Len
    rw [HB.out]
    rintro e w3 ⟨rfl, hb3⟩
    have k3 := k2.trans (hb3.mono k2.size)
    go_wp2_with fail
    go_ret
    exact Ans.mk (by rw [HE.out]; rfl) k3
end Go.Proofs.Ytoaocdmcjjohgaa

/- A tape of numbers: the next one, held between. -/
namespace Go.Proofs.Ytoaocdmcjjohgaa
open Go.RowKit
set_option linter.unusedSimpArgs false
set_option linter.unusedVariables false

def wv (n : Int) (m : Nat) : Int := if 0 ≤ n ∧ n ≤ m then n else if n.tmod (m + 1) < 0 then n.tmod (m + 1) + m + 1 else n.tmod (m + 1)
theorem wv_bd (n : Int) (m : Nat) : 0 ≤ wv n m ∧ wv n m ≤ m := by
  unfold wv
  split
  · omega
  · by_cases h : 0 ≤ n
    · have e : n.tmod ((m : Int) + 1) = n % ((m : Int) + 1) := Int.tmod_eq_emod_of_nonneg h
      have h2 := Int.emod_nonneg n (b := (m : Int) + 1) (by omega)
      have h3 := Int.emod_lt_of_pos n (b := (m : Int) + 1) (by omega)
      rw [e, if_neg (by omega)]
      omega
    · obtain ⟨h2, h3⟩ := tmod_low n m (by omega)
      split <;> omega
set_option maxRecDepth 100000 in
set_option maxHeartbeats 400000 in
theorem within_eq (n : Int) (m : Nat) (w : World) (hm : m < 4611686018427387904) :
    Calls Try.prog 17 #[.int .i64 n, .int .i64 0, .int .i64 m] w fun e w' => e = .returned (.int .i64 (wv n m)) ∧ w' = w := by
  generalize hv : wv n m = v
  have HV := Lib.hid hv
  clear hv
  have hm0 : (0 : Int) ≤ (m : Int) := Int.natCast_nonneg _
  by_cases h0 : 0 ≤ n
  · by_cases h1 : n ≤ (m : Int)
    · go_enter Try.func17, Try.ntmps17
      go_wp2
      go_ret
      exact ⟨by rw [← HV.out, wv, if_pos ⟨h0, h1⟩]; rfl, rfl⟩
    · have h2 := Int.emod_nonneg n (b := (m : Int) + 1) (by omega)
      have h3 : n % ((m : Int) + 1) ≤ m := by have := Int.emod_lt_of_pos n (b := (m : Int) + 1) (by omega); omega
      go_enter Try.func17, Try.ntmps17
      go_wp2
      go_ret
      refine ⟨?_, rfl⟩
      have e : n.tmod ((m : Int) + 1) = n % ((m : Int) + 1) := Int.tmod_eq_emod_of_nonneg h0
      rw [← HV.out, wv, if_neg (by omega), e, if_neg (by omega)]
      simp
  · obtain ⟨h2, h3⟩ := tmod_low n m (by omega)
    by_cases h4 : n.tmod ((m : Int) + 1) < 0
    · go_enter Try.func17, Try.ntmps17
      go_wp2
      go_ret
      refine ⟨?_, rfl⟩
      rw [← HV.out, wv, if_neg (by omega), if_pos h4]
      simp
    · go_enter Try.func17, Try.ntmps17
      go_wp2
      go_ret
      refine ⟨?_, rfl⟩
      rw [← HV.out, wv, if_neg (by omega), if_neg (by omega)]
      simp
/-- A tape in block b: the numbers f lie below block B. -/
structure TapeW (w : World) (B b : Nat) (A : Option Addr) (m c : Nat) (f : Nat → Int) (at_ : Nat) : Prop where
  rd : RdC w B A m (fun j => .int .i64 (f j))
  low : B ≤ b
  c0 : w.cell? ⟨b, 0, none⟩ = some (.slice A m c)
  c1 : w.cell? ⟨b, 1, none⟩ = some (.int .i64 (at_ : Int))
  fr : w.frozen? ⟨b, 1, none⟩ = false
  le : at_ ≤ m
/-- The next number of the tape, below n; no block but the tape's has turned. -/
def Nexts (B b : Nat) (A : Option Addr) (m c : Nat) (f : Nat → Int) (n : Nat) (w : World) (e : Ending) (w' : World) : Prop :=
  ∃ k at_ : Nat, k < n ∧ e = .returned (.int .i64 (k : Int)) ∧ TapeW w' B b A m c f at_ ∧ w.grownBy w' (some b)
set_option maxRecDepth 100000 in
set_option maxHeartbeats 1600000 in
theorem next_any (B b : Nat) (A : Option Addr) (m c : Nat) (f : Nat → Int) (at_ n : Nat) (w : World) (h : TapeW w B b A m c f at_) (hn : 1 ≤ n) (hn2 : n ≤ 64) (hm : m ≤ 140737488351232) :
    Calls Try.prog 23 #[.pointer (some ⟨b, 0, none⟩), .int .i64 (n : Int)] w (Nexts B b A m c f n w) := by
  have H := Lib.hid h
  have c0 := h.c0
  have c1 := h.c1
  have hle := h.le
  clear h
  by_cases hlt : at_ < m
  · obtain ⟨ad, rfl, hab, hcell⟩ := H.out.rd.at_ hlt
    have hfr := H.out.fr
    have hlow := H.out.low
    have hF : ∀ q, TapeW ((w.drewN q).setCell ⟨b, 1, none⟩ (.int .i64 ((at_ : Int) + 1))) B b (some ad) m c f (at_ + 1) ∧ w.grownBy ((w.drewN q).setCell ⟨b, 1, none⟩ (.int .i64 ((at_ : Int) + 1))) (some b) := fun q => by
      have hbl := World.block_lt_of_cell? w _ c1
      refine ⟨⟨H.out.rd.keep fun p hp => ?_, hlow, ?_, ?_, ?_, by omega⟩, ⟨rfl, rfl, rfl, by simp [World.setCell], fun k hk hne => ?_⟩⟩
      · exact World.cell?_of_block (Below.heap_setCell (w.drewN q) ⟨b, 1, none⟩ _ p.block (fun e => by dsimp only at e; omega))
      · rw [World.cell?_setCell_other _ _ _ _ (by simp)]; exact c0
      · exact World.cell?_setCell_same _ _ _ (u := .int .i64 (at_ : Int)) c1
      · simp; exact hfr
      · exact Below.heap_setCell (w.drewN q) ⟨b, 1, none⟩ _ k (fun e => hne (by rw [e]))
    have F := Lib.hid hF
    clear hF
    have hmd : decide (m ≤ at_) = false := decide_eq_false (by omega)
    go_enter Try.func23, Try.ntmps23
    go_wp2_with fail
    go_quiet (fail)
    go_wp2_with fail
    obtain ⟨T1, G1⟩ := F.out nq
    generalize (w.drewN nq).setCell ⟨b, 1, none⟩ (.int .i64 ((at_ : Int) + 1)) = w1 at T1 G1 ⊢
    have d0 := T1.c0
    have d1 : w1.cell? ⟨b, 1, none⟩ = some (.int .i64 ((at_ : Int) + 1)) := T1.c1
    obtain ⟨ad', e, _, dcell⟩ := T1.rd.at_ hlt
    injection e with e
    subst e
    clear c0 c1 hcell hfr
    have hwr : IntKind.i64.wrap ((at_ : Int) + 1 - 1) = (at_ : Int) := by rw [IntWalk.i64_in _ (by omega)]; omega
    have hwb := wv_bd (f at_) 1073741824
    have hW := within_eq (f at_) 1073741824
    generalize wv (f at_) 1073741824 = z at hwb hW
    obtain ⟨Z, rfl⟩ := Int.eq_ofNat_of_zero_le hwb.1
    have hrem : ¬ n = 0 := by omega
    have HW := Lib.hid hW
    clear hW
    go_quiet ((go_at_call 17; exact Calls.quiet_of_same (HW.out _ (by decide))))
    go_wp2_with fail
    go_ret
    exact ⟨Z % n, at_ + 1, Nat.mod_lt _ (by omega), by rw [Int.natCast_emod]; rfl, ⟨T1.rd, T1.low, T1.c0, T1.c1, T1.fr, T1.le⟩, ⟨G1.os, G1.tape, G1.output, G1.size, G1.block⟩⟩
  · have hmd : decide (m ≤ at_) = true := decide_eq_true (by omega)
    have F : Hid (∀ q, TapeW (w.drewN q) B b A m c f at_ ∧ w.grownBy (w.drewN q) (some b)) := Lib.hid fun q => by
      have h := H.out
      exact ⟨⟨h.rd, h.low, h.c0, h.c1, h.fr, h.le⟩, ⟨rfl, rfl, rfl, Nat.le_refl _, fun _ _ _ => rfl⟩⟩
    go_enter Try.func23, Try.ntmps23
    go_wp2_with fail
    go_quiet (fail)
    go_wp2_with fail
    go_ret
    exact ⟨0, at_, by omega, rfl, (F.out _).1, (F.out _).2⟩
end Go.Proofs.Ytoaocdmcjjohgaa

/- A table that is made of a tape of numbers is one. -/
namespace Go.Proofs.Ytoaocdmcjjohgaa
open Go.RowKit Tab
set_option linter.unusedSimpArgs false
set_option linter.unusedVariables false

theorem next_at (B b : Nat) (A : Option Addr) (m c : Nat) (f : Nat → Int) (at_ n : Nat) (N : Int) (w : World) (h : TapeW w B b A m c f at_) (hN : N = (n : Int)) (hn : 1 ≤ n) (hn2 : n ≤ 64) (hm : m ≤ 140737488351232) :
    Calls Try.prog 23 #[.pointer (some ⟨b, 0, none⟩), .int .i64 N] w (Nexts B b A m c f n w) := by
  subst hN
  exact next_any B b A m c f at_ n w h hn hn2 hm
theorem TapeW.lt {w : World} {B b : Nat} {A : Option Addr} {m c : Nat} {f : Nat → Int} {at_ : Nat} (h : TapeW w B b A m c f at_) : b < w.heap.size := World.block_lt_of_cell? w _ h.c0
theorem TapeW.below {w w' : World} {B b : Nat} {A : Option Addr} {m c : Nat} {f : Nat → Int} {at_ : Nat} (h : TapeW w B b A m c f at_) {Bs : Nat} (hb : Below Bs w w') (hlt : b < Bs) : TapeW w' B b A m c f at_ :=
  ⟨h.rd.keep fun p hp => hb.cell (by have := h.low; omega), h.low, (hb.cell (p := ⟨b, 0, none⟩) hlt).trans h.c0, (hb.cell (p := ⟨b, 1, none⟩) hlt).trans h.c1, (hb.frozen (p := ⟨b, 1, none⟩) hlt).trans h.fr, h.le⟩
theorem gb_trans {a w w' : World} {x : Option Nat} (h : a.grownBy w x) (k : w.grownBy w' x) : a.grownBy w' x :=
  ⟨k.os.trans h.os, k.tape.trans h.tape, k.output.trans h.output, Nat.le_trans h.size k.size, fun i hi hne => (k.block i (Nat.lt_of_lt_of_le hi h.size) hne).trans (h.block i hi hne)⟩
theorem gb_below {a w w' : World} {x : Option Nat} {B : Nat} (h : a.grownBy w x) (k : Below B w w') (hB : a.heap.size ≤ B) : a.grownBy w' x :=
  ⟨k.os.trans h.os, k.tape.trans h.tape, k.output.trans h.output, Nat.le_trans h.size k.size, fun i hi hne => (k.block i (by omega)).trans (h.block i hi hne)⟩
theorem gb_alloc {a w : World} {x : Option Nat} (h : a.grownBy w x) (o : Obj) : a.grownBy (w.alloc o) x := gb_below h (bl1 w o) h.size
/-- A row of nodes of the call's own. -/
structure OwnN (w : World) (B : Nat) (A : Option Addr) (n c : Nat) (l : List Nd) : Prop where
  len : l.length = n
  own : OwnV 95 3 w B A n c (ns l)
  bd : ∀ x ∈ l, NdIn x
theorem OwnN.rdn {w : World} {B n c : Nat} {A : Option Addr} {l : List Nd} (h : OwnN w B A n c l) : RdN w w.heap.size A n l := ⟨h.len, h.own.rd, h.bd⟩
theorem OwnN.keep {w w' : World} {B n c : Nat} {A : Option Addr} {l : List Nd} (h : OwnN w B A n c l) (hk : ∀ b, B ≤ b → b < w.heap.size → w'.heap[b]? = w.heap[b]?) : OwnN w' B A n c l := ⟨h.len, h.own.keep hk, h.bd⟩
theorem OwnN.gb {w w' : World} {B n c b : Nat} {A : Option Addr} {l : List Nd} (h : OwnN w B A n c l) (hg : w.grownBy w' (some b)) (hb : b < B) : OwnN w' B A n c l :=
  h.keep fun k hk hlt => hg.block k hlt (fun e => by injection e with e; omega)
theorem OwnN.lit (w : World) (B : Nat) (C : Array Value) (l : List Nd) (m : Nat) (hl : l.length = m) (hC : C.toList = ns l) (hB : B ≤ w.heap.size) (hm : m ≤ 4096) (hb : ∀ x ∈ l, NdIn x) : OwnN (w.alloc (.cells C 95)) B (some ⟨w.heap.size, 0, none⟩) m m l := by
  refine ⟨hl, ?_, hb⟩
  have := ownV_lit w 95 3 B C m (by rw [← Array.length_toList, hC, ns_length, hl]) hB (by unfold maxLen; omega)
  rwa [hC] at this
/-- A table, new, of no more than X nodes, no deeper than D; of what was there the tape alone has turned. -/
def Tabs (B b : Nat) (A : Option Addr) (m c : Nat) (f : Nat → Int) (X D : Nat) (w : World) (e : Ending) (w' : World) : Prop :=
  ∃ (x : Nd) (k : F) (A' : Option Addr) (n' c' at' : Nat), e = .returned (.slice A' n' c') ∧ (F.cons x k .nil).ok ∧ OwnN w' w.heap.size A' n' c' (x :: k.flat) ∧ k.sz + 1 ≤ X ∧ k.dep ≤ D ∧ TapeW w' B b A m c f at' ∧ w.grownBy w' (some b)
theorem ndIn_mk {k p n : Int} (hk : 0 ≤ k ∧ k ≤ 9) (hp : 0 ≤ p ∧ p ≤ 9) (hn : 0 ≤ n ∧ n ≤ 1048576) : NdIn ⟨k, p, n⟩ := by
  unfold NdIn In64
  dsimp only
  omega
set_option maxRecDepth 100000 in
set_option maxHeartbeats 4000000 in
theorem table_any (B b : Nat) (A : Option Addr) (m c : Nat) (f : Nat → Int) (hm : m ≤ 140737488351232) (parts : Nat) (hp1 : 1 ≤ parts) (hp2 : parts ≤ 6) (d : Nat) : ∀ (at_ : Nat) (w : World), d ≤ 6 → TapeW w B b A m c f at_ →
    Calls Try.prog 45 #[.pointer (some ⟨b, 0, none⟩), .int .i64 (parts : Int), .int .i64 (d : Int)] w (Tabs B b A m c f (5 ^ (d + 1)) d w) := by
  induction d with
  | zero =>
    intro at_ w hd T
    have hX : 5 ^ (0 + 1) = 5 := rfl
    rw [hX]
    clear hX
    go_enter Try.func45, Try.ntmps45
    go_wp2_with fail
    refine (next_at B b A m c f at_ 7 _ w T rfl (by omega) (by omega) hm).mono ?_
    rintro e w1 ⟨k, at1, hk, rfl, T1, G1⟩
    by_cases hk0 : k = 0
    · subst hk0
      go_wp2_with fail
      refine (next_at B b A m c f at1 4 _ w1 T1 rfl (by omega) (by omega) hm).mono ?_
      rintro e w2 ⟨j, at2, hj, rfl, T2, G2⟩
      go_wp2_with fail
      go_ret
      exact ⟨⟨2, 0, 1 + (j : Int)⟩, .nil, _, 1, 1, at2, rfl, ⟨(fine_iff _ _ _).2 (by omega), by simp [F.cnt, kn], trivial, trivial⟩, OwnN.lit w2 w.heap.size #[.int .i64 2, .int .i64 0, .int .i64 (1 + (j : Int))] [⟨2, 0, 1 + (j : Int)⟩] 1 rfl rfl (Nat.le_trans G1.size G2.size) (by omega) (by intro x hx; simp at hx; subst hx; exact ndIn_mk (by omega) (by omega) (by omega)), by simp only [F.sz]; omega, by simp only [F.dep]; omega, T2.below (bl1 w2 _) T2.lt, gb_alloc (gb_trans G1 G2) _⟩
    · have hk0' : ((k : Int) == 0) = false := beq_eq_false_iff_ne.2 (by omega)
      go_wp2_with fail
      refine (next_at B b A m c f at1 parts _ w1 T1 rfl hp1 (by omega) hm).mono ?_
      rintro e w2 ⟨p, at2, hp, rfl, T2, G2⟩
      go_wp2_with fail
      refine (next_at B b A m c f at2 4 _ w2 T2 rfl (by omega) (by omega) hm).mono ?_
      rintro e w3 ⟨j, at3, hj, rfl, T3, G3⟩
      go_wp2_with fail
      go_ret
      exact ⟨⟨1, (p : Int), 1 + (j : Int)⟩, .nil, _, 1, 1, at3, rfl, ⟨(fine_iff _ _ _).2 (by omega), by simp [F.cnt, kn], trivial, trivial⟩, OwnN.lit w3 w.heap.size #[.int .i64 1, .int .i64 (p : Int), .int .i64 (1 + (j : Int))] [⟨1, (p : Int), 1 + (j : Int)⟩] 1 rfl rfl (Nat.le_trans G1.size (Nat.le_trans G2.size G3.size)) (by omega) (by intro x hx; simp at hx; subst hx; exact ndIn_mk (by omega) (by omega) (by omega)), by simp only [F.sz]; omega, by simp only [F.dep]; omega, T3.below (bl1 w3 _) T3.lt, gb_alloc (gb_trans G1 (gb_trans G2 G3)) _⟩
  | succ d ih =>
    intro at_ w hd T
    have HIH := Lib.hid ih
    clear ih
    have hX : 5 ^ (d + 1) ≤ 78125 := Nat.le_trans (Nat.pow_le_pow_right (by omega) (show d + 1 ≤ 7 by omega)) (by decide)
    have hX2 : 5 ^ (d + 1 + 1) = 5 * 5 ^ (d + 1) := by rw [Nat.pow_succ, Nat.mul_comm]
    have hX1 : 1 ≤ 5 ^ (d + 1) := Nat.pow_pos (by omega)
    rw [hX2]
    generalize 5 ^ (d + 1) = X at hX hX1 HIH ⊢
    clear hX2
    have hd1 : decide (((d + 1 : Nat) : Int) < 1) = false := decide_eq_false (by omega)
    go_enter Try.func45, Try.ntmps45
    go_wp2_with fail
    refine (next_at B b A m c f at_ 7 _ w T rfl (by omega) (by omega) hm).mono ?_
    rintro e w1 ⟨k, at1, hk, rfl, T1, G1⟩
    by_cases hk2 : k < 2
    · by_cases hk0 : k = 0
      · subst hk0
        go_wp2_with fail
        refine (next_at B b A m c f at1 4 _ w1 T1 rfl (by omega) (by omega) hm).mono ?_
        rintro e w2 ⟨j, at2, hj, rfl, T2, G2⟩
        go_wp2_with fail
        go_ret
        exact ⟨⟨2, 0, 1 + (j : Int)⟩, .nil, _, 1, 1, at2, rfl, ⟨(fine_iff _ _ _).2 (by omega), by simp [F.cnt, kn], trivial, trivial⟩, OwnN.lit w2 w.heap.size #[.int .i64 2, .int .i64 0, .int .i64 (1 + (j : Int))] [⟨2, 0, 1 + (j : Int)⟩] 1 rfl rfl (Nat.le_trans G1.size G2.size) (by omega) (by intro x hx; simp at hx; subst hx; exact ndIn_mk (by omega) (by omega) (by omega)), by simp only [F.sz]; omega, by simp only [F.dep]; omega, T2.below (bl1 w2 _) T2.lt, gb_alloc (gb_trans G1 G2) _⟩
      · have hk0' : ((k : Int) == 0) = false := beq_eq_false_iff_ne.2 (by omega)
        go_wp2_with fail
        refine (next_at B b A m c f at1 parts _ w1 T1 rfl hp1 (by omega) hm).mono ?_
        rintro e w2 ⟨p, at2, hp, rfl, T2, G2⟩
        go_wp2_with fail
        refine (next_at B b A m c f at2 4 _ w2 T2 rfl (by omega) (by omega) hm).mono ?_
        rintro e w3 ⟨j, at3, hj, rfl, T3, G3⟩
        go_wp2_with fail
        go_ret
        exact ⟨⟨1, (p : Int), 1 + (j : Int)⟩, .nil, _, 1, 1, at3, rfl, ⟨(fine_iff _ _ _).2 (by omega), by simp [F.cnt, kn], trivial, trivial⟩, OwnN.lit w3 w.heap.size #[.int .i64 1, .int .i64 (p : Int), .int .i64 (1 + (j : Int))] [⟨1, (p : Int), 1 + (j : Int)⟩] 1 rfl rfl (Nat.le_trans G1.size (Nat.le_trans G2.size G3.size)) (by omega) (by intro x hx; simp at hx; subst hx; exact ndIn_mk (by omega) (by omega) (by omega)), by simp only [F.sz]; omega, by simp only [F.dep]; omega, T3.below (bl1 w3 _) T3.lt, gb_alloc (gb_trans G1 (gb_trans G2 G3)) _⟩
    · by_cases hk3 : k = 2
      · subst hk3
        go_wp2_with fail
        refine (next_at B b A m c f at1 3 _ w1 T1 rfl (by omega) (by omega) hm).mono ?_
        rintro e w2 ⟨j, at2, hj, rfl, T2, G2⟩
        go_wp2_with fail
        have ql := OwnN.lit w2 w.heap.size #[.int .i64 4, .int .i64 0, .int .i64 (1 + (j : Int))] [⟨4, 0, 1 + (j : Int)⟩] 1 rfl rfl (Nat.le_trans G1.size G2.size) (by omega) (by intro x hx; simp at hx; subst hx; exact ndIn_mk (by omega) (by omega) (by omega))
        have T3 := T2.below (bl1 w2 (.cells #[.int .i64 4, .int .i64 0, .int .i64 (1 + (j : Int))] 95)) T2.lt
        have G3 := gb_alloc (gb_trans G1 G2) (.cells #[.int .i64 4, .int .i64 0, .int .i64 (1 + (j : Int))] 95)
        refine (HIH.out at2 _ (by omega) T3).mono ?_
        rintro e w4 ⟨x, k, A4, n4, c4, at4, rfl, hok, hown, hsz, hdp, T4, G4⟩
        have hb0 : b < w.heap.size := T.lt
        have ql4 := ql.gb G4 hb0
        have G5 := gb_trans G3 G4
        have hlen4 := hown.len
        simp only [List.length_cons, F.flat_length] at hlen4
        go_wp2_with (at_builtin; go_loud (refine wpList_appV elN rfl (.tmp 40) (.tmp 45) rfl rfl w.heap.size _ 1 1 _ rfl ql4.own A4 n4 c4 _ _ rfl hown.own.rd (by rw [ns_length, hown.len]) (ns_one _) (by omega) (by unfold maxLen; omega) G5.size (1 + n4) rfl _ rfl ?_; intro A5 c5 w5 hw5 hb5 _))
        go_ret
        refine ⟨⟨4, 0, 1 + (j : Int)⟩, .cons x k .nil, A5, 1 + n4, c5, at4, rfl, ⟨(fine_iff _ _ _).2 (by omega), by simp [F.cnt, kn], hok, trivial⟩, ⟨?_, ?_, ?_⟩, ?_, ?_, T4.below hb5 hb0, gb_below G5 hb5 (Nat.le_refl _)⟩
        · simp only [List.length_cons, F.flat, List.append_nil, F.flat_length]; omega
        · have e : (F.cons x k .nil).flat = x :: k.flat := by simp [F.flat]
          rw [e]
          exact hw5
        · intro y hy
          have e : (F.cons x k .nil).flat = x :: k.flat := by simp [F.flat]
          rw [e] at hy
          rcases List.mem_cons.1 hy with rfl | hy
          · exact ndIn_mk (by omega) (by omega) (by omega)
          · exact hown.bd y hy
        · simp only [F.sz]; omega
        · simp only [F.dep]; omega
      · have hk3' : ((k : Int) == 2) = false := beq_eq_false_iff_ne.2 (by omega)
        go_wp2_with fail
        refine (next_at B b A m c f at1 4 _ w1 T1 rfl (by omega) (by omega) hm).mono ?_
        rintro e w2 ⟨j, at2, hj, rfl, T2, G2⟩
        have hb0 : b < w.heap.size := T.lt
        have ql := OwnN.lit w2 w.heap.size #[.int .i64 3, .int .i64 0, .int .i64 (1 + (j : Int))] [⟨3, 0, 1 + (j : Int)⟩] 1 rfl rfl (Nat.le_trans G1.size G2.size) (by omega) (by intro x hx; simp at hx; subst hx; exact ndIn_mk (by omega) (by omega) (by omega))
        have T3 := T2.below (bl1 w2 (.cells #[.int .i64 3, .int .i64 0, .int .i64 (1 + (j : Int))] 95)) T2.lt
        have G3 := gb_alloc (gb_trans G1 G2) (.cells #[.int .i64 3, .int .i64 0, .int .i64 (1 + (j : Int))] 95)
        go_wp2_with fail
        generalize w2.alloc (.cells #[.int .i64 3, .int .i64 0, .int .i64 (1 + (j : Int))] 95) = w3 at ql T3 G3 ⊢
        go_loopw [9, 10] (fun q s wr => ∃ (i : Nat) (g : F) (A1 : Option Addr) (n1 c1 at' : Nat), i ≤ 1 + j ∧ s = .int .i64 i ∧ q = .slice A1 n1 c1 ∧ g.ok ∧ g.cnt = i ∧ OwnN wr w.heap.size A1 n1 c1 (⟨3, 0, 1 + (j : Int)⟩ :: g.flat) ∧ g.sz ≤ i * X ∧ g.dep ≤ d + 1 ∧ TapeW wr B b A m c f at' ∧ w.grownBy wr (some b)) (fun _ s _ => 1 + j - (intOf s).toNat)
        case atStart => exact ⟨0, .nil, _, 1, 1, at2, by omega, rfl, rfl, trivial, rfl, ql, by simp [F.sz], by simp [F.dep], T3, G3⟩
        case round =>
          obtain ⟨i, g, A1, n1, c1, at3, hi, rfl, rfl, hgok, hgc, hown, hgs, hgd, T4, G4⟩ := hrel
          have HOK := Lib.hid hgok
          have HGC := Lib.hid hgc
          have HLEN := Lib.hid hown.len
          have hiX : (i + 1) * X = i * X + X := Nat.succ_mul i X
          have hiX4 : i * X ≤ 4 * X := Nat.mul_le_mul_right _ (by omega)
          clear hgok hgc T1 T2 T3 G1 G2 G3 ql
          by_cases hlt : i < 1 + j
          · have hlt' : decide ((i : Int) < 1 + (j : Int)) = true := decide_eq_true (by omega)
            go_wp2_with fail
            refine (HIH.out at3 _ (by omega) T4).mono ?_
            rintro e w5 ⟨x, kk, A5, n5, c5, at5, rfl, hok, hown5, hsz, hdp, T5, G5⟩
            have q5 := hown.gb G5 hb0
            have G6 := gb_trans G4 G5
            have hlen5 := hown5.len
            have hlen := HLEN.out
            simp only [List.length_cons, F.flat_length] at hlen5 hlen
            go_wp2_with (at_builtin; go_loud (refine wpList_appV elN rfl (.tmp 58) (.tmp 63) rfl rfl w.heap.size _ n1 c1 _ rfl q5.own A5 n5 c5 _ _ rfl hown5.own.rd (by rw [ns_length, hown5.len]) (ns_one _) (by omega) (by unfold maxLen; omega) G6.size (n1 + n5) rfl _ rfl ?_; intro A6 c6 w6 hw6 hb6 _))
            go_roundw
            case rel =>
              have e : (g.app (.cons x kk .nil)).flat = g.flat ++ x :: kk.flat := by rw [F.app_flat]; simp [F.flat]
              refine ⟨i + 1, g.app (.cons x kk .nil), A6, n1 + n5, c6, at5, by omega, by go_num, rfl, F.app_ok HOK.out hok, by rw [F.app_cnt, HGC.out]; rfl, ⟨?_, ?_, ?_⟩, ?_, ?_, T5.below hb6 hb0, gb_below G6 hb6 (Nat.le_refl _)⟩
              · rw [e]; simp only [List.length_cons, List.length_append, F.flat_length]; omega
              · rw [e, ← List.cons_append, ns_append]; exact hw6
              · intro y hy
                rw [e, ← List.cons_append] at hy
                rcases List.mem_append.1 hy with hy | hy
                · exact hown.bd y hy
                · exact hown5.bd y hy
              · rw [F.app_sz, hiX]; simp only [F.sz]; omega
              · rw [F.app_dep]; simp only [F.dep]; omega
            case measure => simp [intOf]; omega
          · have hlt' : decide ((i : Int) < 1 + (j : Int)) = false := decide_eq_false (by omega)
            go_wp2_with fail
            go_ret
            refine ⟨⟨3, 0, 1 + (j : Int)⟩, g, A1, n1, c1, at3, rfl, ⟨(fine_iff _ _ _).2 (by omega), ?_, HOK.out, trivial⟩, hown, by omega, hgd, T4, G4⟩
            have := HGC.out
            simp only [kn]
            rw [if_pos trivial]
            omega
/-- A table, new, of no more than X nodes, no deeper than D; what was there is as it was. -/
def TabD (X D : Nat) (w : World) (e : Ending) (w' : World) : Prop :=
  ∃ (x : Nd) (k : F) (A' : Option Addr) (n' c' : Nat), e = .returned (.slice A' n' c') ∧ (F.cons x k .nil).ok ∧ RdN w' w'.heap.size A' n' (x :: k.flat) ∧ n' ≤ c' ∧ k.sz + 1 ≤ X ∧ k.dep ≤ D ∧ Below w.heap.size w w'
/-- A table, new, of no more than X nodes; what was there is as it was. -/
def TabB (X : Nat) (w : World) (e : Ending) (w' : World) : Prop :=
  ∃ (x : Nd) (k : F) (A' : Option Addr) (n' c' : Nat), e = .returned (.slice A' n' c') ∧ (F.cons x k .nil).ok ∧ RdN w' w'.heap.size A' n' (x :: k.flat) ∧ n' ≤ c' ∧ k.sz + 1 ≤ X ∧ Below w.heap.size w w'
theorem OwnN.cap {w : World} {B n c : Nat} {A : Option Addr} {l : List Nd} (h : OwnN w B A n c l) : n ≤ c := OwnV.cap h.own
theorem tape_boxed (A : Option Addr) (n cap : Nat) (f : Nat → Int) (w : World) (h : RdC w w.heap.size A n fun j => .int .i64 (f j)) : TapeW (w.alloc (.cells #[.slice A n cap, .int .i64 0] 26)) w.heap.size w.heap.size A n cap f 0 :=
  ⟨h.keep fun p hp => World.cell?_alloc_lt w _ p hp, Nat.le_refl _, by simp [World.cell?_alloc_mark], by simp [World.cell?_alloc_mark], by simp, Nat.zero_le _⟩
theorem gb_boxed {w w1 : World} {o : Obj} (h : (w.alloc o).grownBy w1 (some w.heap.size)) : Below w.heap.size w w1 :=
  (bl1 w o).trans ⟨h.os, h.tape, h.output, h.size, fun i hi => h.block i (by simp; omega) (fun e => by injection e with e; omega)⟩
/-- Out of a tape that was just boxed. -/
theorem table_boxd (A : Option Addr) (n cap : Nat) (f : Nat → Int) (w : World) (P D : Int) (parts d : Nat) (hP : P = (parts : Int)) (hD : D = (d : Int)) (hp1 : 1 ≤ parts) (hp2 : parts ≤ 6) (hd : d ≤ 6) (h : RdC w w.heap.size A n fun j => .int .i64 (f j)) (hn : n ≤ 140737488351232) :
    Calls Try.prog 45 #[.pointer (some ⟨w.heap.size, 0, none⟩), .int .i64 P, .int .i64 D] (w.alloc (.cells #[.slice A n cap, .int .i64 0] 26)) (TabD (5 ^ (d + 1)) d w) := by
  subst hP; subst hD
  refine (table_any w.heap.size w.heap.size A n cap f hn parts hp1 hp2 d 0 _ hd (tape_boxed A n cap f w h)).mono ?_
  rintro e w1 ⟨x, k, A', n', c', at', rfl, hok, hown, hsz, hdp, T1, G1⟩
  exact ⟨x, k, A', n', c', rfl, hok, hown.rdn, hown.cap, hsz, hdp, gb_boxed G1⟩
theorem table_box (A : Option Addr) (n cap : Nat) (f : Nat → Int) (w : World) (P D : Int) (parts d : Nat) (hP : P = (parts : Int)) (hD : D = (d : Int)) (hp1 : 1 ≤ parts) (hp2 : parts ≤ 6) (hd : d ≤ 6) (h : RdC w w.heap.size A n fun j => .int .i64 (f j)) (hn : n ≤ 140737488351232) :
    Calls Try.prog 45 #[.pointer (some ⟨w.heap.size, 0, none⟩), .int .i64 P, .int .i64 D] (w.alloc (.cells #[.slice A n cap, .int .i64 0] 26)) (TabB (5 ^ (d + 1)) w) :=
  (table_boxd A n cap f w P D parts d hP hD hp1 hp2 hd h hn).mono fun e w1 ⟨x, k, A', n', c', he, hok, hr, hc, hsz, _, hb⟩ => ⟨x, k, A', n', c', he, hok, hr, hc, hsz, hb⟩
/-- Bits held by a mask. -/
theorem and_mask (a : Int) (m : Nat) (hm : m < 9223372036854775808) : ∃ M : Nat, bits .and .i64 a (m : Int) = (M : Int) ∧ M ≤ m := by
  refine ⟨(BitVec.ofInt 64 a &&& BitVec.ofInt 64 (m : Int)).toNat, ?_, ?_⟩
  · have h : (BitVec.ofInt 64 a &&& BitVec.ofInt 64 (m : Int)).toNat ≤ m := by
      rw [BitVec.toNat_and]
      refine Nat.le_trans Nat.and_le_right ?_
      rw [BitVec.ofInt_natCast, BitVec.toNat_ofNat]
      exact Nat.mod_le _ _
    show IntKind.i64.wrap ((BitVec.ofInt 64 a &&& BitVec.ofInt 64 (m : Int)).toNat : Int) = _
    rw [IntKind.wrap_i64]
    omega
  · rw [BitVec.toNat_and]
    refine Nat.le_trans Nat.and_le_right ?_
    rw [BitVec.ofInt_natCast, BitVec.toNat_ofNat]
    exact Nat.mod_le _ _
end Go.Proofs.Ytoaocdmcjjohgaa

/- A cursor in memory: its cells; the levels above a leaf. -/
namespace Go.Proofs.Ytoaocdmcjjohgaa
open Go.RowKit Tab
set_option linter.unusedSimpArgs false
set_option linter.unusedVariables false

/-- The 37 cells of block b. -/
def Blk (w : World) (b : Nat) (c : Nat → Value) : Prop := ∀ o, o < 37 → w.cell? ⟨b, o, none⟩ = some (c o) ∧ w.frozen? ⟨b, o, none⟩ = false
def upd (c : Nat → Value) (i : Nat) (v : Value) : Nat → Value := fun j => if j = i then v else c j
theorem upd_same (c : Nat → Value) (i : Nat) (v : Value) : upd c i v i = v := if_pos rfl
theorem upd_other {c : Nat → Value} {i j : Nat} {v : Value} (h : j ≠ i) : upd c i v j = c j := if_neg h
section
variable {w w' : World} {b : Nat} {c : Nat → Value}
theorem Blk.set (h : Blk w b c) {i : Nat} (hi : i < 37) (v : Value) : Blk (w.setCell ⟨b, i, none⟩ v) b (upd c i v) := fun o ho => by
  refine ⟨?_, by simpa using (h o ho).2⟩
  by_cases e : o = i
  · subst e
    rw [upd_same]
    exact World.cell?_setCell_same _ _ _ (h o ho).1
  · rw [upd_other e, World.cell?_setCell_other _ _ _ _ (by simp [e])]
    exact (h o ho).1
theorem Blk.drewN (h : Blk w b c) (q : Nat) : Blk (w.drewN q) b c := h
theorem Blk.lt (h : Blk w b c) : b < w.heap.size := World.block_lt_of_cell? w _ (h 0 (by omega)).1
theorem Blk.keep (h : Blk w b c) (hk : w'.heap[b]? = w.heap[b]?) : Blk w' b c := fun o ho => by
  exact ⟨(World.cell?_of_block hk).trans (h o ho).1, (World.frozen?_of_block hk).trans (h o ho).2⟩
theorem gb_set {a : World} {x : Nat} (h : a.grownBy w (some x)) (o : Nat) (v : Value) : a.grownBy (w.setCell ⟨x, o, none⟩ v) (some x) :=
  ⟨h.os, h.tape, h.output, by have := h.size; simpa [World.setCell] using this, fun k hk hne => (Below.heap_setCell w ⟨x, o, none⟩ v k (fun e => hne (by rw [e]))).trans (h.block k hk hne)⟩
theorem gb_refl (w : World) (x : Option Nat) : w.grownBy w x := ⟨rfl, rfl, rfl, Nat.le_refl _, fun _ _ _ => rfl⟩
theorem gb_drew {a : World} {x : Option Nat} (h : a.grownBy w x) : a.grownBy w.drew x := ⟨h.os, h.tape, h.output, h.size, h.block⟩
theorem gb_drewN {a : World} {x : Option Nat} (h : a.grownBy w x) (q : Nat) : a.grownBy (w.drewN q) x := ⟨h.os, h.tape, h.output, h.size, h.block⟩
end
/-- One level more, d being how many there are. -/
def pushC (c : Nat → Value) (d : Nat) (a b : Int) : Nat → Value := upd (upd (upd c (1 + d * 2) (.int .i64 a)) (1 + d * 2 + 1) (.int .i64 b)) 33 (.int .i64 ((d : Int) + 1))
/-- The levels, the innermost first. -/
def StC (c : Nat → Value) : List (Nat × Nat) → Prop
  | [] => True
  | (a, b) :: o => c (1 + o.length * 2) = .int .i64 (a : Int) ∧ c (1 + o.length * 2 + 1) = .int .i64 (b : Int) ∧ StC c o
theorem StC.put {c : Nat → Value} {st : List (Nat × Nat)} (h : StC c st) {i : Nat} (hi : 1 + st.length * 2 ≤ i) (v : Value) : StC (upd c i v) st := by
  induction st with
  | nil => trivial
  | cons e o ih =>
    obtain ⟨a, b⟩ := e
    simp only [List.length_cons] at hi
    exact ⟨by rw [upd_other (by omega)]; exact h.1, by rw [upd_other (by omega)]; exact h.2.1, ih h.2.2 (by omega)⟩
/-- The path's cells: the levels, how many. -/
def PathC (c : Nat → Value) (st : List (Nat × Nat)) : Prop := StC c st ∧ c 33 = .int .i64 (st.length : Int) ∧ st.length ≤ 16
theorem PathC.push {c : Nat → Value} {st : List (Nat × Nat)} (h : PathC c st) (hl : st.length ≤ 15) (a b : Nat) : PathC (pushC c st.length (a : Int) (b : Int)) ((a, b) :: st) := by
  unfold pushC
  refine ⟨⟨?_, ?_, ?_⟩, ?_, by simp only [List.length_cons]; omega⟩
  · rw [upd_other (by omega), upd_other (by omega), upd_same]
  · rw [upd_other (by omega), show 1 + st.length * 2 + 1 = 1 + st.length * 2 + 1 from rfl, upd_same]
  · exact ((h.1.put (by omega) _).put (by omega) _).put (by omega) _
  · rw [upd_same]; simp
theorem pushC_other (c : Nat → Value) (d : Nat) (a b : Int) (hd : d ≤ 15) {j : Nat} (hj : j = 0 ∨ 33 < j) : pushC c d a b j = c j := by
  unfold pushC
  rw [upd_other (by omega), upd_other (by omega), upd_other (by omega)]
/-- But for the path's cells c and c' are the same. -/
def Rest (c c' : Nat → Value) : Prop := c' 0 = c 0 ∧ ∀ j, 33 < j → c' j = c j
theorem Rest.refl (c : Nat → Value) : Rest c c := ⟨rfl, fun _ _ => rfl⟩
theorem Rest.put {c c' : Nat → Value} (h : Rest c c') {i : Nat} (hi : 1 ≤ i) (hi2 : i ≤ 33) (v : Value) : Rest c (upd c' i v) :=
  ⟨by rw [upd_other (by omega)]; exact h.1, fun j hj => by rw [upd_other (by omega)]; exact h.2 j hj⟩
theorem StC.dec {c : Nat → Value} {a b : Nat} {o : List (Nat × Nat)} (h : StC c ((a, b) :: o)) (x : Nat) : StC (upd c (1 + o.length * 2) (.int .i64 (x : Int))) ((x, b) :: o) :=
  ⟨upd_same _ _ _, by rw [upd_other (by omega)]; exact h.2.1, h.2.2.put (by omega) _⟩
/-- How many levels a cell says. -/
def deepOf (w : World) (b : Nat) : Nat := match w.cell? ⟨b, 33, none⟩ with
  | some (.int _ z) => z.toNat
  | _ => 0
theorem deepOf_eq {w : World} {b : Nat} {c : Nat → Value} {d : Nat} (h : Blk w b c) (e : c 33 = .int .i64 (d : Int)) : deepOf w b = d := by
  unfold deepOf
  rw [(h 33 (by omega)).1, e]
  simp
/-- What behind leaves. -/
def Went (b : Nat) (c : Nat → Value) (st : List (Nat × Nat)) (p : Nat) (w : World) (e : Ending) (w' : World) : Prop :=
  e = .returned (.int .i64 ((popm st p).2 : Nat)) ∧ ∃ c', Blk w' b c' ∧ PathC c' (popm st p).1 ∧ Rest c c' ∧ w.grownBy w' (some b)
theorem Went.mk {b : Nat} {c c' : Nat → Value} {st st' : List (Nat × Nat)} {p p' : Nat} {w w' : World} {z : Int} (h : popm st p = (st', p')) (hz : z = (p' : Int)) (hB : Blk w' b c') (hP : PathC c' st') (hR : Rest c c') (hG : w.grownBy w' (some b)) : Went b c st p w (.returned (.int .i64 z)) w' := by
  unfold Went
  rw [h, hz]
  exact ⟨rfl, c', hB, hP, hR, hG⟩
end Go.Proofs.Ytoaocdmcjjohgaa
