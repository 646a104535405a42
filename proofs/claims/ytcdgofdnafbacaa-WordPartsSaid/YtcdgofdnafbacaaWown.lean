/- Package word's Project, as a row of the call's own. -/
import Derived.Test.YtcdgofdnafbacaaWprg
namespace Go.Proofs.Ytcdgofdnafbacaa
open Go.RowKit Tab
set_option linter.unusedSimpArgs false
set_option linter.unusedVariables false

/-- It answers a row of runs of its own: what is behind it may be written. -/
def OwnR (L : List Rn) (w : World) (e : Ending) (w' : World) : Prop := ∃ A c, e = .returned (.slice A L.length c) ∧ OwnV 31 2 w' w.heap.size A L.length c (rs L) ∧ Below w.heap.size w w'
set_option maxRecDepth 100000 in
set_option maxHeartbeats 4000000 in
theorem tidy_own (A : Option Addr) (n cap : Nat) (L : List Rn) (w : World) (h : RdR w w.heap.size A n L) (hc : n ≤ cap) (hn : n ≤ 1048576) (ht : ticks L ≤ 1099511627776) :
    Calls Try.prog 32 #[.slice A n cap] w (OwnR (tidy L) w) := by
  go_enter Try.func32, Try.ntmps32
  go_wp2_with fail
  go_loopw [3, 9] (fun q s wr => ∃ (i m c' : Nat) (A' : Option Addr), i ≤ n ∧ s = .int .i64 i ∧ q = .slice A' m c' ∧ m ≤ i ∧ OwnV 31 2 wr w.heap.size A' m c' (rs (tidy (L.take i))) ∧ Below w.heap.size w wr) (fun _ s _ => n - (intOf s).toNat)
  case atStart => exact ⟨0, 0, 0, none, by omega, rfl, rfl, by omega, by simpa [tidy, tidyOn, rs] using OwnV.nil _ _ _ _, Below.refl _ _⟩
  case round =>
    obtain ⟨i, m, c', A', hi, rfl, rfl, hm, how, hb⟩ := hrel
    have HOW := Lib.hid how
    clear how
    by_cases hlt : i < n
    · obtain ⟨ad, r, rfl, had, hr, c0, c1⟩ := (h.on hb).at_ hlt
      have hmore := tidy_more hr
      have hcs := tpush_cases (tidy (L.take i)) r
      rw [← hmore] at hcs
      have hbl := bl1 wr (.cells #[.int .i64 r.p, .int .i64 (r.n : Int)] 31)
      have hb1 := hb.trans (hbl.mono hb.size)
      have hle := tidy_take_le L (i + 1)
      have how1 := HOW.out.below rfl hbl
      have hsum : ∀ o y, tidy (L.take i) = o ++ [y] → y.n + r.n ≤ ticks L := fun o y e => tidy_one hr e
      generalize tidy (L.take i) = T at HOW hcs how1 hsum
      generalize hT1 : tidy (L.take (i + 1)) = T1 at hcs hle
      have HT1 := Lib.hid hT1
      have HB1 := Lib.hid hb1
      clear hT1 hmore hr hbl hb1 HOW
      rcases hcs with ⟨h0, e⟩ | ⟨h0, e0, e⟩ | ⟨o, y, h0, e0, hp, e⟩ | ⟨o, y, h0, e0, hp, e⟩
      · have hr1 : (r.n : Int) < 1 := by omega
        subst e
        have HOW1 := Lib.hid how1
        clear how1 hsum h0
        go_wp2_with fail
        go_roundw
        case rel => exact ⟨i + 1, m, c', A', by omega, by go_num, rfl, by omega, by rw [HT1.out]; exact HOW1.out, HB1.out⟩
        case measure => simp [intOf]; omega
      · subst e0
        have hm0 : m = 0 := by have := how1.len; simp [rs] at this; omega
        subst hm0
        have hr1 : ¬ (r.n : Int) < 1 := by omega
        subst e
        clear hsum h0
        go_wp2_with fail
        go_quiet (fail)
        have hW0 : Below wr.heap.size wr ((wr.alloc (.cells #[.int .i64 r.p, .int .i64 (r.n : Int)] 31)).drewN nq) := Below.drewN (bl1 wr _) nq
        have hs0 : wr.heap.size < ((wr.alloc (.cells #[.int .i64 r.p, .int .i64 (r.n : Int)] 31)).drewN nq).heap.size := by simp
        have b0 : ((wr.alloc (.cells #[.int .i64 r.p, .int .i64 (r.n : Int)] 31)).drewN nq).cell? ⟨wr.heap.size, 0, none⟩ = some (.int .i64 r.p) := World.cell?_alloc_mark _ _ _ _ _
        have b1 : ((wr.alloc (.cells #[.int .i64 r.p, .int .i64 (r.n : Int)] 31)).drewN nq).cell? ⟨wr.heap.size, 1, none⟩ = some (.int .i64 (r.n : Int)) := World.cell?_alloc_mark _ _ _ _ _
        have how2 : OwnV 31 2 ((wr.alloc (.cells #[.int .i64 r.p, .int .i64 (r.n : Int)] 31)).drewN nq) w.heap.size A' 0 c' (rs []) := how1.keep fun _ _ _ => rfl
        generalize (wr.alloc (.cells #[.int .i64 r.p, .int .i64 (r.n : Int)] 31)).drewN nq = W at hW0 hs0 b0 b1 how2 ⊢
        have how3 := how2.below rfl (bl1 W (.cells #[.int .i64 r.p, .int .i64 (r.n : Int)] 31))
        have hrd := rdV_new W #[.int .i64 r.p, .int .i64 (r.n : Int)] 31 (rs [r]) rfl
        have hbW := (hb.trans (hW0.mono hb.size)).alloc (by have := hb.size; omega) (.cells #[.int .i64 r.p, .int .i64 (r.n : Int)] 31)
        have hn1 : 0 + 1 ≤ 1048577 := by omega
        clear how1 how2 c0 c1
        go_wp2_with (at_builtin; go_loud (refine wpList_appV elR rfl (.tmp 43) (.tmp 45) rfl rfl w.heap.size _ _ c' _ rfl how3 _ 1 1 _ _ rfl hrd rfl (rs_one _) (by omega) (by unfold maxLen; omega) hbW.size (0 + 1) rfl (rs ([] ++ [r])) (rs_append _ _).symm ?_; intro A2 c2 w2 hw2 hb2 _))
        go_roundw
        case rel => exact ⟨i + 1, _, c2, A2, by omega, by go_num, rfl, by omega, by rw [HT1.out]; exact hw2, hbW.trans hb2⟩
        case measure => simp [intOf]; omega
      · subst e0
        have hr1 : ¬ (r.n : Int) < 1 := by omega
        have hs1 := hsum o y rfl
        obtain ⟨ad', k, rfl, rfl, hL⟩ := LastR.of how1
        obtain ⟨yp, yn⟩ := y
        obtain ⟨rp, rn⟩ := r
        dsimp only at hp hr1 hs1 c0 c1 e h0 ⊢
        subst hp
        have HL := Lib.hid hL
        have d0 := hL.c0
        have d1 := hL.c1
        have d2 := hL.f1
        have d3 := hL.lt
        dsimp only at d0 d1 d2 d3
        clear hsum h0 hL how1
        go_wp2_with fail
        go_quiet (fail)
        go_wp2_with fail
        have hbW := hb.trans ((Below.drewN (bl1 wr (.cells #[.int .i64 yp, .int .i64 (rn : Int)] 31)) nq).mono hb.size)
        have b1 : ((wr.alloc (.cells #[.int .i64 yp, .int .i64 (rn : Int)] 31)).drewN nq).cell? ⟨wr.heap.size, 1, none⟩ = some (.int .i64 (rn : Int)) := World.cell?_alloc_mark _ _ _ _ _
        have HL2 := Lib.hid (HL.out.drewN nq)
        have d1 := HL2.out.c1
        have d2 := HL2.out.f1
        have d3 := HL2.out.lt
        dsimp only at d1 d2 d3
        have HB2 := Lib.hid hbW
        clear HL d0 c0 c1 hbW HB1
        generalize (wr.alloc (.cells #[.int .i64 yp, .int .i64 (rn : Int)] 31)).drewN nq = W at b1 HL2 d1 d2 d3 HB2 ⊢
        generalize wr.heap.size = gx at b1 ⊢
        have hmr := more_any (yn : Int) (rn : Int) _ _ W.drew (by omega) (by omega) (by omega) rfl rfl
        have hkk : (k : Int) < (k : Int) + 1 := by omega
        go_still_tail 12, (by kernel_rfl)
        still_call hmr
        repeat still_step
        refine wpStill_nil ?_
        change wpList _ _ _ _ _ W.drew
        go_wp2_with fail
        obtain ⟨hw5, hb5⟩ := (HL2.out.drew).stored (yn + rn)
        rw [Int.natCast_add] at hw5 hb5
        rw [← e] at hw5
        go_roundw
        case rel => exact ⟨i + 1, _, c', some ad', by omega, by go_num, rfl, by omega, by rw [HT1.out]; exact hw5, hb5 _ HB2.out.drew⟩
        case measure => simp [intOf]; omega
      · subst e0
        have hr1 : ¬ (r.n : Int) < 1 := by omega
        obtain ⟨ad', k, rfl, rfl, hL⟩ := LastR.of how1
        have hpb : (y.p == r.p) = false := beq_eq_false_iff_ne.2 hp
        have d0 := hL.c0
        have d3 := hL.lt
        subst e
        clear hsum h0 hL hp
        go_wp2_with fail
        go_quiet (fail)
        have hW0 : Below wr.heap.size wr ((wr.alloc (.cells #[.int .i64 r.p, .int .i64 (r.n : Int)] 31)).drewN nq) := Below.drewN (bl1 wr _) nq
        have hs0 : wr.heap.size < ((wr.alloc (.cells #[.int .i64 r.p, .int .i64 (r.n : Int)] 31)).drewN nq).heap.size := by simp
        have b0 : ((wr.alloc (.cells #[.int .i64 r.p, .int .i64 (r.n : Int)] 31)).drewN nq).cell? ⟨wr.heap.size, 0, none⟩ = some (.int .i64 r.p) := World.cell?_alloc_mark _ _ _ _ _
        have b1 : ((wr.alloc (.cells #[.int .i64 r.p, .int .i64 (r.n : Int)] 31)).drewN nq).cell? ⟨wr.heap.size, 1, none⟩ = some (.int .i64 (r.n : Int)) := World.cell?_alloc_mark _ _ _ _ _
        have how2 : OwnV 31 2 ((wr.alloc (.cells #[.int .i64 r.p, .int .i64 (r.n : Int)] 31)).drewN nq) w.heap.size (some ad') (k + 1) c' (rs (o ++ [y])) := how1.keep fun _ _ _ => rfl
        generalize (wr.alloc (.cells #[.int .i64 r.p, .int .i64 (r.n : Int)] 31)).drewN nq = W at hW0 hs0 b0 b1 how2 ⊢
        have how3 := how2.below rfl (bl1 W (.cells #[.int .i64 r.p, .int .i64 (r.n : Int)] 31))
        have hrd := rdV_new W #[.int .i64 r.p, .int .i64 (r.n : Int)] 31 (rs [r]) rfl
        have hbW := (hb.trans (hW0.mono hb.size)).alloc (by have := hb.size; omega) (.cells #[.int .i64 r.p, .int .i64 (r.n : Int)] 31)
        have hn1 : (k + 1) + 1 ≤ 1048577 := by omega
        clear how1 how2 c0 c1
        go_wp2_with (at_builtin; go_loud (refine wpList_appV elR rfl (.tmp 43) (.tmp 45) rfl rfl w.heap.size _ _ c' _ rfl how3 _ 1 1 _ _ rfl hrd rfl (rs_one _) (by omega) (by unfold maxLen; omega) hbW.size ((k + 1) + 1) rfl (rs ((o ++ [y]) ++ [r])) (rs_append _ _).symm ?_; intro A2 c2 w2 hw2 hb2 _))
        go_roundw
        case rel => exact ⟨i + 1, _, c2, A2, by omega, by go_num, rfl, by omega, by rw [HT1.out]; exact hw2, hbW.trans hb2⟩
        case measure => simp [intOf]; omega
    · have hge : n ≤ i := by omega
      have e : L.take i = L := List.take_of_length_le (by rw [h.len]; exact hge)
      have how2 := HOW.out
      rw [e] at how2
      have HOW2 := Lib.hid how2
      clear e how2 HOW
      go_wp2_with fail
      go_ret
      have hl := HOW2.out.len
      rw [rs_length] at hl
      have hl2 : m = (tidy L).length := by omega
      subst hl2
      exact ⟨A', c', rfl, HOW2.out, hb⟩
set_option maxRecDepth 100000 in
set_option maxHeartbeats 4000000 in
theorem wproj_own (A : Option Addr) (n cap : Nat) (L : List Rn) (a b : Int) (w : World) (h : RdR w w.heap.size A n L) (hc : n ≤ cap) (hn : n ≤ 1048576) (ht : ticks L ≤ 1099511627776) :
    Calls Try.prog 22 #[.slice A n cap, .int .i64 a, .int .i64 b] w (OwnR (proj a b L) w) := by
  have hfl := ticks_filter (sees a b) L
  go_enter Try.func22, Try.ntmps22
  go_wp2_with fail
  go_loopw [7, 9, 12] (fun q _ s wr => ∃ (i m c' : Nat) (A' : Option Addr), i ≤ n ∧ s = .int .i64 i ∧ q = .slice A' m c' ∧ m ≤ i ∧ OwnV 31 2 wr w.heap.size A' m c' (rs (prj a b (L.take i))) ∧ Below w.heap.size w wr) (fun _ _ s _ => n - (intOf s).toNat)
  case atStart => exact ⟨0, 0, 0, none, by omega, rfl, rfl, by omega, by simpa [prj, rs] using OwnV.nil _ _ _ _, Below.refl _ _⟩
  case round =>
    obtain ⟨i, m, c', A', hi, rfl, rfl, hm, how, hb⟩ := hrel
    by_cases hlt : i < n
    · have hlti : (i : Int) < (n : Int) := by omega
      obtain ⟨ad, r, rfl, had, hr, c0, c1⟩ := (h.on hb).at_ hlt
      have hmore := prj_more (a := a) (b := b) hr
      have hbl := bl1 wr (.cells #[.int .i64 r.p, .int .i64 (r.n : Int)] 31)
      have hb1 := hb.trans (hbl.mono hb.size)
      have how1 := how.below rfl hbl
      have f0 : (wr.alloc (.cells #[.int .i64 r.p, .int .i64 (r.n : Int)] 31)).cell? ⟨wr.heap.size, 0, none⟩ = some (.int .i64 r.p) := World.cell?_alloc_mark _ _ _ _ _
      have f1 : (wr.alloc (.cells #[.int .i64 r.p, .int .i64 (r.n : Int)] 31)).cell? ⟨wr.heap.size, 1, none⟩ = some (.int .i64 (r.n : Int)) := World.cell?_alloc_mark _ _ _ _ _
      clear how hb hbl hr
      go_upto_region 5 with fail
      generalize wr.alloc (.cells #[.int .i64 r.p, .int .i64 (r.n : Int)] 31) = W1 at hb1 how1 f0 f1 ⊢
      generalize wr.heap.size = gx at f0 f1 ⊢
      clear c0 c1
      by_cases hs : sees a b r = true
      · rw [if_pos hs] at hmore
        have HMO := Lib.hid hmore
        have hbl := bl1 W1 (.cells #[.int .i64 r.p, .int .i64 (r.n : Int)] 31)
        have how2 := how1.below rfl hbl
        have hrd := rdV_new W1 #[.int .i64 r.p, .int .i64 (r.n : Int)] 31 (rs [r]) rfl
        have hb2 := hb1.trans (hbl.mono hb1.size)
        have hs2 := hb2.size
        have HB2 := Lib.hid hb2
        have hs' := sees_iff.1 hs
        clear hmore how1 hb1 hbl hb2 hs
        by_cases ha : r.p = a
        · have ha' : (r.p == a) = true := beq_iff_eq.2 ha
          clear hs' ha
          go_wp2_with (at_builtin; go_loud (refine wpList_appX elR rfl (.tmp 26) (.tmp 28) rfl rfl w.heap.size A' m c' _ rfl how2 _ 1 1 _ _ rfl hrd rfl Nat.one_pos (rs_one _) (by omega) (by unfold maxLen; omega) hs2 (m + 1) rfl (rs (prj a b (L.take (i + 1)))) (by rw [HMO.out]; exact (rs_append _ _).symm) ?_; intro A4 c4 w4 hw4 hb4 hot))
          go_roundw
          case rel => exact ⟨i + 1, m + 1, c4, A4, by omega, by go_num, rfl, by omega, hw4, HB2.out.trans hb4⟩
          case measure => simp [intOf]; omega
        · have ha' : (r.p == a) = false := beq_eq_false_iff_ne.2 ha
          have hb' : (r.p == b) = true := beq_iff_eq.2 (hs'.resolve_left ha)
          clear hs' ha
          go_wp2_with (at_builtin; go_loud (refine wpList_appX elR rfl (.tmp 26) (.tmp 28) rfl rfl w.heap.size A' m c' _ rfl how2 _ 1 1 _ _ rfl hrd rfl Nat.one_pos (rs_one _) (by omega) (by unfold maxLen; omega) hs2 (m + 1) rfl (rs (prj a b (L.take (i + 1)))) (by rw [HMO.out]; exact (rs_append _ _).symm) ?_; intro A4 c4 w4 hw4 hb4 hot))
          go_roundw
          case rel => exact ⟨i + 1, m + 1, c4, A4, by omega, by go_num, rfl, by omega, hw4, HB2.out.trans hb4⟩
          case measure => simp [intOf]; omega
      · rw [if_neg hs] at hmore
        rw [← hmore] at how1
        have HOW := Lib.hid how1
        have HB1 := Lib.hid hb1
        have ha : r.p ≠ a := fun e => hs (sees_iff.2 (.inl e))
        have hb : r.p ≠ b := fun e => hs (sees_iff.2 (.inr e))
        have ha' : (r.p == a) = false := beq_eq_false_iff_ne.2 ha
        have hb' : (r.p == b) = false := beq_eq_false_iff_ne.2 hb
        clear hmore how1 hb1 hs ha hb
        go_wp2_with fail
        go_roundw
        case rel => exact ⟨i + 1, m, c', A', by omega, by go_num, rfl, by omega, HOW.out, HB1.out⟩
        case measure => simp [intOf]; omega
    · have hge : ¬ (i : Int) < (n : Int) := by omega
      have e : L.take i = L := List.take_of_length_le (by rw [h.len]; omega)
      rw [e] at how
      have hcp := how.cap
      have HT := Lib.hid (tidy_own A' m c' (prj a b L) wr how.rdr hcp (by omega) (by unfold prj; omega))
      have HB := Lib.hid hb
      clear how hb e
      go_wp2_with fail
      refine HT.out.mono ?_
      rintro e w5 ⟨A5, c5, rfl, hr5, hb5⟩
      have H5 := Lib.hid (hr5.weak HB.out.size)
      have HB5 := Lib.hid (HB.out.trans (hb5.mono HB.out.size))
      clear hr5 hb5
      go_wp2_with fail
      go_ret
      exact ⟨A5, c5, rfl, H5.out, HB5.out⟩
end Go.Proofs.Ytcdgofdnafbacaa
