/- A table that is right is gone through as the document says, leaf by leaf, tick by tick. -/
import Derived.Test.YtgdkbeleapbffaaPlay
namespace Go.Proofs.Ytgdkbeleapbffaa
open Go.RowKit Tab
set_option linter.unusedSimpArgs false
set_option linter.unusedVariables false

/-- Where a walk stands. -/
structure Stand (w0 w2 wr : World) (b : Nat) (A2 : Option Addr) (n2 c2 : Nat) (l : List Nd) (L : List Rn) (i tk gn lf : Nat) : Prop where
  cur : Cur wr b A2 n2 c2 l (L.drop i) tk gn
  sum : gn = ticks (L.take i) + tk
  left : ∀ r, L[i]? = some r → lf + tk = r.n
  bel : Below w0.heap.size w0 wr
  gb : w2.grownBy wr (some b)
theorem Stand.gone {w0 w2 wr : World} {b : Nat} {A2 : Option Addr} {n2 c2 : Nat} {l : List Nd} {L : List Rn} {i tk gn lf : Nat} (h : Stand w0 w2 wr b A2 n2 c2 l L i tk gn lf) : gn ≤ ticks L := by
  have h1 := h.sum
  by_cases hi : i < L.length
  · obtain ⟨r, hr⟩ : ∃ r, L[i]? = some r := ⟨_, List.getElem?_eq_getElem hi⟩
    have h2 := h.cur.low r _ (drop_more hr)
    have h3 := take_more hr
    have h4 := take_ticks L (i + 1)
    omega
  · have h2 := h.cur.low0 (List.drop_eq_nil_of_le (by omega))
    have h4 := take_ticks L i
    omega
theorem Stand.who {w0 w2 wr : World} {b : Nat} {A2 : Option Addr} {n2 c2 : Nat} {l : List Nd} {L : List Rn} {i tk gn lf : Nat} (h : Stand w0 w2 wr b A2 n2 c2 l L i tk gn lf) {r : Rn} (hr : L[i]? = some r) : whoAt L (gn : Int) = r.p := by
  have h1 := h.sum
  have h2 := h.cur.low r _ (drop_more hr)
  have h3 := whoAt_at (L.take i) r (L.drop (i + 1)) tk h2
  rw [← drop_more hr, List.take_append_drop] at h3
  rw [h1]
  exact h3
set_option maxRecDepth 100000 in
set_option maxHeartbeats 8000000 in
theorem play_right (A : Option Addr) (n cap : Nat) (x : Nd) (k : F) (As : Option Addr) (ns cs : Nat) (f : Nat → Int) (w : World) (h : RdN w w.heap.size A n (x :: k.flat)) (hc : n ≤ cap) (hok : (F.cons x k .nil).ok) (hn : n ≤ 128) (hd : k.dep + 1 ≤ 16) (hl : F.tick x k.len ≤ 4096)
    (hs : RdC w w.heap.size As ns fun j => .int .i64 (f j)) (hcs : ns ≤ cs) (hns : ns ≤ 140737488351232) :
    Calls Try.prog 9 #[.slice A n cap, .slice As ns cs] w (Ans (.bool true) w) := by
  have hN := new_right A n cap x k w h hc hok hn hd hl
  have hR := fun w (h : RdN w w.heap.size A n (x :: k.flat)) => rright_tree A n cap _ x k w h hc (by omega) hok rfl
  have e0 : rt n (k.dep + 1) (F.tick x k.len) = 0 := by unfold rt; rw [if_neg (by omega), if_neg (by omega), if_neg (by omega)]
  rw [e0] at hR
  have hLv := fun w (h : RdN w w.heap.size A n (x :: k.flat)) => leaves_right A n cap x k w h hc hok hn hd hl
  have hPt := fun w t (h : RdN w w.heap.size A n (x :: k.flat)) => part_right A n cap x k t w h hc hok hn hd hl
  have hRs := fun (b : Nat) (A2 : Option Addr) (n2 c2 : Nat) (td : List Rn) (tk gn : Nat) w (h : Cur w b A2 n2 c2 (x :: k.flat) td tk gn) => reset_cur b A2 n2 c2 x k td tk gn w h hok hd (by rw [one_ticks, lvs_ticks]; omega)
  have hpos : ∀ r ∈ one x k.lvs, 1 ≤ r.n := fun r hr => lvs_pos hok r (by simpa [F.lvs] using hr)
  have hT : ticks (one x k.lvs) ≤ 4096 := by rw [one_ticks, lvs_ticks]; exact hl
  have hq0 : 0 < (one x k.lvs).length := by
    have h1 := F.len_pos hok (by simp [F.cnt])
    simp only [F.len] at h1
    rw [← lvs_ticks, ← one_ticks] at h1
    cases hh : one x k.lvs with
    | nil => rw [hh] at h1; simp [ticks, F.lvs] at h1
    | cons r s => simp
  have hq := length_le_ticks hpos
  unfold Born at hN
  have H := Lib.hid h
  clear h hok hd hl e0
  generalize x :: k.flat = l at *
  generalize one x k.lvs = L at *
  generalize hqd : L.length = q at *
  have HQ := Lib.hid hqd
  have HT := Lib.hid hT
  have HPOS := Lib.hid hpos
  have HN := Lib.hid hN
  have HR := Lib.hid hR
  have HLV := Lib.hid hLv
  have HPT := Lib.hid hPt
  have HRS := Lib.hid hRs
  have HS := Lib.hid hs
  have hq4 : q ≤ 4096 := by omega
  clear hN hR hLv hPt hRs hpos hT hqd hq hs
  go_enter Try.func9, Try.ntmps9
  go_wp2_with fail
  refine HN.out.mono ?_
  rintro e w1 ⟨b, A2, n2, c2, rfl, hC, hbb, hb1⟩
  have HC := Lib.hid hC
  clear hC
  go_wp2_with fail
  refine (HR.out w1 (H.out.on hb1)).mono ?_
  rintro e w2 ⟨rfl, hb2⟩
  have k2 := hb1.trans (hb2.mono hb1.size)
  have HC2 := Lib.hid (HC.out.below hb2)
  clear HC
  go_wp2_with fail
  refine (HLV.out w2 (H.out.on k2)).mono ?_
  rintro e w3 ⟨A3, c3, rfl, hr3, hc3, hb3, hnw⟩
  have k3 := k2.trans (hb3.mono k2.size)
  have hC3 := HC2.out.below hb3
  have hbl := HC2.out.lt
  have HC3 := Lib.hid hC3
  have HR3 := Lib.hid hr3
  have HFAR : Hid (∀ ad, A3 = some ad → ad.block ≠ b) := Lib.hid fun ad e => by have := hnw ad e; omega
  clear hr3 hnw HC2 hb3 hb2 hb1 hC3
  rw [HQ.out] at HR3 hc3 ⊢
  obtain ⟨ad0, r0, rfl, hr0, d0, d1⟩ := HR3.out.at_gb (gb_refl w3 (some b)) HFAR.out hq0
  have ea : ad0.add (0 * 2) = ad0 := by simp [Addr.add]
  rw [ea] at d0 d1
  clear ea
  have HR0 := Lib.hid hr0
  have hq1 : (0 : Int) < (q : Int) := by omega
  clear hr0
  go_wp2_with fail
  go_quiet (fail)
  go_wp2_with fail
  have ST0 : Stand w w3 (w3.drewN nq) b A2 n2 c2 l L 0 0 0 r0.n := ⟨HC3.out.below (Below.drewN (Below.refl _ _) nq), by simp [ticks], fun r hr => by rw [HR0.out] at hr; injection hr with hr; rw [hr]; rfl, Below.drewN k3 nq, gb_drewN (gb_refl _ _) nq⟩
  have HST0 := Lib.hid ST0
  obtain ⟨m, hm⟩ : ∃ m : Nat, (400 : Int) = (m : Int) := ⟨400, rfl⟩
  have hm1 : m ≤ 400 := by omega
  rw [hm]
  clear hm d0 d1 ST0 HC3
  go_loopw [7, 8, 9, 10] (fun tat ti tl tk wr => ∃ (j i t gn lf : Nat), j ≤ m ∧ tk = .int .i64 j ∧ ti = .int .i64 i ∧ tat = .int .i64 gn ∧ tl = .int .i64 lf ∧ i ≤ q ∧ Stand w w3 wr b A2 n2 c2 l L i t gn lf) (fun _ _ _ tk _ => m - (intOf tk).toNat)
  case atStart => exact ⟨0, 0, 0, 0, r0.n, by omega, rfl, rfl, rfl, rfl, by omega, HST0.out⟩
  case round =>
    obtain ⟨j, i, t, gn, lf, hj, rfl, rfl, rfl, rfl, hi, hst⟩ := hrel
    have hgn := hst.gone
    have HT4 := HT.out
    have hgn4 : gn ≤ 4096 := by omega
    have ST := Lib.hid hst
    clear hst hgn HT4
    by_cases hlt : j < m
    · have hA := at_any b A2 n2 c2 l _ t gn wr ST.out.cur
      have HAT := Lib.hid hA
      clear hA
      go_wp2_with fail
      refine HAT.out.mono ?_
      rintro e w4 ⟨rfl, rfl⟩
      by_cases hks : j < ns
      · obtain ⟨ads, rfl, _, hcell⟩ := (HS.out.below ST.out.bel).at_ hks
        obtain ⟨M, hM, hM3⟩ := and_mask (f j) 3 (by omega)
        have hMM : bits .and .i64 (f j) 3 = (M : Int) := hM
        clear hM
        have hj0 : 0 ≤ (j : Int) := by omega
        have hj1 : (j : Int) < (ns : Int) := by omega
        by_cases hi' : i < q
        · by_cases hM0 : M = 0
          · have hMZ : bits .and .i64 (f j) 3 = 0 := by rw [hMM, hM0]; rfl
            clear hMM
            obtain ⟨adr, r, e, hr, d0, d1⟩ := HR3.out.at_gb ST.out.gb HFAR.out hi'
            injection e with e
            subst e
            have hC := ST.out.cur
            rw [drop_more hr] at hC
            have hlf := ST.out.left r hr
            have htl := hC.low r _ rfl
            have hsum := ST.out.sum
            have htm := take_more hr
            have htt := take_ticks L (i + 1)
            have hTT := HT.out
            have hlf4 : gn + lf ≤ 4096 := by omega
            have hNX := next_some b A2 n2 c2 l r (L.drop (i + 1)) t gn wr hC
            rw [show r.n - t = lf by omega] at hNX
            have HNX := Lib.hid hNX
            have HR1 := Lib.hid hr
            have HSM : Hid (gn + lf = ticks (L.take (i + 1)) + 0) := Lib.hid (by omega)
            clear hNX hC hlf htl hsum htm htt hTT d0 d1
            have hi0 : 0 ≤ (i : Int) := by omega
            have hi1 : (i : Int) < (q : Int) := by omega
            go_wp2_with fail
            refine HNX.out.mono ?_
            rintro e w5 ⟨rfl, hC5, hG5⟩
            have hg5 := gb_alloc (gb_trans ST.out.gb hG5) (.cells #[.int .i64 r.p, .int .i64 (lf : Int)] 48)
            have hl5 := bl1 w5 (.cells #[.int .i64 r.p, .int .i64 (lf : Int)] 48)
            have v0 : (w5.alloc (.cells #[.int .i64 r.p, .int .i64 (lf : Int)] 48)).cell? ⟨w5.heap.size, 0, none⟩ = some (.int .i64 r.p) := World.cell?_alloc_mark _ _ _ _ _
            have v1 : (w5.alloc (.cells #[.int .i64 r.p, .int .i64 (lf : Int)] 48)).cell? ⟨w5.heap.size, 1, none⟩ = some (.int .i64 (lf : Int)) := World.cell?_alloc_mark _ _ _ _ _
            have k5 := below_gb ST.out.bel hG5 hbb ST.out.bel.size
            have k6 := k5.trans (hl5.mono k5.size)
            have hC6 := hC5.below hl5
            have HC6 := Lib.hid hC6
            have HG6 := Lib.hid hg5
            clear hC5 hG5 hl5 k5 hC6 hg5
            go_wp2_with fail
            generalize w5.alloc (.cells #[.int .i64 r.p, .int .i64 (lf : Int)] 48) = W5 at v0 v1 k6 HC6 HG6 ⊢
            generalize w5.heap.size = g5 at v0 v1 ⊢
            obtain ⟨adr, r', e, hr', d0, d1⟩ := HR3.out.at_gb HG6.out HFAR.out hi'
            injection e with e
            subst e
            rw [HR1.out] at hr'
            injection hr' with hr'
            subst hr'
            go_quiet (fail)
            by_cases hi2 : i + 1 < q
            · obtain ⟨adr, r2, e, hr2, f0, f1⟩ := HR3.out.at_gb HG6.out HFAR.out hi2
              injection e with e
              subst e
              have HR2 := Lib.hid hr2
              clear hr2 d0 d1 v0 v1 f0
              have hi3 : ((i : Int) + 1).toNat = i + 1 := by omega
              have hi4 : (i : Int) + 1 < (q : Int) := by omega
              go_wp2_with fail
              go_roundw
              case rel =>
                refine ⟨j + 1, i + 1, 0, gn + lf, r2.n, by omega, by go_num, by go_num, by go_num, rfl, by omega, HC6.out.below (Below.drewN (Below.refl _ _) nq), HSM.out, fun r3 hr3 => ?_, Below.drewN k6 nq, gb_drewN HG6.out nq⟩
                rw [HR2.out] at hr3
                injection hr3 with hr3
                rw [hr3]
                rfl
              case measure => simp [intOf]; omega
            · have hi4 : ¬ (i : Int) + 1 < (q : Int) := by omega
              clear d0 d1 v0 v1
              go_wp2_with fail
              go_roundw
              case rel =>
                refine ⟨j + 1, i + 1, 0, gn + lf, 0, by omega, by go_num, by go_num, by go_num, rfl, by omega, HC6.out.below (Below.drewN (Below.refl _ _) nq), HSM.out, fun r3 hr3 => ?_, Below.drewN k6 nq, gb_drewN HG6.out nq⟩
                have := (List.getElem?_eq_some_iff.1 hr3).1
                have := HQ.out
                omega
              case measure => simp [intOf]; omega
          · have hMN : ((M : Int) == 0) = false := beq_eq_false_iff_ne.2 (by omega)
            obtain ⟨adr, r, e, hr, d0, d1⟩ := HR3.out.at_gb ST.out.gb HFAR.out hi'
            injection e with e
            subst e
            have hC := ST.out.cur
            rw [drop_more hr] at hC
            have hlf := ST.out.left r hr
            have htl := hC.low r _ rfl
            have hsum := ST.out.sum
            have htm := take_more hr
            have htt := take_ticks L (i + 1)
            have hTT := HT.out
            have hlf4 : gn + lf ≤ 4096 := by omega
            have hwho := ST.out.who hr
            have hpc : Calls Try.prog 10 #[.slice A n cap, .int .i64 (gn : Int)] wr.drew fun e w' => e = .returned (.int .i64 r.p) ∧ Below wr.heap.size wr w' ∧ w'.cell? (ad0.add (i * 2)) = some (.int .i64 r.p) := by
              refine (HPT.out wr.drew (gn : Int) (H.out.on ST.out.bel.drew)).mono ?_
              rw [hwho]
              rintro e w' ⟨rfl, hb'⟩
              have hb2 : Below wr.heap.size wr w' := ⟨hb'.os, hb'.tape, hb'.output, hb'.size, hb'.block⟩
              exact ⟨rfl, hb2, (hb2.cell (World.block_lt_of_cell? wr _ d0)).trans d0⟩
            have HPC := Lib.hid hpc
            have HR1 := Lib.hid hr
            have HCC := Lib.hid hC
            have HDM := Lib.hid (drop_more hr)
            have HNUM := Lib.hid (show lf + t = r.n ∧ t < r.n ∧ gn = ticks (L.take i) + t ∧ ticks (L.take (i + 1)) = ticks (L.take i) + r.n ∧ lf ≤ 4096 from ⟨hlf, htl, hsum, htm, by omega⟩)
            have hi0 : 0 ≤ (i : Int) := by omega
            have hi1 : (i : Int) < (q : Int) := by omega
            have HBK := Lib.hid (And.intro hbb hm1)
            clear HN HR HLV HRS HS HPOS HR0 hC hsum htm htt hTT hwho hpc hr hlf htl k2 k3 hbl hc hn hns
            go_wp2_with fail
            go_region_with (go_at_call 10; refine HPC.out.mono ?_; rintro e w5 ⟨rfl, hb5, d5⟩)
            all_goals
              have hC5 := HCC.out.below hb5
              have hk5 := ST.out.bel.trans (hb5.mono ST.out.bel.size)
              have hg5 := gb_bl ST.out.gb hb5
              go_wp2_with fail
              refine (tick_some b A2 n2 c2 l r (L.drop (i + 1)) t gn _ hC5).mono ?_
              rintro e w6 ⟨rfl, hC6, hG6⟩
              have hk6 := below_gb hk5 hG6 hbb hk5.size
              have hg6 := gb_trans hg5 hG6
              obtain ⟨adr, r', e, hr', x0, x1⟩ := HR3.out.at_gb hg6 HFAR.out hi'
              injection e with e
              subst e
              rw [HR1.out] at hr'
              injection hr' with hr'
              subst hr'
              have HG6 := Lib.hid hg6
              clear hC5 hk5 hg5 hG6 hg6 d0 d1 d5 hb5 x1
              obtain ⟨hn1, hn2, hn3, hn4, hn5⟩ := HNUM.out
              by_cases hl1 : t + 1 < r.n
              · rw [show nextTd (r :: L.drop (i + 1)) t 1 = (r :: L.drop (i + 1), t + 1) by simp only [nextTd]; rw [if_pos hl1]] at hC6
                dsimp only at hC6
                have HC6 := Lib.hid hC6
                have HSM : Hid (gn + 1 = ticks (L.take i) + t + 1) := Lib.hid (by omega)
                have hz : ((lf : Int) - 1 == 0) = false := beq_eq_false_iff_ne.2 (by omega)
                have hlt1 : lf + t = r.n ∧ 2 ≤ lf := by omega
                have hlt1' := Lib.hid hlt1
                clear hC6 hn1 hn2 hn3 hn4 hl1 hlt1
                go_wp2_with fail
                go_roundw
                case rel =>
                  have hl2 := hlt1'.out
                  refine ⟨j + 1, i, t + 1, gn + 1, lf - 1, by omega, by go_num, rfl, by go_num, ret_num (by omega), by omega, by rw [HDM.out]; exact HC6.out, HSM.out, fun r3 hr3 => ?_, hk6, HG6.out⟩
                  rw [HR1.out] at hr3
                  injection hr3 with hr3
                  rw [← hr3]
                  omega
                case measure => simp [intOf]; omega
              · by_cases hi2 : i + 1 < q
                · rw [show nextTd (r :: L.drop (i + 1)) t 1 = (L.drop (i + 1), 0) by simp only [nextTd]; rw [if_neg hl1]] at hC6
                  dsimp only at hC6
                  have HC6 := Lib.hid hC6
                  have HSM : Hid (gn + 1 = ticks (L.take (i + 1)) + 0) := Lib.hid (by omega)
                  have hz : ((lf : Int) - 1 == 0) = true := beq_iff_eq.2 (by omega)
                  have hlt1 : lf = 1 := by omega
                  have hlt1' := Lib.hid hlt1
                  clear hC6 hn1 hn2 hn3 hn4 hl1 hlt1
                  obtain ⟨adr, r2, e, hr2, f0, f1⟩ := HR3.out.at_gb HG6.out HFAR.out hi2
                  injection e with e
                  subst e
                  have HR2 := Lib.hid hr2
                  have hi3 : ((i : Int) + 1).toNat = i + 1 := by omega
                  have hi4 : (i : Int) + 1 < (q : Int) := by omega
                  clear hr2 f0
                  go_wp2_with fail
                  go_roundw
                  case rel =>
                    refine ⟨j + 1, i + 1, 0, gn + 1, r2.n, by omega, by go_num, by go_num, by go_num, rfl, by omega, HC6.out, HSM.out, fun r3 hr3 => ?_, hk6, HG6.out⟩
                    rw [HR2.out] at hr3
                    injection hr3 with hr3
                    rw [hr3]
                    rfl
                  case measure => simp [intOf]; omega
                · rw [show nextTd (r :: L.drop (i + 1)) t 1 = (L.drop (i + 1), 0) by simp only [nextTd]; rw [if_neg hl1]] at hC6
                  dsimp only at hC6
                  have HC6 := Lib.hid hC6
                  have HSM : Hid (gn + 1 = ticks (L.take (i + 1)) + 0) := Lib.hid (by omega)
                  have hz : ((lf : Int) - 1 == 0) = true := beq_iff_eq.2 (by omega)
                  have hlt1 : lf = 1 := by omega
                  have hlt1' := Lib.hid hlt1
                  clear hC6 hn1 hn2 hn3 hn4 hl1 hlt1
                  have hi4 : ¬ (i : Int) + 1 < (q : Int) := by omega
                  go_wp2_with fail
                  go_roundw
                  case rel =>
                    have hl2 := hlt1'.out
                    refine ⟨j + 1, i + 1, 0, gn + 1, 0, by omega, by go_num, by go_num, by go_num, ret_num (by omega), by omega, HC6.out, HSM.out, fun r3 hr3 => ?_, hk6, HG6.out⟩
                    have := (List.getElem?_eq_some_iff.1 hr3).1
                    have := HQ.out
                    omega
                  case measure => simp [intOf]; omega
        · have hiq : i = q := by omega
          have hdr : L.drop i = [] := List.drop_eq_nil_of_le (by rw [HQ.out]; omega)
          have hC0 := ST.out.cur
          rw [hdr] at hC0
          have hC0' := Lib.hid hC0
          have e00 := rv_eql 0 0
          have hge2 : q ≤ i := by omega
          have HDR := Lib.hid hdr
          clear hdr hC0 hiq
          go_wp2_with fail
          refine (next_end b A2 n2 c2 l t gn wr hC0'.out).mono ?_
          rintro e w5 ⟨rfl, hb5⟩
          go_wp2_with fail
          have hl5 := bl1 w5 (.cells #[.int .i64 0, .int .i64 0] 48)
          refine (tick_end b A2 n2 c2 l t gn _ ((hC0'.out.below hb5).below hl5)).mono ?_
          rintro e w6 ⟨rfl, hb6⟩
          have v0 : w6.cell? ⟨w5.heap.size, 0, none⟩ = some (.int .i64 0) := bl_cell hb6 (World.cell?_alloc_mark _ _ _ _ _)
          have v1 : w6.cell? ⟨w5.heap.size, 1, none⟩ = some (.int .i64 0) := bl_cell hb6 (World.cell?_alloc_mark _ _ _ _ _)
          have k5 := ST.out.bel.trans (hb5.mono ST.out.bel.size)
          have k6 := k5.trans (hl5.mono k5.size)
          have k7 := k6.trans (hb6.mono k6.size)
          clear hb5 hl5 hb6 k5 k6
          go_wp2_with fail
          go_ret
          exact Ans.mk rfl k7
      · have hks2 : ns ≤ j := by omega
        by_cases hi' : i < q
        · obtain ⟨adr, r, e, hr, d0, d1⟩ := HR3.out.at_gb ST.out.gb HFAR.out hi'
          injection e with e
          subst e
          have hC := ST.out.cur
          rw [drop_more hr] at hC
          have hlf := ST.out.left r hr
          have htl := hC.low r _ rfl
          have hsum := ST.out.sum
          have htm := take_more hr
          have htt := take_ticks L (i + 1)
          have hTT := HT.out
          have hlf4 : gn + lf ≤ 4096 := by omega
          have hwho := ST.out.who hr
          have hpc : Calls Try.prog 10 #[.slice A n cap, .int .i64 (gn : Int)] wr.drew fun e w' => e = .returned (.int .i64 r.p) ∧ Below wr.heap.size wr w' ∧ w'.cell? (ad0.add (i * 2)) = some (.int .i64 r.p) := by
            refine (HPT.out wr.drew (gn : Int) (H.out.on ST.out.bel.drew)).mono ?_
            rw [hwho]
            rintro e w' ⟨rfl, hb'⟩
            have hb2 : Below wr.heap.size wr w' := ⟨hb'.os, hb'.tape, hb'.output, hb'.size, hb'.block⟩
            exact ⟨rfl, hb2, (hb2.cell (World.block_lt_of_cell? wr _ d0)).trans d0⟩
          have HPC := Lib.hid hpc
          have HR1 := Lib.hid hr
          have HCC := Lib.hid hC
          have HDM := Lib.hid (drop_more hr)
          have HNUM := Lib.hid (show lf + t = r.n ∧ t < r.n ∧ gn = ticks (L.take i) + t ∧ ticks (L.take (i + 1)) = ticks (L.take i) + r.n ∧ lf ≤ 4096 from ⟨hlf, htl, hsum, htm, by omega⟩)
          have hi0 : 0 ≤ (i : Int) := by omega
          have hi1 : (i : Int) < (q : Int) := by omega
          have HBK := Lib.hid (And.intro hbb hm1)
          clear HN HR HLV HRS HS HPOS HR0 hC hsum htm htt hTT hwho hpc hr hlf htl k2 k3 hbl hc hn hns
          go_wp2_with fail
          go_region_with (go_at_call 10; refine HPC.out.mono ?_; rintro e w5 ⟨rfl, hb5, d5⟩)
          all_goals
            have hC5 := HCC.out.below hb5
            have hk5 := ST.out.bel.trans (hb5.mono ST.out.bel.size)
            have hg5 := gb_bl ST.out.gb hb5
            go_wp2_with fail
            refine (tick_some b A2 n2 c2 l r (L.drop (i + 1)) t gn _ hC5).mono ?_
            rintro e w6 ⟨rfl, hC6, hG6⟩
            have hk6 := below_gb hk5 hG6 hbb hk5.size
            have hg6 := gb_trans hg5 hG6
            obtain ⟨adr, r', e, hr', x0, x1⟩ := HR3.out.at_gb hg6 HFAR.out hi'
            injection e with e
            subst e
            rw [HR1.out] at hr'
            injection hr' with hr'
            subst hr'
            have HG6 := Lib.hid hg6
            clear hC5 hk5 hg5 hG6 hg6 d0 d1 d5 hb5 x1
            obtain ⟨hn1, hn2, hn3, hn4, hn5⟩ := HNUM.out
            by_cases hl1 : t + 1 < r.n
            · rw [show nextTd (r :: L.drop (i + 1)) t 1 = (r :: L.drop (i + 1), t + 1) by simp only [nextTd]; rw [if_pos hl1]] at hC6
              dsimp only at hC6
              have HC6 := Lib.hid hC6
              have HSM : Hid (gn + 1 = ticks (L.take i) + t + 1) := Lib.hid (by omega)
              have hz : ((lf : Int) - 1 == 0) = false := beq_eq_false_iff_ne.2 (by omega)
              have hlt1 : lf + t = r.n ∧ 2 ≤ lf := by omega
              have hlt1' := Lib.hid hlt1
              clear hC6 hn1 hn2 hn3 hn4 hl1 hlt1
              go_wp2_with fail
              go_roundw
              case rel =>
                have hl2 := hlt1'.out
                refine ⟨j + 1, i, t + 1, gn + 1, lf - 1, by omega, by go_num, rfl, by go_num, ret_num (by omega), by omega, by rw [HDM.out]; exact HC6.out, HSM.out, fun r3 hr3 => ?_, hk6, HG6.out⟩
                rw [HR1.out] at hr3
                injection hr3 with hr3
                rw [← hr3]
                omega
              case measure => simp [intOf]; omega
            · by_cases hi2 : i + 1 < q
              · rw [show nextTd (r :: L.drop (i + 1)) t 1 = (L.drop (i + 1), 0) by simp only [nextTd]; rw [if_neg hl1]] at hC6
                dsimp only at hC6
                have HC6 := Lib.hid hC6
                have HSM : Hid (gn + 1 = ticks (L.take (i + 1)) + 0) := Lib.hid (by omega)
                have hz : ((lf : Int) - 1 == 0) = true := beq_iff_eq.2 (by omega)
                have hlt1 : lf = 1 := by omega
                have hlt1' := Lib.hid hlt1
                clear hC6 hn1 hn2 hn3 hn4 hl1 hlt1
                obtain ⟨adr, r2, e, hr2, f0, f1⟩ := HR3.out.at_gb HG6.out HFAR.out hi2
                injection e with e
                subst e
                have HR2 := Lib.hid hr2
                have hi3 : ((i : Int) + 1).toNat = i + 1 := by omega
                have hi4 : (i : Int) + 1 < (q : Int) := by omega
                clear hr2 f0
                go_wp2_with fail
                go_roundw
                case rel =>
                  refine ⟨j + 1, i + 1, 0, gn + 1, r2.n, by omega, by go_num, by go_num, by go_num, rfl, by omega, HC6.out, HSM.out, fun r3 hr3 => ?_, hk6, HG6.out⟩
                  rw [HR2.out] at hr3
                  injection hr3 with hr3
                  rw [hr3]
                  rfl
                case measure => simp [intOf]; omega
              · rw [show nextTd (r :: L.drop (i + 1)) t 1 = (L.drop (i + 1), 0) by simp only [nextTd]; rw [if_neg hl1]] at hC6
                dsimp only at hC6
                have HC6 := Lib.hid hC6
                have HSM : Hid (gn + 1 = ticks (L.take (i + 1)) + 0) := Lib.hid (by omega)
                have hz : ((lf : Int) - 1 == 0) = true := beq_iff_eq.2 (by omega)
                have hlt1 : lf = 1 := by omega
                have hlt1' := Lib.hid hlt1
                clear hC6 hn1 hn2 hn3 hn4 hl1 hlt1
                have hi4 : ¬ (i : Int) + 1 < (q : Int) := by omega
                go_wp2_with fail
                go_roundw
                case rel =>
                  have hl2 := hlt1'.out
                  refine ⟨j + 1, i + 1, 0, gn + 1, 0, by omega, by go_num, by go_num, by go_num, ret_num (by omega), by omega, HC6.out, HSM.out, fun r3 hr3 => ?_, hk6, HG6.out⟩
                  have := (List.getElem?_eq_some_iff.1 hr3).1
                  have := HQ.out
                  omega
                case measure => simp [intOf]; omega
        · have hiq : i = q := by omega
          have hdr : L.drop i = [] := List.drop_eq_nil_of_le (by rw [HQ.out]; omega)
          have hC0 := ST.out.cur
          rw [hdr] at hC0
          have hC0' := Lib.hid hC0
          have e00 := rv_eql 0 0
          have hge2 : q ≤ i := by omega
          have HDR := Lib.hid hdr
          clear hdr hC0 hiq
          go_wp2_with fail
          refine (next_end b A2 n2 c2 l t gn wr hC0'.out).mono ?_
          rintro e w5 ⟨rfl, hb5⟩
          go_wp2_with fail
          have hl5 := bl1 w5 (.cells #[.int .i64 0, .int .i64 0] 48)
          refine (tick_end b A2 n2 c2 l t gn _ ((hC0'.out.below hb5).below hl5)).mono ?_
          rintro e w6 ⟨rfl, hb6⟩
          have v0 : w6.cell? ⟨w5.heap.size, 0, none⟩ = some (.int .i64 0) := bl_cell hb6 (World.cell?_alloc_mark _ _ _ _ _)
          have v1 : w6.cell? ⟨w5.heap.size, 1, none⟩ = some (.int .i64 0) := bl_cell hb6 (World.cell?_alloc_mark _ _ _ _ _)
          have k5 := ST.out.bel.trans (hb5.mono ST.out.bel.size)
          have k6 := k5.trans (hl5.mono k5.size)
          have k7 := k6.trans (hb6.mono k6.size)
          clear hb5 hl5 hb6 k5 k6
          go_wp2_with fail
          go_ret
          exact Ans.mk rfl k7
    · have hge : m ≤ j := by omega
      have hL0 : L = r0 :: L.drop 1 := by have := drop_more HR0.out; simpa using this
      have HRSc := Lib.hid (HRS.out b A2 n2 c2 _ t gn wr ST.out.cur)
      have hNX := fun w' (hc : Cur w' b A2 n2 c2 l L 0 0) => next_some b A2 n2 c2 l r0 (L.drop 1) 0 0 w' (by rw [← hL0]; exact hc)
      simp only [Nat.sub_zero, Nat.zero_add] at hNX
      have hr4 : r0.n ≤ 4096 := by
        have h1 : ticks (L.take 1) = ticks (L.take 0) + r0.n := take_more HR0.out
        have h2 := take_ticks L 1
        have h3 := HT.out
        omega
      have HNX := Lib.hid hNX
      have heq := rv_eql r0.p (r0.n : Int)
      clear hNX hL0
      go_wp2_with fail
      refine HRSc.out.mono ?_
      rintro e w5 ⟨rfl, hC5, hG5⟩
      have hk5 := below_gb ST.out.bel hG5 hbb ST.out.bel.size
      have hg5 := gb_trans ST.out.gb hG5
      have HC5 := Lib.hid hC5
      clear hC5 hG5
      go_wp2_with fail
      refine (HNX.out w5 HC5.out).mono ?_
      rintro e w6 ⟨rfl, hC6, hG6⟩
      have hk6 := below_gb hk5 hG6 hbb hk5.size
      have hl6 := bl1 w6 (.cells #[.int .i64 r0.p, .int .i64 (r0.n : Int)] 48)
      have hk7 := hk6.trans (hl6.mono hk6.size)
      have hg6 := gb_alloc (gb_trans hg5 hG6) (.cells #[.int .i64 r0.p, .int .i64 (r0.n : Int)] 48)
      have v0 : (w6.alloc (.cells #[.int .i64 r0.p, .int .i64 (r0.n : Int)] 48)).cell? ⟨w6.heap.size, 0, none⟩ = some (.int .i64 r0.p) := World.cell?_alloc_mark _ _ _ _ _
      have v1 : (w6.alloc (.cells #[.int .i64 r0.p, .int .i64 (r0.n : Int)] 48)).cell? ⟨w6.heap.size, 1, none⟩ = some (.int .i64 (r0.n : Int)) := World.cell?_alloc_mark _ _ _ _ _
      have hC7 := hC6.below hl6
      obtain ⟨adr, r', e, hr', x0, x1⟩ := HR3.out.at_gb hg6 HFAR.out hq0
      injection e with e
      subst e
      rw [HR0.out] at hr'
      injection hr' with hr'
      subst hr'
      have ea : ad0.add (0 * 2) = ad0 := by simp [Addr.add]
      rw [ea] at x0 x1
      have HC7 := Lib.hid hC7
      clear ea hk5 hg5 hC6 hG6 hk6 hl6 hC7 hg6
      go_wp2_with fail
      generalize w6.alloc (.cells #[.int .i64 r0.p, .int .i64 (r0.n : Int)] 48) = W7 at v0 v1 x0 x1 HC7 hk7 ⊢
      generalize w6.heap.size = g7 at v0 v1 ⊢
      have hAT : ∀ W', Calls Try.prog 21 #[.pointer (some ⟨b, 0, none⟩)] (W7.drewN W') fun e w' => e = .returned (.int .i64 (r0.n : Int)) ∧ w' = W7.drewN W' := fun q' => by
        refine (at_any b A2 n2 c2 l (L.drop 1) 0 r0.n _ (HC7.out.below (Below.drewN (Below.refl _ _) q'))).mono ?_
        rintro e w' ⟨h1, h2⟩
        exact ⟨h1, h2.symm⟩
      have HAT := Lib.hid hAT
      clear hAT
      go_quiet ((go_at_call 21; exact Calls.quiet_of_same (HAT.out _)))
      go_wp2_with fail
      go_ret
      exact Ans.mk (by simp) (Below.drewN hk7 _)
end Go.Proofs.Ytgdkbeleapbffaa
