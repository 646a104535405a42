/- The leaves of a table, by the document's own answer. -/
import Derived.Test.YtpjppglaieohlaaRuns
import Derived.Test.YtpjppglaieohlaaRdeep
namespace Go.Proofs.Ytpjppglaieohlaa
open Go.RowKit Tab
set_option linter.unusedSimpArgs false
set_option linter.unusedVariables false

/-- It answers the row with more behind it. -/
def MoreR (B : Nat) (A0 : Option Addr) (L : List Rn) (w : World) (e : Ending) (w' : World) : Prop := ∃ A c, e = .returned (.slice A L.length c) ∧ OwnV 30 2 w' B A L.length c (rs L) ∧ Below B w w' ∧ Grew A0 A w w'
theorem MoreR.mk {B : Nat} {L L' : List Rn} {w w' : World} {A0 A : Option Addr} {n c : Nat} (hL : L = L') (hn : n = L.length) (h : OwnV 30 2 w' B A n c (rs L)) (hb : Below B w w') (hg : Grew A0 A w w') : MoreR B A0 L' w (.returned (.slice A n c)) w' := by
  subst hL; subst hn
  exact ⟨A, c, rfl, h, hb, hg⟩
set_option maxRecDepth 100000 in
set_option maxHeartbeats 3200000 in
theorem leaf1_any (B : Nat) (A : Option Addr) (n cap : Nat) (l : List Nd) (hc : n ≤ cap) (hn : n ≤ 1099511627776) (p : Nat) (x : Nd) (w : World) (h : RdN w B A n l) (hx : l[p]? = some x) (hf : fine x = true) (h3 : ¬ x.k = 3) (h4 : ¬ x.k = 4) (hB : B ≤ w.heap.size)
    (A0 : Option Addr) (n0 c0 : Nat) (L : List Rn) (hL : L.length = n0) (h0 : OwnV 30 2 w B A0 n0 c0 (rs L)) (hs : n0 ≤ 1048576) :
    Calls Try.prog 35 #[.slice A n cap, .int .i64 p, .slice A0 n0 c0] w (MoreR B A0 (L ++ [⟨whose x, x.n.toNat⟩]) w) := by
  have hpl : p < n := by rw [← h.len]; exact (List.getElem?_eq_some_iff.1 hx).1
  obtain ⟨ad, y, rfl, hab, hy, hin, d0, d1, d2⟩ := h.at_ hpl
  rw [hx] at hy
  injection hy with hy
  subst hy
  obtain ⟨xk, xp, xn⟩ := x
  have hn1 := fine_one hf
  have hff := (fine_iff _ _ _).1 hf
  obtain ⟨N, rfl⟩ := Int.eq_ofNat_of_zero_le (show 0 ≤ xn by dsimp only at hn1; omega)
  have hlt0 : (p : Int) < (n : Int) := by omega
  have hlt1 : 0 ≤ (p : Int) := by omega
  dsimp only at h3 h4
  have hk : xk = 1 ∨ xk = 2 := by omega
  have H0 := Lib.hid h0
  have hal : (ad.add (p * 3)).block < w.heap.size := by rw [add_block]; omega
  clear h hf hff hx hin h0 h3 h4
  have hfin : ∀ (v : Int) (A2 : Option Addr) (c2 : Nat) (w2 : World), v = whose ⟨xk, xp, (N : Int)⟩ → OwnV 30 2 w2 B A2 (n0 + 1) c2 (rs (L ++ [⟨v, N⟩])) → Below B (w.alloc (.cells #[.int .i64 v, .int .i64 (N : Int)] 30)) w2 → Grew A0 A2 (w.alloc (.cells #[.int .i64 v, .int .i64 (N : Int)] 30)) w2 → MoreR B A0 (L ++ [⟨whose ⟨xk, xp, (N : Int)⟩, (N : Int).toNat⟩]) w (.returned (.slice A2 (n0 + 1) c2)) w2 := fun v A2 c2 w2 hv hw hb hg => by
    refine MoreR.mk (L := L ++ [⟨v, N⟩]) (by rw [hv]; simp) (by simp [hL]) hw ?_ ((Grew.bel (bl1 w _)).trans hg)
    exact ((Below.refl B w).alloc hB _).trans hb
  have HF := Lib.hid hfin
  clear hfin
  rcases hk with rfl | rfl
  · have hw1 : OwnV 30 2 (w.alloc (.cells #[.int .i64 xp, .int .i64 (N : Int)] 30)) B A0 n0 c0 (rs L) := H0.out.below rfl (bl1 w (.cells #[.int .i64 xp, .int .i64 (N : Int)] 30))
    have hr1 := rdV_new w #[.int .i64 xp, .int .i64 (N : Int)] 30 (rs [⟨xp, N⟩]) rfl
    have hB1 : B ≤ (w.alloc (.cells #[.int .i64 xp, .int .i64 (N : Int)] 30)).heap.size := by simp; omega
    go_enter Try.func35, Try.ntmps35
    go_wp2_with fail
    go_region_law (refine step_appX elR rfl (.tmp 17) (.tmp 29) rfl rfl B A0 n0 c0 _ rfl hw1 _ 1 1 _ _ rfl hr1 rfl Nat.one_pos (rs_one _) (by omega) (by unfold maxLen; omega) hB1 (n0 + 1) rfl (rs (L ++ [⟨xp, N⟩])) (rs_append _ _).symm ?_; intro A2 c2 w2 hw2 hb2 hg2)
    all_goals
      go_wp2_with fail
      go_ret
      exact HF.out xp A2 c2 w2 rfl hw2 ⟨hb2.os, hb2.tape, hb2.output, hb2.size, hb2.block⟩ hg2.drew
  · have hw1 : OwnV 30 2 (w.alloc (.cells #[.int .i64 (-1), .int .i64 (N : Int)] 30)) B A0 n0 c0 (rs L) := H0.out.below rfl (bl1 w (.cells #[.int .i64 (-1), .int .i64 (N : Int)] 30))
    have hr1 := rdV_new w #[.int .i64 (-1), .int .i64 (N : Int)] 30 (rs [⟨-1, N⟩]) rfl
    have hB1 : B ≤ (w.alloc (.cells #[.int .i64 (-1), .int .i64 (N : Int)] 30)).heap.size := by simp; omega
    go_enter Try.func35, Try.ntmps35
    go_wp2_with (at_builtin; go_loud (refine wpList_appX elR rfl (.tmp 33) (.tmp 40) rfl rfl B A0 n0 c0 _ rfl hw1 _ 1 1 _ _ rfl hr1 rfl Nat.one_pos (rs_one _) (by omega) (by unfold maxLen; omega) hB1 (n0 + 1) rfl (rs (L ++ [⟨-1, N⟩])) (rs_append _ _).symm ?_; intro A2 c2 w2 hw2 hb2 hg2))
    go_ret
    exact HF.out (-1) A2 c2 w2 rfl hw2 hb2 hg2
theorem OwnV.older {E s : Nat} {w : World} {B n c : Nat} {A : Option Addr} {l : List Value} (h : OwnV E s w B A n c l) {g : Nat} (e : obk A = some g) : g < w.heap.size := by
  rcases h.2 with ⟨hv, _⟩ | ⟨g', cap, cur, hv, _, hg, _⟩
  · injection hv with h1
    rw [h1] at e
    cases e
  · injection hv with h1
    rw [h1] at e
    injection e with e
    rw [← e]
    exact (Array.getElem?_eq_some_iff.1 hg).1
theorem reps_more (i : Nat) (s : List Rn) : reps (i + 1) s = reps i s ++ s := by
  induction i with
  | zero => simp [reps]
  | succ j ih =>
    have e : reps (j + 1) s = s ++ reps j s := rfl
    have e2 : reps (j + 1 + 1) s = s ++ reps (j + 1) s := rfl
    rw [e2, ih, ← List.append_assoc, ← e, ih]
theorem reps_split (i N : Nat) (s : List Rn) (h : i ≤ N) : reps i s ++ reps (N - i) s = reps N s := by
  induction i with
  | zero => simp [reps]
  | succ i ih =>
    rw [← ih (by omega), reps_one (n := N - i) (by omega), show N - i - 1 = N - (i + 1) by omega, ← List.append_assoc, reps_more]
set_option maxRecDepth 100000 in
set_option maxHeartbeats 3200000 in
theorem rleaves_any (B : Nat) (A : Option Addr) (n cap : Nat) (l : List Nd) (hc : n ≤ cap) (hn : n ≤ 1099511627776) (M : Nat) : ∀ (p : Nat) (x : Nd) (k r : F) (t : List Nd) (w : World) (A0 : Option Addr) (n0 c0 : Nat) (L : List Rn), k.sz < M → RdN w B A n l → (F.cons x k r).ok → l.drop p = (F.cons x k r).flat ++ t → B ≤ w.heap.size → L.length = n0 → OwnV 30 2 w B A0 n0 c0 (rs L) → n0 + (one x k.lvs).length ≤ 1048576 →
    Calls Try.prog 35 #[.slice A n cap, .int .i64 p, .slice A0 n0 c0] w (MoreR B A0 (L ++ one x k.lvs) w) := by
  induction M with
  | zero => intro p x k r t w A0 n0 c0 L h; omega
  | succ M ih =>
    intro p x k r t w A0 n0 c0 L hM h hok hl hB hL h0 hs
    obtain ⟨hk, hfit, hd, hx⟩ := kids_at hok hl
    have hlen := h.len
    rw [hlen] at hfit
    have hpn : p < n := by omega
    by_cases h3 : x.k = 3
    · have hm : k.cnt ≤ n := by have := F.cnt_le_sz k; omega
      have HPD := Lib.hid fun j hj => pos_dr hok.2.2.1 hd (by omega) j hj
      have hkok := Lib.hid hok
      rw [lvs_seq h3] at hs ⊢
      generalize hmd : k.cnt = m at hk hm HPD
      have hp63 : (p : Int) ≤ 1099511627776 := by omega
      obtain ⟨ad, x', rfl, hab, hx', hin, c0', c1', c2'⟩ := h.at_ hpn
      rw [hx] at hx'
      injection hx' with hx'
      subst hx'
      obtain ⟨xk, xp, xn⟩ := x
      dsimp only at h3
      subst h3
      have HM := Lib.hid hmd
      have HK := Lib.hid hk
      have HIH := Lib.hid ih
      have HR := Lib.hid h
      have H0 := Lib.hid h0
      have HL := Lib.hid hL
      clear hk hmd hl hd hx hlen hok ih hin h h0
      go_enter Try.func35, Try.ntmps35
      go_wp2_with fail
      refine (rkids_new (some ad) n cap l (p : Int) w (HR.out.more hB) hc hn (by omega) (by omega)).mono ?_
      rw [HK.out]
      rintro e w1 ⟨A1, n1, c1, rfl, hr1, hc1, hb1, hnew⟩
      have hn1 : n1 = m := by have := hr1.len; simp [plc] at this; omega
      subst hn1
      have hw1 := H0.out.below rfl hb1
      have hs1 := hb1.size
      have HFAR : Hid (∀ ad, A1 = some ad → some ad.block ≠ obk A0) := Lib.hid fun ad' e' => by
        have h1 := hnew ad' e'
        intro e2
        have h2 := H0.out.older e2.symm
        omega
      have HW1 := Lib.hid hw1
      have HR1 := Lib.hid hr1
      clear hw1 hnew hr1 c0' c1' c2'
      go_wp2_with fail
      go_loopw [2, 63] (fun o s wr => ∃ (i : Nat) (Ao : Option Addr) (co : Nat) (Li : List Rn), i ≤ n1 ∧ s = .int .i64 i ∧ o = .slice Ao (L ++ Li).length co ∧ Li ++ (F.dr i k).lvs = k.lvs ∧ OwnV 30 2 wr B Ao (L ++ Li).length co (rs (L ++ Li)) ∧ Below B w wr ∧ Grew A0 Ao w1 wr) (fun _ s _ => n1 - (intOf s).toNat)
      case atStart => exact ⟨0, A0, c0, [], by omega, rfl, by rw [List.append_nil, HL.out], by simp [F.dr], by rw [List.append_nil, HL.out]; exact HW1.out, hb1.mono hB, Grew.refl _ _⟩
      case round =>
        obtain ⟨i, Ao, co, Li, hi, rfl, rfl, hLi, how, hb, hg⟩ := hrel
        have HLI := Lib.hid hLi
        have HOW := Lib.hid how
        have HG := Lib.hid hg
        have hbs := hb.size
        clear hLi how hg
        by_cases hlt : i < n1
        · obtain ⟨hd, hsz, hp1, hp2⟩ := HPD.out i (by omega)
          obtain ⟨y, ky, r', ed⟩ := dr_cons (f := k) (j := i) (by have := HM.out; omega)
          have hok' := dr_ok hkok.out.2.2.1 i
          have ed2 := dr_succ ed
          rw [ed] at hd hsz hok'
          have hky : ky.sz < M := by simp only [F.sz] at hsz; omega
          have hlv : Li ++ (one y ky.lvs ++ r'.lvs) = k.lvs := by have := HLI.out; rw [ed] at this; exact this
          have hlen2 : (L ++ Li).length + (one y ky.lvs).length ≤ 1048576 := by
            have := congrArg List.length hlv
            simp only [List.length_append] at this ⊢
            have := HL.out
            omega
          have hget := plc_get l (p + 1) n1 i hlt
          have HED := Lib.hid ed2
          have HLV := Lib.hid hlv
          clear hsz ed ed2 hlv
          generalize pos l (p + 1) i = P at hd hp1 hp2 hget
          obtain ⟨adk, z, rfl, hadk, hz, hcell⟩ := HR1.out.at_ hlt
          rw [hget] at hz
          injection hz with hz
          subst hz
          have hcell2 : wr.cell? (adk.add i) = some (.int .i64 (P : Int)) := by
            refine (World.cell?_of_block ?_).trans hcell
            rw [add_block]
            exact HG.out.gb.block adk.block hadk (HFAR.out adk rfl)
          clear hget hcell
          have hcall := HIH.out P y ky r' _ wr Ao (L ++ Li).length co (L ++ Li) hky (HR.out.below hb) hok' hd (by omega) rfl HOW.out hlen2
          have HCALL := Lib.hid hcall
          clear hcall hd hok' hlen2
          generalize (L ++ Li).length = q at HCALL ⊢
          go_wp2_with fail
          refine HCALL.out.mono ?_
          rintro e2 w4 ⟨A4, c4, rfl, how4, hb4, hg4⟩
          have HOW4 := Lib.hid how4
          have HG4 := Lib.hid hg4
          clear how4 hg4
          generalize hqd : (L ++ Li ++ one y ky.lvs).length = q4
          have HQD := Lib.hid hqd
          clear hqd
          go_wp2_with fail
          go_roundw
          case rel => exact ⟨i + 1, A4, c4, Li ++ one y ky.lvs, by omega, by go_num, by rw [← HQD.out, List.append_assoc], by rw [HED.out, List.append_assoc]; exact HLV.out, by rw [← List.append_assoc]; exact HOW4.out, hb.trans hb4, HG.out.trans HG4.out⟩
          case measure => simp [intOf]; omega
        · have hge : n1 ≤ i := by omega
          have e2 : F.dr i k = .nil := by rw [show i = k.cnt by have := HM.out; omega]; exact dr_all k
          have e3 : Li = k.lvs := by have := HLI.out; rw [e2] at this; simpa [F.lvs] using this
          have HE3 := Lib.hid e3
          clear e2 e3
          generalize hqd : (L ++ Li).length = q
          have HQD := Lib.hid hqd
          clear hqd
          go_wp2_with fail
          go_ret
          have hw := HOW.out
          rw [HQD.out] at hw
          exact MoreR.mk (L := L ++ Li) (by rw [HE3.out]) HQD.out.symm hw hb ((Grew.bel hb1).trans HG.out)
    · by_cases h4 : x.k = 4
      · rw [lvs_rep h4] at hs ⊢
        obtain ⟨ad, x', rfl, hab, hx', hin, c0', c1', c2'⟩ := h.at_ hpn
        rw [hx] at hx'
        injection hx' with hx'
        subst hx'
        obtain ⟨xk, xp, xn⟩ := x
        dsimp only at h4 hs
        subst h4
        have hn1 := fine_one hok.1
        obtain ⟨N, rfl⟩ := Int.eq_ofNat_of_zero_le (show 0 ≤ xn by dsimp only at hn1; omega)
        have hN2 : (N : Int) ≤ 9223372036854775807 := hin.2.2.2
        have hc' : k.cnt = 1 := hok.2.1
        cases k with
        | nil => simp [F.cnt] at hc'
        | cons y q r2 =>
          obtain rfl : r2 = .nil := F.cnt_zero (by simp only [F.cnt] at hc'; omega)
          have e1 : (F.cons y q .nil).lvs = one y q.lvs := by simp [F.lvs]
          rw [Int.toNat_natCast, e1] at hs
          simp only [Int.toNat_natCast, e1]
          have hq : q.sz < M := by simp only [F.sz] at hM; omega
          have hok2 := hok.2.2.1
          have HOK := Lib.hid hok2
          have HD := Lib.hid hd
          have HIH := Lib.hid ih
          have HR := Lib.hid h
          have H0 := Lib.hid h0
          have HL := Lib.hid hL
          have hp63 : (p : Int) ≤ 1099511627776 := by omega
          have HX := Lib.hid hx
          clear h3 hk hd hx hlen hok hl ih hin h h0 hok2 hc' c2' e1 hn1 hM
          generalize hsd : one y q.lvs = sl at hs ⊢
          have HSD := Lib.hid hsd
          clear hsd
          go_enter Try.func35, Try.ntmps35
          go_wp2_with fail
          clear c0' c1'
          go_loopw [2, 7] (fun o s wr => ∃ (i : Nat) (Ao : Option Addr) (co : Nat), i ≤ N ∧ s = .int .i64 i ∧ o = .slice Ao (L ++ reps i sl).length co ∧ OwnV 30 2 wr B Ao (L ++ reps i sl).length co (rs (L ++ reps i sl)) ∧ Below B w wr ∧ Grew A0 Ao w wr) (fun _ s _ => N - (intOf s).toNat)
          case atStart => exact ⟨0, A0, c0, by omega, rfl, by simp [reps, HL.out], by simp only [reps, List.append_nil, HL.out]; exact H0.out, Below.refl _ _, Grew.refl _ _⟩
          case round =>
            obtain ⟨i, Ao, co, hi, rfl, rfl, how, hb, hg⟩ := hrel
            have HOW := Lib.hid how
            have HG := Lib.hid hg
            have hbs := hb.size
            clear how hg
            obtain ⟨ad', x', e, _, hx', _, k0, k1, k2⟩ := (HR.out.below hb).at_ hpn
            injection e with e
            subst e
            rw [HX.out] at hx'
            injection hx' with hx'
            subst hx'
            clear k0 k1
            by_cases hlt : i < N
            · have hlen2 : (L ++ reps i sl).length + (one y q.lvs).length ≤ 1048576 := by
                rw [HSD.out]
                have := congrArg List.length (reps_split (i + 1) N sl (by omega))
                rw [reps_more] at this
                simp only [List.length_append] at this ⊢
                have := HL.out
                omega
              have hcall := HIH.out (p + 1) y q .nil _ wr Ao (L ++ reps i sl).length co (L ++ reps i sl) hq (HR.out.below hb) HOK.out HD.out (by omega) rfl HOW.out hlen2
              rw [HSD.out] at hcall
              have HCALL := Lib.hid hcall
              clear hcall hlen2
              generalize (L ++ reps i sl).length = q1 at HCALL ⊢
              go_wp2_with fail
              refine HCALL.out.mono ?_
              rintro e2 w4 ⟨A4, c4, rfl, how4, hb4, hg4⟩
              have HOW4 := Lib.hid how4
              have HG4 := Lib.hid hg4
              clear how4 hg4
              generalize hqd : (L ++ reps i sl ++ sl).length = q4
              have HQD := Lib.hid hqd
              clear hqd
              go_wp2_with fail
              go_roundw
              case rel => exact ⟨i + 1, A4, c4, by omega, by go_num, by rw [← HQD.out, List.append_assoc, ← reps_more], by rw [reps_more, ← List.append_assoc]; exact HOW4.out, hb.trans hb4, HG.out.trans HG4.out⟩
              case measure => simp [intOf]; omega
            · have hge : N ≤ i := by omega
              have e3 : i = N := by omega
              have HE3 := Lib.hid e3
              clear e3
              generalize hqd : (L ++ reps i sl).length = q1
              have HQD := Lib.hid hqd
              clear hqd
              go_wp2_with fail
              go_ret
              have hw := HOW.out
              rw [HQD.out] at hw
              exact MoreR.mk (L := L ++ reps i sl) (by rw [HE3.out]) HQD.out.symm hw hb HG.out
      · have hk0 : k = .nil := F.cnt_zero (by rw [hok.2.1]; unfold kn; rw [if_neg h3, if_neg h4])
        rw [lvs_leaf h3 h4]
        exact leaf1_any B A n cap l hc hn p x w h hx hok.1 h3 h4 hB A0 n0 c0 L hL h0 (by omega)
end Go.Proofs.Ytpjppglaieohlaa
