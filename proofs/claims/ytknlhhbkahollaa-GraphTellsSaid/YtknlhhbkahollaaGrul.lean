/- Those that sway all; do two depend; may two be turned about. -/
import Derived.Test.YtknlhhbkahollaaGway
namespace Go.Proofs.Ytknlhhbkahollaa
open Go.RowKit Tab
set_option linter.unusedSimpArgs false
set_option linter.unusedVariables false

set_option maxRecDepth 100000 in
set_option maxHeartbeats 1000000 in
theorem rulers_any (A1 A2 A3 : Option Addr) (n1 n2 n3 c1 c2 c3 : Nat) (P : List PtV) (C : List ChV) (w : World) (h : CfW w w.heap.size A1 A2 n1 n2 P C) (q1 : n1 ≤ 1048576) :
    Calls Try.prog 35 #[.agg #[.slice A1 n1 c1, .slice A2 n2 c2, .slice A3 n3 c3]] w (MadN (rulL (P.map ptOf)) w) := by
  have hlen : P.length = n1 := h.p.len
  obtain ⟨r, hr⟩ : ∃ r : Nat → Bool, r = fun a => schedOf (P.map ptOf) a || stopOf (P.map ptOf) a := ⟨_, rfl⟩
  have hrul : rulL (P.map ptOf) = plcs n1 r := by unfold rulL; rw [List.length_map, hlen, hr]
  rw [hrul]
  have hbw := bl1 w (.cells #[.slice A1 n1 c1, .slice A2 n2 c2, .slice A3 n3 c3] 26)
  have hP := h.p.on hbw
  have HB0 := Lib.hid hbw
  have HR := Lib.hid hr
  clear h hrul hbw hr
  go_enter Try.func35, Try.ntmps35
  go_wp2_with fail
  generalize w.alloc (.cells #[.slice A1 n1 c1, .slice A2 n2 c2, .slice A3 n3 c3] 26) = W at HB0 hP ⊢
  generalize hg : w.heap.size = g at HB0 ⊢
  have HG := Lib.hid hg
  clear hg
  go_loopw [3, 4, 5, 9] (fun q _ _ s wr => ∃ (i k c : Nat) (A : Option Addr), i ≤ n1 ∧ s = .int .i64 i ∧ q = .slice A k c ∧ k ≤ i ∧ OwnV 3 1 wr W.heap.size A k c (is ((plcs i r).map fun x : Nat => (x : Int))) ∧ Below W.heap.size W wr) (fun _ _ _ s _ => n1 - (intOf s).toNat)
  case atStart => exact ⟨0, 0, 0, none, by omega, rfl, rfl, by omega, by simpa [plcs, is] using OwnV.nil _ _ _ _, Below.refl _ _⟩
  case round =>
    obtain ⟨i, k, c, A, hi, rfl, rfl, hk, how, hb⟩ := hrel
    by_cases hlt : i < n1
    · obtain ⟨ad, x, rfl, had, hx, c0, ck⟩ := (hP.on hb).at_ pcl_len (by omega) hlt
      have d0 := c0 _ rfl
      have d1 := ck 1 _ (by omega) rfl
      have d2 := ck 2 _ (by omega) rfl
      have d3 := ck 3 _ (by omega) rfl
      have d4 := ck 4 _ (by omega) rfl
      have d5 := ck 5 _ (by omega) rfl
      have d6 := ck 6 _ (by omega) rfl
      have d7 := ck 7 _ (by omega) rfl
      have d8 := ck 8 _ (by omega) rfl
      have d9 := ck 9 _ (by omega) rfl
      have d10 := ck 10 _ (by omega) rfl
      have hri : r i = (x.sched || x.stop) := by
        have := congrFun HR.out i
        rw [this]
        show (schedOf (P.map ptOf) i || stopOf (P.map ptOf) i) = _
        rw [schedOf_at hx, stopOf_at hx]
      have hps := plcs_succ i r
      obtain ⟨nm, bu, pe, sc, st, pa, pn, pc, h0, h1, h2, h3, h4⟩ := x
      dsimp only at d0 d1 d2 d3 d4 d5 d6 d7 d8 d9 d10 hri
      have hbx := bl1 wr (.cells #[.string nm, .int .i64 bu, .int .i64 pe, .bool sc, .bool st, .slice pa pn pc, .int .i64 h0, .int .i64 h1, .int .i64 h2, .int .i64 h3, .int .i64 h4] 54)
      have hb1 := hb.trans (hbx.mono hb.size)
      have how1 := how.below rfl hbx
      have f3 : (wr.alloc (.cells #[.string nm, .int .i64 bu, .int .i64 pe, .bool sc, .bool st, .slice pa pn pc, .int .i64 h0, .int .i64 h1, .int .i64 h2, .int .i64 h3, .int .i64 h4] 54)).cell? ⟨wr.heap.size, 3, none⟩ = some (.bool sc) := World.cell?_alloc_mark _ _ _ _ _
      have f4 : (wr.alloc (.cells #[.string nm, .int .i64 bu, .int .i64 pe, .bool sc, .bool st, .slice pa pn pc, .int .i64 h0, .int .i64 h1, .int .i64 h2, .int .i64 h3, .int .i64 h4] 54)).cell? ⟨wr.heap.size, 4, none⟩ = some (.bool st) := World.cell?_alloc_mark _ _ _ _ _
      clear c0 ck hx hbx how hb
      go_upto_region 5 with fail
      generalize wr.alloc (.cells #[.string nm, .int .i64 bu, .int .i64 pe, .bool sc, .bool st, .slice pa pn pc, .int .i64 h0, .int .i64 h1, .int .i64 h2, .int .i64 h3, .int .i64 h4] 54) = W1 at hb1 how1 f3 f4 ⊢
      generalize wr.heap.size = gx at f3 f4 ⊢
      clear d0 d1 d2 d3 d4 d5 d6 d7 d8 d9 d10
      by_cases hss : (sc || st) = true
      · rw [hri, if_pos hss] at hps
        have HPS := Lib.hid hps
        have hbl := bl1 W1 (.cells #[.int .i64 (i : Int)] 3)
        have how2 := how1.below rfl hbl
        have hrd := rdV_new W1 #[.int .i64 (i : Int)] 3 (is [(i : Int)]) rfl
        have hb2 := hb1.trans (hbl.mono hb1.size)
        have hs2 := hb2.size
        have HB2 := Lib.hid hb2
        clear hps hri how1 hbl hb2 hb1
        cases sc <;> cases st <;> first | (simp at hss; done) | skip
        all_goals
          clear hss
          go_wp2_with (at_builtin; go_loud (refine wpList_appX elI rfl (.tmp 20) (.tmp 22) rfl rfl W.heap.size A k c _ rfl how2 _ 1 1 _ _ rfl hrd rfl Nat.one_pos (is_one _) (by omega) (by unfold maxLen; omega) hs2 (k + 1) rfl (is ((plcs (i + 1) r).map fun x : Nat => (x : Int))) (by rw [HPS.out, List.map_append]; exact (is_append _ _).symm) ?_; intro A4 c4 w4 hw4 hb4 hot))
          go_roundw
          case rel => exact ⟨i + 1, k + 1, c4, A4, by omega, by go_num, rfl, by omega, hw4, HB2.out.trans hb4⟩
          case measure => simp [intOf]; omega
      · rw [hri, if_neg hss] at hps
        rw [← hps] at how1
        have HOW := Lib.hid how1
        have HB1 := Lib.hid hb1
        obtain ⟨rfl, rfl⟩ : sc = false ∧ st = false := by cases sc <;> cases st <;> simp_all
        clear hss hri hps how1 hb1
        go_wp2_with fail
        go_roundw
        case rel => exact ⟨i + 1, k, c, A, by omega, by go_num, rfl, by omega, HOW.out, HB1.out⟩
        case measure => simp [intOf]; omega
    · have hge : n1 ≤ i := by omega
      obtain rfl : n1 = i := by omega
      have hl := how.len
      rw [is_length, List.length_map, Nat.mul_one] at hl
      go_wp2_with fail
      go_ret
      have hsz : w.heap.size ≤ W.heap.size := HB0.out.size
      refine ⟨A, c, by rw [hl]; rfl, by rw [hl]; exact how.weak hsz, ?_⟩
      have := HB0.out.trans (hb.mono (by rw [← HG.out]; exact hsz))
      rw [← HG.out] at this
      exact this
/-- Does a channel join a and b, either way? -/
def hitB (x : ChV) (a b : Nat) : Bool := decide ((x.from_ = (a : Int) ∧ x.to_ = (b : Int)) ∨ (x.from_ = (b : Int) ∧ x.to_ = (a : Int)))
set_option maxRecDepth 100000 in
set_option maxHeartbeats 1000000 in
theorem depend_any (A1 A2 A3 : Option Addr) (n1 n2 n3 c1 c2 c3 : Nat) (P : List PtV) (C : List ChV) (a b : Nat) (w : World) (h : CfW w w.heap.size A1 A2 n1 n2 P C) (q1 : n1 ≤ 1048576) (q2 : n2 ≤ 1048576) (ha : a < n1) (hb : b < n1) :
    Calls Try.prog 37 #[.agg #[.slice A1 n1 c1, .slice A2 n2 c2, .slice A3 n3 c3], .int .i64 (a : Int), .int .i64 (b : Int)] w (Ans (.bool (depF (P.map ptOf) (C.map chOf) a b)) w) := by
  have hlen : P.length = n1 := h.p.len
  obtain ⟨v, hv⟩ : ∃ v, v = depF (P.map ptOf) (C.map chOf) a b := ⟨_, rfl⟩
  rw [← hv]
  have HV := Lib.hid hv
  have HLEN := Lib.hid hlen
  have hbw := bl1 w (.cells #[.slice A1 n1 c1, .slice A2 n2 c2, .slice A3 n3 c3] 26)
  have hP := h.p.on hbw
  have hC := h.c.on hbw
  have m0 : (w.alloc (.cells #[.slice A1 n1 c1, .slice A2 n2 c2, .slice A3 n3 c3] 26)).cell? ⟨w.heap.size, 0, none⟩ = some (.slice A1 n1 c1) := World.cell?_alloc_mark _ _ _ _ _
  have m1 : (w.alloc (.cells #[.slice A1 n1 c1, .slice A2 n2 c2, .slice A3 n3 c3] 26)).cell? ⟨w.heap.size, 1, none⟩ = some (.slice A2 n2 c2) := World.cell?_alloc_mark _ _ _ _ _
  obtain ⟨ad, x, rfl, hax, hx, _, ckx⟩ := hP.at_ pcl_len (by omega) ha
  obtain ⟨ad', y, e, _, hy, _, cky⟩ := hP.at_ pcl_len (by omega) hb
  injection e with e
  subst e
  have d3 := ckx 3 _ (by omega) rfl
  have e3 := cky 3 _ (by omega) rfl
  have hsx := schedOf_at hx
  have hsy := schedOf_at hy
  obtain ⟨nm, bu, pe, sc, st, pa, pn, pc, h0, h1, h2, h3, h4⟩ := x
  obtain ⟨nm', bu', pe', sc', st', pa', pn', pc', h0', h1', h2', h3', h4'⟩ := y
  dsimp only at d3 e3 hsx hsy
  have HSX := Lib.hid hsx
  have HSY := Lib.hid hsy
  have HB0 := Lib.hid hbw
  clear h hv hlen hbw ckx cky hx hy hsx hsy hP
  go_enter Try.func37, Try.ntmps37
  by_cases hab : a = b
  · subst hab
    have HVT : v = true := by rw [HV.out]; exact depF_self _ _ _
    subst HVT
    have heq : ((a : Int) == (a : Int)) = true := by simp
    clear hC
    go_wp2_with fail
    go_ret
    exact ⟨rfl, HB0.out⟩
  · have heq : ((a : Int) == (b : Int)) = false := by simp; omega
    by_cases hss : sc = true ∧ sc' = true
    · obtain ⟨rfl, rfl⟩ := hss
      have HVT : v = true := by rw [HV.out, depF_iff]; exact .inr (.inl ⟨HSX.out, HSY.out⟩)
      subst HVT
      clear hC
      go_wp2_with fail
      go_ret
      exact ⟨rfl, HB0.out⟩
    · have HNS := Lib.hid hss
      have HAB := Lib.hid hab
      go_upto_region 1 with fail
      go_cut [27] from 9 to 28 (fun c wx => c = .bool false ∧ wx = w.alloc (.cells #[.slice (some ad) n1 c1, .slice A2 n2 c2, .slice A3 n3 c3] 26))
      case first =>
        cases sc with
        | false =>
          go_wp2_with fail
          go_meet
          case rel => exact ⟨rfl, rfl⟩
        | true =>
          cases sc' with
          | false =>
            go_wp2_with fail
            go_meet
            case rel => exact ⟨rfl, rfl⟩
          | true => exact absurd ⟨rfl, rfl⟩ HNS.out
      case rest =>
        obtain ⟨rfl, rfl⟩ := hcut
        generalize w.alloc (.cells #[.slice (some ad) n1 c1, .slice A2 n2 c2, .slice A3 n3 c3] 26) = W at HB0 hC m0 m1 d3 e3 ⊢
        clear hss hab heq d3 e3
        go_wp2_with fail
        go_loopw [8, 31] (fun _ s wr => ∃ i : Nat, i ≤ n2 ∧ s = .int .i64 i ∧ Below W.heap.size W wr ∧ ∀ j x, j < i → C[j]? = some x → hitB x a b = false) (fun _ s _ => n2 - (intOf s).toNat)
        case atStart => exact ⟨0, by omega, rfl, Below.refl _ _, fun j x hj => by omega⟩
        case round =>
          obtain ⟨i, hi, rfl, hb, hno⟩ := hrel
          have HNO := Lib.hid hno
          clear hno
          by_cases hlt : i < n2
          · obtain ⟨ad2, x, rfl, had, hx, c0, ck⟩ := (hC.on hb).at_ cc_len (by omega) hlt
            have d0 := c0 _ rfl
            have d1 := ck 1 _ (by omega) rfl
            have d2 := ck 2 _ (by omega) rfl
            have d3 := ck 3 _ (by omega) rfl
            have d4 := ck 4 _ (by omega) rfl
            have d5 := ck 5 _ (by omega) rfl
            obtain ⟨xf, xt, xq, xc, xm, xl⟩ := x
            dsimp only at d0 d1 d2 d3 d4 d5
            have hbx := bl1 wr (.cells #[.int .i64 xf, .int .i64 xt, .bool xq, .int .i64 xc, .int .u32 xm, .int .i64 xl] 36)
            have hb1 := hb.trans (hbx.mono hb.size)
            have f0 : (wr.alloc (.cells #[.int .i64 xf, .int .i64 xt, .bool xq, .int .i64 xc, .int .u32 xm, .int .i64 xl] 36)).cell? ⟨wr.heap.size, 0, none⟩ = some (.int .i64 xf) := World.cell?_alloc_mark _ _ _ _ _
            have f1 : (wr.alloc (.cells #[.int .i64 xf, .int .i64 xt, .bool xq, .int .i64 xc, .int .u32 xm, .int .i64 xl] 36)).cell? ⟨wr.heap.size, 1, none⟩ = some (.int .i64 xt) := World.cell?_alloc_mark _ _ _ _ _
            have HX := Lib.hid hx
            obtain ⟨q, hq⟩ : ∃ q, q = hitB ⟨xf, xt, xq, xc, xm, xl⟩ a b := ⟨_, rfl⟩
            have HQ := Lib.hid hq
            clear c0 ck hx hbx hb hq
            go_upto_region 6 with fail
            generalize wr.alloc (.cells #[.int .i64 xf, .int .i64 xt, .bool xq, .int .i64 xc, .int .u32 xm, .int .i64 xl] 36) = W1 at hb1 f0 f1 ⊢
            generalize wr.heap.size = gx at f0 f1 ⊢
            clear d0 d1 d2 d3 d4 d5
            go_cut [56] from 35 to 57 (fun c wx => c = .bool q ∧ wx = W1)
            case first =>
              have HQ2 := HQ.out
              unfold hitB at HQ2
              dsimp only at HQ2
              have HQ3 := Lib.hid HQ2
              clear HQ2
              by_cases k1 : xf = (a : Int)
              · by_cases k2 : xt = (b : Int)
                · have t1 : (xf == (a : Int)) = true := by simp [k1]
                  have t2 : (xt == (b : Int)) = true := by simp [k2]
                  have hqt : q = true := by rw [HQ3.out]; simp [k1, k2]
                  subst hqt
                  clear k1 k2
                  go_wp2_with fail
                  go_meet
                  case rel => exact ⟨rfl, rfl⟩
                · have t1 : (xf == (a : Int)) = true := by simp [k1]
                  have t2 : (xt == (b : Int)) = false := by simp [k2]
                  have k3 : ¬ xf = (b : Int) := by have := HAB.out; omega
                  have t3 : (xf == (b : Int)) = false := by simp [k3]
                  have hqt : q = false := by rw [HQ3.out]; simp [k2, k3]
                  subst hqt
                  clear k1 k2 k3
                  go_wp2_with fail
                  go_meet
                  case rel => exact ⟨rfl, rfl⟩
              · have t1 : (xf == (a : Int)) = false := by simp [k1]
                by_cases k3 : xf = (b : Int)
                · have t3 : (xf == (b : Int)) = true := by simp [k3]
                  by_cases k4 : xt = (a : Int)
                  · have t4 : (xt == (a : Int)) = true := by simp [k4]
                    have hqt : q = true := by rw [HQ3.out]; simp [k3, k4]
                    subst hqt
                    clear k1 k3 k4
                    go_wp2_with fail
                    go_meet
                    case rel => exact ⟨rfl, rfl⟩
                  · have t4 : (xt == (a : Int)) = false := by simp [k4]
                    have hqt : q = false := by rw [HQ3.out]; simp [k1, k4]
                    subst hqt
                    clear k1 k3 k4
                    go_wp2_with fail
                    go_meet
                    case rel => exact ⟨rfl, rfl⟩
                · have t3 : (xf == (b : Int)) = false := by simp [k3]
                  have hqt : q = false := by rw [HQ3.out]; simp [k1, k3]
                  subst hqt
                  clear k1 k3
                  go_wp2_with fail
                  go_meet
                  case rel => exact ⟨rfl, rfl⟩
            case rest =>
              obtain ⟨rfl, rfl⟩ := hcut
              have HB1 := Lib.hid hb1
              clear f0 f1 hb1
              cases q with
              | true =>
                have HVT : v = true := by
                  rw [HV.out]
                  unfold depF
                  simp only [Bool.or_eq_true, List.any_eq_true]
                  have hh := HQ.out
                  unfold hitB at hh
                  simp only [Bool.true_eq, decide_eq_true_eq] at hh
                  refine .inr ⟨chOf ⟨xf, xt, xq, xc, xm, xl⟩, List.mem_map.2 ⟨_, List.mem_of_getElem? HX.out, rfl⟩, hh.imp (fun e => ?_) (fun e => ?_)⟩
                  all_goals
                    rw [joins_iff, inP_iff, inP_iff, List.length_map, HLEN.out]
                    simp only [chOf]
                    omega
                subst HVT
                go_wp2_with fail
                go_ret
                exact ⟨rfl, HB0.out.trans (HB1.out.mono HB0.out.size)⟩
              | false =>
                go_wp2_with fail
                go_roundw
                case rel => exact ⟨i + 1, by omega, by go_num, HB1.out, fun j y hj hy => by
                  by_cases e : j = i
                  · subst e
                    rw [HX.out] at hy
                    injection hy with hy
                    subst hy
                    exact HQ.out.symm
                  · exact HNO.out j y (by omega) hy⟩
                case measure => simp [intOf]; omega
          · have hge : n2 ≤ i := by omega
            have HVF : v = false := by
              rw [HV.out, Bool.eq_false_iff]
              intro e
              have hjn : ∀ x y, (∀ z ∈ C, ¬ ((z.from_ = (x : Nat) ∧ z.to_ = (y : Nat)) ∨ (z.from_ = (y : Nat) ∧ z.to_ = (x : Nat)))) → (x, y) ∉ wayL (P.map ptOf).length (C.map chOf) := fun x y hz hm => by
                rw [mem_wayL, List.any_eq_true] at hm
                obtain ⟨u, hu, hm⟩ := hm
                obtain ⟨z, hzC, rfl⟩ := List.mem_map.1 hu
                rw [Bool.or_eq_true, Bool.and_eq_true, joins_iff, joins_iff] at hm
                simp only [chOf] at hm
                exact hz z hzC (by rcases hm with hm | hm; exact .inl hm.2; exact .inr hm.2.2)
              have hall : ∀ z ∈ C, ¬ ((z.from_ = (a : Int) ∧ z.to_ = (b : Int)) ∨ (z.from_ = (b : Int) ∧ z.to_ = (a : Int))) := fun z hz hh => by
                obtain ⟨j, hj, e⟩ := List.getElem_of_mem hz
                have := HNO.out j z (by have := hC.len; omega) (by rw [List.getElem?_eq_getElem hj, e])
                unfold hitB at this
                simp only [decide_eq_false_iff_not] at this
                exact this hh
              rw [depF_iff] at e
              rcases e with e | e | e | e
              · exact HAB.out e
              · rw [HSX.out, HSY.out] at e
                exact HNS.out e
              · exact hjn a b hall e
              · exact hjn b a (fun z hz hh => hall z hz hh.symm) e
            subst HVF
            go_wp2_with fail
            go_ret
            exact ⟨rfl, HB0.out.trans (hb.mono HB0.out.size)⟩
end Go.Proofs.Ytknlhhbkahollaa
