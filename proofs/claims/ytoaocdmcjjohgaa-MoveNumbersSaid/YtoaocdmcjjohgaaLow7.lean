/- Contracts and mathematics that the texts behind it stand on: Hol, Gsq, Gled, Gclo, Gway, Grul, Gdep, Rdpd, Mfit. -/
import Derived.Test.YtoaocdmcjjohgaaLow6
import Derived.Test.YtoaocdmcjjohgaaLow5
import Derived.IntWalk
import Derived.BigQuiet
import Derived.Deep.CutRange
import Derived.StillTailTactics
/- Whether a row of runs holds what is asked; how long a partition waits: by the document's own answer, exactly. -/
namespace Go.Proofs.Ytoaocdmcjjohgaa
open Go.RowKit Tab
set_option linter.unusedSimpArgs false
set_option linter.unusedVariables false

/-- Is a channel late? -/
def chLate (W : List Int) (x : ChV) : Bool := decide (0 < x.late) && (decide (lateL W x.from_ x.to_ < 0) || decide (x.late < lateL W x.from_ x.to_))
/-- Does a partition get too few? -/
def ptShort (W : List Int) (i : Nat) (x : PtV) : Bool := decide (0 < x.bud) && decide (budL W (i : Int) x.per < x.bud)
def shortF (W : List Int) : Nat → List PtV → Bool
  | _, [] => false
  | i, x :: l => ptShort W i x || shortF W (i + 1) l
def holdsF (W : List Int) (P : List PtV) (C : List ChV) : Int := if C.any (chLate W) = true then 19 else if shortF W 0 P = true then 20 else 0
theorem holdsF_late {W : List Int} {P : List PtV} {C : List ChV} (h : C.any (chLate W) = true) : holdsF W P C = 19 := if_pos h
theorem holdsF_short {W : List Int} {P : List PtV} {C : List ChV} (h : C.any (chLate W) = false) (h2 : shortF W 0 P = true) : holdsF W P C = 20 := by unfold holdsF; rw [if_neg (by rw [h]; decide), if_pos h2]
theorem holdsF_ok {W : List Int} {P : List PtV} {C : List ChV} (h : C.any (chLate W) = false) (h2 : shortF W 0 P = false) : holdsF W P C = 0 := by unfold holdsF; rw [if_neg (by rw [h]; decide), if_neg (by rw [h2]; decide)]
theorem any_more {α : Type} (f : α → Bool) {l : List α} {i : Nat} {x : α} (h : l[i]? = some x) : (l.take (i + 1)).any f = ((l.take i).any f || f x) := by
  obtain ⟨hi, e⟩ := List.getElem?_eq_some_iff.1 h
  rw [List.take_succ_eq_append_getElem hi, List.any_append, e]
  simp
theorem any_mem {α : Type} (f : α → Bool) {l : List α} {i : Nat} {x : α} (h : l[i]? = some x) (hf : f x = true) : l.any f = true := List.any_eq_true.2 ⟨x, List.mem_of_getElem? h, hf⟩
theorem shortF_append (W : List Int) (a b : List PtV) : ∀ i, shortF W i (a ++ b) = (shortF W i a || shortF W (i + a.length) b) := by
  induction a with
  | nil => intro i; simp [shortF]
  | cons x a ih =>
    intro i
    simp only [List.cons_append, shortF, ih, List.length_cons, Bool.or_assoc]
    rw [show i + 1 + a.length = i + (a.length + 1) by omega]
theorem short_more {W : List Int} {l : List PtV} {i : Nat} {x : PtV} (h : l[i]? = some x) : shortF W 0 (l.take (i + 1)) = (shortF W 0 (l.take i) || ptShort W i x) := by
  obtain ⟨hi, e⟩ := List.getElem?_eq_some_iff.1 h
  rw [List.take_succ_eq_append_getElem hi, shortF_append, e, Nat.zero_add, List.length_take, Nat.min_eq_left (by omega)]
  simp [shortF]
theorem short_mem {W : List Int} {l : List PtV} {i : Nat} {x : PtV} (h : l[i]? = some x) (hs : ptShort W i x = true) : shortF W 0 l = true := by
  have e := short_more (W := W) h
  rw [hs, Bool.or_true] at e
  have k := shortF_append W (l.take (i + 1)) (l.drop (i + 1)) 0
  rw [List.take_append_drop, e, Bool.true_or] at k
  exact k
theorem shortF_iff {W : List Int} {l : List PtV} : shortF W 0 l = false ↔ ∀ i x, l[i]? = some x → ptShort W i x = false := by
  constructor
  · intro h i x hx
    cases hs : ptShort W i x with
    | false => rfl
    | true => rw [short_mem hx hs] at h; cases h
  · intro h
    have key : ∀ k, shortF W 0 (l.take k) = false := by
      intro k
      induction k with
      | zero => rfl
      | succ k ih =>
        cases hx : l[k]? with
        | none =>
          have : l.length ≤ k := List.getElem?_eq_none_iff.1 hx
          rw [List.take_of_length_le (by omega)]
          rw [List.take_of_length_le this] at ih
          exact ih
        | some x => rw [short_more hx, ih, h k x hx]; rfl
    have := key l.length
    rwa [List.take_length] at this
set_option maxRecDepth 100000 in
set_option maxHeartbeats 4000000 in
theorem holdsx_any (A1 A2 A3 A4 : Option Addr) (n1 n2 n3 n4 c1 c2 c3 c4 : Nat) (P : List PtV) (C : List ChV) (L : List Rn) (w : World) (hP : RdB pcl w w.heap.size A1 n1 P) (hC : RdB cc w w.heap.size A2 n2 C) (hL : RdR w w.heap.size A4 n4 L)
    (q1 : n1 ≤ 1048576) (q2 : n2 ≤ 1048576) (q4 : n4 ≤ c4) (q5 : n4 ≤ 1048576) (ht : ticks L ≤ 8192) (hz : ∀ x ∈ P, In64 x.per) :
    Calls Try.prog 53 #[.agg #[.slice A1 n1 c1, .slice A2 n2 c2, .slice A3 n3 c3], .slice A4 n4 c4] w (Ans (.int .i64 (holdsF (wordsL L) P C)) w) := by
  have hb0 := bl1 w (.cells #[.slice A1 n1 c1, .slice A2 n2 c2, .slice A3 n3 c3] 31)
  have hP0 := hP.on hb0
  have hC0 := hC.on hb0
  have hL0 := hL.on hb0
  have m0 : (w.alloc (.cells #[.slice A1 n1 c1, .slice A2 n2 c2, .slice A3 n3 c3] 31)).cell? ⟨w.heap.size, 0, none⟩ = some (.slice A1 n1 c1) := World.cell?_alloc_mark _ _ _ _ _
  have hgs : w.heap.size < (w.alloc (.cells #[.slice A1 n1 c1, .slice A2 n2 c2, .slice A3 n3 c3] 31)).heap.size := by simp
  have HZ := Lib.hid hz
  obtain ⟨R, hR⟩ : ∃ R, R = holdsF (wordsL L) P C := ⟨_, rfl⟩
  rw [← hR]
  obtain ⟨X, hX⟩ : ∃ X, X = wordsL L := ⟨_, rfl⟩
  rw [← hX] at hR
  have HR := Lib.hid hR
  have HX := Lib.hid hX
  have hPl := hP.len
  have hCl := hC.len
  have HPL := Lib.hid hPl
  have HCL := Lib.hid hCl
  clear hP hC hL hz hR hX hPl hCl
  go_enter Try.func53, Try.ntmps53
  go_wp2_with fail
  generalize w.alloc (.cells #[.slice A1 n1 c1, .slice A2 n2 c2, .slice A3 n3 c3] 31) = W at hb0 hP0 hC0 hL0 m0 hgs ⊢
  obtain ⟨g, hg⟩ : ∃ g, g = w.heap.size := ⟨_, rfl⟩
  rw [← hg] at m0 hgs ⊢
  have HG := Lib.hid hg
  have HM0 := Lib.hid m0
  clear hg m0
  go_loopw [6, 7, 13] (fun _ _ s wr => ∃ i : Nat, i ≤ n2 ∧ s = .int .i64 i ∧ (C.take i).any (chLate X) = false ∧ Below W.heap.size W wr) (fun _ _ s _ => n2 - (intOf s).toNat)
  case atStart => exact ⟨0, by omega, rfl, rfl, Below.refl _ _⟩
  case round =>
    obtain ⟨i, hi, rfl, hany, hb⟩ := hrel
    have HANY := Lib.hid hany
    clear hany
    by_cases hlt : i < n2
    · obtain ⟨ad, x, rfl, had, hx, c0, ck⟩ := (hC0.on hb).at_ cc_len (by omega) hlt
      have d0 := c0 _ rfl
      have d1 := ck 1 _ (by omega) rfl
      have d2 := ck 2 _ (by omega) rfl
      have d3 := ck 3 _ (by omega) rfl
      have d4 := ck 4 _ (by omega) rfl
      have d5 := ck 5 _ (by omega) rfl
      have HMORE := Lib.hid (any_more (chLate X) hx)
      have HMEM := Lib.hid (any_mem (chLate X) hx)
      obtain ⟨xf, xt, xq, xc, xm, xl⟩ := x
      dsimp only at d0 d1 d2 d3 d4 d5
      have hbx := bl1 wr (.cells #[.int .i64 xf, .int .i64 xt, .bool xq, .int .i64 xc, .int .u32 xm, .int .i64 xl] 70)
      have hb1 := hb.trans (hbx.mono hb.size)
      have HLT := Lib.hid (late_any A4 n4 c4 L xf xt _ (hL0.on hb1) q4 q5 ht)
      have HB1 := Lib.hid hb1
      clear c0 ck hx hbx hb1
      go_wp2_with fail
      refine HLT.out.mono ?_
      rintro e w5 ⟨rfl, hb5⟩
      have e5 : w5.cell? ⟨wr.heap.size, 5, none⟩ = some (.int .i64 xl) := (hb5.cell (p := ⟨wr.heap.size, 5, none⟩) (by simp)).trans (World.cell?_alloc_mark _ _ _ _ _)
      have HB5 := Lib.hid (HB1.out.trans (hb5.mono HB1.out.size))
      clear hb5 HLT HB1 d0 d1 d2 d3 d4 d5
      rw [← HX.out]
      have hcl : chLate X ⟨xf, xt, xq, xc, xm, xl⟩ = (decide (0 < xl) && (decide (lateL X xf xt < 0) || decide (xl < lateL X xf xt))) := rfl
      generalize lateL X xf xt = z at hcl ⊢
      generalize wr.heap.size = gx at e5 ⊢
      have HCL2 := Lib.hid hcl
      clear hcl
      by_cases t1 : 0 < xl
      · have u1 : decide (0 < xl) = true := decide_eq_true t1
        by_cases t2 : z < 0
        · have u2 : decide (z < 0) = true := decide_eq_true t2
          have hres : R = 19 := by
            rw [HR.out]
            exact holdsF_late (HMEM.out (by rw [HCL2.out, u1, u2]; rfl))
          subst hres
          go_wp2_with fail
          go_ret
          exact Ans.mk rfl (hb0.trans (HB5.out.mono hb0.size))
        · have u2 : decide (z < 0) = false := decide_eq_false t2
          by_cases t3 : xl < z
          · have u3 : decide (xl < z) = true := decide_eq_true t3
            have hres : R = 19 := by
              rw [HR.out]
              exact holdsF_late (HMEM.out (by rw [HCL2.out, u1, u3]; simp))
            subst hres
            go_wp2_with fail
            go_ret
            exact Ans.mk rfl (hb0.trans (HB5.out.mono hb0.size))
          · have u3 : decide (xl < z) = false := decide_eq_false t3
            have HN : Hid ((C.take (i + 1)).any (chLate X) = false) := Lib.hid (by rw [HMORE.out, HANY.out, HCL2.out, u1, u2, u3]; rfl)
            go_wp2_with fail
            go_roundw
            case rel => exact ⟨i + 1, by omega, by go_num, HN.out, HB5.out⟩
            case measure => simp [intOf]; omega
      · have u1 : decide (0 < xl) = false := decide_eq_false t1
        have HN : Hid ((C.take (i + 1)).any (chLate X) = false) := Lib.hid (by rw [HMORE.out, HANY.out, HCL2.out, u1]; rfl)
        go_wp2_with fail
        go_roundw
        case rel => exact ⟨i + 1, by omega, by go_num, HN.out, HB5.out⟩
        case measure => simp [intOf]; omega
    · have hge : n2 ≤ i := by omega
      have HALL : Hid (C.any (chLate X) = false) := Lib.hid (by
        have h := HANY.out
        rw [List.take_of_length_le (by rw [HCL.out]; exact hge)] at h
        exact h)
      clear HANY
      have m0 := (hb.cell (p := ⟨g, 0, none⟩) hgs).trans HM0.out
      go_wp2_with fail
      go_loopw [8, 9, 40] (fun _ _ s wx => ∃ j : Nat, j ≤ n1 ∧ s = .int .i64 j ∧ shortF X 0 (P.take j) = false ∧ Below W.heap.size W wx) (fun _ _ s _ => n1 - (intOf s).toNat)
      case atStart => exact ⟨0, by omega, rfl, rfl, hb⟩
      case round =>
        obtain ⟨j, hj, rfl, hsh, hb⟩ := hrel
        have HSH := Lib.hid hsh
        clear hsh
        by_cases hlt : j < n1
        · obtain ⟨ad, x, rfl, had, hx, c0, ck⟩ := (hP0.on hb).at_ pcl_len (by omega) hlt
          have d0 := c0 _ rfl
          have d1 := ck 1 _ (by omega) rfl
          have d2 := ck 2 _ (by omega) rfl
          have d3 := ck 3 _ (by omega) rfl
          have d4 := ck 4 _ (by omega) rfl
          have d5 := ck 5 _ (by omega) rfl
          have d6 := ck 6 _ (by omega) rfl
          have d7 := ck 7 _ (by omega) rfl
          have d8 := ck 8 _ (by omega) rfl
          have d9 := ck 9 _ (by omega) rfl
          have d10 := ck 10 _ (by omega) rfl
          have hzx := HZ.out x (List.mem_of_getElem? hx)
          have HSM := Lib.hid (short_more (W := X) hx)
          have HSE := Lib.hid (short_mem (W := X) hx)
          obtain ⟨nm, bu, pe, sc, st, pa, pn, pc, h0, h1, h2, h3, h4⟩ := x
          dsimp only at d0 d1 d2 d3 d4 d5 d6 d7 d8 d9 d10 hzx
          have hbx := bl1 wr (.cells #[.string nm, .int .i64 bu, .int .i64 pe, .bool sc, .bool st, .slice pa pn pc, .int .i64 h0, .int .i64 h1, .int .i64 h2, .int .i64 h3, .int .i64 h4] 64)
          have hb1 := hb.trans (hbx.mono hb.size)
          have f1 : (wr.alloc (.cells #[.string nm, .int .i64 bu, .int .i64 pe, .bool sc, .bool st, .slice pa pn pc, .int .i64 h0, .int .i64 h1, .int .i64 h2, .int .i64 h3, .int .i64 h4] 64)).cell? ⟨wr.heap.size, 1, none⟩ = some (.int .i64 bu) := World.cell?_alloc_mark _ _ _ _ _
          have f2 : (wr.alloc (.cells #[.string nm, .int .i64 bu, .int .i64 pe, .bool sc, .bool st, .slice pa pn pc, .int .i64 h0, .int .i64 h1, .int .i64 h2, .int .i64 h3, .int .i64 h4] 64)).cell? ⟨wr.heap.size, 2, none⟩ = some (.int .i64 pe) := World.cell?_alloc_mark _ _ _ _ _
          have hgx : wr.heap.size < (wr.alloc (.cells #[.string nm, .int .i64 bu, .int .i64 pe, .bool sc, .bool st, .slice pa pn pc, .int .i64 h0, .int .i64 h1, .int .i64 h2, .int .i64 h3, .int .i64 h4] 64)).heap.size := by simp
          clear c0 ck hx hbx
          go_wp2_with fail
          generalize wr.alloc (.cells #[.string nm, .int .i64 bu, .int .i64 pe, .bool sc, .bool st, .slice pa pn pc, .int .i64 h0, .int .i64 h1, .int .i64 h2, .int .i64 h3, .int .i64 h4] 64) = W2 at hb1 f1 f2 hgx ⊢
          generalize wr.heap.size = gx at f1 f2 hgx ⊢
          have HB1 := Lib.hid hb1
          clear d0 d1 d2 d3 d4 d5 d6 d7 d8 d9 d10 hb1 had
          by_cases hbu : 0 < bu
          · have hbd : decide (0 < bu) = true := decide_eq_true hbu
            have HBG : Hid (Calls Try.prog 48 #[.slice A4 n4 c4, .int .i64 (j : Int), .int .i64 pe] W2.drew fun e w5 => e = .returned (.int .i64 (budL (wordsL L) (j : Int) pe)) ∧ Below W2.heap.size W2 w5 ∧ w5.cell? ⟨gx, 1, none⟩ = some (.int .i64 bu) ∧ w5.cell? ⟨gx, 2, none⟩ = some (.int .i64 pe)) := Lib.hid (by
              refine (budget_any A4 n4 c4 L (j : Int) pe W2.drew ((hL0.on HB1.out).below (Below.refl _ _).drew) q4 q5 ht hzx).mono ?_
              rintro e w5 ⟨rfl, hb5⟩
              have hb6 : Below W2.heap.size W2 w5 := ⟨hb5.os, hb5.tape, hb5.output, hb5.size, hb5.block⟩
              exact ⟨rfl, hb6, (hb6.cell (p := ⟨gx, 1, none⟩) hgx).trans f1, (hb6.cell (p := ⟨gx, 2, none⟩) hgx).trans f2⟩)
            rw [← HX.out] at HBG
            have hps : ptShort X j ⟨nm, bu, pe, sc, st, pa, pn, pc, h0, h1, h2, h3, h4⟩ = (decide (0 < bu) && decide (budL X (j : Int) pe < bu)) := rfl
            generalize budL X (j : Int) pe = z at HBG hps
            rw [hbd, Bool.true_and] at hps
            have HPS := Lib.hid hps
            clear hps
            go_region_with (go_at_call 48; refine HBG.out.mono ?_; rintro e w5 ⟨rfl, hb5, g1, g2⟩)
            all_goals
              by_cases t2 : z < bu
              · have u2 : decide (z < bu) = true := decide_eq_true t2
                have hres : R = 20 := by
                  rw [HR.out]
                  exact holdsF_short HALL.out (HSE.out (by rw [HPS.out]; exact u2))
                subst hres
                go_wp2_with fail
                go_ret
                exact Ans.mk rfl (hb0.trans ((HB1.out.trans (hb5.mono HB1.out.size)).mono hb0.size))
              · have u2 : decide (z < bu) = false := decide_eq_false t2
                have HN : Hid (shortF X 0 (P.take (j + 1)) = false) := Lib.hid (by rw [HSM.out, HSH.out, HPS.out, u2]; rfl)
                go_wp2_with fail
                go_roundw
                case rel => exact ⟨j + 1, by omega, by go_num, HN.out, HB1.out.trans (hb5.mono HB1.out.size)⟩
                case measure => simp [intOf]; omega
          · have hbd : decide (0 < bu) = false := decide_eq_false hbu
            have hps : ptShort X j ⟨nm, bu, pe, sc, st, pa, pn, pc, h0, h1, h2, h3, h4⟩ = (decide (0 < bu) && decide (budL X (j : Int) pe < bu)) := rfl
            rw [hbd, Bool.false_and] at hps
            have HN : Hid (shortF X 0 (P.take (j + 1)) = false) := Lib.hid (by rw [HSM.out, HSH.out, hps]; rfl)
            clear hps
            go_quiet (fail)
            go_wp2_with fail
            go_roundw
            case rel => exact ⟨j + 1, by omega, by go_num, HN.out, Below.drewN HB1.out nq⟩
            case measure => simp [intOf]; omega
        · have hge : n1 ≤ j := by omega
          have hres : R = 0 := by
            rw [HR.out]
            refine holdsF_ok HALL.out ?_
            have h := HSH.out
            rw [List.take_of_length_le (by rw [HPL.out]; exact hge)] at h
            exact h
          subst hres
          go_wp2_with fail
          go_ret
          exact Ans.mk rfl (hb0.trans (hb.mono hb0.size))
end Go.Proofs.Ytoaocdmcjjohgaa

/- A square in which each has itself alone; whether a matrix is square; where a row is true; is it a partition. -/
namespace Go.Proofs.Ytoaocdmcjjohgaa
open Go.RowKit Tab
set_option linter.unusedSimpArgs false
set_option linter.unusedVariables false

set_option maxRecDepth 100000 in
set_option maxHeartbeats 1600000 in
theorem rsquare_any (n : Nat) (w : World) (hn : n ≤ 1024) : Calls Try.prog 36 #[.int .i64 (n : Int)] w (MadG n (fun i j => decide (i = j)) w) := by
  have hmk := run_makeBB n (by omega)
  have hmb := run_makeB n (by omega)
  obtain ⟨B, hB⟩ : ∃ B, B = w.heap.size := ⟨_, rfl⟩
  have hb0 : Below B w (w.alloc (.cells (madeCells #[.slice none 0 0] n) 58)) := by rw [hB]; exact bl1 w _
  have hM0 := Mat.start w B n (by omega) 58 (fun i j => decide (i = j)) (fun _ => 0)
  have HB := Lib.hid hB
  clear hB
  go_enter Try.func36, Try.ntmps36
  go_wp2_with fail
  generalize w.alloc (.cells (madeCells #[.slice none 0 0] n) 58) = W0 at hb0 hM0 ⊢
  generalize w.heap.size = g at hM0 ⊢
  clear hmk
  go_loopw [4, 9] (fun _ s wr => ∃ (i : Nat) (G : Nat → Nat), i ≤ n ∧ s = .int .i64 i ∧ Mat wr B g n i G (fun i j => decide (i = j)) ∧ Below B w wr) (fun _ s _ => n - (intOf s).toNat)
  case atStart => exact ⟨0, _, by omega, rfl, hM0, hb0⟩
  case round =>
    obtain ⟨i, G, hi, rfl, hM, hb⟩ := hrel
    by_cases hlt : i < n
    · have hbl := bl1 wr (.cells (madeCells #[.bool false] n) 4)
      have hM1 := hM.on hbl
      have hV : Vec (wr.alloc (.cells (madeCells #[.bool false] n) 4)) wr.heap.size n fun _ => .bool false := Vec.lit wr _ _ n _ fun j hj => made_get _ n j hj
      have hgl : g < wr.heap.size := by
        obtain ⟨f, h1, _⟩ := hM.outer
        exact h1.lt
      have hBg := hM.low
      have hb1 := hb.trans (hbl.mono (by omega))
      have hxG : ∀ j, j < i → G j ≠ wr.heap.size := fun j hj => by
        have := (hM.rows j hj).lt
        omega
      obtain ⟨f, hf, _⟩ := hM1.outer
      have d0 := hf.cell i hlt
      have d1 := hf.thaw i
      have hM2 := hM1.push hV (by omega) (by omega) hxG hlt
      have hb2 := hb1.setCell (p := ⟨g, i, none⟩) hBg (.slice (some ⟨wr.heap.size, 0, none⟩) n n)
      obtain ⟨x, hx, _, _, _, _, k0, k1, k2, hst⟩ := hM2.at_ (i := i) (j := i) (by omega) (by omega) hlt
      rw [put1_same] at hx
      subst hx
      have HS := Lib.hid (hst true)
      have HB2 := Lib.hid hb2
      clear hM hM1 hV hb1 hb2 hM2 hst hf hbl hgl hxG hBg
      go_wp2_with fail
      obtain ⟨hM3, hb3⟩ := HS.out
      go_roundw
      case rel => exact ⟨i + 1, _, by omega, by go_num, hM3.congr (fun a b ha hb => by
        unfold put2
        by_cases e : a = i
        · subst e
          by_cases e2 : b = a
          · subst e2; simp
          · simp [e2]; exact fun e => e2 e.symm
        · simp [e]), hb3 _ HB2.out⟩
      case measure => simp [intOf]; omega
    · have hge : n ≤ i := by omega
      obtain rfl : i = n := by omega
      go_wp2_with fail
      go_ret
      exact ⟨g, G, rfl, by rw [← HB.out]; exact hM, by rw [← HB.out]; exact hb⟩
/-- Is each row as long as there are rows? -/
def sqB (n : Nat) (l : Nat → Nat) : Bool := (List.range n).all fun i => decide (l i = n)
theorem sqB_iff {n : Nat} {l : Nat → Nat} : sqB n l = true ↔ ∀ i, i < n → l i = n := by simp [sqB]
/-- It answers a row of numbers of its own. -/
def MadN (l : List Nat) (w : World) (e : Ending) (w' : World) : Prop := ∃ A c, e = .returned (.slice A l.length c) ∧ OwnV 3 1 w' w.heap.size A l.length c (is (l.map fun x : Nat => (x : Int))) ∧ Below w.heap.size w w'
set_option maxHeartbeats 400000 in
theorem has_any (A1 A2 A3 : Option Addr) (n1 n2 n3 c1 c2 c3 : Nat) (p : Int) (w : World) : Calls Try.prog 73 #[.agg #[.slice A1 n1 c1, .slice A2 n2 c2, .slice A3 n3 c3], .int .i64 p] w (Ans (.bool (inP n1 p)) w) := by
  go_enter Try.func73, Try.ntmps73
  go_wp2
  all_goals
    go_ret
    refine Ans.mk (congrArg Value.bool ?_) (bl1 _ _)
    rw [Bool.eq_iff_iff, inP_iff]
    simp only [decide_eq_true_eq, Bool.false_eq_true, iff_false] at *
    omega
set_option maxHeartbeats 400000 in
theorem in_any (A1 A2 A3 : Option Addr) (n1 n2 n3 c1 c2 c3 : Nat) (p : Int) (w : World) : Calls Try.prog 37 #[.agg #[.slice A1 n1 c1, .slice A2 n2 c2, .slice A3 n3 c3], .int .i64 p] w (Ans (.bool (inP n1 p)) w) := by
  go_enter Try.func37, Try.ntmps37
  go_wp2
  all_goals
    go_ret
    refine Ans.mk (congrArg Value.bool ?_) (bl1 _ _)
    rw [Bool.eq_iff_iff, inP_iff]
    simp only [decide_eq_true_eq, Bool.false_eq_true, iff_false] at *
    omega
end Go.Proofs.Ytoaocdmcjjohgaa

/- A search from a few on: all to whom steps lead. -/
namespace Go.Proofs.Ytoaocdmcjjohgaa
open Go.RowKit Tab
set_option linter.unusedSimpArgs false
set_option linter.unusedVariables false

/-- A slice of numbers that is to be gone through. -/
structure Sl where
  a : Option Addr
  c : Nat
  l : List Nat
def Sl.v (s : Sl) : Value := .slice s.a s.l.length s.c
def SlOk (w : World) (B : Nat) (s : Sl) : Prop := s.l.length ≤ s.c ∧ s.l.length ≤ 1048576 ∧ RdI w B s.a s.l.length (s.l.map fun x : Nat => (x : Int))
theorem slv_one (T : List Sl) : ∀ u ∈ T.map Sl.v, u.oneCell' = true := by
  intro u hu
  obtain ⟨s, _, rfl⟩ := List.mem_map.1 hu
  rfl
/-- What is not marked, by the cells. -/
def unw (w : World) (h n : Nat) : Nat := un n fun j => match w.cell? ⟨h, j, none⟩ with | some (.bool b) => b | _ => false
theorem Vec.unw {w : World} {h n : Nat} {M : Nat → Bool} (hv : Vec w h n fun j => .bool (M j)) : unw w h n = un n M := by
  unfold Go.Proofs.Ytoaocdmcjjohgaa.unw
  exact un_congr fun j hj => by rw [hv.cell j hj]
theorem OwnV.keep' {E s B n c : Nat} {w w' : World} {A : Option Addr} {l : List Value} (h : OwnV E s w B A n c l) (hk : ∀ g, obk A = some g → w'.heap[g]? = w.heap[g]?) : OwnV E s w' B A n c l := by
  refine ⟨h.1, ?_⟩
  rcases h.2 with hv | ⟨g, cap, cur, hv, hbg, hg, r⟩
  · exact .inl hv
  · exact .inr ⟨g, cap, cur, hv, hbg, by rw [hk g (by injection hv with h1; rw [h1]; rfl)]; exact hg, r⟩
theorem drop_at {L : List Nat} {i : Nat} (h : i < L.length) : L.drop i = L[i] :: L.drop (i + 1) := List.drop_eq_getElem_cons h
theorem un_le (n : Nat) (M : Nat → Bool) : un n M ≤ n := by
  induction n with
  | zero => exact Nat.le_refl _
  | succ n ih => simp only [un]; split <;> omega
/-- What is led to. -/
def LedP (n : Nat) (S : Nat → List Nat) (F : List Nat) (w : World) (e : Ending) (w' : World) : Prop :=
  ∃ (h : Nat) (M : Nat → Bool), e = .returned (.slice (some ⟨h, 0, none⟩) n n) ∧ Vec w' h n (fun j => .bool (M j)) ∧ w.heap.size ≤ h ∧ Below w.heap.size w w' ∧ ∀ a, M a = true ↔ Rch S F a
end Go.Proofs.Ytoaocdmcjjohgaa

/- Closing a matrix by searches. -/
namespace Go.Proofs.Ytoaocdmcjjohgaa
open Go.RowKit Tab
set_option linter.unusedSimpArgs false
set_option linter.unusedVariables false

theorem OwnV.obk_ge {E s B n c b : Nat} {w : World} {A : Option Addr} {l : List Value} (h : OwnV E s w B A n c l) (hA : obk A = some b) : B ≤ b ∧ b < w.heap.size := by
  rcases h.2 with ⟨hv, _⟩ | ⟨g, cap, cur, hv, hbg, hg, _⟩
  · injection hv with h1
    subst h1
    cases hA
  · injection hv with h1
    subst h1
    injection hA with hA
    have hA : g = b := hA
    subst hA
    exact ⟨hbg, (Array.getElem?_eq_some_iff.1 hg).1⟩
def cast (l : List Nat) : List Int := l.map fun x : Nat => (x : Int)
/-- Rows of numbers of a call's own in a row of its own: k of them are laid. -/
structure Stp (w : World) (B g n k : Nat) (R : Nat → Option Addr × Nat) (S : Nat → List Nat) : Prop where
  outer : ∃ f, Vec w g n f ∧ ∀ i, i < k → f i = .slice (R i).1 (S i).length (R i).2
  rows : ∀ i, i < k → OwnV 3 1 w B (R i).1 (S i).length (R i).2 (is (cast (S i)))
  low : B ≤ g
  ne : ∀ i, i < k → obk (R i).1 ≠ some g
  inj : ∀ i j b, i < k → j < k → i ≠ j → obk (R i).1 = some b → obk (R j).1 ≠ some b
section
variable {w w' : World} {g n k B : Nat} {R : Nat → Option Addr × Nat} {S : Nat → List Nat}
theorem Stp.on (h : Stp w B g n k R S) (hb : Below w.heap.size w w') : Stp w' B g n k R S := by
  obtain ⟨f, h1, h2⟩ := h.outer
  exact ⟨⟨f, h1.on hb, h2⟩, fun i hi => (h.rows i hi).below rfl hb, h.low, h.ne, h.inj⟩
theorem Stp.push (h : Stp w B g n k R S) {A : Option Addr} {c : Nat} {l : List Nat} (hx : OwnV 3 1 w B A l.length c (is (cast l))) (hg : obk A ≠ some g) (hA : ∀ i b, i < k → obk (R i).1 = some b → obk A ≠ some b) (hk : k < n) :
    Stp (w.setCell ⟨g, k, none⟩ (.slice A l.length c)) B g n (k + 1) (put1 R k (A, c)) (put1 S k l) := by
  obtain ⟨f, h1, h2⟩ := h.outer
  have hlt : ∀ i, i < k + 1 → i ≠ k → i < k := fun i _ _ => by omega
  have hset : ∀ A n c l, OwnV 3 1 w B A n c l → obk A ≠ some g → ∀ v, OwnV 3 1 (w.setCell ⟨g, k, none⟩ v) B A n c l := fun A n c l ho hne v =>
    ho.keep' fun b hb => Below.heap_setCell _ _ _ _ fun e => hne (by rw [hb]; exact congrArg some e)
  refine ⟨⟨_, h1.set k _, fun i hi => ?_⟩, fun i hi => ?_, h.low, fun i hi => ?_, fun i j b hi hj hij e => ?_⟩
  · by_cases e : i = k
    · subst e; rw [put1_same, put1_same, put1_same]
    · rw [put1_other e, put1_other e, put1_other e]; exact h2 i (hlt i hi e)
  · by_cases e : i = k
    · subst e; rw [put1_same, put1_same]; exact hset _ _ _ _ hx hg _
    · rw [put1_other e, put1_other e]; exact hset _ _ _ _ (h.rows i (hlt i hi e)) (h.ne i (hlt i hi e)) _
  · by_cases e : i = k
    · subst e; rw [put1_same]; exact hg
    · rw [put1_other e]; exact h.ne i (hlt i hi e)
  · by_cases e1 : i = k
    · subst e1
      have e2 : j ≠ i := fun e => hij e.symm
      rw [put1_same] at e
      rw [put1_other e2]
      exact fun e3 => hA j b (hlt j hj e2) e3 e
    · rw [put1_other e1] at e
      by_cases e2 : j = k
      · subst e2; rw [put1_same]; exact hA i b (hlt i hi e1) e
      · rw [put1_other e2]; exact h.inj i j b (hlt i hi e1) (hlt j hj e2) hij e
theorem Stp.rds (h : Stp w B g n n R S) : RdS w w.heap.size (some ⟨g, 0, none⟩) n S := by
  obtain ⟨f, h1, h2⟩ := h.outer
  exact ⟨R, (h1.congr h2).rdc, fun i hi => ⟨(h.rows i hi).cap, ⟨by simp, (h.rows i hi).rd⟩⟩⟩
theorem RdS.congr {A : Option Addr} {T : Nat → List Nat} (h : RdS w B A n S) (e : ∀ i, i < n → S i = T i) : RdS w B A n T := by
  obtain ⟨R, h1, h2⟩ := h
  exact ⟨R, h1.congr fun i hi => by rw [e i hi], fun i hi => by rw [← e i hi]; exact h2 i hi⟩
end
theorem add_one'' (g k : Nat) : (⟨g, 0, none⟩ : Addr).add k = ⟨g, k, none⟩ := by
  unfold Addr.add
  split
  · rename_i h
    rw [h]
  · simp
theorem Mat.weak {w : World} {B B' g n k : Nat} {G : Nat → Nat} {m : Nat → Nat → Bool} (h : Mat w B g n k G m) (hB : B' ≤ B) : Mat w B' g n k G m :=
  ⟨h.outer, h.rows, Nat.le_trans hB h.low, fun i hi => Nat.le_trans hB (h.ge i hi), h.ne, h.inj⟩
end Go.Proofs.Ytoaocdmcjjohgaa

/- The ways between partitions; those that sway all; do two depend. -/
namespace Go.Proofs.Ytoaocdmcjjohgaa
open Go.RowKit Tab
set_option linter.unusedSimpArgs false
set_option linter.unusedVariables false

def ptOf (x : PtV) : Pt := ⟨x.sched, x.stop⟩
def chOf (x : ChV) : Ch := ⟨x.from_, x.to_, x.queue⟩
theorem RdB.below {α : Type} {f : α → List Value} {w w' : World} {B n : Nat} {A : Option Addr} {l : List α} (h : RdB f w B A n l) (hb : Below B w w') : RdB f w' B A n l := ⟨h.len, h.rd.below hb⟩
theorem RdB.more {α : Type} {f : α → List Value} {w : World} {B B' n : Nat} {A : Option Addr} {l : List α} (h : RdB f w B A n l) (hB : B ≤ B') : RdB f w B' A n l := ⟨h.len, h.rd.more hB⟩
/-- A configuration's partitions and channels in memory. -/
structure CfW (w : World) (B : Nat) (A1 A2 : Option Addr) (n1 n2 : Nat) (P : List PtV) (C : List ChV) : Prop where
  p : RdB pcl w B A1 n1 P
  c : RdB cc w B A2 n2 C
section
variable {w w' : World} {B B' n1 n2 : Nat} {A1 A2 : Option Addr} {P : List PtV} {C : List ChV}
theorem CfW.below (h : CfW w B A1 A2 n1 n2 P C) (hb : Below B w w') : CfW w' B A1 A2 n1 n2 P C := ⟨h.p.below hb, h.c.below hb⟩
theorem CfW.more (h : CfW w B A1 A2 n1 n2 P C) (hB : B ≤ B') : CfW w B' A1 A2 n1 n2 P C := ⟨h.p.more hB, h.c.more hB⟩
theorem CfW.on (h : CfW w w.heap.size A1 A2 n1 n2 P C) (hb : Below w.heap.size w w') : CfW w' w'.heap.size A1 A2 n1 n2 P C := (h.below hb).more hb.size
end
theorem schedOf_at {P : List PtV} {a : Nat} {x : PtV} (h : P[a]? = some x) : schedOf (P.map ptOf) a = x.sched := by
  unfold schedOf; rw [List.getElem?_map, h]; rfl
theorem stopOf_at {P : List PtV} {a : Nat} {x : PtV} (h : P[a]? = some x) : stopOf (P.map ptOf) a = x.stop := by
  unfold stopOf; rw [List.getElem?_map, h]; rfl
theorem wayL_more {n : Nat} {C : List ChV} {i : Nat} {x : ChV} (h : C[i]? = some x) : wayL n ((C.take (i + 1)).map chOf) = wayL n ((C.take i).map chOf) ++ wayOf n (chOf x) := by
  obtain ⟨hi, e⟩ := List.getElem?_eq_some_iff.1 h
  rw [List.take_succ_eq_append_getElem hi, e, List.map_append]
  unfold wayL
  rw [List.flatMap_append]
  simp
def wcl (x : Nat × Nat) : List Value := [.int .i64 (x.1 : Int), .int .i64 (x.2 : Int)]
theorem wcl_len (x : Nat × Nat) : (wcl x).length = 2 := rfl
theorem wcl_one (l : List (Nat × Nat)) : ∀ u ∈ l.flatMap wcl, u.oneCell' = true := by
  intro u hu
  obtain ⟨x, _, hx⟩ := List.mem_flatMap.1 hu
  simp [wcl] at hx
  rcases hx with rfl | rfl <;> rfl
theorem wayOf_len (n : Nat) (x : Ch) : (wayOf n x).length ≤ 2 := by
  unfold wayOf
  split
  · split <;> simp
  · simp
theorem wayL_len (n : Nat) (C : List Ch) : (wayL n C).length ≤ 2 * C.length := by
  induction C with
  | nil => simp [wayL]
  | cons x C ih =>
    have := wayOf_len n x
    unfold wayL at ih ⊢
    rw [List.flatMap_cons, List.length_append, List.length_cons]
    omega
/-- It answers a row of ways, new. -/
def MadW (L : List (Nat × Nat)) (w : World) (e : Ending) (w' : World) : Prop := ∃ A c, e = .returned (.slice A L.length c) ∧ RdB wcl w' w'.heap.size A L.length L ∧ L.length ≤ c ∧ Below w.heap.size w w' ∧ ∀ b, obk A = some b → w.heap.size ≤ b
end Go.Proofs.Ytoaocdmcjjohgaa

/- Those that sway all; do two depend; may two be turned about. -/
namespace Go.Proofs.Ytoaocdmcjjohgaa
open Go.RowKit Tab
set_option linter.unusedSimpArgs false
set_option linter.unusedVariables false

/-- Does a channel join a and b, either way? -/
def hitB (x : ChV) (a b : Nat) : Bool := decide ((x.from_ = (a : Int) ∧ x.to_ = (b : Int)) ∨ (x.from_ = (b : Int) ∧ x.to_ = (a : Int)))
set_option maxRecDepth 100000 in
set_option maxHeartbeats 1000000 in
theorem depend_any (A1 A2 A3 : Option Addr) (n1 n2 n3 c1 c2 c3 : Nat) (P : List PtV) (C : List ChV) (a b : Nat) (w : World) (h : CfW w w.heap.size A1 A2 n1 n2 P C) (q1 : n1 ≤ 1048576) (q2 : n2 ≤ 1048576) (ha : a < n1) (hb : b < n1) :
    Calls Try.prog 74 #[.agg #[.slice A1 n1 c1, .slice A2 n2 c2, .slice A3 n3 c3], .int .i64 (a : Int), .int .i64 (b : Int)] w (Ans (.bool (depF (P.map ptOf) (C.map chOf) a b)) w) := by
  have hlen : P.length = n1 := h.p.len
  obtain ⟨v, hv⟩ : ∃ v, v = depF (P.map ptOf) (C.map chOf) a b := ⟨_, rfl⟩
  rw [← hv]
  have HV := Lib.hid hv
  have HLEN := Lib.hid hlen
  have hbw := bl1 w (.cells #[.slice A1 n1 c1, .slice A2 n2 c2, .slice A3 n3 c3] 31)
  have hP := h.p.on hbw
  have hC := h.c.on hbw
  have m0 : (w.alloc (.cells #[.slice A1 n1 c1, .slice A2 n2 c2, .slice A3 n3 c3] 31)).cell? ⟨w.heap.size, 0, none⟩ = some (.slice A1 n1 c1) := World.cell?_alloc_mark _ _ _ _ _
  have m1 : (w.alloc (.cells #[.slice A1 n1 c1, .slice A2 n2 c2, .slice A3 n3 c3] 31)).cell? ⟨w.heap.size, 1, none⟩ = some (.slice A2 n2 c2) := World.cell?_alloc_mark _ _ _ _ _
  obtain ⟨ad, x, rfl, hax, hx, _, ckx⟩ := hP.at_ pcl_len (by omega) ha
  obtain ⟨ad', y, e, _, hy, _, cky⟩ := hP.at_ pcl_len (by omega) hb
  injection e with e
  subst e
  have d3 := ckx 3 _ (by omega) rfl
  have e3 := cky 3 _ (by omega) rfl
  have hsx := schedOf_at hx
  have hsy := schedOf_at hy
  obtain ⟨nm, bu, pe, sc, st, pa, pn, pc, h0, h1, h2, h3, h4⟩ := x
  obtain ⟨nm', bu', pe', sc', st', pa', pn', pc', h0', h1', h2', h3', h4'⟩ := y
  dsimp only at d3 e3 hsx hsy
  have HSX := Lib.hid hsx
  have HSY := Lib.hid hsy
  have HB0 := Lib.hid hbw
  clear h hv hlen hbw ckx cky hx hy hsx hsy hP
  go_enter Try.func74, Try.ntmps74
  by_cases hab : a = b
  · subst hab
    have HVT : v = true := by rw [HV.out]; exact depF_self _ _ _
    subst HVT
    have heq : ((a : Int) == (a : Int)) = true := by simp
    clear hC
    go_wp2_with fail
    go_ret
    exact ⟨rfl, HB0.out⟩
  · have heq : ((a : Int) == (b : Int)) = false := by simp; omega
    by_cases hss : sc = true ∧ sc' = true
    · obtain ⟨rfl, rfl⟩ := hss
      have HVT : v = true := by rw [HV.out, depF_iff]; exact .inr (.inl ⟨HSX.out, HSY.out⟩)
      subst HVT
      clear hC
      go_wp2_with fail
      go_ret
      exact ⟨rfl, HB0.out⟩
    · have HNS := Lib.hid hss
      have HAB := Lib.hid hab
      go_upto_region 1 with fail
      go_cut [27] from 9 to 28 (fun c wx => c = .bool false ∧ wx = w.alloc (.cells #[.slice (some ad) n1 c1, .slice A2 n2 c2, .slice A3 n3 c3] 31))
      case first =>
        cases sc with
        | false =>
          go_wp2_with fail
          go_meet
          case rel => exact ⟨rfl, rfl⟩
        | true =>
          cases sc' with
          | false =>
            go_wp2_with fail
            go_meet
            case rel => exact ⟨rfl, rfl⟩
          | true => exact absurd ⟨rfl, rfl⟩ HNS.out
      case rest =>
        obtain ⟨rfl, rfl⟩ := hcut
        generalize w.alloc (.cells #[.slice (some ad) n1 c1, .slice A2 n2 c2, .slice A3 n3 c3] 31) = W at HB0 hC m0 m1 d3 e3 ⊢
        clear hss hab heq d3 e3
        go_wp2_with fail
        go_loopw [8, 31] (fun _ s wr => ∃ i : Nat, i ≤ n2 ∧ s = .int .i64 i ∧ Below W.heap.size W wr ∧ ∀ j x, j < i → C[j]? = some x → hitB x a b = false) (fun _ s _ => n2 - (intOf s).toNat)
        case atStart => exact ⟨0, by omega, rfl, Below.refl _ _, fun j x hj => by omega⟩
        case round =>
          obtain ⟨i, hi, rfl, hb, hno⟩ := hrel
          have HNO := Lib.hid hno
          clear hno
          by_cases hlt : i < n2
          · obtain ⟨ad2, x, rfl, had, hx, c0, ck⟩ := (hC.on hb).at_ cc_len (by omega) hlt
            have d0 := c0 _ rfl
            have d1 := ck 1 _ (by omega) rfl
            have d2 := ck 2 _ (by omega) rfl
            have d3 := ck 3 _ (by omega) rfl
            have d4 := ck 4 _ (by omega) rfl
            have d5 := ck 5 _ (by omega) rfl
            obtain ⟨xf, xt, xq, xc, xm, xl⟩ := x
            dsimp only at d0 d1 d2 d3 d4 d5
            have hbx := bl1 wr (.cells #[.int .i64 xf, .int .i64 xt, .bool xq, .int .i64 xc, .int .u32 xm, .int .i64 xl] 70)
            have hb1 := hb.trans (hbx.mono hb.size)
            have f0 : (wr.alloc (.cells #[.int .i64 xf, .int .i64 xt, .bool xq, .int .i64 xc, .int .u32 xm, .int .i64 xl] 70)).cell? ⟨wr.heap.size, 0, none⟩ = some (.int .i64 xf) := World.cell?_alloc_mark _ _ _ _ _
            have f1 : (wr.alloc (.cells #[.int .i64 xf, .int .i64 xt, .bool xq, .int .i64 xc, .int .u32 xm, .int .i64 xl] 70)).cell? ⟨wr.heap.size, 1, none⟩ = some (.int .i64 xt) := World.cell?_alloc_mark _ _ _ _ _
            have HX := Lib.hid hx
            obtain ⟨q, hq⟩ : ∃ q, q = hitB ⟨xf, xt, xq, xc, xm, xl⟩ a b := ⟨_, rfl⟩
            have HQ := Lib.hid hq
            clear c0 ck hx hbx hb hq
            go_upto_region 6 with fail
            generalize wr.alloc (.cells #[.int .i64 xf, .int .i64 xt, .bool xq, .int .i64 xc, .int .u32 xm, .int .i64 xl] 70) = W1 at hb1 f0 f1 ⊢
            generalize wr.heap.size = gx at f0 f1 ⊢
            clear d0 d1 d2 d3 d4 d5
            go_cut [56] from 35 to 57 (fun c wx => c = .bool q ∧ wx = W1)
            case first =>
              have HQ2 := HQ.out
              unfold hitB at HQ2
              dsimp only at HQ2
              have HQ3 := Lib.hid HQ2
              clear HQ2
              by_cases k1 : xf = (a : Int)
              · by_cases k2 : xt = (b : Int)
                · have t1 : (xf == (a : Int)) = true := by simp [k1]
                  have t2 : (xt == (b : Int)) = true := by simp [k2]
                  have hqt : q = true := by rw [HQ3.out]; simp [k1, k2]
                  subst hqt
                  clear k1 k2
                  go_wp2_with fail
                  go_meet
                  case rel => exact ⟨rfl, rfl⟩
                · have t1 : (xf == (a : Int)) = true := by simp [k1]
                  have t2 : (xt == (b : Int)) = false := by simp [k2]
                  have k3 : ¬ xf = (b : Int) := by have := HAB.out; omega
                  have t3 : (xf == (b : Int)) = false := by simp [k3]
                  have hqt : q = false := by rw [HQ3.out]; simp [k2, k3]
                  subst hqt
                  clear k1 k2 k3
                  go_wp2_with fail
                  go_meet
                  case rel => exact ⟨rfl, rfl⟩
              · have t1 : (xf == (a : Int)) = false := by simp [k1]
                by_cases k3 : xf = (b : Int)
                · have t3 : (xf == (b : Int)) = true := by simp [k3]
                  by_cases k4 : xt = (a : Int)
                  · have t4 : (xt == (a : Int)) = true := by simp [k4]
                    have hqt : q = true := by rw [HQ3.out]; simp [k3, k4]
                    subst hqt
                    clear k1 k3 k4
                    go_wp2_with fail
                    go_meet
                    case rel => exact ⟨rfl, rfl⟩
                  · have t4 : (xt == (a : Int)) = false := by simp [k4]
                    have hqt : q = false := by rw [HQ3.out]; simp [k1, k4]
                    subst hqt
                    clear k1 k3 k4
                    go_wp2_with fail
                    go_meet
                    case rel => exact ⟨rfl, rfl⟩
                · have t3 : (xf == (b : Int)) = false := by simp [k3]
                  have hqt : q = false := by rw [HQ3.out]; simp [k1, k3]
                  subst hqt
                  clear k1 k3
                  go_wp2_with fail
                  go_meet
                  case rel => exact ⟨rfl, rfl⟩
            case rest =>
              obtain ⟨rfl, rfl⟩ := hcut
              have HB1 := Lib.hid hb1
              clear f0 f1 hb1
              cases q with
              | true =>
                have HVT : v = true := by
                  rw [HV.out]
                  unfold depF
                  simp only [Bool.or_eq_true, List.any_eq_true]
                  have hh := HQ.out
                  unfold hitB at hh
                  simp only [Bool.true_eq, decide_eq_true_eq] at hh
                  refine .inr ⟨chOf ⟨xf, xt, xq, xc, xm, xl⟩, List.mem_map.2 ⟨_, List.mem_of_getElem? HX.out, rfl⟩, hh.imp (fun e => ?_) (fun e => ?_)⟩
                  all_goals
                    rw [joins_iff, inP_iff, inP_iff, List.length_map, HLEN.out]
                    simp only [chOf]
                    omega
                subst HVT
                go_wp2_with fail
                go_ret
                exact ⟨rfl, HB0.out.trans (HB1.out.mono HB0.out.size)⟩
              | false =>
                go_wp2_with fail
                go_roundw
                case rel => exact ⟨i + 1, by omega, by go_num, HB1.out, fun j y hj hy => by
                  by_cases e : j = i
                  · subst e
                    rw [HX.out] at hy
                    injection hy with hy
                    subst hy
                    exact HQ.out.symm
                  · exact HNO.out j y (by omega) hy⟩
                case measure => simp [intOf]; omega
          · have hge : n2 ≤ i := by omega
            have HVF : v = false := by
              rw [HV.out, Bool.eq_false_iff]
              intro e
              have hjn : ∀ x y, (∀ z ∈ C, ¬ ((z.from_ = (x : Nat) ∧ z.to_ = (y : Nat)) ∨ (z.from_ = (y : Nat) ∧ z.to_ = (x : Nat)))) → (x, y) ∉ wayL (P.map ptOf).length (C.map chOf) := fun x y hz hm => by
                rw [mem_wayL, List.any_eq_true] at hm
                obtain ⟨u, hu, hm⟩ := hm
                obtain ⟨z, hzC, rfl⟩ := List.mem_map.1 hu
                rw [Bool.or_eq_true, Bool.and_eq_true, joins_iff, joins_iff] at hm
                simp only [chOf] at hm
                exact hz z hzC (by rcases hm with hm | hm; exact .inl hm.2; exact .inr hm.2.2)
              have hall : ∀ z ∈ C, ¬ ((z.from_ = (a : Int) ∧ z.to_ = (b : Int)) ∨ (z.from_ = (b : Int) ∧ z.to_ = (a : Int))) := fun z hz hh => by
                obtain ⟨j, hj, e⟩ := List.getElem_of_mem hz
                have := HNO.out j z (by have := hC.len; omega) (by rw [List.getElem?_eq_getElem hj, e])
                unfold hitB at this
                simp only [decide_eq_false_iff_not] at this
                exact this hh
              rw [depF_iff] at e
              rcases e with e | e | e | e
              · exact HAB.out e
              · rw [HSX.out, HSY.out] at e
                exact HNS.out e
              · exact hjn a b hall e
              · exact hjn b a (fun z hz hh => hall z hz hh.symm) e
            subst HVF
            go_wp2_with fail
            go_ret
            exact ⟨rfl, HB0.out.trans (hb.mono HB0.out.size)⟩
end Go.Proofs.Ytoaocdmcjjohgaa

/- Who depends on whom, as a matrix, by the program. -/
namespace Go.Proofs.Ytoaocdmcjjohgaa
open Go.RowKit Tab
set_option linter.unusedSimpArgs false
set_option linter.unusedVariables false

/-- A store into another block leaves a row. -/
theorem RdB.other {α : Type} {f : α → List Value} {w : World} {n B : Nat} {A : Option Addr} {l : List α} (h : RdB f w B A n l) (p : Addr) (v : Value) (hp : ∀ b, obk A = some b → b ≠ p.block) : RdB f (w.setCell p v) B A n l := by
  refine ⟨h.len, fun hl => ?_⟩
  obtain ⟨ad, e, hb, hc⟩ := h.rd hl
  refine ⟨ad, e, hb, fun j u hj => ?_⟩
  rw [World.cell?_of_block (Below.heap_setCell w p v (ad.add j).block (by rw [add_block]; exact hp _ (by rw [e]; rfl)))]
  exact hc j u hj
theorem RdB.on' {α : Type} {f : α → List Value} {w w' : World} {n : Nat} {A : Option Addr} {l : List α} (h : RdB f w w.heap.size A n l) (hb : Below w.heap.size w w') : RdB f w' w'.heap.size A n l := (h.below hb).more hb.size
def mA (W : List (Nat × Nat)) (a b : Nat) : Bool := decide (a = b) || decide ((a, b) ∈ W) || decide ((b, a) ∈ W)
def mS (W : List (Nat × Nat)) (a b : Nat) : Bool := decide (a = b) || decide ((a, b) ∈ W)
theorem take_one {α : Type} {L : List α} {i : Nat} {x : α} (h : L[i]? = some x) : L.take (i + 1) = L.take i ++ [x] := by
  obtain ⟨hi, e⟩ := List.getElem?_eq_some_iff.1 h
  rw [List.take_succ_eq_append_getElem hi, e]
theorem mA_more {W : List (Nat × Nat)} {i : Nat} {f t : Nat} (h : W[i]? = some (f, t)) (a b : Nat) : put2 (put2 (mA (W.take i)) f t true) t f true a b = mA (W.take (i + 1)) a b := by
  rw [take_one h]
  unfold put2 mA
  simp only [List.mem_append, List.mem_singleton, Prod.mk.injEq]
  by_cases h1 : a = t ∧ b = f
  · rw [if_pos h1]; simp [h1.1, h1.2]
  · rw [if_neg h1]
    by_cases h2 : a = f ∧ b = t
    · rw [if_pos h2]; simp [h2.1, h2.2]
    · rw [if_neg h2]
      have h3 : ¬ (b = f ∧ a = t) := fun e => h1 ⟨e.2, e.1⟩
      simp [h2, h3]
theorem mS_more {W : List (Nat × Nat)} {i : Nat} {f t : Nat} (h : W[i]? = some (f, t)) (a b : Nat) : put2 (mS (W.take i)) f t true a b = mS (W.take (i + 1)) a b := by
  rw [take_one h]
  unfold put2 mS
  simp only [List.mem_append, List.mem_singleton, Prod.mk.injEq]
  by_cases h2 : a = f ∧ b = t
  · rw [if_pos h2]; simp [h2.1, h2.2]
  · rw [if_neg h2]
    simp [h2]
/-- Rows ahead of i, and of row i the places ahead of j, have q besides. -/
def mQ (m q : Nat → Nat → Bool) (i j x y : Nat) : Bool := m x y || (q x y && (decide (x < i) || (decide (x = i) && decide (y < j))))
theorem mQ_zero (m q : Nat → Nat → Bool) (x y : Nat) : mQ m q 0 0 x y = m x y := by simp [mQ]
theorem mQ_put {m q : Nat → Nat → Bool} {i j : Nat} (h : q i j = true) (x y : Nat) : put2 (mQ m q i j) i j true x y = mQ m q i (j + 1) x y := by
  unfold put2 mQ
  by_cases h1 : x = i ∧ y = j
  · rw [if_pos h1, h1.1, h1.2, h]; simp
  · rw [if_neg h1]
    congr 2
    by_cases h2 : x = i
    · have h3 : y ≠ j := fun e => h1 ⟨h2, e⟩
      have h4 : (y < j) = (y < j + 1) := by simp; omega
      simp [h2, h4]
    · simp [h2]
theorem mQ_skip {m q : Nat → Nat → Bool} {i j : Nat} (h : q i j = false) (x y : Nat) : mQ m q i j x y = mQ m q i (j + 1) x y := by
  unfold mQ
  by_cases h1 : x = i ∧ y = j
  · rw [h1.1, h1.2, h]; simp
  · congr 2
    by_cases h2 : x = i
    · have h3 : y ≠ j := fun e => h1 ⟨h2, e⟩
      have h4 : (y < j) = (y < j + 1) := by simp; omega
      simp [h2, h4]
    · simp [h2]
theorem mQ_row {m q : Nat → Nat → Bool} {i n x y : Nat} (hy : y < n) : mQ m q i n x y = mQ m q (i + 1) 0 x y := by
  unfold mQ
  congr 2
  rw [Bool.eq_iff_iff]
  simp
  omega
theorem mQ_all {m q : Nat → Nat → Bool} {n x y : Nat} (hx : x < n) : mQ m q n 0 x y = (m x y || q x y) := by
  unfold mQ
  simp [hx]
def schQ (P : List PtV) (x y : Nat) : Bool := schedOf (P.map ptOf) x && schedOf (P.map ptOf) y
theorem depF_mQ {P : List PtV} {C : List ChV} {n a b : Nat} (hn : P.length = n) (ha : a < n) : mQ (mA (wayL n (C.map chOf))) (schQ P) n 0 a b = depF (P.map ptOf) (C.map chOf) a b := by
  rw [mQ_all ha, Bool.eq_iff_iff, depF_iff, List.length_map, hn]
  unfold mA schQ
  simp only [Bool.or_eq_true, Bool.and_eq_true, decide_eq_true_eq]
  constructor
  · rintro (((h | h) | h) | h)
    · exact .inl h
    · exact .inr (.inr (.inl h))
    · exact .inr (.inr (.inr h))
    · exact .inr (.inl h)
  · rintro (h | h | h | h)
    · exact .inl (.inl (.inl h))
    · exact .inr h
    · exact .inl (.inl (.inr h))
    · exact .inl (.inr h)
theorem RdB.way {w : World} {B n : Nat} {A : Option Addr} {L : List (Nat × Nat)} (h : RdB wcl w B A n L) {i : Nat} (hi : i < n) : ∃ (ad : Addr) (f t : Nat), A = some ad ∧ ad.block < B ∧ L[i]? = some (f, t) ∧ w.cell? (ad.add (i * 2)) = some (.int .i64 (f : Int)) ∧ w.cell? ⟨(ad.add (i * 2)).block, (ad.add (i * 2)).off + 1, none⟩ = some (.int .i64 (t : Int)) := by
  obtain ⟨ad, x, e, hb, hx, c0, ck⟩ := h.at_ wcl_len (by omega) hi
  obtain ⟨f, t⟩ := x
  exact ⟨ad, f, t, e, hb, hx, c0 _ rfl, ck 1 _ (by omega) rfl⟩
/-- A configuration in a box. -/
theorem box_vec (w : World) (v0 v1 v2 : Value) (t : TypeId) : Vec (w.alloc (.cells #[v0, v1, v2] t)) w.heap.size 3 fun j => if j = 0 then v0 else if j = 1 then v1 else v2 :=
  Vec.lit w _ _ 3 _ fun j hj => by rcases (by omega : j = 0 ∨ j = 1 ∨ j = 2) with rfl | rfl | rfl <;> rfl
theorem Vec.three {w : World} {g : Nat} {v0 v1 v2 : Value} (h : Vec w g 3 fun j => if j = 0 then v0 else if j = 1 then v1 else v2) : w.cell? ⟨g, 0, none⟩ = some v0 ∧ w.cell? ⟨g, 1, none⟩ = some v1 ∧ w.cell? ⟨g, 2, none⟩ = some v2 := by
  refine ⟨?_, ?_, ?_⟩
  · have := h.cell 0 (by omega); rwa [if_pos rfl] at this
  · have := h.cell 1 (by omega); rwa [if_neg (by omega), if_pos rfl] at this
  · have := h.cell 2 (by omega); rwa [if_neg (by omega), if_neg (by omega)] at this
end Go.Proofs.Ytoaocdmcjjohgaa

/- The document's own answer to who depends. -/
namespace Go.Proofs.Ytoaocdmcjjohgaa
open Go.RowKit Tab
set_option linter.unusedSimpArgs false
set_option linter.unusedVariables false

theorem mQ_or {m q : Nat → Nat → Bool} {i j : Nat} (x y : Nat) : put2 (mQ m q i j) i j (mQ m q i j i j || q i j) x y = mQ m q i (j + 1) x y := by
  cases h : q i j with
  | true => rw [Bool.or_true]; exact mQ_put h x y
  | false =>
    rw [Bool.or_false, ← mQ_skip h x y]
    unfold put2
    by_cases h1 : x = i ∧ y = j
    · rw [if_pos h1, h1.1, h1.2]
    · rw [if_neg h1]
/-- The channels so far, each way. -/
def dC (n : Nat) (C : List Ch) (a b : Nat) : Bool := C.any fun x => joins n x a b || joins n x b a
def sC (n : Nat) (C : List Ch) (a b : Nat) : Bool := C.any fun x => joins n x a b || (x.queue && joins n x b a)
theorem map_take_one {C : List ChV} {i : Nat} {x : ChV} (h : C[i]? = some x) : (C.take (i + 1)).map chOf = (C.take i).map chOf ++ [chOf x] := by
  obtain ⟨hi, e⟩ := List.getElem?_eq_some_iff.1 h
  rw [List.take_succ_eq_append_getElem hi, e, List.map_append]
  rfl
theorem joins_out {n : Nat} {x : Ch} (h : (inP n x.from_ && inP n x.to_) = false) (a b : Nat) : joins n x a b = false := by
  cases hj : joins n x a b with
  | false => rfl
  | true =>
    have := (joins_iff.1 hj).1
    rw [this.1, this.2] at h
    cases h
theorem joins_at {n : Nat} {x : Ch} {f t : Nat} (hf : x.from_ = (f : Int)) (ht : x.to_ = (t : Int)) (h1 : f < n) (h2 : t < n) (a b : Nat) : joins n x a b = decide (a = f ∧ b = t) := by
  rw [Bool.eq_iff_iff, joins_iff, inP_iff, inP_iff, hf, ht, decide_eq_true_iff]
  constructor
  · rintro ⟨_, e1, e2⟩; omega
  · rintro ⟨rfl, rfl⟩; exact ⟨⟨⟨by omega, by omega⟩, by omega, by omega⟩, rfl, rfl⟩
theorem dC_out {n : Nat} {C : List ChV} {i : Nat} {x : ChV} (hx : C[i]? = some x) (h : (inP n (chOf x).from_ && inP n (chOf x).to_) = false) (M : Nat → Nat → Bool) (a b : Nat) : (M a b || dC n ((C.take i).map chOf) a b) = (M a b || dC n ((C.take (i + 1)).map chOf) a b) := by
  rw [map_take_one hx]
  unfold dC
  rw [List.any_append, List.any_cons, List.any_nil, joins_out h, joins_out h]
  simp
theorem sC_out {n : Nat} {C : List ChV} {i : Nat} {x : ChV} (hx : C[i]? = some x) (h : (inP n (chOf x).from_ && inP n (chOf x).to_) = false) (M : Nat → Nat → Bool) (a b : Nat) : (M a b || sC n ((C.take i).map chOf) a b) = (M a b || sC n ((C.take (i + 1)).map chOf) a b) := by
  rw [map_take_one hx]
  unfold sC
  rw [List.any_append, List.any_cons, List.any_nil, joins_out h, joins_out h]
  simp
theorem dC_in {n : Nat} {C : List ChV} {i : Nat} {x : ChV} (hx : C[i]? = some x) {f t : Nat} (hf : (chOf x).from_ = (f : Int)) (ht : (chOf x).to_ = (t : Int)) (h1 : f < n) (h2 : t < n) (M : Nat → Nat → Bool) (a b : Nat) :
    put2 (put2 (fun a b => M a b || dC n ((C.take i).map chOf) a b) f t true) t f true a b = (M a b || dC n ((C.take (i + 1)).map chOf) a b) := by
  rw [map_take_one hx]
  unfold dC put2
  rw [List.any_append, List.any_cons, List.any_nil, joins_at hf ht h1 h2, joins_at hf ht h1 h2, Bool.or_false]
  by_cases e1 : a = t ∧ b = f
  · have e2 : decide (b = f ∧ a = t) = true := decide_eq_true ⟨e1.2, e1.1⟩
    rw [if_pos e1, e2]; simp
  · rw [if_neg e1]
    have e2 : decide (b = f ∧ a = t) = false := decide_eq_false fun e => e1 ⟨e.2, e.1⟩
    rw [e2]
    by_cases e3 : a = f ∧ b = t
    · rw [if_pos e3, decide_eq_true e3]; simp
    · rw [if_neg e3, decide_eq_false e3]; simp
theorem sC_in {n : Nat} {C : List ChV} {i : Nat} {x : ChV} (hx : C[i]? = some x) {f t : Nat} (hf : (chOf x).from_ = (f : Int)) (ht : (chOf x).to_ = (t : Int)) (h1 : f < n) (h2 : t < n) (M : Nat → Nat → Bool) (a b : Nat) :
    put2 (put2 (fun a b => M a b || sC n ((C.take i).map chOf) a b) f t true) t f (put2 (fun a b => M a b || sC n ((C.take i).map chOf) a b) f t true t f || (chOf x).queue) a b = (M a b || sC n ((C.take (i + 1)).map chOf) a b) := by
  rw [map_take_one hx]
  unfold sC put2
  rw [List.any_append, List.any_cons, List.any_nil, joins_at hf ht h1 h2, joins_at hf ht h1 h2, Bool.or_false]
  by_cases e1 : a = t ∧ b = f
  · have e2 : decide (b = f ∧ a = t) = true := decide_eq_true ⟨e1.2, e1.1⟩
    rw [if_pos e1, e2, e1.1, e1.2, Bool.and_true]
    by_cases e3 : t = f ∧ f = t
    · rw [if_pos e3, decide_eq_true e3]; simp
    · rw [if_neg e3, decide_eq_false e3]
      dsimp only
      cases (M t f) <;> cases ((C.take i).map chOf).any (fun x => joins n x t f || (x.queue && joins n x f t)) <;> cases (chOf x).queue <;> rfl
  · rw [if_neg e1]
    have e2 : decide (b = f ∧ a = t) = false := decide_eq_false fun e => e1 ⟨e.2, e.1⟩
    rw [e2, Bool.and_false, Bool.or_false]
    by_cases e3 : a = f ∧ b = t
    · rw [if_pos e3, decide_eq_true e3]; simp
    · rw [if_neg e3, decide_eq_false e3]; simp
set_option maxRecDepth 100000 in
set_option maxHeartbeats 4000000 in
theorem rdepends_any (A1 A2 A3 : Option Addr) (n1 n2 n3 c1 c2 c3 : Nat) (P : List PtV) (C : List ChV) (w : World) (h : CfW w w.heap.size A1 A2 n1 n2 P C) (q1 : n1 ≤ 1024) (q2 : n2 ≤ 1048576) :
    Calls Try.prog 15 #[.agg #[.slice A1 n1 c1, .slice A2 n2 c2, .slice A3 n3 c3]] w (MadG n1 (depF (P.map ptOf) (C.map chOf)) w) := by
  have hlen : P.length = n1 := h.p.len
  have hbw := bl1 w (.cells #[.slice A1 n1 c1, .slice A2 n2 c2, .slice A3 n3 c3] 31)
  have hbox := box_vec w (.slice A1 n1 c1) (.slice A2 n2 c2) (.slice A3 n3 c3) 31
  have hCf := h.on hbw
  have hgsz : w.heap.size < (w.alloc (.cells #[.slice A1 n1 c1, .slice A2 n2 c2, .slice A3 n3 c3] 31)).heap.size := by simp
  have HB0 := Lib.hid hbw
  have HLEN := Lib.hid hlen
  clear h hbw hlen
  obtain ⟨m0, m1, m2⟩ := hbox.three
  go_enter Try.func15, Try.ntmps15
  go_upto_region 1 with fail
  generalize w.alloc (.cells #[.slice A1 n1 c1, .slice A2 n2 c2, .slice A3 n3 c3] 31) = W at HB0 hCf hbox m0 m1 m2 hgsz ⊢
  obtain ⟨gb, hgb⟩ : ∃ gb, gb = w.heap.size := ⟨_, rfl⟩
  rw [← hgb] at hbox m0 m1 m2 hgsz ⊢
  have HGB := Lib.hid hgb
  clear hgb
  go_wp2_with fail
  refine (rsquare_any n1 W q1).mono ?_
  rintro e w1 ⟨g, G, rfl, hM1, hb1⟩
  obtain ⟨B, hB⟩ : ∃ B, B = W.heap.size := ⟨_, rfl⟩
  rw [← hB] at hM1 hb1 hgsz
  have HB := Lib.hid hB
  have HCF := Lib.hid hCf
  have HBOX := Lib.hid hbox
  have HGS := Lib.hid hgsz
  have hM2 := Lib.hid (hM1.congr (m' := mQ (fun a b => decide (a = b)) (schQ P) 0 0) fun a b _ _ => by rw [mQ_zero])
  have HB1 := Lib.hid hb1
  clear hB hCf hbox hM1 hb1 m0 m1 m2 hgsz
  go_wp2_with fail
  go_loopw [4, 5, 14, 19] (fun _ _ s _ wr => ∃ i : Nat, i ≤ n1 ∧ s = .int .i64 i ∧ Mat wr B g n1 n1 G (mQ (fun a b => decide (a = b)) (schQ P) i 0) ∧ Below B W wr) (fun _ _ s _ _ => n1 - (intOf s).toNat)
  case atStart => exact ⟨0, by omega, rfl, hM2.out, HB1.out⟩
  case round =>
    obtain ⟨i, hi, rfl, hM, hb⟩ := hrel
    clear hM2 HB1
    by_cases hlt : i < n1
    · have hlti : (i : Int) < (n1 : Int) := by omega
      have HM := Lib.hid hM
      have HBB := Lib.hid hb
      clear hM hb
      go_wp2_with fail
      go_loopw [5, 19] (fun _ s wx => ∃ j : Nat, j ≤ n1 ∧ s = .int .i64 j ∧ Mat wx B g n1 n1 G (mQ (fun a b => decide (a = b)) (schQ P) i j) ∧ Below B W wx) (fun _ s _ => n1 - (intOf s).toNat)
      case atStart => exact ⟨0, by omega, rfl, HM.out, HBB.out⟩
      case round =>
        obtain ⟨j, hj, rfl, hM, hb⟩ := hrel
        clear HM HBB
        by_cases hjn : j < n1
        · have hjni : (j : Int) < (n1 : Int) := by omega
          have hPw := (HCF.out.p.below (HB.out ▸ hb))
          obtain ⟨ad, u, rfl, had, hu, _, cku⟩ := hPw.at_ pcl_len (by omega) hlt
          obtain ⟨ad', v, e, _, hv, _, ckv⟩ := hPw.at_ pcl_len (by omega) hjn
          injection e with e
          subst e
          have d3 := cku 3 _ (by omega) rfl
          have d4 := cku 4 _ (by omega) rfl
          have e3 := ckv 3 _ (by omega) rfl
          have hq : (schQ P) i j = (u.sched && v.sched) := by unfold schQ; rw [schedOf_at hu, schedOf_at hv]
          obtain ⟨nm, bu, pe, sc, st, pa, pn, pc, h0, h1, h2, h3, h4⟩ := u
          obtain ⟨nm', bu', pe', sc', st', pa', pn', pc', h0', h1', h2', h3', h4'⟩ := v
          dsimp only at d3 d4 e3 hq
          obtain ⟨b0, b1, b2⟩ := (HBOX.out.below (HB.out ▸ hb) (HB.out ▸ (HBOX.out.lt))).three
          have hMd := hM.on (w' := wr.drew) (Below.refl _ _).drew
          obtain ⟨y, hy, hyg, hBy, hgl, hyl, f0, f1, f2, hst⟩ := hMd.at_ (i := i) (j := j) hlt (Nat.le_refl _) hjn
          have HLT : Hid (i < n1 ∧ j < n1 ∧ (i : Int) < (n1 : Int) ∧ (j : Int) < (n1 : Int)) := Lib.hid ⟨hlt, hjn, hlti, hjni⟩
          obtain ⟨bij, hbij⟩ : ∃ bij, bij = mQ (fun a b => decide (a = b)) (schQ P) i j i j := ⟨_, rfl⟩
          rw [← hbij] at f1
          have HST : Hid (∀ V, V = (bij || (sc && sc')) → Mat (wr.drew.setCell ⟨y, j, none⟩ (.bool V)) B g n1 n1 G (mQ (fun a b => decide (a = b)) (schQ P) i (j + 1)) ∧ Below B W (wr.drew.setCell ⟨y, j, none⟩ (.bool V))) := Lib.hid fun V hV => by
            obtain ⟨s1, s2⟩ := hst V
            refine ⟨s1.congr fun a b _ _ => ?_, s2 _ hb.drew⟩
            rw [hV, ← hq, hbij]
            exact mQ_or a b
          clear hM hMd hb hPw cku ckv hu hv hst hgl hyl hBy hbij hq
          have d3 : wr.drew.cell? ⟨(ad.add (i * 11)).block, (ad.add (i * 11)).off + 3, none⟩ = some (.bool sc) := d3
          have d4 : wr.drew.cell? ⟨(ad.add (i * 11)).block, (ad.add (i * 11)).off + 4, none⟩ = some (.bool st) := d4
          have e3 : wr.drew.cell? ⟨(ad.add (j * 11)).block, (ad.add (j * 11)).off + 3, none⟩ = some (.bool sc') := e3
          have b0 : wr.drew.cell? ⟨gb, 0, none⟩ = some (.slice (some ad) n1 c1) := b0
          go_wp2_with fail
          cases bij with
          | true =>
            refine Rgs.region (by kernel_rfl) (by kernel_rfl) (fun (opn : Nat) (vl : Value) (_ : World) => match opn with | 0 => vl = .slice (some ⟨g, 0, none⟩) n1 n1 | 1 => vl = .int .i64 (i : Int) | 2 => vl = .pointer (some ⟨g, i, none⟩) | 3 => vl = .slice (some ⟨y, 0, none⟩) n1 n1 | 4 => vl = .int .i64 (j : Int) | 5 => vl = .slice (some ⟨g, 0, none⟩) n1 n1 | 6 => vl = .int .i64 (i : Int) | 7 => vl = .pointer (some ⟨g, i, none⟩) | 8 => vl = .slice (some ⟨y, 0, none⟩) n1 n1 | 9 => vl = .int .i64 (j : Int) | 10 => vl = .pointer (some ⟨y, j, none⟩) | 11 => vl = .bool true | 12 => vl = .bool true | 13 => vl = undef | 14 => vl = undef | 15 => vl = undef | 16 => vl = undef | 17 => vl = undef | 18 => vl = undef | 19 => vl = undef | 20 => vl = undef | 21 => vl = undef | 22 => vl = undef | 23 => vl = undef | 24 => vl = undef | 25 => vl = undef | 26 => vl = undef | 27 => vl = .bool true | 28 => vl = .pointer (some ⟨y, j, none⟩) | 29 => vl = undef | _ => True) (fun live _ w' => Rgs.StW wr.drew 29 ⟨y, j, none⟩ (.bool true) live w') rfl (Rgs.steps_of ?_) ?_
            · refine ⟨?_, ?_, ?_, ?_, ?_, ?_, ?_, ?_, ?_, ?_, ?_, ?_, ?_, ?_, ?_, ?_, ?_, ?_, ?_, ?_, ?_, ?_, ?_, ?_, ?_, ?_, ?_, ?_, ?_, ?_, trivial⟩
              · intro a w1 live S E D C h0 hk hW
                have e3 : a.eval (.tmp 3) = .slice (some ⟨g, 0, none⟩) n1 n1 := E 3 rfl
                exact Rgs.val rfl (Reg.wanted_free rfl) (.slice (some ⟨g, 0, none⟩) n1 n1) (by have c := Reg.consts a; generalize a.eval = ρ at *; simp [execOp, go_sem, c.1, c.2, e3]) rfl (hW.upd (by decide))
              · intro a w1 live S E D C h0 hk hW
                have e4 : a.eval (.tmp 4) = .int .i64 (i : Int) := E 4 rfl
                exact Rgs.val rfl (Reg.wanted_free rfl) (.int .i64 (i : Int)) (by have c := Reg.consts a; generalize a.eval = ρ at *; simp [execOp, go_sem, c.1, c.2, e4]) rfl (hW.upd (by decide))
              · intro a w1 live S E D C h0 hk hW
                have d0 : a.eval (.tmp 22) = .slice (some ⟨g, 0, none⟩) n1 n1 := D 0 rfl _ _ rfl rfl
                have d1 : a.eval (.tmp 23) = .int .i64 (i : Int) := D 1 rfl _ _ rfl rfl
                have i1 := HLT.out
                obtain ⟨i1, i2, i3, i4⟩ := i1
                have ead := mk_add (g) (i)
                exact Rgs.val rfl (Reg.wanted_free rfl) (.pointer (some ⟨g, i, none⟩)) (by have c := Reg.consts a; generalize a.eval = ρ at *; simp [execOp, go_sem, c.1, c.2, d0, d1, i1, i2, i3, i4, ead]) rfl (hW.upd (by decide))
              · intro a w1 live S E D C h0 hk hW
                have d2 : a.eval (.tmp 24) = .pointer (some ⟨g, i, none⟩) := D 2 rfl _ _ rfl rfl
                have l28 := Reg.not_live C h0 (j := 28) rfl rfl
                have l29 := Reg.not_live C l28 (j := 29) rfl rfl
                have hw := hW.off l29
                subst hw
                have hc0 := f0
                exact Rgs.val rfl (Reg.wanted_free rfl) (.slice (some ⟨y, 0, none⟩) n1 n1) (by have c := Reg.consts a; generalize a.eval = ρ at *; simp [execOp, go_sem, c.1, c.2, d2, hc0]) rfl (hW.upd (by decide))
              · intro a w1 live S E D C h0 hk hW
                have e5 : a.eval (.tmp 5) = .int .i64 (j : Int) := E 5 rfl
                exact Rgs.val rfl (Reg.wanted_free rfl) (.int .i64 (j : Int)) (by have c := Reg.consts a; generalize a.eval = ρ at *; simp [execOp, go_sem, c.1, c.2, e5]) rfl (hW.upd (by decide))
              · intro a w1 live S E D C h0 hk hW
                have e3 : a.eval (.tmp 3) = .slice (some ⟨g, 0, none⟩) n1 n1 := E 3 rfl
                exact Rgs.val rfl (Reg.wanted_free rfl) (.slice (some ⟨g, 0, none⟩) n1 n1) (by have c := Reg.consts a; generalize a.eval = ρ at *; simp [execOp, go_sem, c.1, c.2, e3]) rfl (hW.upd (by decide))
              · intro a w1 live S E D C h0 hk hW
                have e4 : a.eval (.tmp 4) = .int .i64 (i : Int) := E 4 rfl
                exact Rgs.val rfl (Reg.wanted_free rfl) (.int .i64 (i : Int)) (by have c := Reg.consts a; generalize a.eval = ρ at *; simp [execOp, go_sem, c.1, c.2, e4]) rfl (hW.upd (by decide))
              · intro a w1 live S E D C h0 hk hW
                have d5 : a.eval (.tmp 27) = .slice (some ⟨g, 0, none⟩) n1 n1 := D 5 rfl _ _ rfl rfl
                have d6 : a.eval (.tmp 28) = .int .i64 (i : Int) := D 6 rfl _ _ rfl rfl
                have i1 := HLT.out
                obtain ⟨i1, i2, i3, i4⟩ := i1
                have ead := mk_add (g) (i)
                exact Rgs.val rfl (Reg.wanted_free rfl) (.pointer (some ⟨g, i, none⟩)) (by have c := Reg.consts a; generalize a.eval = ρ at *; simp [execOp, go_sem, c.1, c.2, d5, d6, i1, i2, i3, i4, ead]) rfl (hW.upd (by decide))
              · intro a w1 live S E D C h0 hk hW
                have d7 : a.eval (.tmp 29) = .pointer (some ⟨g, i, none⟩) := D 7 rfl _ _ rfl rfl
                have l10 := Reg.not_live C h0 (j := 10) rfl rfl
                have l11 := Reg.not_live C l10 (j := 11) rfl rfl
                have l12 := Reg.not_live C l11 (j := 12) rfl rfl
                have l27 := Reg.not_live C l12 (j := 27) rfl rfl
                have l29 := Reg.not_live C l27 (j := 29) rfl rfl
                have hw := hW.off l29
                subst hw
                have hc0 := f0
                exact Rgs.val rfl (Reg.wanted_free rfl) (.slice (some ⟨y, 0, none⟩) n1 n1) (by have c := Reg.consts a; generalize a.eval = ρ at *; simp [execOp, go_sem, c.1, c.2, d7, hc0]) rfl (hW.upd (by decide))
              · intro a w1 live S E D C h0 hk hW
                have e5 : a.eval (.tmp 5) = .int .i64 (j : Int) := E 5 rfl
                exact Rgs.val rfl (Reg.wanted_free rfl) (.int .i64 (j : Int)) (by have c := Reg.consts a; generalize a.eval = ρ at *; simp [execOp, go_sem, c.1, c.2, e5]) rfl (hW.upd (by decide))
              · intro a w1 live S E D C h0 hk hW
                have d8 : a.eval (.tmp 30) = .slice (some ⟨y, 0, none⟩) n1 n1 := D 8 rfl _ _ rfl rfl
                have d9 : a.eval (.tmp 31) = .int .i64 (j : Int) := D 9 rfl _ _ rfl rfl
                have i1 := HLT.out
                obtain ⟨i1, i2, i3, i4⟩ := i1
                have ead := mk_add (y) (j)
                exact Rgs.val rfl (Reg.wanted_free rfl) (.pointer (some ⟨y, j, none⟩)) (by have c := Reg.consts a; generalize a.eval = ρ at *; simp [execOp, go_sem, c.1, c.2, d8, d9, i1, i2, i3, i4, ead]) rfl (hW.upd (by decide))
              · intro a w1 live S E D C h0 hk hW
                have d10 : a.eval (.tmp 32) = .pointer (some ⟨y, j, none⟩) := D 10 rfl _ _ rfl rfl
                have l12 := Reg.not_live C h0 (j := 12) rfl rfl
                have l27 := Reg.not_live C l12 (j := 27) rfl rfl
                have l29 := Reg.not_live C l27 (j := 29) rfl rfl
                have hw := hW.off l29
                subst hw
                have hc0 := f1
                exact Rgs.val rfl (Reg.wanted_free rfl) (.bool true) (by have c := Reg.consts a; generalize a.eval = ρ at *; simp [execOp, go_sem, c.1, c.2, d10, hc0]) rfl (hW.upd (by decide))
              · intro a w1 live S E D C h0 hk hW
                have d11 : a.eval (.tmp 33) = .bool true := D 11 rfl _ _ rfl rfl
                exact Rgs.val rfl (Reg.wanted_free rfl) (.bool true) (by have c := Reg.consts a; generalize a.eval = ρ at *; simp [execOp, go_sem, c.1, c.2, d11]) rfl (hW.upd (by decide))
              · intro a w1 live S E D C h0 hk hW
                have dg : a.eval (.tmp 34) = .bool true := D 12 rfl _ _ rfl rfl
                exact Rgs.skip rfl (Rgs.wanted_not rfl rfl dg rfl) rfl (hW.upd (by decide))
              · intro a w1 live S E D C h0 hk hW
                have dg : a.eval (.tmp 34) = .bool true := D 12 rfl _ _ rfl rfl
                exact Rgs.skip rfl (Rgs.wanted_not rfl rfl dg rfl) rfl (hW.upd (by decide))
              · intro a w1 live S E D C h0 hk hW
                have dg : a.eval (.tmp 34) = .bool true := D 12 rfl _ _ rfl rfl
                exact Rgs.skip rfl (Rgs.wanted_not rfl rfl dg rfl) rfl (hW.upd (by decide))
              · intro a w1 live S E D C h0 hk hW
                have dg : a.eval (.tmp 34) = .bool true := D 12 rfl _ _ rfl rfl
                exact Rgs.skip rfl (Rgs.wanted_not rfl rfl dg rfl) rfl (hW.upd (by decide))
              · intro a w1 live S E D C h0 hk hW
                have dg : a.eval (.tmp 34) = .bool true := D 12 rfl _ _ rfl rfl
                exact Rgs.skip rfl (Rgs.wanted_not rfl rfl dg rfl) rfl (hW.upd (by decide))
              · intro a w1 live S E D C h0 hk hW
                have dg : a.eval (.tmp 34) = .bool true := D 12 rfl _ _ rfl rfl
                exact Rgs.skip rfl (Rgs.wanted_not rfl rfl dg rfl) rfl (hW.upd (by decide))
              · intro a w1 live S E D C h0 hk hW
                have dg : a.eval (.tmp 34) = .bool true := D 12 rfl _ _ rfl rfl
                exact Rgs.skip rfl (Rgs.wanted_not rfl rfl dg rfl) rfl (hW.upd (by decide))
              · intro a w1 live S E D C h0 hk hW
                have dg : a.eval (.tmp 41) = undef := D 19 rfl _ _ rfl rfl
                exact Rgs.skip rfl (Rgs.wanted_undef rfl rfl dg) rfl (hW.upd (by decide))
              · intro a w1 live S E D C h0 hk hW
                have dg : a.eval (.tmp 41) = undef := D 19 rfl _ _ rfl rfl
                exact Rgs.skip rfl (Rgs.wanted_undef rfl rfl dg) rfl (hW.upd (by decide))
              · intro a w1 live S E D C h0 hk hW
                have dg : a.eval (.tmp 41) = undef := D 19 rfl _ _ rfl rfl
                exact Rgs.skip rfl (Rgs.wanted_undef rfl rfl dg) rfl (hW.upd (by decide))
              · intro a w1 live S E D C h0 hk hW
                have dg : a.eval (.tmp 41) = undef := D 19 rfl _ _ rfl rfl
                exact Rgs.skip rfl (Rgs.wanted_undef rfl rfl dg) rfl (hW.upd (by decide))
              · intro a w1 live S E D C h0 hk hW
                have dg : a.eval (.tmp 41) = undef := D 19 rfl _ _ rfl rfl
                exact Rgs.skip rfl (Rgs.wanted_undef rfl rfl dg) rfl (hW.upd (by decide))
              · intro a w1 live S E D C h0 hk hW
                have dg : a.eval (.tmp 41) = undef := D 19 rfl _ _ rfl rfl
                exact Rgs.skip rfl (Rgs.wanted_undef rfl rfl dg) rfl (hW.upd (by decide))
              · intro a w1 live S E D C h0 hk hW
                have dg : a.eval (.tmp 34) = .bool true := D 12 rfl _ _ rfl rfl
                exact Rgs.skip rfl (Rgs.wanted_not rfl rfl dg rfl) rfl (hW.upd (by decide))
              · intro a w1 live S E D C h0 hk hW
                have d12 : a.eval (.tmp 34) = .bool true := D 12 rfl _ _ rfl rfl
                exact Rgs.val rfl (Reg.wanted_free rfl) (.bool true) (by have c := Reg.consts a; generalize a.eval = ρ at *; simp [execOp, go_sem, c.1, c.2, d12]) rfl (hW.upd (by decide))
              · intro a w1 live S E D C h0 hk hW
                have d3 : a.eval (.tmp 25) = .slice (some ⟨y, 0, none⟩) n1 n1 := D 3 rfl _ _ rfl rfl
                have d4 : a.eval (.tmp 26) = .int .i64 (j : Int) := D 4 rfl _ _ rfl rfl
                have i1 := HLT.out
                obtain ⟨i1, i2, i3, i4⟩ := i1
                have ead := mk_add (y) (j)
                exact Rgs.val rfl (Reg.wanted_free rfl) (.pointer (some ⟨y, j, none⟩)) (by have c := Reg.consts a; generalize a.eval = ρ at *; simp [execOp, go_sem, c.1, c.2, d3, d4, i1, i2, i3, i4, ead]) rfl (hW.upd (by decide))
              · intro a w1 live S E D C h0 hk hW
                have d28 : a.eval (.tmp 50) = .pointer (some ⟨y, j, none⟩) := D 28 rfl _ _ rfl rfl
                have d27 : a.eval (.tmp 49) = .bool true := D 27 rfl _ _ rfl rfl
                have hw := hW.off h0
                subst hw
                have hc0 := f1
                have hfz := f2
                refine Rgs.store rfl (Reg.wanted_free rfl) _ (by have c := Reg.consts a; generalize a.eval = ρ at *; simp [execOp, go_sem, c.1, c.2, d28, d27, hc0, hfz]) rfl (Rgs.StW.put _ _ _ _ _) (fun j v _ h => h)
            · intro a w3 live hs hd E D' Hl hW
              rw [Rgs.act_ws a _ _ hs hd E [22, 23, 24, 25, 26, 27, 28, 29, 30, 31, 32, 33, 34, 35, 36, 37, 38, 39, 40, 41, 42, 43, 44, 45, 46, 47, 48, 49, 50] (by kernel_rfl)]
              simp only [List.foldl, List.setIfInBounds_toArray, List.set_cons_succ, List.set_cons_zero]
              have hw := Rgs.StW.on hW (Hl 29 (by decide))
              subst hw
              clear E D' Hl hW
              generalize a.eval = ρ
              clear a hs hd f0 f1 f2 b0 b1 b2 d3 d4 e3
              go_wp2_with fail
              go_roundw
              case rel => exact ⟨j + 1, by omega, by go_num, HST.out _ (by simp)⟩
              case measure => simp [intOf]; omega
          | false =>
            cases sc with
            | false =>
              refine Rgs.region (by kernel_rfl) (by kernel_rfl) (fun (opn : Nat) (vl : Value) (_ : World) => match opn with | 0 => vl = .slice (some ⟨g, 0, none⟩) n1 n1 | 1 => vl = .int .i64 (i : Int) | 2 => vl = .pointer (some ⟨g, i, none⟩) | 3 => vl = .slice (some ⟨y, 0, none⟩) n1 n1 | 4 => vl = .int .i64 (j : Int) | 5 => vl = .slice (some ⟨g, 0, none⟩) n1 n1 | 6 => vl = .int .i64 (i : Int) | 7 => vl = .pointer (some ⟨g, i, none⟩) | 8 => vl = .slice (some ⟨y, 0, none⟩) n1 n1 | 9 => vl = .int .i64 (j : Int) | 10 => vl = .pointer (some ⟨y, j, none⟩) | 11 => vl = .bool false | 12 => vl = .bool false | 13 => vl = .pointer (some ⟨gb, 0, none⟩) | 14 => vl = .slice (some ad) n1 c1 | 15 => vl = .int .i64 (i : Int) | 16 => vl = .pointer (some (ad.add (i * 11))) | 17 => vl = .pointer (some ⟨(ad.add (i * 11)).block, (ad.add (i * 11)).off + 3, none⟩) | 18 => vl = .bool false | 19 => vl = .bool false | 20 => vl = undef | 21 => vl = undef | 22 => vl = undef | 23 => vl = undef | 24 => vl = undef | 25 => vl = undef | 26 => vl = .bool false | 27 => vl = .bool false | 28 => vl = .pointer (some ⟨y, j, none⟩) | 29 => vl = undef | _ => True) (fun live _ w' => Rgs.StW wr.drew 29 ⟨y, j, none⟩ (.bool false) live w') rfl (Rgs.steps_of ?_) ?_
              · refine ⟨?_, ?_, ?_, ?_, ?_, ?_, ?_, ?_, ?_, ?_, ?_, ?_, ?_, ?_, ?_, ?_, ?_, ?_, ?_, ?_, ?_, ?_, ?_, ?_, ?_, ?_, ?_, ?_, ?_, ?_, trivial⟩
                · intro a w1 live S E D C h0 hk hW
                  have e3 : a.eval (.tmp 3) = .slice (some ⟨g, 0, none⟩) n1 n1 := E 3 rfl
                  exact Rgs.val rfl (Reg.wanted_free rfl) (.slice (some ⟨g, 0, none⟩) n1 n1) (by have c := Reg.consts a; generalize a.eval = ρ at *; simp [execOp, go_sem, c.1, c.2, e3]) rfl (hW.upd (by decide))
                · intro a w1 live S E D C h0 hk hW
                  have e4 : a.eval (.tmp 4) = .int .i64 (i : Int) := E 4 rfl
                  exact Rgs.val rfl (Reg.wanted_free rfl) (.int .i64 (i : Int)) (by have c := Reg.consts a; generalize a.eval = ρ at *; simp [execOp, go_sem, c.1, c.2, e4]) rfl (hW.upd (by decide))
                · intro a w1 live S E D C h0 hk hW
                  have d0 : a.eval (.tmp 22) = .slice (some ⟨g, 0, none⟩) n1 n1 := D 0 rfl _ _ rfl rfl
                  have d1 : a.eval (.tmp 23) = .int .i64 (i : Int) := D 1 rfl _ _ rfl rfl
                  have i1 := HLT.out
                  obtain ⟨i1, i2, i3, i4⟩ := i1
                  have ead := mk_add (g) (i)
                  exact Rgs.val rfl (Reg.wanted_free rfl) (.pointer (some ⟨g, i, none⟩)) (by have c := Reg.consts a; generalize a.eval = ρ at *; simp [execOp, go_sem, c.1, c.2, d0, d1, i1, i2, i3, i4, ead]) rfl (hW.upd (by decide))
                · intro a w1 live S E D C h0 hk hW
                  have d2 : a.eval (.tmp 24) = .pointer (some ⟨g, i, none⟩) := D 2 rfl _ _ rfl rfl
                  have l28 := Reg.not_live C h0 (j := 28) rfl rfl
                  have l29 := Reg.not_live C l28 (j := 29) rfl rfl
                  have hw := hW.off l29
                  subst hw
                  have hc0 := f0
                  exact Rgs.val rfl (Reg.wanted_free rfl) (.slice (some ⟨y, 0, none⟩) n1 n1) (by have c := Reg.consts a; generalize a.eval = ρ at *; simp [execOp, go_sem, c.1, c.2, d2, hc0]) rfl (hW.upd (by decide))
                · intro a w1 live S E D C h0 hk hW
                  have e5 : a.eval (.tmp 5) = .int .i64 (j : Int) := E 5 rfl
                  exact Rgs.val rfl (Reg.wanted_free rfl) (.int .i64 (j : Int)) (by have c := Reg.consts a; generalize a.eval = ρ at *; simp [execOp, go_sem, c.1, c.2, e5]) rfl (hW.upd (by decide))
                · intro a w1 live S E D C h0 hk hW
                  have e3 : a.eval (.tmp 3) = .slice (some ⟨g, 0, none⟩) n1 n1 := E 3 rfl
                  exact Rgs.val rfl (Reg.wanted_free rfl) (.slice (some ⟨g, 0, none⟩) n1 n1) (by have c := Reg.consts a; generalize a.eval = ρ at *; simp [execOp, go_sem, c.1, c.2, e3]) rfl (hW.upd (by decide))
                · intro a w1 live S E D C h0 hk hW
                  have e4 : a.eval (.tmp 4) = .int .i64 (i : Int) := E 4 rfl
                  exact Rgs.val rfl (Reg.wanted_free rfl) (.int .i64 (i : Int)) (by have c := Reg.consts a; generalize a.eval = ρ at *; simp [execOp, go_sem, c.1, c.2, e4]) rfl (hW.upd (by decide))
                · intro a w1 live S E D C h0 hk hW
                  have d5 : a.eval (.tmp 27) = .slice (some ⟨g, 0, none⟩) n1 n1 := D 5 rfl _ _ rfl rfl
                  have d6 : a.eval (.tmp 28) = .int .i64 (i : Int) := D 6 rfl _ _ rfl rfl
                  have i1 := HLT.out
                  obtain ⟨i1, i2, i3, i4⟩ := i1
                  have ead := mk_add (g) (i)
                  exact Rgs.val rfl (Reg.wanted_free rfl) (.pointer (some ⟨g, i, none⟩)) (by have c := Reg.consts a; generalize a.eval = ρ at *; simp [execOp, go_sem, c.1, c.2, d5, d6, i1, i2, i3, i4, ead]) rfl (hW.upd (by decide))
                · intro a w1 live S E D C h0 hk hW
                  have d7 : a.eval (.tmp 29) = .pointer (some ⟨g, i, none⟩) := D 7 rfl _ _ rfl rfl
                  have l10 := Reg.not_live C h0 (j := 10) rfl rfl
                  have l11 := Reg.not_live C l10 (j := 11) rfl rfl
                  have l12 := Reg.not_live C l11 (j := 12) rfl rfl
                  have l27 := Reg.not_live C l12 (j := 27) rfl rfl
                  have l29 := Reg.not_live C l27 (j := 29) rfl rfl
                  have hw := hW.off l29
                  subst hw
                  have hc0 := f0
                  exact Rgs.val rfl (Reg.wanted_free rfl) (.slice (some ⟨y, 0, none⟩) n1 n1) (by have c := Reg.consts a; generalize a.eval = ρ at *; simp [execOp, go_sem, c.1, c.2, d7, hc0]) rfl (hW.upd (by decide))
                · intro a w1 live S E D C h0 hk hW
                  have e5 : a.eval (.tmp 5) = .int .i64 (j : Int) := E 5 rfl
                  exact Rgs.val rfl (Reg.wanted_free rfl) (.int .i64 (j : Int)) (by have c := Reg.consts a; generalize a.eval = ρ at *; simp [execOp, go_sem, c.1, c.2, e5]) rfl (hW.upd (by decide))
                · intro a w1 live S E D C h0 hk hW
                  have d8 : a.eval (.tmp 30) = .slice (some ⟨y, 0, none⟩) n1 n1 := D 8 rfl _ _ rfl rfl
                  have d9 : a.eval (.tmp 31) = .int .i64 (j : Int) := D 9 rfl _ _ rfl rfl
                  have i1 := HLT.out
                  obtain ⟨i1, i2, i3, i4⟩ := i1
                  have ead := mk_add (y) (j)
                  exact Rgs.val rfl (Reg.wanted_free rfl) (.pointer (some ⟨y, j, none⟩)) (by have c := Reg.consts a; generalize a.eval = ρ at *; simp [execOp, go_sem, c.1, c.2, d8, d9, i1, i2, i3, i4, ead]) rfl (hW.upd (by decide))
                · intro a w1 live S E D C h0 hk hW
                  have d10 : a.eval (.tmp 32) = .pointer (some ⟨y, j, none⟩) := D 10 rfl _ _ rfl rfl
                  have l12 := Reg.not_live C h0 (j := 12) rfl rfl
                  have l27 := Reg.not_live C l12 (j := 27) rfl rfl
                  have l29 := Reg.not_live C l27 (j := 29) rfl rfl
                  have hw := hW.off l29
                  subst hw
                  have hc0 := f1
                  exact Rgs.val rfl (Reg.wanted_free rfl) (.bool false) (by have c := Reg.consts a; generalize a.eval = ρ at *; simp [execOp, go_sem, c.1, c.2, d10, hc0]) rfl (hW.upd (by decide))
                · intro a w1 live S E D C h0 hk hW
                  have d11 : a.eval (.tmp 33) = .bool false := D 11 rfl _ _ rfl rfl
                  exact Rgs.val rfl (Reg.wanted_free rfl) (.bool false) (by have c := Reg.consts a; generalize a.eval = ρ at *; simp [execOp, go_sem, c.1, c.2, d11]) rfl (hW.upd (by decide))
                · intro a w1 live S E D C h0 hk hW
                  have dg : a.eval (.tmp 34) = .bool false := D 12 rfl _ _ rfl rfl
                  have e1 : a.eval (.tmp 1) = .pointer (some ⟨gb, 0, none⟩) := E 1 rfl
                  exact Rgs.val rfl (Reg.wanted_if rfl rfl dg rfl) (.pointer (some ⟨gb, 0, none⟩)) (by have c := Reg.consts a; generalize a.eval = ρ at *; simp [execOp, go_sem, c.1, c.2, e1]) rfl (hW.upd (by decide))
                · intro a w1 live S E D C h0 hk hW
                  have dg : a.eval (.tmp 34) = .bool false := D 12 rfl _ _ rfl rfl
                  have d13 : a.eval (.tmp 35) = .pointer (some ⟨gb, 0, none⟩) := D 13 rfl _ _ rfl rfl
                  have l16 := Reg.not_live C h0 (j := 16) rfl rfl
                  have l17 := Reg.not_live C l16 (j := 17) rfl rfl
                  have l18 := Reg.not_live C l17 (j := 18) rfl rfl
                  have l19 := Reg.not_live C l18 (j := 19) rfl rfl
                  have l26 := Reg.not_live C l19 (j := 26) rfl rfl
                  have l27 := Reg.not_live C l26 (j := 27) rfl rfl
                  have l29 := Reg.not_live C l27 (j := 29) rfl rfl
                  have hw := hW.off l29
                  subst hw
                  have hc0 := b0
                  exact Rgs.val rfl (Reg.wanted_if rfl rfl dg rfl) (.slice (some ad) n1 c1) (by have c := Reg.consts a; generalize a.eval = ρ at *; simp [execOp, go_sem, c.1, c.2, d13, hc0]) rfl (hW.upd (by decide))
                · intro a w1 live S E D C h0 hk hW
                  have dg : a.eval (.tmp 34) = .bool false := D 12 rfl _ _ rfl rfl
                  have e4 : a.eval (.tmp 4) = .int .i64 (i : Int) := E 4 rfl
                  exact Rgs.val rfl (Reg.wanted_if rfl rfl dg rfl) (.int .i64 (i : Int)) (by have c := Reg.consts a; generalize a.eval = ρ at *; simp [execOp, go_sem, c.1, c.2, e4]) rfl (hW.upd (by decide))
                · intro a w1 live S E D C h0 hk hW
                  have dg : a.eval (.tmp 34) = .bool false := D 12 rfl _ _ rfl rfl
                  have d14 : a.eval (.tmp 36) = .slice (some ad) n1 c1 := D 14 rfl _ _ rfl rfl
                  have d15 : a.eval (.tmp 37) = .int .i64 (i : Int) := D 15 rfl _ _ rfl rfl
                  have i1 := HLT.out
                  obtain ⟨i1, i2, i3, i4⟩ := i1
                  exact Rgs.val rfl (Reg.wanted_if rfl rfl dg rfl) (.pointer (some (ad.add (i * 11)))) (by have c := Reg.consts a; generalize a.eval = ρ at *; simp [execOp, go_sem, c.1, c.2, d14, d15, i1, i2, i3, i4]) rfl (hW.upd (by decide))
                · intro a w1 live S E D C h0 hk hW
                  have dg : a.eval (.tmp 34) = .bool false := D 12 rfl _ _ rfl rfl
                  have d16 : a.eval (.tmp 38) = .pointer (some (ad.add (i * 11))) := D 16 rfl _ _ rfl rfl
                  exact Rgs.val rfl (Reg.wanted_if rfl rfl dg rfl) (.pointer (some ⟨(ad.add (i * 11)).block, (ad.add (i * 11)).off + 3, none⟩)) (by have c := Reg.consts a; generalize a.eval = ρ at *; simp [execOp, go_sem, c.1, c.2, d16]) rfl (hW.upd (by decide))
                · intro a w1 live S E D C h0 hk hW
                  have dg : a.eval (.tmp 34) = .bool false := D 12 rfl _ _ rfl rfl
                  have d17 : a.eval (.tmp 39) = .pointer (some ⟨(ad.add (i * 11)).block, (ad.add (i * 11)).off + 3, none⟩) := D 17 rfl _ _ rfl rfl
                  have l19 := Reg.not_live C h0 (j := 19) rfl rfl
                  have l26 := Reg.not_live C l19 (j := 26) rfl rfl
                  have l27 := Reg.not_live C l26 (j := 27) rfl rfl
                  have l29 := Reg.not_live C l27 (j := 29) rfl rfl
                  have hw := hW.off l29
                  subst hw
                  have hc0 := d3
                  exact Rgs.val rfl (Reg.wanted_if rfl rfl dg rfl) (.bool false) (by have c := Reg.consts a; generalize a.eval = ρ at *; simp [execOp, go_sem, c.1, c.2, d17, hc0]) rfl (hW.upd (by decide))
                · intro a w1 live S E D C h0 hk hW
                  have dg : a.eval (.tmp 34) = .bool false := D 12 rfl _ _ rfl rfl
                  have d18 : a.eval (.tmp 40) = .bool false := D 18 rfl _ _ rfl rfl
                  exact Rgs.val rfl (Reg.wanted_if rfl rfl dg rfl) (.bool false) (by have c := Reg.consts a; generalize a.eval = ρ at *; simp [execOp, go_sem, c.1, c.2, d18]) rfl (hW.upd (by decide))
                · intro a w1 live S E D C h0 hk hW
                  have dg : a.eval (.tmp 41) = .bool false := D 19 rfl _ _ rfl rfl
                  exact Rgs.skip rfl (Rgs.wanted_not rfl rfl dg rfl) rfl (hW.upd (by decide))
                · intro a w1 live S E D C h0 hk hW
                  have dg : a.eval (.tmp 41) = .bool false := D 19 rfl _ _ rfl rfl
                  exact Rgs.skip rfl (Rgs.wanted_not rfl rfl dg rfl) rfl (hW.upd (by decide))
                · intro a w1 live S E D C h0 hk hW
                  have dg : a.eval (.tmp 41) = .bool false := D 19 rfl _ _ rfl rfl
                  exact Rgs.skip rfl (Rgs.wanted_not rfl rfl dg rfl) rfl (hW.upd (by decide))
                · intro a w1 live S E D C h0 hk hW
                  have dg : a.eval (.tmp 41) = .bool false := D 19 rfl _ _ rfl rfl
                  exact Rgs.skip rfl (Rgs.wanted_not rfl rfl dg rfl) rfl (hW.upd (by decide))
                · intro a w1 live S E D C h0 hk hW
                  have dg : a.eval (.tmp 41) = .bool false := D 19 rfl _ _ rfl rfl
                  exact Rgs.skip rfl (Rgs.wanted_not rfl rfl dg rfl) rfl (hW.upd (by decide))
                · intro a w1 live S E D C h0 hk hW
                  have dg : a.eval (.tmp 41) = .bool false := D 19 rfl _ _ rfl rfl
                  exact Rgs.skip rfl (Rgs.wanted_not rfl rfl dg rfl) rfl (hW.upd (by decide))
                · intro a w1 live S E D C h0 hk hW
                  have dg : a.eval (.tmp 34) = .bool false := D 12 rfl _ _ rfl rfl
                  have d19 : a.eval (.tmp 41) = .bool false := D 19 rfl _ _ rfl rfl
                  exact Rgs.val rfl (Reg.wanted_if rfl rfl dg rfl) (.bool false) (by have c := Reg.consts a; generalize a.eval = ρ at *; simp [execOp, go_sem, c.1, c.2, d19]) rfl (hW.upd (by decide))
                · intro a w1 live S E D C h0 hk hW
                  have d12 : a.eval (.tmp 34) = .bool false := D 12 rfl _ _ rfl rfl
                  have d26 : a.eval (.tmp 48) = .bool false := D 26 rfl _ _ rfl rfl
                  exact Rgs.val rfl (Reg.wanted_free rfl) (.bool false) (by have c := Reg.consts a; generalize a.eval = ρ at *; simp [execOp, go_sem, c.1, c.2, d12, d26]) rfl (hW.upd (by decide))
                · intro a w1 live S E D C h0 hk hW
                  have d3 : a.eval (.tmp 25) = .slice (some ⟨y, 0, none⟩) n1 n1 := D 3 rfl _ _ rfl rfl
                  have d4 : a.eval (.tmp 26) = .int .i64 (j : Int) := D 4 rfl _ _ rfl rfl
                  have i1 := HLT.out
                  obtain ⟨i1, i2, i3, i4⟩ := i1
                  have ead := mk_add (y) (j)
                  exact Rgs.val rfl (Reg.wanted_free rfl) (.pointer (some ⟨y, j, none⟩)) (by have c := Reg.consts a; generalize a.eval = ρ at *; simp [execOp, go_sem, c.1, c.2, d3, d4, i1, i2, i3, i4, ead]) rfl (hW.upd (by decide))
                · intro a w1 live S E D C h0 hk hW
                  have d28 : a.eval (.tmp 50) = .pointer (some ⟨y, j, none⟩) := D 28 rfl _ _ rfl rfl
                  have d27 : a.eval (.tmp 49) = .bool false := D 27 rfl _ _ rfl rfl
                  have hw := hW.off h0
                  subst hw
                  have hc0 := f1
                  have hfz := f2
                  refine Rgs.store rfl (Reg.wanted_free rfl) _ (by have c := Reg.consts a; generalize a.eval = ρ at *; simp [execOp, go_sem, c.1, c.2, d28, d27, hc0, hfz]) rfl (Rgs.StW.put _ _ _ _ _) (fun j v _ h => h)
              · intro a w3 live hs hd E D' Hl hW
                rw [Rgs.act_ws a _ _ hs hd E [22, 23, 24, 25, 26, 27, 28, 29, 30, 31, 32, 33, 34, 35, 36, 37, 38, 39, 40, 41, 42, 43, 44, 45, 46, 47, 48, 49, 50] (by kernel_rfl)]
                simp only [List.foldl, List.setIfInBounds_toArray, List.set_cons_succ, List.set_cons_zero]
                have hw := Rgs.StW.on hW (Hl 29 (by decide))
                subst hw
                clear E D' Hl hW
                generalize a.eval = ρ
                clear a hs hd f0 f1 f2 b0 b1 b2 d3 d4 e3
                go_wp2_with fail
                go_roundw
                case rel => exact ⟨j + 1, by omega, by go_num, HST.out _ rfl⟩
                case measure => simp [intOf]; omega
            | true =>
              refine Rgs.region (by kernel_rfl) (by kernel_rfl) (fun (opn : Nat) (vl : Value) (_ : World) => match opn with | 0 => vl = .slice (some ⟨g, 0, none⟩) n1 n1 | 1 => vl = .int .i64 (i : Int) | 2 => vl = .pointer (some ⟨g, i, none⟩) | 3 => vl = .slice (some ⟨y, 0, none⟩) n1 n1 | 4 => vl = .int .i64 (j : Int) | 5 => vl = .slice (some ⟨g, 0, none⟩) n1 n1 | 6 => vl = .int .i64 (i : Int) | 7 => vl = .pointer (some ⟨g, i, none⟩) | 8 => vl = .slice (some ⟨y, 0, none⟩) n1 n1 | 9 => vl = .int .i64 (j : Int) | 10 => vl = .pointer (some ⟨y, j, none⟩) | 11 => vl = .bool false | 12 => vl = .bool false | 13 => vl = .pointer (some ⟨gb, 0, none⟩) | 14 => vl = .slice (some ad) n1 c1 | 15 => vl = .int .i64 (i : Int) | 16 => vl = .pointer (some (ad.add (i * 11))) | 17 => vl = .pointer (some ⟨(ad.add (i * 11)).block, (ad.add (i * 11)).off + 3, none⟩) | 18 => vl = .bool true | 19 => vl = .bool true | 20 => vl = .pointer (some ⟨gb, 0, none⟩) | 21 => vl = .slice (some ad) n1 c1 | 22 => vl = .int .i64 (j : Int) | 23 => vl = .pointer (some (ad.add (j * 11))) | 24 => vl = .pointer (some ⟨(ad.add (j * 11)).block, (ad.add (j * 11)).off + 3, none⟩) | 25 => vl = .bool sc' | 26 => vl = .bool sc' | 27 => vl = .bool sc' | 28 => vl = .pointer (some ⟨y, j, none⟩) | 29 => vl = undef | _ => True) (fun live _ w' => Rgs.StW wr.drew 29 ⟨y, j, none⟩ (.bool sc') live w') rfl (Rgs.steps_of ?_) ?_
              · refine ⟨?_, ?_, ?_, ?_, ?_, ?_, ?_, ?_, ?_, ?_, ?_, ?_, ?_, ?_, ?_, ?_, ?_, ?_, ?_, ?_, ?_, ?_, ?_, ?_, ?_, ?_, ?_, ?_, ?_, ?_, trivial⟩
                · intro a w1 live S E D C h0 hk hW
                  have e3 : a.eval (.tmp 3) = .slice (some ⟨g, 0, none⟩) n1 n1 := E 3 rfl
                  exact Rgs.val rfl (Reg.wanted_free rfl) (.slice (some ⟨g, 0, none⟩) n1 n1) (by have c := Reg.consts a; generalize a.eval = ρ at *; simp [execOp, go_sem, c.1, c.2, e3]) rfl (hW.upd (by decide))
                · intro a w1 live S E D C h0 hk hW
                  have e4 : a.eval (.tmp 4) = .int .i64 (i : Int) := E 4 rfl
                  exact Rgs.val rfl (Reg.wanted_free rfl) (.int .i64 (i : Int)) (by have c := Reg.consts a; generalize a.eval = ρ at *; simp [execOp, go_sem, c.1, c.2, e4]) rfl (hW.upd (by decide))
                · intro a w1 live S E D C h0 hk hW
                  have d0 : a.eval (.tmp 22) = .slice (some ⟨g, 0, none⟩) n1 n1 := D 0 rfl _ _ rfl rfl
                  have d1 : a.eval (.tmp 23) = .int .i64 (i : Int) := D 1 rfl _ _ rfl rfl
                  have i1 := HLT.out
                  obtain ⟨i1, i2, i3, i4⟩ := i1
                  have ead := mk_add (g) (i)
                  exact Rgs.val rfl (Reg.wanted_free rfl) (.pointer (some ⟨g, i, none⟩)) (by have c := Reg.consts a; generalize a.eval = ρ at *; simp [execOp, go_sem, c.1, c.2, d0, d1, i1, i2, i3, i4, ead]) rfl (hW.upd (by decide))
                · intro a w1 live S E D C h0 hk hW
                  have d2 : a.eval (.tmp 24) = .pointer (some ⟨g, i, none⟩) := D 2 rfl _ _ rfl rfl
                  have l28 := Reg.not_live C h0 (j := 28) rfl rfl
                  have l29 := Reg.not_live C l28 (j := 29) rfl rfl
                  have hw := hW.off l29
                  subst hw
                  have hc0 := f0
                  exact Rgs.val rfl (Reg.wanted_free rfl) (.slice (some ⟨y, 0, none⟩) n1 n1) (by have c := Reg.consts a; generalize a.eval = ρ at *; simp [execOp, go_sem, c.1, c.2, d2, hc0]) rfl (hW.upd (by decide))
                · intro a w1 live S E D C h0 hk hW
                  have e5 : a.eval (.tmp 5) = .int .i64 (j : Int) := E 5 rfl
                  exact Rgs.val rfl (Reg.wanted_free rfl) (.int .i64 (j : Int)) (by have c := Reg.consts a; generalize a.eval = ρ at *; simp [execOp, go_sem, c.1, c.2, e5]) rfl (hW.upd (by decide))
                · intro a w1 live S E D C h0 hk hW
                  have e3 : a.eval (.tmp 3) = .slice (some ⟨g, 0, none⟩) n1 n1 := E 3 rfl
                  exact Rgs.val rfl (Reg.wanted_free rfl) (.slice (some ⟨g, 0, none⟩) n1 n1) (by have c := Reg.consts a; generalize a.eval = ρ at *; simp [execOp, go_sem, c.1, c.2, e3]) rfl (hW.upd (by decide))
                · intro a w1 live S E D C h0 hk hW
                  have e4 : a.eval (.tmp 4) = .int .i64 (i : Int) := E 4 rfl
                  exact Rgs.val rfl (Reg.wanted_free rfl) (.int .i64 (i : Int)) (by have c := Reg.consts a; generalize a.eval = ρ at *; simp [execOp, go_sem, c.1, c.2, e4]) rfl (hW.upd (by decide))
                · intro a w1 live S E D C h0 hk hW
                  have d5 : a.eval (.tmp 27) = .slice (some ⟨g, 0, none⟩) n1 n1 := D 5 rfl _ _ rfl rfl
                  have d6 : a.eval (.tmp 28) = .int .i64 (i : Int) := D 6 rfl _ _ rfl rfl
                  have i1 := HLT.out
                  obtain ⟨i1, i2, i3, i4⟩ := i1
                  have ead := mk_add (g) (i)
                  exact Rgs.val rfl (Reg.wanted_free rfl) (.pointer (some ⟨g, i, none⟩)) (by have c := Reg.consts a; generalize a.eval = ρ at *; simp [execOp, go_sem, c.1, c.2, d5, d6, i1, i2, i3, i4, ead]) rfl (hW.upd (by decide))
                · intro a w1 live S E D C h0 hk hW
                  have d7 : a.eval (.tmp 29) = .pointer (some ⟨g, i, none⟩) := D 7 rfl _ _ rfl rfl
                  have l10 := Reg.not_live C h0 (j := 10) rfl rfl
                  have l11 := Reg.not_live C l10 (j := 11) rfl rfl
                  have l12 := Reg.not_live C l11 (j := 12) rfl rfl
                  have l27 := Reg.not_live C l12 (j := 27) rfl rfl
                  have l29 := Reg.not_live C l27 (j := 29) rfl rfl
                  have hw := hW.off l29
                  subst hw
                  have hc0 := f0
                  exact Rgs.val rfl (Reg.wanted_free rfl) (.slice (some ⟨y, 0, none⟩) n1 n1) (by have c := Reg.consts a; generalize a.eval = ρ at *; simp [execOp, go_sem, c.1, c.2, d7, hc0]) rfl (hW.upd (by decide))
                · intro a w1 live S E D C h0 hk hW
                  have e5 : a.eval (.tmp 5) = .int .i64 (j : Int) := E 5 rfl
                  exact Rgs.val rfl (Reg.wanted_free rfl) (.int .i64 (j : Int)) (by have c := Reg.consts a; generalize a.eval = ρ at *; simp [execOp, go_sem, c.1, c.2, e5]) rfl (hW.upd (by decide))
                · intro a w1 live S E D C h0 hk hW
                  have d8 : a.eval (.tmp 30) = .slice (some ⟨y, 0, none⟩) n1 n1 := D 8 rfl _ _ rfl rfl
                  have d9 : a.eval (.tmp 31) = .int .i64 (j : Int) := D 9 rfl _ _ rfl rfl
                  have i1 := HLT.out
                  obtain ⟨i1, i2, i3, i4⟩ := i1
                  have ead := mk_add (y) (j)
                  exact Rgs.val rfl (Reg.wanted_free rfl) (.pointer (some ⟨y, j, none⟩)) (by have c := Reg.consts a; generalize a.eval = ρ at *; simp [execOp, go_sem, c.1, c.2, d8, d9, i1, i2, i3, i4, ead]) rfl (hW.upd (by decide))
                · intro a w1 live S E D C h0 hk hW
                  have d10 : a.eval (.tmp 32) = .pointer (some ⟨y, j, none⟩) := D 10 rfl _ _ rfl rfl
                  have l12 := Reg.not_live C h0 (j := 12) rfl rfl
                  have l27 := Reg.not_live C l12 (j := 27) rfl rfl
                  have l29 := Reg.not_live C l27 (j := 29) rfl rfl
                  have hw := hW.off l29
                  subst hw
                  have hc0 := f1
                  exact Rgs.val rfl (Reg.wanted_free rfl) (.bool false) (by have c := Reg.consts a; generalize a.eval = ρ at *; simp [execOp, go_sem, c.1, c.2, d10, hc0]) rfl (hW.upd (by decide))
                · intro a w1 live S E D C h0 hk hW
                  have d11 : a.eval (.tmp 33) = .bool false := D 11 rfl _ _ rfl rfl
                  exact Rgs.val rfl (Reg.wanted_free rfl) (.bool false) (by have c := Reg.consts a; generalize a.eval = ρ at *; simp [execOp, go_sem, c.1, c.2, d11]) rfl (hW.upd (by decide))
                · intro a w1 live S E D C h0 hk hW
                  have dg : a.eval (.tmp 34) = .bool false := D 12 rfl _ _ rfl rfl
                  have e1 : a.eval (.tmp 1) = .pointer (some ⟨gb, 0, none⟩) := E 1 rfl
                  exact Rgs.val rfl (Reg.wanted_if rfl rfl dg rfl) (.pointer (some ⟨gb, 0, none⟩)) (by have c := Reg.consts a; generalize a.eval = ρ at *; simp [execOp, go_sem, c.1, c.2, e1]) rfl (hW.upd (by decide))
                · intro a w1 live S E D C h0 hk hW
                  have dg : a.eval (.tmp 34) = .bool false := D 12 rfl _ _ rfl rfl
                  have d13 : a.eval (.tmp 35) = .pointer (some ⟨gb, 0, none⟩) := D 13 rfl _ _ rfl rfl
                  have l16 := Reg.not_live C h0 (j := 16) rfl rfl
                  have l17 := Reg.not_live C l16 (j := 17) rfl rfl
                  have l18 := Reg.not_live C l17 (j := 18) rfl rfl
                  have l19 := Reg.not_live C l18 (j := 19) rfl rfl
                  have l26 := Reg.not_live C l19 (j := 26) rfl rfl
                  have l27 := Reg.not_live C l26 (j := 27) rfl rfl
                  have l29 := Reg.not_live C l27 (j := 29) rfl rfl
                  have hw := hW.off l29
                  subst hw
                  have hc0 := b0
                  exact Rgs.val rfl (Reg.wanted_if rfl rfl dg rfl) (.slice (some ad) n1 c1) (by have c := Reg.consts a; generalize a.eval = ρ at *; simp [execOp, go_sem, c.1, c.2, d13, hc0]) rfl (hW.upd (by decide))
                · intro a w1 live S E D C h0 hk hW
                  have dg : a.eval (.tmp 34) = .bool false := D 12 rfl _ _ rfl rfl
                  have e4 : a.eval (.tmp 4) = .int .i64 (i : Int) := E 4 rfl
                  exact Rgs.val rfl (Reg.wanted_if rfl rfl dg rfl) (.int .i64 (i : Int)) (by have c := Reg.consts a; generalize a.eval = ρ at *; simp [execOp, go_sem, c.1, c.2, e4]) rfl (hW.upd (by decide))
                · intro a w1 live S E D C h0 hk hW
                  have dg : a.eval (.tmp 34) = .bool false := D 12 rfl _ _ rfl rfl
                  have d14 : a.eval (.tmp 36) = .slice (some ad) n1 c1 := D 14 rfl _ _ rfl rfl
                  have d15 : a.eval (.tmp 37) = .int .i64 (i : Int) := D 15 rfl _ _ rfl rfl
                  have i1 := HLT.out
                  obtain ⟨i1, i2, i3, i4⟩ := i1
                  exact Rgs.val rfl (Reg.wanted_if rfl rfl dg rfl) (.pointer (some (ad.add (i * 11)))) (by have c := Reg.consts a; generalize a.eval = ρ at *; simp [execOp, go_sem, c.1, c.2, d14, d15, i1, i2, i3, i4]) rfl (hW.upd (by decide))
                · intro a w1 live S E D C h0 hk hW
                  have dg : a.eval (.tmp 34) = .bool false := D 12 rfl _ _ rfl rfl
                  have d16 : a.eval (.tmp 38) = .pointer (some (ad.add (i * 11))) := D 16 rfl _ _ rfl rfl
                  exact Rgs.val rfl (Reg.wanted_if rfl rfl dg rfl) (.pointer (some ⟨(ad.add (i * 11)).block, (ad.add (i * 11)).off + 3, none⟩)) (by have c := Reg.consts a; generalize a.eval = ρ at *; simp [execOp, go_sem, c.1, c.2, d16]) rfl (hW.upd (by decide))
                · intro a w1 live S E D C h0 hk hW
                  have dg : a.eval (.tmp 34) = .bool false := D 12 rfl _ _ rfl rfl
                  have d17 : a.eval (.tmp 39) = .pointer (some ⟨(ad.add (i * 11)).block, (ad.add (i * 11)).off + 3, none⟩) := D 17 rfl _ _ rfl rfl
                  have l19 := Reg.not_live C h0 (j := 19) rfl rfl
                  have l26 := Reg.not_live C l19 (j := 26) rfl rfl
                  have l27 := Reg.not_live C l26 (j := 27) rfl rfl
                  have l29 := Reg.not_live C l27 (j := 29) rfl rfl
                  have hw := hW.off l29
                  subst hw
                  have hc0 := d3
                  exact Rgs.val rfl (Reg.wanted_if rfl rfl dg rfl) (.bool true) (by have c := Reg.consts a; generalize a.eval = ρ at *; simp [execOp, go_sem, c.1, c.2, d17, hc0]) rfl (hW.upd (by decide))
                · intro a w1 live S E D C h0 hk hW
                  have dg : a.eval (.tmp 34) = .bool false := D 12 rfl _ _ rfl rfl
                  have d18 : a.eval (.tmp 40) = .bool true := D 18 rfl _ _ rfl rfl
                  exact Rgs.val rfl (Reg.wanted_if rfl rfl dg rfl) (.bool true) (by have c := Reg.consts a; generalize a.eval = ρ at *; simp [execOp, go_sem, c.1, c.2, d18]) rfl (hW.upd (by decide))
                · intro a w1 live S E D C h0 hk hW
                  have dg : a.eval (.tmp 41) = .bool true := D 19 rfl _ _ rfl rfl
                  have e1 : a.eval (.tmp 1) = .pointer (some ⟨gb, 0, none⟩) := E 1 rfl
                  exact Rgs.val rfl (Reg.wanted_if rfl rfl dg rfl) (.pointer (some ⟨gb, 0, none⟩)) (by have c := Reg.consts a; generalize a.eval = ρ at *; simp [execOp, go_sem, c.1, c.2, e1]) rfl (hW.upd (by decide))
                · intro a w1 live S E D C h0 hk hW
                  have dg : a.eval (.tmp 41) = .bool true := D 19 rfl _ _ rfl rfl
                  have d20 : a.eval (.tmp 42) = .pointer (some ⟨gb, 0, none⟩) := D 20 rfl _ _ rfl rfl
                  have l23 := Reg.not_live C h0 (j := 23) rfl rfl
                  have l24 := Reg.not_live C l23 (j := 24) rfl rfl
                  have l25 := Reg.not_live C l24 (j := 25) rfl rfl
                  have l26 := Reg.not_live C l25 (j := 26) rfl rfl
                  have l27 := Reg.not_live C l26 (j := 27) rfl rfl
                  have l29 := Reg.not_live C l27 (j := 29) rfl rfl
                  have hw := hW.off l29
                  subst hw
                  have hc0 := b0
                  exact Rgs.val rfl (Reg.wanted_if rfl rfl dg rfl) (.slice (some ad) n1 c1) (by have c := Reg.consts a; generalize a.eval = ρ at *; simp [execOp, go_sem, c.1, c.2, d20, hc0]) rfl (hW.upd (by decide))
                · intro a w1 live S E D C h0 hk hW
                  have dg : a.eval (.tmp 41) = .bool true := D 19 rfl _ _ rfl rfl
                  have e5 : a.eval (.tmp 5) = .int .i64 (j : Int) := E 5 rfl
                  exact Rgs.val rfl (Reg.wanted_if rfl rfl dg rfl) (.int .i64 (j : Int)) (by have c := Reg.consts a; generalize a.eval = ρ at *; simp [execOp, go_sem, c.1, c.2, e5]) rfl (hW.upd (by decide))
                · intro a w1 live S E D C h0 hk hW
                  have dg : a.eval (.tmp 41) = .bool true := D 19 rfl _ _ rfl rfl
                  have d21 : a.eval (.tmp 43) = .slice (some ad) n1 c1 := D 21 rfl _ _ rfl rfl
                  have d22 : a.eval (.tmp 44) = .int .i64 (j : Int) := D 22 rfl _ _ rfl rfl
                  have i1 := HLT.out
                  obtain ⟨i1, i2, i3, i4⟩ := i1
                  exact Rgs.val rfl (Reg.wanted_if rfl rfl dg rfl) (.pointer (some (ad.add (j * 11)))) (by have c := Reg.consts a; generalize a.eval = ρ at *; simp [execOp, go_sem, c.1, c.2, d21, d22, i1, i2, i3, i4]) rfl (hW.upd (by decide))
                · intro a w1 live S E D C h0 hk hW
                  have dg : a.eval (.tmp 41) = .bool true := D 19 rfl _ _ rfl rfl
                  have d23 : a.eval (.tmp 45) = .pointer (some (ad.add (j * 11))) := D 23 rfl _ _ rfl rfl
                  exact Rgs.val rfl (Reg.wanted_if rfl rfl dg rfl) (.pointer (some ⟨(ad.add (j * 11)).block, (ad.add (j * 11)).off + 3, none⟩)) (by have c := Reg.consts a; generalize a.eval = ρ at *; simp [execOp, go_sem, c.1, c.2, d23]) rfl (hW.upd (by decide))
                · intro a w1 live S E D C h0 hk hW
                  have dg : a.eval (.tmp 41) = .bool true := D 19 rfl _ _ rfl rfl
                  have d24 : a.eval (.tmp 46) = .pointer (some ⟨(ad.add (j * 11)).block, (ad.add (j * 11)).off + 3, none⟩) := D 24 rfl _ _ rfl rfl
                  have l26 := Reg.not_live C h0 (j := 26) rfl rfl
                  have l27 := Reg.not_live C l26 (j := 27) rfl rfl
                  have l29 := Reg.not_live C l27 (j := 29) rfl rfl
                  have hw := hW.off l29
                  subst hw
                  have hc0 := e3
                  exact Rgs.val rfl (Reg.wanted_if rfl rfl dg rfl) (.bool sc') (by have c := Reg.consts a; generalize a.eval = ρ at *; simp [execOp, go_sem, c.1, c.2, d24, hc0]) rfl (hW.upd (by decide))
                · intro a w1 live S E D C h0 hk hW
                  have dg : a.eval (.tmp 34) = .bool false := D 12 rfl _ _ rfl rfl
                  have d19 : a.eval (.tmp 41) = .bool true := D 19 rfl _ _ rfl rfl
                  have d25 : a.eval (.tmp 47) = .bool sc' := D 25 rfl _ _ rfl rfl
                  exact Rgs.val rfl (Reg.wanted_if rfl rfl dg rfl) (.bool sc') (by have c := Reg.consts a; generalize a.eval = ρ at *; simp [execOp, go_sem, c.1, c.2, d19, d25]) rfl (hW.upd (by decide))
                · intro a w1 live S E D C h0 hk hW
                  have d12 : a.eval (.tmp 34) = .bool false := D 12 rfl _ _ rfl rfl
                  have d26 : a.eval (.tmp 48) = .bool sc' := D 26 rfl _ _ rfl rfl
                  exact Rgs.val rfl (Reg.wanted_free rfl) (.bool sc') (by have c := Reg.consts a; generalize a.eval = ρ at *; simp [execOp, go_sem, c.1, c.2, d12, d26]) rfl (hW.upd (by decide))
                · intro a w1 live S E D C h0 hk hW
                  have d3 : a.eval (.tmp 25) = .slice (some ⟨y, 0, none⟩) n1 n1 := D 3 rfl _ _ rfl rfl
                  have d4 : a.eval (.tmp 26) = .int .i64 (j : Int) := D 4 rfl _ _ rfl rfl
                  have i1 := HLT.out
                  obtain ⟨i1, i2, i3, i4⟩ := i1
                  have ead := mk_add (y) (j)
                  exact Rgs.val rfl (Reg.wanted_free rfl) (.pointer (some ⟨y, j, none⟩)) (by have c := Reg.consts a; generalize a.eval = ρ at *; simp [execOp, go_sem, c.1, c.2, d3, d4, i1, i2, i3, i4, ead]) rfl (hW.upd (by decide))
                · intro a w1 live S E D C h0 hk hW
                  have d28 : a.eval (.tmp 50) = .pointer (some ⟨y, j, none⟩) := D 28 rfl _ _ rfl rfl
                  have d27 : a.eval (.tmp 49) = .bool sc' := D 27 rfl _ _ rfl rfl
                  have hw := hW.off h0
                  subst hw
                  have hc0 := f1
                  have hfz := f2
                  refine Rgs.store rfl (Reg.wanted_free rfl) _ (by have c := Reg.consts a; generalize a.eval = ρ at *; simp [execOp, go_sem, c.1, c.2, d28, d27, hc0, hfz]) rfl (Rgs.StW.put _ _ _ _ _) (fun j v _ h => h)
              · intro a w3 live hs hd E D' Hl hW
                rw [Rgs.act_ws a _ _ hs hd E [22, 23, 24, 25, 26, 27, 28, 29, 30, 31, 32, 33, 34, 35, 36, 37, 38, 39, 40, 41, 42, 43, 44, 45, 46, 47, 48, 49, 50] (by kernel_rfl)]
                simp only [List.foldl, List.setIfInBounds_toArray, List.set_cons_succ, List.set_cons_zero]
                have hw := Rgs.StW.on hW (Hl 29 (by decide))
                subst hw
                clear E D' Hl hW
                generalize a.eval = ρ
                clear a hs hd f0 f1 f2 b0 b1 b2 d3 d4 e3
                go_wp2_with fail
                go_roundw
                case rel => exact ⟨j + 1, by omega, by go_num, HST.out _ rfl⟩
                case measure => simp [intOf]; omega
        · have hjni : ¬ (j : Int) < (n1 : Int) := by omega
          obtain rfl : n1 = j := by omega
          have HM2 := Lib.hid (hM.congr fun a b _ hb => mQ_row hb)
          have HBX := Lib.hid hb
          clear hM hb
          go_wp2_with fail
          go_roundw
          case rel => exact ⟨i + 1, by omega, by go_num, HM2.out, HBX.out⟩
          case measure => simp [intOf]; omega
    · have hlti : ¬ (i : Int) < (n1 : Int) := by omega
      obtain rfl : n1 = i := by omega
      have HM := Lib.hid (hM.congr (m' := fun a b => mQ (fun a b => decide (a = b)) (schQ P) n1 0 a b || dC n1 ((C.take 0).map chOf) a b) fun a b _ _ => by simp [dC])
      have HBB := Lib.hid hb
      obtain ⟨b0, b1, b2⟩ := (HBOX.out.below (HB.out ▸ hb) (HB.out ▸ (HBOX.out.lt))).three
      clear hM hb
      go_wp2_with fail
      clear b0 b1 b2
      go_loopw [7, 56] (fun _ s wx => ∃ k : Nat, k ≤ n2 ∧ s = .int .i64 k ∧ Mat wx B g n1 n1 G (fun a b => mQ (fun a b => decide (a = b)) (schQ P) n1 0 a b || dC n1 ((C.take k).map chOf) a b) ∧ Below B W wx) (fun _ s _ => n2 - (intOf s).toNat)
      case atStart => exact ⟨0, by omega, rfl, HM.out, HBB.out⟩
      case round =>
        obtain ⟨k, hk, rfl, hM, hb⟩ := hrel
        clear HM HBB
        by_cases hkn : k < n2
        · have hkni : (k : Int) < (n2 : Int) := by omega
          obtain ⟨ad, x, rfl, had, hx, c0, ck⟩ := (HCF.out.c.below (HB.out ▸ hb)).at_ cc_len (by omega) hkn
          have d0 := c0 _ rfl
          have d1 := ck 1 _ (by omega) rfl
          have d2 := ck 2 _ (by omega) rfl
          have d3 := ck 3 _ (by omega) rfl
          have d4 := ck 4 _ (by omega) rfl
          have d5 := ck 5 _ (by omega) rfl
          have HOUT : Hid ((inP n1 (chOf x).from_ && inP n1 (chOf x).to_) = false → ∀ a b, (mQ (fun a b => decide (a = b)) (schQ P) n1 0 a b || dC n1 ((C.take k).map chOf) a b) = (mQ (fun a b => decide (a = b)) (schQ P) n1 0 a b || dC n1 ((C.take (k + 1)).map chOf) a b)) := Lib.hid fun h a b => dC_out hx h _ a b
          have HIN := Lib.hid fun (f t : Nat) (hf : (chOf x).from_ = (f : Int)) (ht : (chOf x).to_ = (t : Int)) (h1 : f < n1) (h2 : t < n1) => dC_in hx hf ht h1 h2 (mQ (fun a b => decide (a = b)) (schQ P) n1 0)
          obtain ⟨xf, xt, xq, xc, xm, xl⟩ := x
          dsimp only [chOf] at d0 d1 d2 d3 d4 d5 HOUT HIN
          have hbx := bl1 wr (.cells #[.int .i64 xf, .int .i64 xt, .bool xq, .int .i64 xc, .int .u32 xm, .int .i64 xl] 70)
          have hB1 : B ≤ wr.heap.size := by have := hb.size; have := HB.out; omega
          have hb1 := hb.trans (hbx.mono hB1)
          have f0 : (wr.alloc (.cells #[.int .i64 xf, .int .i64 xt, .bool xq, .int .i64 xc, .int .u32 xm, .int .i64 xl] 70)).cell? ⟨wr.heap.size, 0, none⟩ = some (.int .i64 xf) := World.cell?_alloc_mark _ _ _ _ _
          have f1 : (wr.alloc (.cells #[.int .i64 xf, .int .i64 xt, .bool xq, .int .i64 xc, .int .u32 xm, .int .i64 xl] 70)).cell? ⟨wr.heap.size, 1, none⟩ = some (.int .i64 xt) := World.cell?_alloc_mark _ _ _ _ _
          have f2 : (wr.alloc (.cells #[.int .i64 xf, .int .i64 xt, .bool xq, .int .i64 xc, .int .u32 xm, .int .i64 xl] 70)).cell? ⟨wr.heap.size, 2, none⟩ = some (.bool xq) := World.cell?_alloc_mark _ _ _ _ _
          have hgx : wr.heap.size < (wr.alloc (.cells #[.int .i64 xf, .int .i64 xt, .bool xq, .int .i64 xc, .int .u32 xm, .int .i64 xl] 70)).heap.size := by simp
          have hne : g ≠ wr.heap.size ∧ ∀ i, i < n1 → G i ≠ wr.heap.size := by
            obtain ⟨f, hf, _⟩ := hM.outer
            have := hf.lt
            exact ⟨by omega, fun i hi => by have := (hM.rows i hi).lt; omega⟩
          have HM := Lib.hid (hM.on hbx)
          have HBB := Lib.hid hb1
          clear hM hb hx c0 ck hbx hb1 hB1
          go_upto_region 14 with fail
          generalize wr.alloc (.cells #[.int .i64 xf, .int .i64 xt, .bool xq, .int .i64 xc, .int .u32 xm, .int .i64 xl] 70) = W1 at HM HBB f0 f1 f2 hgx ⊢
          generalize wr.heap.size = gx at f0 f1 f2 hgx hne ⊢
          clear d0 d1 d2 d3 d4 d5
          obtain ⟨b0, b1, b2⟩ := (HBOX.out.below (HB.out ▸ HBB.out) (HB.out ▸ (HBOX.out.lt))).three
          go_wp2_with fail
          refine (in_any A1 (some ad) A3 n1 n2 n3 c1 c2 c3 xf W1).mono ?_
          rintro e w4 ⟨rfl, hb4⟩
          have HM4 := Lib.hid (HM.out.on hb4)
          have HB4 := Lib.hid (HBB.out.trans (hb4.mono (by have h1 := HBB.out.size; have h2 := HB.out; omega)))
          have f0 := (hb4.cell (p := ⟨gx, 0, none⟩) hgx).trans f0
          have f1 := (hb4.cell (p := ⟨gx, 1, none⟩) hgx).trans f1
          have f2 := (hb4.cell (p := ⟨gx, 2, none⟩) hgx).trans f2
          have hgx := Nat.lt_of_lt_of_le hgx hb4.size
          obtain ⟨b0, b1, b2⟩ := (HBOX.out.below (HB.out ▸ HB4.out) (HB.out ▸ (HBOX.out.lt))).three
          clear HM HBB hb4
          cases hif : inP n1 xf with
          | false =>
            rw [hif] at HOUT
            have HM5 := Lib.hid (HM4.out.congr fun a b _ _ => HOUT.out rfl a b)
            go_wp2_with fail
            go_roundw
            case rel => exact ⟨k + 1, by omega, by go_num, HM5.out, HB4.out⟩
            case measure => simp [intOf]; omega
          | true =>
            go_wp2_with fail
            refine (in_any A1 (some ad) A3 n1 n2 n3 c1 c2 c3 xt w4).mono ?_
            rintro e w5 ⟨rfl, hb5⟩
            have HM5 := Lib.hid (HM4.out.on hb5)
            have HB5 := Lib.hid (HB4.out.trans (hb5.mono (by have h1 := HB4.out.size; have h2 := HB.out; omega)))
            have f0 := (hb5.cell (p := ⟨gx, 0, none⟩) hgx).trans f0
            have f1 := (hb5.cell (p := ⟨gx, 1, none⟩) hgx).trans f1
            have f2 := (hb5.cell (p := ⟨gx, 2, none⟩) hgx).trans f2
            have hgx := Nat.lt_of_lt_of_le hgx hb5.size
            clear HM4 HB4 hb5 b0 b1 b2
            cases hit : inP n1 xt with
            | false =>
              rw [hif, hit] at HOUT
              have HM6 := Lib.hid (HM5.out.congr fun a b _ _ => HOUT.out rfl a b)
              go_wp2_with fail
              go_roundw
              case rel => exact ⟨k + 1, by omega, by go_num, HM6.out, HB5.out⟩
              case measure => simp [intOf]; omega
            | true =>
              rw [inP_iff] at hif hit
              obtain ⟨f, rfl⟩ : ∃ f : Nat, xf = f := ⟨xf.toNat, by omega⟩
              obtain ⟨t, rfl⟩ : ∃ t : Nat, xt = t := ⟨xt.toNat, by omega⟩
              have hfn : f < n1 := by omega
              have htn : t < n1 := by omega
              have hfi : (f : Int) < (n1 : Int) := by omega
              have hti : (t : Int) < (n1 : Int) := by omega
              have HIN := Lib.hid (HIN.out f t rfl rfl hfn htn)
              clear hif hit HOUT
              have HM5d := Lib.hid (HM5.out.on (w' := w5.drew) (Below.refl _ _).drew)
              obtain ⟨x, hx, hxg, hBx, hgl, hxl, e0, e1, e2, hst⟩ := HM5d.out.at_ (i := f) (j := t) hfn (Nat.le_refl _) htn
              obtain ⟨hM2, hB2⟩ := hst true
              have hxgx : x ≠ gx := by rw [← hx]; exact hne.2 f hfn
              obtain ⟨y, hy, hyg, hBy, hgl2, hyl, k0, k1, k2, hst2⟩ := hM2.at_ (i := t) (j := f) htn (Nat.le_refl _) hfn
              obtain ⟨hM3, hB3⟩ := hst2 true
              obtain ⟨y', hy', _, _, _, _, k0', _⟩ := HM5d.out.at_ (i := t) (j := f) htn (Nat.le_refl _) hfn
              obtain rfl : y = y' := by rw [← hy, ← hy']
              have hygx : y ≠ gx := by rw [← hy]; exact hne.2 t htn
              have HFA : Hid (∀ w', (w' = w5.drew ∨ w' = w5.drew.setCell ⟨x, t, none⟩ (.bool true) ∨ w' = (w5.drew.setCell ⟨x, t, none⟩ (.bool true)).setCell ⟨y, f, none⟩ (.bool true)) → w'.cell? ⟨gx, 0, none⟩ = some (.int .i64 (f : Int)) ∧ w'.cell? ⟨gx, 1, none⟩ = some (.int .i64 (t : Int)) ∧ w'.cell? ⟨g, f, none⟩ = some (.slice (some ⟨x, 0, none⟩) n1 n1) ∧ w'.cell? ⟨g, t, none⟩ = some (.slice (some ⟨y, 0, none⟩) n1 n1)) := Lib.hid fun w' hw => by
                have n1' : ∀ (o o' : Nat), (⟨gx, o, none⟩ : Addr) ≠ ⟨x, o', none⟩ := fun o o' e => by injection e with e; exact hxgx e.symm
                have n2' : ∀ (o o' : Nat), (⟨gx, o, none⟩ : Addr) ≠ ⟨y, o', none⟩ := fun o o' e => by injection e with e; exact hygx e.symm
                have n3' : ∀ (o o' : Nat), (⟨g, o, none⟩ : Addr) ≠ ⟨x, o', none⟩ := fun o o' e => by injection e with e; exact hxg e.symm
                have n4' : ∀ (o o' : Nat), (⟨g, o, none⟩ : Addr) ≠ ⟨y, o', none⟩ := fun o o' e => by injection e with e; exact hyg e.symm
                rcases hw with rfl | rfl | rfl
                · exact ⟨f0, f1, e0, k0'⟩
                · refine ⟨?_, ?_, ?_, ?_⟩
                  · rw [World.cell?_setCell_other _ _ _ _ (by first | exact (n1' _ _).symm | exact n1' _ _)]; exact f0
                  · rw [World.cell?_setCell_other _ _ _ _ (by first | exact (n1' _ _).symm | exact n1' _ _)]; exact f1
                  · rw [World.cell?_setCell_other _ _ _ _ (by first | exact (n3' _ _).symm | exact n3' _ _)]; exact e0
                  · rw [World.cell?_setCell_other _ _ _ _ (by first | exact (n3' _ _).symm | exact n3' _ _)]; exact k0'
                · refine ⟨?_, ?_, ?_, ?_⟩
                  · rw [World.cell?_setCell_other _ _ _ _ (by first | exact (n2' _ _).symm | exact n2' _ _), World.cell?_setCell_other _ _ _ _ (by first | exact (n1' _ _).symm | exact n1' _ _)]; exact f0
                  · rw [World.cell?_setCell_other _ _ _ _ (by first | exact (n2' _ _).symm | exact n2' _ _), World.cell?_setCell_other _ _ _ _ (by first | exact (n1' _ _).symm | exact n1' _ _)]; exact f1
                  · rw [World.cell?_setCell_other _ _ _ _ (by first | exact (n4' _ _).symm | exact n4' _ _), World.cell?_setCell_other _ _ _ _ (by first | exact (n3' _ _).symm | exact n3' _ _)]; exact e0
                  · rw [World.cell?_setCell_other _ _ _ _ (by first | exact (n4' _ _).symm | exact n4' _ _), World.cell?_setCell_other _ _ _ _ (by first | exact (n3' _ _).symm | exact n3' _ _)]; exact k0'
              have HM6 := Lib.hid (hM3.congr fun a b _ _ => HIN.out a b)
              have HB6 := Lib.hid (hB3 _ (hB2 _ HB5.out.drew))
              have HLT : Hid (f < n1 ∧ t < n1 ∧ (f : Int) < (n1 : Int) ∧ (t : Int) < (n1 : Int)) := Lib.hid ⟨hfn, htn, hfi, hti⟩
              clear hst hst2 hM2 hB2 hM3 hB3 hgl hgl2 hxl hyl hBx hBy f2 k0
              generalize (mQ (fun a b => decide (a = b)) (schQ P) n1 0 f t || dC n1 ((C.take k).map chOf) f t) = v1 at e1
              generalize put2 (fun a b => mQ (fun a b => decide (a = b)) (schQ P) n1 0 a b || dC n1 ((C.take k).map chOf) a b) f t true t f = v2 at k1
              go_wp2_with fail
              refine Rgs.region (by kernel_rfl) (by kernel_rfl) (fun (opn : Nat) (vl : Value) (_ : World) => match opn with | 0 => vl = .slice (some ⟨g, 0, none⟩) n1 n1 | 1 => vl = .pointer (some ⟨gx, 0, none⟩) | 2 => vl = .int .i64 (f : Int) | 3 => vl = .pointer (some ⟨g, f, none⟩) | 4 => vl = .slice (some ⟨x, 0, none⟩) n1 n1 | 5 => vl = .pointer (some ⟨gx, 1, none⟩) | 6 => vl = .int .i64 (t : Int) | 7 => vl = .slice (some ⟨g, 0, none⟩) n1 n1 | 8 => vl = .pointer (some ⟨gx, 1, none⟩) | 9 => vl = .int .i64 (t : Int) | 10 => vl = .pointer (some ⟨g, t, none⟩) | 11 => vl = .slice (some ⟨y, 0, none⟩) n1 n1 | 12 => vl = .pointer (some ⟨gx, 0, none⟩) | 13 => vl = .int .i64 (f : Int) | 14 => vl = .pointer (some ⟨x, t, none⟩) | 15 => vl = undef | 16 => vl = .pointer (some ⟨y, f, none⟩) | 17 => vl = undef | _ => True) (fun live _ w' => Rgs.StW2 w5.drew 15 17 ⟨x, t, none⟩ ⟨y, f, none⟩ (.bool true) (.bool true) live w') rfl (Rgs.steps_of ?_) ?_
              · refine ⟨?_, ?_, ?_, ?_, ?_, ?_, ?_, ?_, ?_, ?_, ?_, ?_, ?_, ?_, ?_, ?_, ?_, ?_, trivial⟩
                · intro a w1 live S E D C h0 hk hW
                  have e3 : a.eval (.tmp 3) = .slice (some ⟨g, 0, none⟩) n1 n1 := E 3 rfl
                  exact Rgs.val rfl (Reg.wanted_free rfl) (.slice (some ⟨g, 0, none⟩) n1 n1) (by have c := Reg.consts a; generalize a.eval = ρ at *; simp [execOp, go_sem, c.1, c.2, e3]) rfl (hW.upd (by decide) (by decide))
                · intro a w1 live S E D C h0 hk hW
                  have e7 : a.eval (.tmp 7) = .pointer (some ⟨gx, 0, none⟩) := E 7 rfl
                  exact Rgs.val rfl (Reg.wanted_free rfl) (.pointer (some ⟨gx, 0, none⟩)) (by have c := Reg.consts a; generalize a.eval = ρ at *; simp [execOp, go_sem, c.1, c.2, e7]) rfl (hW.upd (by decide) (by decide))
                · intro a w1 live S E D C h0 hk hW
                  have d1 : a.eval (.tmp 71) = .pointer (some ⟨gx, 0, none⟩) := D 1 rfl _ _ rfl rfl
                  have hc0 := (HFA.out w1 hW.any).1
                  exact Rgs.val rfl (Reg.wanted_free rfl) (.int .i64 (f : Int)) (by have c := Reg.consts a; generalize a.eval = ρ at *; simp [execOp, go_sem, c.1, c.2, d1, hc0]) rfl (hW.upd (by decide) (by decide))
                · intro a w1 live S E D C h0 hk hW
                  have d0 : a.eval (.tmp 70) = .slice (some ⟨g, 0, none⟩) n1 n1 := D 0 rfl _ _ rfl rfl
                  have d2 : a.eval (.tmp 72) = .int .i64 (f : Int) := D 2 rfl _ _ rfl rfl
                  have i1 := HLT.out
                  obtain ⟨i1, i2, i3, i4⟩ := i1
                  have ead := mk_add (g) (f)
                  exact Rgs.val rfl (Reg.wanted_free rfl) (.pointer (some ⟨g, f, none⟩)) (by have c := Reg.consts a; generalize a.eval = ρ at *; simp [execOp, go_sem, c.1, c.2, d0, d2, i1, i2, i3, i4, ead]) rfl (hW.upd (by decide) (by decide))
                · intro a w1 live S E D C h0 hk hW
                  have d3 : a.eval (.tmp 73) = .pointer (some ⟨g, f, none⟩) := D 3 rfl _ _ rfl rfl
                  have hc0 := (HFA.out w1 hW.any).2.2.1
                  exact Rgs.val rfl (Reg.wanted_free rfl) (.slice (some ⟨x, 0, none⟩) n1 n1) (by have c := Reg.consts a; generalize a.eval = ρ at *; simp [execOp, go_sem, c.1, c.2, d3, hc0]) rfl (hW.upd (by decide) (by decide))
                · intro a w1 live S E D C h0 hk hW
                  have e7 : a.eval (.tmp 7) = .pointer (some ⟨gx, 0, none⟩) := E 7 rfl
                  exact Rgs.val rfl (Reg.wanted_free rfl) (.pointer (some ⟨gx, 1, none⟩)) (by have c := Reg.consts a; generalize a.eval = ρ at *; simp [execOp, go_sem, c.1, c.2, e7]) rfl (hW.upd (by decide) (by decide))
                · intro a w1 live S E D C h0 hk hW
                  have d5 : a.eval (.tmp 75) = .pointer (some ⟨gx, 1, none⟩) := D 5 rfl _ _ rfl rfl
                  have hc0 := (HFA.out w1 hW.any).2.1
                  exact Rgs.val rfl (Reg.wanted_free rfl) (.int .i64 (t : Int)) (by have c := Reg.consts a; generalize a.eval = ρ at *; simp [execOp, go_sem, c.1, c.2, d5, hc0]) rfl (hW.upd (by decide) (by decide))
                · intro a w1 live S E D C h0 hk hW
                  have e3 : a.eval (.tmp 3) = .slice (some ⟨g, 0, none⟩) n1 n1 := E 3 rfl
                  exact Rgs.val rfl (Reg.wanted_free rfl) (.slice (some ⟨g, 0, none⟩) n1 n1) (by have c := Reg.consts a; generalize a.eval = ρ at *; simp [execOp, go_sem, c.1, c.2, e3]) rfl (hW.upd (by decide) (by decide))
                · intro a w1 live S E D C h0 hk hW
                  have e7 : a.eval (.tmp 7) = .pointer (some ⟨gx, 0, none⟩) := E 7 rfl
                  exact Rgs.val rfl (Reg.wanted_free rfl) (.pointer (some ⟨gx, 1, none⟩)) (by have c := Reg.consts a; generalize a.eval = ρ at *; simp [execOp, go_sem, c.1, c.2, e7]) rfl (hW.upd (by decide) (by decide))
                · intro a w1 live S E D C h0 hk hW
                  have d8 : a.eval (.tmp 78) = .pointer (some ⟨gx, 1, none⟩) := D 8 rfl _ _ rfl rfl
                  have hc0 := (HFA.out w1 hW.any).2.1
                  exact Rgs.val rfl (Reg.wanted_free rfl) (.int .i64 (t : Int)) (by have c := Reg.consts a; generalize a.eval = ρ at *; simp [execOp, go_sem, c.1, c.2, d8, hc0]) rfl (hW.upd (by decide) (by decide))
                · intro a w1 live S E D C h0 hk hW
                  have d7 : a.eval (.tmp 77) = .slice (some ⟨g, 0, none⟩) n1 n1 := D 7 rfl _ _ rfl rfl
                  have d9 : a.eval (.tmp 79) = .int .i64 (t : Int) := D 9 rfl _ _ rfl rfl
                  have i1 := HLT.out
                  obtain ⟨i1, i2, i3, i4⟩ := i1
                  have ead := mk_add (g) (t)
                  exact Rgs.val rfl (Reg.wanted_free rfl) (.pointer (some ⟨g, t, none⟩)) (by have c := Reg.consts a; generalize a.eval = ρ at *; simp [execOp, go_sem, c.1, c.2, d7, d9, i1, i2, i3, i4, ead]) rfl (hW.upd (by decide) (by decide))
                · intro a w1 live S E D C h0 hk hW
                  have d10 : a.eval (.tmp 80) = .pointer (some ⟨g, t, none⟩) := D 10 rfl _ _ rfl rfl
                  have hc0 := (HFA.out w1 hW.any).2.2.2
                  exact Rgs.val rfl (Reg.wanted_free rfl) (.slice (some ⟨y, 0, none⟩) n1 n1) (by have c := Reg.consts a; generalize a.eval = ρ at *; simp [execOp, go_sem, c.1, c.2, d10, hc0]) rfl (hW.upd (by decide) (by decide))
                · intro a w1 live S E D C h0 hk hW
                  have e7 : a.eval (.tmp 7) = .pointer (some ⟨gx, 0, none⟩) := E 7 rfl
                  exact Rgs.val rfl (Reg.wanted_free rfl) (.pointer (some ⟨gx, 0, none⟩)) (by have c := Reg.consts a; generalize a.eval = ρ at *; simp [execOp, go_sem, c.1, c.2, e7]) rfl (hW.upd (by decide) (by decide))
                · intro a w1 live S E D C h0 hk hW
                  have d12 : a.eval (.tmp 82) = .pointer (some ⟨gx, 0, none⟩) := D 12 rfl _ _ rfl rfl
                  have hc0 := (HFA.out w1 hW.any).1
                  exact Rgs.val rfl (Reg.wanted_free rfl) (.int .i64 (f : Int)) (by have c := Reg.consts a; generalize a.eval = ρ at *; simp [execOp, go_sem, c.1, c.2, d12, hc0]) rfl (hW.upd (by decide) (by decide))
                · intro a w1 live S E D C h0 hk hW
                  have d4 : a.eval (.tmp 74) = .slice (some ⟨x, 0, none⟩) n1 n1 := D 4 rfl _ _ rfl rfl
                  have d6 : a.eval (.tmp 76) = .int .i64 (t : Int) := D 6 rfl _ _ rfl rfl
                  have i1 := HLT.out
                  obtain ⟨i1, i2, i3, i4⟩ := i1
                  have ead := mk_add (x) (t)
                  exact Rgs.val rfl (Reg.wanted_free rfl) (.pointer (some ⟨x, t, none⟩)) (by have c := Reg.consts a; generalize a.eval = ρ at *; simp [execOp, go_sem, c.1, c.2, d4, d6, i1, i2, i3, i4, ead]) rfl (hW.upd (by decide) (by decide))
                · intro a w1 live S E D C h0 hk hW
                  have d14 : a.eval (.tmp 84) = .pointer (some ⟨x, t, none⟩) := D 14 rfl _ _ rfl rfl
                  have l17 := Reg.not_live C h0 (j := 17) rfl rfl
                  have hw := hW.off h0 l17
                  subst hw
                  refine Rgs.store rfl (Reg.wanted_free rfl) _ (by have c := Reg.consts a; generalize a.eval = ρ at *; simp [execOp, go_sem, c.1, c.2, d14, e1, e2]) rfl (Rgs.StW2.put1 _ (by decide) _ _ _ _ _ l17) (fun j v _ h => h)
                · intro a w1 live S E D C h0 hk hW
                  have d11 : a.eval (.tmp 81) = .slice (some ⟨y, 0, none⟩) n1 n1 := D 11 rfl _ _ rfl rfl
                  have d13 : a.eval (.tmp 83) = .int .i64 (f : Int) := D 13 rfl _ _ rfl rfl
                  have i1 := HLT.out
                  obtain ⟨i1, i2, i3, i4⟩ := i1
                  have ead := mk_add (y) (f)
                  exact Rgs.val rfl (Reg.wanted_free rfl) (.pointer (some ⟨y, f, none⟩)) (by have c := Reg.consts a; generalize a.eval = ρ at *; simp [execOp, go_sem, c.1, c.2, d11, d13, i1, i2, i3, i4, ead]) rfl (hW.upd (by decide) (by decide))
                · intro a w1 live S E D C h0 hk hW
                  have d16 : a.eval (.tmp 85) = .pointer (some ⟨y, f, none⟩) := D 16 rfl _ _ rfl rfl
                  have hw := hW.mid (hk 15 rfl) h0
                  subst hw
                  refine Rgs.store rfl (Reg.wanted_free rfl) ((w5.drew.setCell ⟨x, t, none⟩ (.bool true)).setCell ⟨y, f, none⟩ (.bool true)) ?_ rfl (Rgs.StW2.put2 _ _ _ _ _ _ _ _) (fun j v _ h => h)
                  obtain ⟨wz, hwz⟩ : ∃ wz, wz = w5.drew.setCell ⟨x, t, none⟩ (.bool true) := ⟨_, rfl⟩
                  rw [← hwz] at k1 k2 ⊢
                  clear hwz
                  have c := Reg.consts a
                  generalize a.eval = ρ at *
                  simp [execOp, go_sem, c.1, c.2, d16, k1, k2]
              · intro a w3 live hs hd E D' Hl hW
                rw [Rgs.act_ws a _ _ hs hd E [70, 71, 72, 73, 74, 75, 76, 77, 78, 79, 80, 81, 82, 83, 84, 85] (by kernel_rfl)]
                simp only [List.foldl, List.setIfInBounds_toArray, List.set_cons_succ, List.set_cons_zero]
                have hw := hW.on (Hl 17 (by decide))
                subst hw
                clear E D' Hl hW e1 e2 k1 k2
                generalize a.eval = ρ
                clear a hs hd
                go_wp2_with fail
                go_roundw
                case rel => exact ⟨k + 1, by omega, by go_num, HM6.out, HB6.out⟩
                case measure => simp [intOf]; omega
        · have hkni : ¬ (k : Int) < (n2 : Int) := by omega
          have hk2 : n2 ≤ k := by omega
          have hfin := (hM.congr (m' := depF (P.map ptOf) (C.map chOf)) fun a b ha _ => by
            rw [mQ_all ha, List.take_of_length_le (by rw [HCF.out.c.len]; exact hk2)]
            unfold depF dC schQ
            rw [List.length_map, HLEN.out]).weak (B' := w.heap.size) (by rw [HB.out]; exact HB0.out.size)
          have hbf := HB0.out.trans (hb.mono (by rw [HB.out]; exact HB0.out.size))
          have HFIN := Lib.hid hfin
          clear hM hb hfin
          go_wp2_with fail
          go_ret
          exact ⟨g, G, rfl, HFIN.out, hbf⟩
end Go.Proofs.Ytoaocdmcjjohgaa

/- Whether a move fits: by the document's own answer. -/
namespace Go.Proofs.Ytoaocdmcjjohgaa
open Go.RowKit Tab
set_option linter.unusedSimpArgs false
set_option linter.unusedVariables false

def MtX (n : Nat) (m : Nat → Nat → Bool) (v : Value) (w : World) : Prop := ∃ A c, v = .slice A n c ∧ n ≤ c ∧ RdM w w.heap.size A n (fun _ => n) m
theorem MtX.on {n : Nat} {m : Nat → Nat → Bool} {v : Value} {w w' : World} (h : MtX n m v w) (hb : Below w.heap.size w w') : MtX n m v w' := by
  obtain ⟨A, c, h1, h2, h3⟩ := h
  exact ⟨A, c, h1, h2, h3.on hb⟩
def RowX (R : List Rn) (v : Value) (w : World) : Prop := ∃ A c, v = .slice A R.length c ∧ R.length ≤ c ∧ RdR w w.heap.size A R.length R
theorem RowX.on {R : List Rn} {v : Value} {w w' : World} (h : RowX R v w) (hb : Below w.heap.size w w') : RowX R v w' := by
  obtain ⟨A, c, h1, h2, h3⟩ := h
  exact ⟨A, c, h1, h2, h3.on hb⟩
theorem doZ_len (L : List Rn) (I J : Int) (rt : Bool) : (doZ L I J rt).length ≤ L.length := by
  unfold doZ
  split
  · exact Nat.le_trans (tidy_le _) (by rw [mv_len]; exact Nat.le_refl _)
  · exact Nat.le_refl _
theorem doZ_ticks (L : List Rn) (I J : Int) (rt : Bool) : ticks (doZ L I J rt) = ticks L := by
  unfold doZ
  split
  · rename_i h
    rw [ticks_tidy]
    have h1 : I.toNat < J.toNat := by omega
    have h2 : J.toNat < L.length := by omega
    exact mv_ticks h1 (List.getElem?_eq_getElem (by omega)) (List.getElem?_eq_getElem h2) rt
  · rfl
/-- Does a move fit? -/
def fitZ (P : List PtV) (C : List ChV) (L : List Rn) (I J : Int) (rt : Bool) : Bool := mayZ (depW P.length (depF (P.map ptOf) (C.map chOf))) (L.map Rn.p) I J && decide (holdsF (wordsL (doZ L I J rt)) P C = 0)
set_option maxRecDepth 100000 in
set_option maxHeartbeats 4000000 in
theorem rfits_any (A1 A2 A3 A : Option Addr) (n1 n2 n3 n c1 c2 c3 c : Nat) (P : List PtV) (C : List ChV) (L : List Rn) (I J : Int) (rt : Bool) (w : World) (hCf : CfW w w.heap.size A1 A2 n1 n2 P C) (hL : RdR w w.heap.size A n L)
    (q1 : n1 ≤ 1024) (q2 : n2 ≤ 1048576) (hc : n ≤ c) (hn : n ≤ 1048576) (ht : ticks L ≤ 8192) (hz : ∀ x ∈ P, In64 x.per) (hps : ∀ r ∈ L, -1 ≤ r.p ∧ r.p ≤ 1024) :
    Calls Try.prog 30 #[.agg #[.slice A1 n1 c1, .slice A2 n2 c2, .slice A3 n3 c3], .slice A n c, .agg #[.int .i64 I, .int .i64 J, .bool rt]] w (Ans (.bool (fitZ P C L I J rt)) w) := by
  have hb1 := bl1 w (.cells #[.slice A1 n1 c1, .slice A2 n2 c2, .slice A3 n3 c3] 31)
  have hb2 := bl1 (w.alloc (.cells #[.slice A1 n1 c1, .slice A2 n2 c2, .slice A3 n3 c3] 31)) (.cells #[.int .i64 I, .int .i64 J, .bool rt] 76)
  have hbb := hb1.trans (hb2.mono hb1.size)
  have hbox := (box_vec w (.slice A1 n1 c1) (.slice A2 n2 c2) (.slice A3 n3 c3) 31).on hb2
  have hsz : (w.alloc (.cells #[.slice A1 n1 c1, .slice A2 n2 c2, .slice A3 n3 c3] 31)).heap.size = w.heap.size + 1 := by simp
  have f0 : ((w.alloc (.cells #[.slice A1 n1 c1, .slice A2 n2 c2, .slice A3 n3 c3] 31)).alloc (.cells #[.int .i64 I, .int .i64 J, .bool rt] 76)).cell? ⟨(w.alloc (.cells #[.slice A1 n1 c1, .slice A2 n2 c2, .slice A3 n3 c3] 31)).heap.size, 0, none⟩ = some (.int .i64 I) := World.cell?_alloc_mark _ _ _ _ _
  have f1 : ((w.alloc (.cells #[.slice A1 n1 c1, .slice A2 n2 c2, .slice A3 n3 c3] 31)).alloc (.cells #[.int .i64 I, .int .i64 J, .bool rt] 76)).cell? ⟨(w.alloc (.cells #[.slice A1 n1 c1, .slice A2 n2 c2, .slice A3 n3 c3] 31)).heap.size, 1, none⟩ = some (.int .i64 J) := World.cell?_alloc_mark _ _ _ _ _
  have f2 : ((w.alloc (.cells #[.slice A1 n1 c1, .slice A2 n2 c2, .slice A3 n3 c3] 31)).alloc (.cells #[.int .i64 I, .int .i64 J, .bool rt] 76)).cell? ⟨(w.alloc (.cells #[.slice A1 n1 c1, .slice A2 n2 c2, .slice A3 n3 c3] 31)).heap.size, 2, none⟩ = some (.bool rt) := World.cell?_alloc_mark _ _ _ _ _
  rw [hsz] at f0 f1 f2
  have hPl : P.length = n1 := hCf.p.len
  have HBB := Lib.hid hbb
  have HCF := Lib.hid (hCf.on hbb)
  have HL := Lib.hid (hL.on hbb)
  obtain ⟨R, hR⟩ : ∃ R, R = doZ L I J rt := ⟨_, rfl⟩
  have hRl : R.length ≤ 1048576 := by rw [hR]; have := doZ_len L I J rt; rw [hL.len] at this; omega
  have hRt : ticks R ≤ 8192 := by rw [hR, doZ_ticks]; exact ht
  obtain ⟨v, hv⟩ : ∃ v, v = fitZ P C L I J rt := ⟨_, rfl⟩
  rw [← hv]
  unfold fitZ at hv
  rw [hPl, ← hR] at hv
  have HDOQ : Hid (∀ W, RdR W W.heap.size A n L → Calls Try.prog 32 #[.slice A n c, .agg #[.int .i64 I, .int .i64 J, .bool rt]] W (RowQ R W)) := Lib.hid fun W h => by rw [hR]; exact rdo_any A n c L I J rt W h hc hn (by omega)
  have HV := Lib.hid hv
  have hm : ∀ q ∈ L.map Rn.p, -1 ≤ q ∧ q ≤ 1024 := fun q hq => by
    obtain ⟨r, hr, rfl⟩ := List.mem_map.1 hq
    exact hps r hr
  have HPS := Lib.hid hm
  have HZ := Lib.hid hz
  clear hb1 hb2 hbb hsz hCf hL hR hv hps hm hz hPl
  go_enter Try.func30, Try.ntmps30
  go_upto_region 1 with fail
  generalize (w.alloc (.cells #[.slice A1 n1 c1, .slice A2 n2 c2, .slice A3 n3 c3] 31)).alloc (.cells #[.int .i64 I, .int .i64 J, .bool rt] 76) = wb at HBB HCF HL hbox f0 f1 f2 ⊢
  generalize w.heap.size + 1 = gm at f0 f1 f2 ⊢
  obtain ⟨gc, hgc⟩ : ∃ gc, gc = w.heap.size := ⟨_, rfl⟩
  rw [← hgc] at hbox ⊢
  clear hgc
  obtain ⟨m0, m1, m2⟩ := hbox.three
  clear hbox
  have HDP := Lib.hid fun W (hb : Below wb.heap.size wb W) => rdepends_any A1 A2 A3 n1 n2 n3 c1 c2 c3 P C W (HCF.out.on hb) q1 q2
  have HMA := Lib.hid fun W (hb : Below wb.heap.size wb W) A9 c9 (hm9 : RdM W W.heap.size A9 n1 (fun _ => n1) (depF (P.map ptOf) (C.map chOf))) => rmay_any A A9 n c n1 c9 (L.map Rn.p) (depF (P.map ptOf) (C.map chOf)) I J rt W (HL.out.on hb).rdp hm9 hc hn q1 HPS.out
  have HDO := Lib.hid fun W (hb : Below wb.heap.size wb W) => HDOQ.out W (HL.out.on hb)
  have HHO := Lib.hid fun W (hb : Below wb.heap.size wb W) A9 c9 (hr9 : RdR W W.heap.size A9 R.length R) (hc9 : R.length ≤ c9) => holdsx_any A1 A2 A3 A9 n1 n2 n3 R.length c1 c2 c3 c9 P C R W (HCF.out.on hb).p (HCF.out.on hb).c hr9 (by omega) q2 hc9 hRl hRt HZ.out
  generalize holdsF (wordsL R) P C = hz at HHO HV
  obtain ⟨hb, hhb⟩ : ∃ hb, hb = decide (hz = 0) := ⟨_, rfl⟩
  have HHB : Hid ((hz == 0) = hb) := Lib.hid (by rw [hhb]; rfl)
  rw [← hhb] at HV
  generalize mayZ (depW n1 (depF (P.map ptOf) (C.map chOf))) (L.map Rn.p) I J = bm at HMA HV
  clear hhb HDOQ
  cases bm with
  | true =>
    have e : v = hb := by rw [HV.out]; simp
    subst e
    go_wp2_with fail
    refine Rgs.region (by kernel_rfl) (by kernel_rfl) (fun (opn : Nat) (vl : Value) (wo : World) => match opn with | 0 => vl = .slice A n c | 1 => vl = .agg #[.slice A1 n1 c1, .slice A2 n2 c2, .slice A3 n3 c3] | 2 => MtX n1 (depF (P.map ptOf) (C.map chOf)) vl wo | 3 => vl = .agg #[.int .i64 I, .int .i64 J, .bool rt] | 4 => vl = .bool true | 5 => vl = .bool true | 6 => vl = .agg #[.slice A1 n1 c1, .slice A2 n2 c2, .slice A3 n3 c3] | 7 => vl = .slice A n c | 8 => vl = .agg #[.int .i64 I, .int .i64 J, .bool rt] | 9 => RowX R vl wo | 10 => vl = .int .i64 hz | 11 => vl = .bool v | 12 => vl = .bool v | 13 => vl = .bool v | _ => True) (fun _ _ w' => Below wb.heap.size wb w') (Below.refl _ _).drew (Rgs.steps_of ?_) ?_
    · refine ⟨?_, ?_, ?_, ?_, ?_, ?_, ?_, ?_, ?_, ?_, ?_, ?_, ?_, ?_, trivial⟩
      · intro a w1 live S E D C0 h0 hk hW
        have e1 : a.eval (.tmp 1) = .slice A n c := E 1 rfl
        exact Rgs.val rfl (Reg.wanted_free rfl) (.slice A n c) (by have c := Reg.consts a; generalize a.eval = ρ at *; simp [execOp, go_sem, c.1, c.2, e1]) rfl hW
      · intro a w1 live S E D C0 h0 hk hW
        have e3 : a.eval (.tmp 3) = .pointer (some ⟨gc, 0, none⟩) := E 3 rfl
        have hc0 := (hW.cell (p := ⟨gc, 0, none⟩) (World.block_lt_of_cell? _ _ m0)).trans m0
        have hc1 := (hW.cell (p := ⟨gc, 1, none⟩) (World.block_lt_of_cell? _ _ m1)).trans m1
        have hc2 := (hW.cell (p := ⟨gc, 2, none⟩) (World.block_lt_of_cell? _ _ m2)).trans m2
        exact Rgs.val rfl (Reg.wanted_free rfl) (.agg #[.slice A1 n1 c1, .slice A2 n2 c2, .slice A3 n3 c3]) (by have c := Reg.consts a; generalize a.eval = ρ at *; simp [execOp, go_sem, c.1, c.2, e3, hc0, hc1, hc2]) rfl hW
      · intro a w1 live S E D C0 h0 hk hW
        have d1 : a.eval (.tmp 8) = .agg #[.slice A1 n1 c1, .slice A2 n2 c2, .slice A3 n3 c3] := D 1 rfl _ _ rfl rfl
        refine Rgs.call rfl (Reg.wanted_free rfl) 15 #[.agg #[.slice A1 n1 c1, .slice A2 n2 c2, .slice A3 n3 c3]] (by have c := Reg.consts a; generalize a.eval = ρ at *; simp [execOp, go_sem, c.1, c.2, d1]) ?_
        refine (HDP.out w1 hW).mono ?_
        intro e w5 hdep
        obtain ⟨A9, c9, rfl, hc9, hm9, hb5⟩ := hdep.m
        exact ⟨_, rfl, ⟨A9, c9, rfl, hc9, hm9⟩, hW.trans (hb5.mono hW.size), fun j v _ hv => by
            revert hv
            match j with
            | 2 => exact fun h => h.on hb5
            | 9 => exact fun h => h.on hb5
            | 0 | 1 | 3 | 4 | 5 | 6 | 7 | 8 | 10 | 11 | 12 | 13 | _ + 14 => exact fun h => h⟩
      · intro a w1 live S E D C0 h0 hk hW
        have e5 : a.eval (.tmp 5) = .pointer (some ⟨gm, 0, none⟩) := E 5 rfl
        have hc0 := (hW.cell (p := ⟨gm, 0, none⟩) (World.block_lt_of_cell? _ _ f0)).trans f0
        have hc1 := (hW.cell (p := ⟨gm, 1, none⟩) (World.block_lt_of_cell? _ _ f1)).trans f1
        have hc2 := (hW.cell (p := ⟨gm, 2, none⟩) (World.block_lt_of_cell? _ _ f2)).trans f2
        exact Rgs.val rfl (Reg.wanted_free rfl) (.agg #[.int .i64 I, .int .i64 J, .bool rt]) (by have c := Reg.consts a; generalize a.eval = ρ at *; simp [execOp, go_sem, c.1, c.2, e5, hc0, hc1, hc2]) rfl hW
      · intro a w1 live S E D C0 h0 hk hW
        have d0 : a.eval (.tmp 7) = .slice A n c := D 0 rfl _ _ rfl rfl
        obtain ⟨A9, c9, d2, hc9, hm9⟩ : MtX n1 (depF (P.map ptOf) (C.map chOf)) (a.eval (.tmp 9)) w1 := D 2 rfl _ _ rfl rfl
        have d3 : a.eval (.tmp 10) = .agg #[.int .i64 I, .int .i64 J, .bool rt] := D 3 rfl _ _ rfl rfl
        refine Rgs.call rfl (Reg.wanted_free rfl) 27 #[.slice A n c, .slice A9 n1 c9, .agg #[.int .i64 I, .int .i64 J, .bool rt]] (by have c := Reg.consts a; generalize a.eval = ρ at *; simp [execOp, go_sem, c.1, c.2, d0, d2, d3]) ?_
        refine (HMA.out w1 hW A9 c9 hm9).mono ?_
        rintro e w5 ⟨rfl, hb5⟩
        exact ⟨_, rfl, rfl, hW.trans (hb5.mono hW.size), fun j v _ hv => by
            revert hv
            match j with
            | 2 => exact fun h => h.on hb5
            | 9 => exact fun h => h.on hb5
            | 0 | 1 | 3 | 4 | 5 | 6 | 7 | 8 | 10 | 11 | 12 | 13 | _ + 14 => exact fun h => h⟩
      · intro a w1 live S E D C0 h0 hk hW
        have d4 : a.eval (.tmp 11) = .bool true := D 4 rfl _ _ rfl rfl
        exact Rgs.val rfl (Reg.wanted_free rfl) (.bool true) (by have c := Reg.consts a; generalize a.eval = ρ at *; simp [execOp, go_sem, c.1, c.2, d4]) rfl hW
      · intro a w1 live S E D C0 h0 hk hW
        have dg : a.eval (.tmp 12) = .bool true := D 5 rfl _ _ rfl rfl
        have e3 : a.eval (.tmp 3) = .pointer (some ⟨gc, 0, none⟩) := E 3 rfl
        have hc0 := (hW.cell (p := ⟨gc, 0, none⟩) (World.block_lt_of_cell? _ _ m0)).trans m0
        have hc1 := (hW.cell (p := ⟨gc, 1, none⟩) (World.block_lt_of_cell? _ _ m1)).trans m1
        have hc2 := (hW.cell (p := ⟨gc, 2, none⟩) (World.block_lt_of_cell? _ _ m2)).trans m2
        exact Rgs.val rfl (Reg.wanted_if rfl rfl dg rfl) (.agg #[.slice A1 n1 c1, .slice A2 n2 c2, .slice A3 n3 c3]) (by have c := Reg.consts a; generalize a.eval = ρ at *; simp [execOp, go_sem, c.1, c.2, e3, hc0, hc1, hc2]) rfl hW
      · intro a w1 live S E D C0 h0 hk hW
        have dg : a.eval (.tmp 12) = .bool true := D 5 rfl _ _ rfl rfl
        have e1 : a.eval (.tmp 1) = .slice A n c := E 1 rfl
        exact Rgs.val rfl (Reg.wanted_if rfl rfl dg rfl) (.slice A n c) (by have c := Reg.consts a; generalize a.eval = ρ at *; simp [execOp, go_sem, c.1, c.2, e1]) rfl hW
      · intro a w1 live S E D C0 h0 hk hW
        have dg : a.eval (.tmp 12) = .bool true := D 5 rfl _ _ rfl rfl
        have e5 : a.eval (.tmp 5) = .pointer (some ⟨gm, 0, none⟩) := E 5 rfl
        have hc0 := (hW.cell (p := ⟨gm, 0, none⟩) (World.block_lt_of_cell? _ _ f0)).trans f0
        have hc1 := (hW.cell (p := ⟨gm, 1, none⟩) (World.block_lt_of_cell? _ _ f1)).trans f1
        have hc2 := (hW.cell (p := ⟨gm, 2, none⟩) (World.block_lt_of_cell? _ _ f2)).trans f2
        exact Rgs.val rfl (Reg.wanted_if rfl rfl dg rfl) (.agg #[.int .i64 I, .int .i64 J, .bool rt]) (by have c := Reg.consts a; generalize a.eval = ρ at *; simp [execOp, go_sem, c.1, c.2, e5, hc0, hc1, hc2]) rfl hW
      · intro a w1 live S E D C0 h0 hk hW
        have dg : a.eval (.tmp 12) = .bool true := D 5 rfl _ _ rfl rfl
        have d7 : a.eval (.tmp 14) = .slice A n c := D 7 rfl _ _ rfl rfl
        have d8 : a.eval (.tmp 15) = .agg #[.int .i64 I, .int .i64 J, .bool rt] := D 8 rfl _ _ rfl rfl
        refine Rgs.call rfl (Reg.wanted_if rfl rfl dg rfl) 32 #[.slice A n c, .agg #[.int .i64 I, .int .i64 J, .bool rt]] (by have c := Reg.consts a; generalize a.eval = ρ at *; simp [execOp, go_sem, c.1, c.2, d7, d8]) ?_
        refine (HDO.out w1 hW).mono ?_
        rintro e w5 ⟨A9, c9, rfl, hr9, hc9, hb5⟩
        exact ⟨_, rfl, ⟨A9, c9, rfl, hc9, hr9⟩, hW.trans (hb5.mono hW.size), fun j v _ hv => by
            revert hv
            match j with
            | 2 => exact fun h => h.on hb5
            | 9 => exact fun h => h.on hb5
            | 0 | 1 | 3 | 4 | 5 | 6 | 7 | 8 | 10 | 11 | 12 | 13 | _ + 14 => exact fun h => h⟩
      · intro a w1 live S E D C0 h0 hk hW
        have dg : a.eval (.tmp 12) = .bool true := D 5 rfl _ _ rfl rfl
        have d6 : a.eval (.tmp 13) = .agg #[.slice A1 n1 c1, .slice A2 n2 c2, .slice A3 n3 c3] := D 6 rfl _ _ rfl rfl
        obtain ⟨A9, c9, d9, hc9, hr9⟩ : RowX R (a.eval (.tmp 16)) w1 := D 9 rfl _ _ rfl rfl
        refine Rgs.call rfl (Reg.wanted_if rfl rfl dg rfl) 53 #[.agg #[.slice A1 n1 c1, .slice A2 n2 c2, .slice A3 n3 c3], .slice A9 R.length c9] (by have c := Reg.consts a; generalize a.eval = ρ at *; simp [execOp, go_sem, c.1, c.2, d6, d9]) ?_
        refine (HHO.out w1 hW A9 c9 hr9 hc9).mono ?_
        rintro e w5 ⟨rfl, hb5⟩
        exact ⟨_, rfl, rfl, hW.trans (hb5.mono hW.size), fun j v _ hv => by
            revert hv
            match j with
            | 2 => exact fun h => h.on hb5
            | 9 => exact fun h => h.on hb5
            | 0 | 1 | 3 | 4 | 5 | 6 | 7 | 8 | 10 | 11 | 12 | 13 | _ + 14 => exact fun h => h⟩
      · intro a w1 live S E D C0 h0 hk hW
        have dg : a.eval (.tmp 12) = .bool true := D 5 rfl _ _ rfl rfl
        have d10 : a.eval (.tmp 17) = .int .i64 hz := D 10 rfl _ _ rfl rfl
        have hh := HHB.out
        exact Rgs.val rfl (Reg.wanted_if rfl rfl dg rfl) (.bool v) (by have c := Reg.consts a; generalize a.eval = ρ at *; simp [execOp, go_sem, c.1, c.2, d10, hh]) rfl hW
      · intro a w1 live S E D C0 h0 hk hW
        have d5 : a.eval (.tmp 12) = .bool true := D 5 rfl _ _ rfl rfl
        have d11 : a.eval (.tmp 18) = .bool v := D 11 rfl _ _ rfl rfl
        exact Rgs.val rfl (Reg.wanted_free rfl) (.bool v) (by have c := Reg.consts a; generalize a.eval = ρ at *; simp [execOp, go_sem, c.1, c.2, d5, d11]) rfl hW
      · intro a w1 live S E D C0 h0 hk hW
        have d12 : a.eval (.tmp 19) = .bool v := D 12 rfl _ _ rfl rfl
        exact Rgs.val rfl (Reg.wanted_free rfl) (.bool v) (by have c := Reg.consts a; generalize a.eval = ρ at *; simp [execOp, go_sem, c.1, c.2, d12]) rfl hW
    · intro a w4 live hs hd E D Hl hW
      have e6 : a.eval (.tmp 6) = .bool v := by
        obtain ⟨v, hv, he⟩ := D 13 _ rfl
        exact (he 6 rfl).trans hv
      rw [Rgs.act_ws a _ _ hs hd E [7, 8, 9, 10, 11, 12, 13, 14, 15, 16, 17, 18, 19, 6] (by kernel_rfl)]
      simp only [List.foldl, List.setIfInBounds_toArray, List.set_cons_succ, List.set_cons_zero, e6]
      have HB9 := Lib.hid (HBB.out.trans (Below.mono hW HBB.out.size))
      clear E D Hl hW e6 HDP HMA HDO HHO m0 m1 m2 f0 f1 f2
      generalize a.eval = ρ
      clear a hs hd
      go_wp2_with fail
      go_ret
      exact Ans.mk rfl HB9.out
  | false =>
    have e : v = false := by rw [HV.out]; simp
    subst e
    go_wp2_with fail
    refine Rgs.region (by kernel_rfl) (by kernel_rfl) (fun (opn : Nat) (vl : Value) (wo : World) => match opn with | 0 => vl = .slice A n c | 1 => vl = .agg #[.slice A1 n1 c1, .slice A2 n2 c2, .slice A3 n3 c3] | 2 => MtX n1 (depF (P.map ptOf) (C.map chOf)) vl wo | 3 => vl = .agg #[.int .i64 I, .int .i64 J, .bool rt] | 4 => vl = .bool false | 5 => vl = .bool false | 6 => vl = undef | 7 => vl = undef | 8 => vl = undef | 9 => vl = undef | 10 => vl = undef | 11 => vl = undef | 12 => vl = .bool false | 13 => vl = .bool false | _ => True) (fun _ _ w' => Below wb.heap.size wb w') (Below.refl _ _).drew (Rgs.steps_of ?_) ?_
    · refine ⟨?_, ?_, ?_, ?_, ?_, ?_, ?_, ?_, ?_, ?_, ?_, ?_, ?_, ?_, trivial⟩
      · intro a w1 live S E D C0 h0 hk hW
        have e1 : a.eval (.tmp 1) = .slice A n c := E 1 rfl
        exact Rgs.val rfl (Reg.wanted_free rfl) (.slice A n c) (by have c := Reg.consts a; generalize a.eval = ρ at *; simp [execOp, go_sem, c.1, c.2, e1]) rfl hW
      · intro a w1 live S E D C0 h0 hk hW
        have e3 : a.eval (.tmp 3) = .pointer (some ⟨gc, 0, none⟩) := E 3 rfl
        have hc0 := (hW.cell (p := ⟨gc, 0, none⟩) (World.block_lt_of_cell? _ _ m0)).trans m0
        have hc1 := (hW.cell (p := ⟨gc, 1, none⟩) (World.block_lt_of_cell? _ _ m1)).trans m1
        have hc2 := (hW.cell (p := ⟨gc, 2, none⟩) (World.block_lt_of_cell? _ _ m2)).trans m2
        exact Rgs.val rfl (Reg.wanted_free rfl) (.agg #[.slice A1 n1 c1, .slice A2 n2 c2, .slice A3 n3 c3]) (by have c := Reg.consts a; generalize a.eval = ρ at *; simp [execOp, go_sem, c.1, c.2, e3, hc0, hc1, hc2]) rfl hW
      · intro a w1 live S E D C0 h0 hk hW
        have d1 : a.eval (.tmp 8) = .agg #[.slice A1 n1 c1, .slice A2 n2 c2, .slice A3 n3 c3] := D 1 rfl _ _ rfl rfl
        refine Rgs.call rfl (Reg.wanted_free rfl) 15 #[.agg #[.slice A1 n1 c1, .slice A2 n2 c2, .slice A3 n3 c3]] (by have c := Reg.consts a; generalize a.eval = ρ at *; simp [execOp, go_sem, c.1, c.2, d1]) ?_
        refine (HDP.out w1 hW).mono ?_
        intro e w5 hdep
        obtain ⟨A9, c9, rfl, hc9, hm9, hb5⟩ := hdep.m
        exact ⟨_, rfl, ⟨A9, c9, rfl, hc9, hm9⟩, hW.trans (hb5.mono hW.size), fun j v _ hv => by
            revert hv
            match j with
            | 2 => exact fun h => h.on hb5
            | 0 | 1 | 3 | 4 | 5 | 6 | 7 | 8 | 9 | 10 | 11 | 12 | 13 | _ + 14 => exact fun h => h⟩
      · intro a w1 live S E D C0 h0 hk hW
        have e5 : a.eval (.tmp 5) = .pointer (some ⟨gm, 0, none⟩) := E 5 rfl
        have hc0 := (hW.cell (p := ⟨gm, 0, none⟩) (World.block_lt_of_cell? _ _ f0)).trans f0
        have hc1 := (hW.cell (p := ⟨gm, 1, none⟩) (World.block_lt_of_cell? _ _ f1)).trans f1
        have hc2 := (hW.cell (p := ⟨gm, 2, none⟩) (World.block_lt_of_cell? _ _ f2)).trans f2
        exact Rgs.val rfl (Reg.wanted_free rfl) (.agg #[.int .i64 I, .int .i64 J, .bool rt]) (by have c := Reg.consts a; generalize a.eval = ρ at *; simp [execOp, go_sem, c.1, c.2, e5, hc0, hc1, hc2]) rfl hW
      · intro a w1 live S E D C0 h0 hk hW
        have d0 : a.eval (.tmp 7) = .slice A n c := D 0 rfl _ _ rfl rfl
        obtain ⟨A9, c9, d2, hc9, hm9⟩ : MtX n1 (depF (P.map ptOf) (C.map chOf)) (a.eval (.tmp 9)) w1 := D 2 rfl _ _ rfl rfl
        have d3 : a.eval (.tmp 10) = .agg #[.int .i64 I, .int .i64 J, .bool rt] := D 3 rfl _ _ rfl rfl
        refine Rgs.call rfl (Reg.wanted_free rfl) 27 #[.slice A n c, .slice A9 n1 c9, .agg #[.int .i64 I, .int .i64 J, .bool rt]] (by have c := Reg.consts a; generalize a.eval = ρ at *; simp [execOp, go_sem, c.1, c.2, d0, d2, d3]) ?_
        refine (HMA.out w1 hW A9 c9 hm9).mono ?_
        rintro e w5 ⟨rfl, hb5⟩
        exact ⟨_, rfl, rfl, hW.trans (hb5.mono hW.size), fun j v _ hv => by
            revert hv
            match j with
            | 2 => exact fun h => h.on hb5
            | 0 | 1 | 3 | 4 | 5 | 6 | 7 | 8 | 9 | 10 | 11 | 12 | 13 | _ + 14 => exact fun h => h⟩
      · intro a w1 live S E D C0 h0 hk hW
        have d4 : a.eval (.tmp 11) = .bool false := D 4 rfl _ _ rfl rfl
        exact Rgs.val rfl (Reg.wanted_free rfl) (.bool false) (by have c := Reg.consts a; generalize a.eval = ρ at *; simp [execOp, go_sem, c.1, c.2, d4]) rfl hW
      · intro a w1 live S E D C0 h0 hk hW
        have dg : a.eval (.tmp 12) = .bool false := D 5 rfl _ _ rfl rfl
        exact Rgs.skip rfl (Rgs.wanted_not rfl rfl dg rfl) rfl hW
      · intro a w1 live S E D C0 h0 hk hW
        have dg : a.eval (.tmp 12) = .bool false := D 5 rfl _ _ rfl rfl
        exact Rgs.skip rfl (Rgs.wanted_not rfl rfl dg rfl) rfl hW
      · intro a w1 live S E D C0 h0 hk hW
        have dg : a.eval (.tmp 12) = .bool false := D 5 rfl _ _ rfl rfl
        exact Rgs.skip rfl (Rgs.wanted_not rfl rfl dg rfl) rfl hW
      · intro a w1 live S E D C0 h0 hk hW
        have dg : a.eval (.tmp 12) = .bool false := D 5 rfl _ _ rfl rfl
        exact Rgs.skip rfl (Rgs.wanted_not rfl rfl dg rfl) rfl hW
      · intro a w1 live S E D C0 h0 hk hW
        have dg : a.eval (.tmp 12) = .bool false := D 5 rfl _ _ rfl rfl
        exact Rgs.skip rfl (Rgs.wanted_not rfl rfl dg rfl) rfl hW
      · intro a w1 live S E D C0 h0 hk hW
        have dg : a.eval (.tmp 12) = .bool false := D 5 rfl _ _ rfl rfl
        exact Rgs.skip rfl (Rgs.wanted_not rfl rfl dg rfl) rfl hW
      · intro a w1 live S E D C0 h0 hk hW
        have d5 : a.eval (.tmp 12) = .bool false := D 5 rfl _ _ rfl rfl
        have d11 : a.eval (.tmp 18) = undef := D 11 rfl _ _ rfl rfl
        exact Rgs.val rfl (Reg.wanted_free rfl) (.bool false) (by have c := Reg.consts a; generalize a.eval = ρ at *; simp [execOp, go_sem, c.1, c.2, d5, d11]) rfl hW
      · intro a w1 live S E D C0 h0 hk hW
        have d12 : a.eval (.tmp 19) = .bool false := D 12 rfl _ _ rfl rfl
        exact Rgs.val rfl (Reg.wanted_free rfl) (.bool false) (by have c := Reg.consts a; generalize a.eval = ρ at *; simp [execOp, go_sem, c.1, c.2, d12]) rfl hW
    · intro a w4 live hs hd E D Hl hW
      have e6 : a.eval (.tmp 6) = .bool false := by
        obtain ⟨v, hv, he⟩ := D 13 _ rfl
        exact (he 6 rfl).trans hv
      rw [Rgs.act_ws a _ _ hs hd E [7, 8, 9, 10, 11, 12, 13, 14, 15, 16, 17, 18, 19, 6] (by kernel_rfl)]
      simp only [List.foldl, List.setIfInBounds_toArray, List.set_cons_succ, List.set_cons_zero, e6]
      have HB9 := Lib.hid (HBB.out.trans (Below.mono hW HBB.out.size))
      clear E D Hl hW e6 HDP HMA HDO HHO m0 m1 m2 f0 f1 f2
      generalize a.eval = ρ
      clear a hs hd
      go_wp2_with fail
      go_ret
      exact Ans.mk rfl HB9.out
end Go.Proofs.Ytoaocdmcjjohgaa
