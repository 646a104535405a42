/- Whether a configuration may be, by the document's own answer (that it answers). -/
import Derived.Test.YtoaocdmcjjohgaaLow6
import Derived.Test.YtoaocdmcjjohgaaPrt
import Derived.Test.YtoaocdmcjjohgaaRof
import Derived.Test.YtoaocdmcjjohgaaOfg
namespace Go.Proofs.Ytoaocdmcjjohgaa
open Go.RowKit Tab
set_option linter.unusedSimpArgs false
set_option linter.unusedVariables false

/-- A table in memory, with what it reads as. -/
structure TbV where
  A : Option Addr
  n : Nat
  c : Nat
  x : Nd
  k : F
def tcl (t : TbV) : List Value := [.slice t.A t.n t.c]
theorem tcl_len (t : TbV) : (tcl t).length = 1 := rfl
structure TbAt (w : World) (B : Nat) (t : TbV) : Prop where
  rd : RdN w B t.A t.n (t.x :: t.k.flat)
  cap : t.n ≤ t.c
  ok : (F.cons t.x t.k .nil).ok
  few : t.n ≤ 1048576
theorem TbAt.on {w w' : World} {t : TbV} (h : TbAt w w.heap.size t) (hb : Below w.heap.size w w') : TbAt w' w'.heap.size t := ⟨h.rd.on hb, h.cap, h.ok, h.few⟩
structure PtAt (w : World) (B : Nat) (x : PtV) : Prop where
  per : In64 x.per
  name : x.name.size ≤ 1048576
  few : x.pn ≤ 1048576
  procs : ProcsAt w B x.pa x.pn
theorem PtAt.on {w w' : World} {x : PtV} (h : PtAt w w.heap.size x) (hb : Below w.heap.size w w') : PtAt w' w'.heap.size x := ⟨h.per, h.name, h.few, h.procs.on hb⟩
/-- It answers an error and a place, and leaves what was there. -/
def SomE (w : World) (e : Ending) (w' : World) : Prop := ∃ z i, e = .returned (.tuple #[.int .i64 z, .int .i64 i]) ∧ Below w.heap.size w w'
set_option maxRecDepth 100000 in
set_option maxHeartbeats 4000000 in
theorem where_any (A1 A2 A3 : Option Addr) (n1 n2 n3 c1 c2 c3 : Nat) (P : List PtV) (C : List ChV) (T : List TbV) (w : World) (hP : RdB pcl w w.heap.size A1 n1 P) (hC : RdB cc w w.heap.size A2 n2 C) (hT : RdB tcl w w.heap.size A3 n3 T)
    (hp : ∀ x ∈ P, PtAt w w.heap.size x) (ht : ∀ t ∈ T, TbAt w w.heap.size t) :
    Calls Try.prog 61 #[.agg #[.slice A1 n1 c1, .slice A2 n2 c2, .slice A3 n3 c3]] w (SomE w) := by
  have hb0 := bl1 w (.cells #[.slice A1 n1 c1, .slice A2 n2 c2, .slice A3 n3 c3] 31)
  have HP := Lib.hid hP
  have HC := Lib.hid hC
  have HT := Lib.hid hT
  have HPT := Lib.hid hp
  have HTT := Lib.hid ht
  have m0 : (w.alloc (.cells #[.slice A1 n1 c1, .slice A2 n2 c2, .slice A3 n3 c3] 31)).cell? ⟨w.heap.size, 0, none⟩ = some (.slice A1 n1 c1) := World.cell?_alloc_mark _ _ _ _ _
  have m1 : (w.alloc (.cells #[.slice A1 n1 c1, .slice A2 n2 c2, .slice A3 n3 c3] 31)).cell? ⟨w.heap.size, 1, none⟩ = some (.slice A2 n2 c2) := World.cell?_alloc_mark _ _ _ _ _
  have m2 : (w.alloc (.cells #[.slice A1 n1 c1, .slice A2 n2 c2, .slice A3 n3 c3] 31)).cell? ⟨w.heap.size, 2, none⟩ = some (.slice A3 n3 c3) := World.cell?_alloc_mark _ _ _ _ _
  have hgs : w.heap.size < (w.alloc (.cells #[.slice A1 n1 c1, .slice A2 n2 c2, .slice A3 n3 c3] 31)).heap.size := by simp
  clear hP hC hT hp ht
  go_enter Try.func61, Try.ntmps61
  by_cases q1 : (n1 : Int) < 1
  · have d1 := decide_eq_true q1
    go_wp2_with fail
    go_ret2
    exact ⟨_, _, rfl, bl1 _ _⟩
  have d1 := decide_eq_false q1
  by_cases q2 : (6 : Int) < (n1 : Int)
  · have d2 := decide_eq_true q2
    go_wp2_with fail
    go_ret2
    exact ⟨_, _, rfl, bl1 _ _⟩
  have d2 := decide_eq_false q2
  by_cases q3 : (8 : Int) < (n2 : Int)
  · have d3 := decide_eq_true q3
    go_wp2_with fail
    go_ret2
    exact ⟨_, _, rfl, bl1 _ _⟩
  have d3 := decide_eq_false q3
  by_cases q4 : (n3 : Int) < 1
  · have d4 := decide_eq_true q4
    go_wp2_with fail
    go_ret2
    exact ⟨_, _, rfl, bl1 _ _⟩
  have d4 := decide_eq_false q4
  by_cases q5 : (3 : Int) < (n3 : Int)
  · have d5 := decide_eq_true q5
    go_wp2_with fail
    go_ret2
    exact ⟨_, _, rfl, bl1 _ _⟩
  have d5 := decide_eq_false q5
  go_wp2_with fail
  have r1 : n1 ≤ 6 := by omega
  have r2 : n2 ≤ 8 := by omega
  have r3 : n3 ≤ 3 := by omega
  clear q1 q2 q3 q4 q5 d1 d2 d3 d4 d5
  generalize w.alloc (.cells #[.slice A1 n1 c1, .slice A2 n2 c2, .slice A3 n3 c3] 31) = W at hb0 m0 m1 m2 hgs ⊢
  obtain ⟨g, hg⟩ : ∃ g, g = w.heap.size := ⟨_, rfl⟩
  rw [← hg] at m0 m1 m2 hgs ⊢
  have HG := Lib.hid hg
  have HB0 := Lib.hid hb0
  have HM := Lib.hid fun (W' : World) (hb : Below W.heap.size W W') (o : Nat) (v : Value) (hv : W.cell? ⟨g, o, none⟩ = some v) => (hb.cell (p := ⟨g, o, none⟩) hgs).trans hv
  have HW := Lib.hid fun (W' : World) (hb : Below W.heap.size W W') => hb0.trans (hb.mono hb0.size)
  have M0 := Lib.hid m0
  have M1 := Lib.hid m1
  have M2 := Lib.hid m2
  clear hg m0 m1 m2 hb0
  go_loopw [4, 5, 6, 47] (fun _ _ _ s wr => ∃ i : Nat, i ≤ n1 ∧ s = .int .i64 i ∧ Below W.heap.size W wr) (fun _ _ _ s _ => n1 - (intOf s).toNat)
  case atStart => exact ⟨0, by omega, rfl, Below.refl _ _⟩
  case round =>
    obtain ⟨i, hi, rfl, hb⟩ := hrel
    by_cases hlt : i < n1
    · obtain ⟨ad, x, rfl, had, hx, c0, ck⟩ := (HP.out.on (HW.out _ hb)).at_ pcl_len (by omega) hlt
      have hPA := (HPT.out x (List.mem_of_getElem? hx)).on (HW.out _ hb)
      have d0 := c0 _ rfl
      have d1 := ck 1 _ (by omega) rfl
      have d2 := ck 2 _ (by omega) rfl
      have d3 := ck 3 _ (by omega) rfl
      have d4 := ck 4 _ (by omega) rfl
      have d5 := ck 5 _ (by omega) rfl
      have d6 := ck 6 _ (by omega) rfl
      have d7 := ck 7 _ (by omega) rfl
      have d8 := ck 8 _ (by omega) rfl
      have d9 := ck 9 _ (by omega) rfl
      have d10 := ck 10 _ (by omega) rfl
      obtain ⟨nm, bu, pe, sc, st, pa, pn, pc, h0, h1, h2, h3, h4⟩ := x
      dsimp only at d0 d1 d2 d3 d4 d5 d6 d7 d8 d9 d10
      have hbx := bl1 wr (.cells #[.string nm, .int .i64 bu, .int .i64 pe, .bool sc, .bool st, .slice pa pn pc, .int .i64 h0, .int .i64 h1, .int .i64 h2, .int .i64 h3, .int .i64 h4] 64)
      have hb1 := hb.trans (hbx.mono hb.size)
      have hPA1 := Lib.hid (hPA.on hbx)
      have f : ∀ o v, (#[Value.string nm, .int .i64 bu, .int .i64 pe, .bool sc, .bool st, .slice pa pn pc, .int .i64 h0, .int .i64 h1, .int .i64 h2, .int .i64 h3, .int .i64 h4] : Array Value)[o]? = some v → (wr.alloc (.cells #[.string nm, .int .i64 bu, .int .i64 pe, .bool sc, .bool st, .slice pa pn pc, .int .i64 h0, .int .i64 h1, .int .i64 h2, .int .i64 h3, .int .i64 h4] 64)).cell? ⟨wr.heap.size, o, none⟩ = some v := fun o v hv => (World.cell?_alloc_mark _ _ _ _ _).trans hv
      have hgx : wr.heap.size < (wr.alloc (.cells #[.string nm, .int .i64 bu, .int .i64 pe, .bool sc, .bool st, .slice pa pn pc, .int .i64 h0, .int .i64 h1, .int .i64 h2, .int .i64 h3, .int .i64 h4] 64)).heap.size := by simp
      have HF := Lib.hid f
      have m0 := HM.out wr hb 0 _ M0.out
      clear c0 ck hx hbx hPA f
      have f0 := HF.out 0 _ rfl
      have HNM := Lib.hid (name_any nm (wr.alloc (.cells #[.string nm, .int .i64 bu, .int .i64 pe, .bool sc, .bool st, .slice pa pn pc, .int .i64 h0, .int .i64 h1, .int .i64 h2, .int .i64 h3, .int .i64 h4] 64)) hPA1.out.name)
      go_wp2_with fail
      refine HNM.out.mono ?_
      rintro e w5 ⟨b, rfl, hb5⟩
      generalize wr.alloc (.cells #[.string nm, .int .i64 bu, .int .i64 pe, .bool sc, .bool st, .slice pa pn pc, .int .i64 h0, .int .i64 h1, .int .i64 h2, .int .i64 h3, .int .i64 h4] 64) = W2 at hb1 HF hPA1 hgx HNM hb5 f0
      generalize wr.heap.size = gx at HF hgx f0 ⊢
      have HB5 := Lib.hid (hb1.trans (hb5.mono hb1.size))
      have hPA5 := Lib.hid (hPA1.out.on hb5)
      have HF5 := Lib.hid fun (W' : World) (hb : Below w5.heap.size w5 W') (o : Nat) v hv => ((hb5.trans (hb.mono hb5.size)).cell (p := ⟨gx, o, none⟩) hgx).trans (HF.out o v hv)
      clear hb5 HNM HF hPA1 hb1 hgx f0 d0 d1 d2 d3 d4 d5 d6 d7 d8 d9 d10 had hb m0
      cases b
      · go_wp2_with fail
        go_ret2
        exact ⟨_, _, rfl, HW.out _ HB5.out⟩
      · go_wp2_with fail
        go_loopw [6] (fun s wx => ∃ j : Nat, j ≤ i ∧ s = .int .i64 j ∧ Below w5.heap.size w5 wx) (fun s _ => i - (intOf s).toNat)
        case atStart => exact ⟨0, by omega, rfl, Below.refl _ _⟩
        case round =>
          obtain ⟨j, hj, rfl, hb⟩ := hrel
          have HBX := Lib.hid (HB5.out.trans (hb.mono HB5.out.size))
          by_cases hji : j < i
          · obtain ⟨ad2, y, hA2, had2, hy, c0, ck⟩ := (HP.out.on (HW.out _ HBX.out)).at_ pcl_len (by omega) (show j < n1 by omega)
            obtain rfl : ad = ad2 := by injection hA2
            have d0 := c0 _ rfl
            have f0 := HF5.out _ hb 0 _ rfl
            have m0 := HM.out _ HBX.out 0 _ M0.out
            obtain ⟨nm2, bu2, pe2, sc2, st2, pa2, pn2, pc2, k0, k1, k2, k3, k4⟩ := y
            dsimp only at d0
            have hji' : (j : Int) < (i : Int) := by omega
            have HBI := Lib.hid hb
            clear c0 ck hy hA2 had2 hb
            go_wp2_with fail
            go_quiet (fail)
            go_wp2_with fail
            all_goals
              first
              | (go_ret2; exact ⟨_, _, rfl, HW.out _ (Below.drewN HBX.out nq)⟩)
              | (go_roundw
                 case rel => exact ⟨j + 1, by omega, by go_num, Below.drewN HBI.out nq⟩
                 case measure => simp [intOf]; omega)
          · have hji' : ¬ (j : Int) < (i : Int) := by omega
            have f0 := HF5.out _ hb 0 _ rfl
            have f1 := HF5.out _ hb 1 _ rfl
            have f2 := HF5.out _ hb 2 _ rfl
            have f3 := HF5.out _ hb 3 _ rfl
            have f4 := HF5.out _ hb 4 _ rfl
            have f5 := HF5.out _ hb 5 _ rfl
            have f6 := HF5.out _ hb 6 _ rfl
            have f7 := HF5.out _ hb 7 _ rfl
            have f8 := HF5.out _ hb 8 _ rfl
            have f9 := HF5.out _ hb 9 _ rfl
            have f10 := HF5.out _ hb 10 _ rfl
            have HPX := hPA5.out.on hb
            have HPR := Lib.hid (partRight_any ⟨nm, bu, pe, sc, st, pa, pn, pc, h0, h1, h2, h3, h4⟩ wr HPX.procs HPX.few)
            clear HPX hb
            go_wp2_with fail
            refine HPR.out.mono ?_
            rintro e w6 ⟨b, rfl, hb6⟩
            have HB6 := Lib.hid (HBX.out.trans (hb6.mono HBX.out.size))
            clear hb6 f0 f1 f2 f3 f4 f5 f6 f7 f8 f9 f10
            cases b <;> go_wp2_with fail
            all_goals
              first
              | (go_ret2; exact ⟨_, _, rfl, HW.out _ HB6.out⟩)
              | (go_roundw
                 case rel => exact ⟨i + 1, by omega, by go_num, HB6.out⟩
                 case measure => simp [intOf]; omega)
    · have hge : n1 ≤ i := by omega
      have m1 := HM.out wr hb 1 _ M1.out
      go_wp2_with fail
      go_loopw [7, 8, 80] (fun _ _ s wx => ∃ j : Nat, j ≤ n2 ∧ s = .int .i64 j ∧ Below W.heap.size W wx) (fun _ _ s _ => n2 - (intOf s).toNat)
      case atStart => exact ⟨0, by omega, rfl, hb⟩
      case round =>
        obtain ⟨j, hj, rfl, hb⟩ := hrel
        by_cases hlt : j < n2
        · obtain ⟨ad, x, rfl, had, hx, c0, ck⟩ := (HC.out.on (HW.out _ hb)).at_ cc_len (by omega) hlt
          have d0 := c0 _ rfl
          have d1 := ck 1 _ (by omega) rfl
          have d2 := ck 2 _ (by omega) rfl
          have d3 := ck 3 _ (by omega) rfl
          have d4 := ck 4 _ (by omega) rfl
          have d5 := ck 5 _ (by omega) rfl
          obtain ⟨xf, xt, xq, xc, xm, xl⟩ := x
          dsimp only at d0 d1 d2 d3 d4 d5
          have hbx := bl1 wr (.cells #[.int .i64 xf, .int .i64 xt, .bool xq, .int .i64 xc, .int .u32 xm, .int .i64 xl] 70)
          have HB1 := Lib.hid (hb.trans (hbx.mono hb.size))
          have m0 := HM.out _ HB1.out 0 _ M0.out
          have HCR := Lib.hid (chanRight_any ⟨xf, xt, xq, xc, xm, xl⟩ (n1 : Int))
          clear c0 ck hx hbx
          go_wp2_with fail
          refine (HCR.out _).mono ?_
          rintro e w5 ⟨b, rfl, hb5⟩
          have HB5 := Lib.hid (HB1.out.trans (hb5.mono HB1.out.size))
          clear hb5 d0 d1 d2 d3 d4 d5 m0
          cases b <;> go_wp2_with fail
          all_goals
            first
            | (go_ret2; exact ⟨_, _, rfl, HW.out _ HB5.out⟩)
            | (go_roundw
               case rel => exact ⟨j + 1, by omega, by go_num, HB5.out⟩
               case measure => simp [intOf]; omega)
        · have hge : n2 ≤ j := by omega
          have m2 := HM.out wr hb 2 _ M2.out
          go_wp2_with fail
          go_loopw [9, 10, 11, 12, 14, 15, 96] (fun _ _ _ _ _ _ s wx => ∃ j : Nat, j ≤ n3 ∧ s = .int .i64 j ∧ Below W.heap.size W wx) (fun _ _ _ _ _ _ s _ => n3 - (intOf s).toNat)
          case atStart => exact ⟨0, by omega, rfl, hb⟩
          case round =>
            obtain ⟨j, hj, rfl, hb⟩ := hrel
            by_cases hlt : j < n3
            · obtain ⟨ad, t, rfl, had, hx, c0, ck⟩ := (HT.out.on (HW.out _ hb)).at_ tcl_len (by omega) hlt
              have d0 := c0 _ rfl
              rw [Nat.mul_one] at d0
              have hTA := (HTT.out t (List.mem_of_getElem? hx)).on (HW.out _ hb)
              obtain ⟨A, n, c, x, k⟩ := t
              have HOF := Lib.hid (rof_any A n c x k wr hTA.rd hTA.cap hTA.ok hTA.few)
              dsimp only at d0
              have hz4 : ofz n (k.dep + 1) (one x k.lvs) = 0 → ticks (tidy (one x k.lvs)) ≤ 4096 := fun e => by rw [ticks_tidy]; exact (ofz_ok e).2.2.1
              have hz5 : ofz n (k.dep + 1) (one x k.lvs) = 0 → (tidy (one x k.lvs)).length ≤ 96 := fun e => (ofz_ok e).2.2.2
              generalize ofz n (k.dep + 1) (one x k.lvs) = z at HOF hz4 hz5
              generalize tidy (one x k.lvs) = L at HOF hz4 hz5
              have HZ4 := Lib.hid hz4
              have HZ5 := Lib.hid hz5
              clear c0 ck hx hTA hz4 hz5
              go_wp2_with fail
              refine HOF.out.mono ?_
              rintro e w5 ⟨A4, n4, c4, rfl, hc4, hr4, hb5⟩
              have hb6 := hb.trans (hb5.mono hb.size)
              clear hb5 d0
              by_cases hz : z = 0
              · have hzd : (z != 0) = false := by rw [hz]; rfl
                have hr := hr4 hz
                have h4 := HZ4.out hz
                have h5 := HZ5.out hz
                have HR := Lib.hid hr
                have hn4 : n4 ≤ 96 := by rw [← hr.len]; exact h5
                clear hr4 hr
                subst hz
                go_wp2_with fail
                go_loopw [14, 112] (fun _ s wx => ∃ i : Nat, i ≤ n4 ∧ s = .int .i64 i ∧ Below w5.heap.size w5 wx) (fun _ s _ => n4 - (intOf s).toNat)
                case atStart => exact ⟨0, by omega, rfl, Below.refl _ _⟩
                case round =>
                  obtain ⟨i, hi4, rfl, hb⟩ := hrel
                  have HBX := Lib.hid (hb6.trans (hb.mono hb6.size))
                  by_cases hlt4 : i < n4
                  · obtain ⟨ad4, r, rfl, had4, hx4, e0, e1⟩ := (HR.out.on hb).at_ hlt4
                    have hbx := bl1 wr (.cells #[.int .i64 r.p, .int .i64 r.n] 39)
                    have HB1 := Lib.hid (hb.trans (hbx.mono hb.size))
                    have HB2 := Lib.hid (HBX.out.trans (hbx.mono HBX.out.size))
                    have m0 := HM.out _ HB2.out 0 _ M0.out
                    clear hbx hx4 had4 hb
                    go_wp2_with fail
                    all_goals
                      first
                      | (go_ret2; exact ⟨_, _, rfl, HW.out _ HB2.out⟩)
                      | (go_roundw
                         case rel => exact ⟨i + 1, by omega, by go_num, HB1.out⟩
                         case measure => simp [intOf]; omega)
                  · have hge4 : n4 ≤ i := by omega
                    have m0 := HM.out _ HBX.out 0 _ M0.out
                    have m1 := HM.out _ HBX.out 1 _ M1.out
                    have m2 := HM.out _ HBX.out 2 _ M2.out
                    have HHO := Lib.hid (holds_any A1 A2 (some ad) A4 n1 n2 n3 n4 c1 c2 c3 c4 P C L wr (HP.out.on (HW.out _ HBX.out)) (HC.out.on (HW.out _ HBX.out)) (HR.out.on hb) (by omega) (by omega) hc4 (by omega) (by omega) (fun x hx => (HPT.out x hx).per))
                    clear hb
                    go_wp2_with fail
                    refine HHO.out.mono ?_
                    rintro e w7 ⟨z, rfl, hb7⟩
                    have HB7 := Lib.hid (HBX.out.trans (hb7.mono HBX.out.size))
                    clear hb7 m0 m1 m2 HHO
                    by_cases hz : z = 0
                    · have hzd : (z != 0) = false := by rw [hz]; rfl
                      subst hz
                      go_wp2_with fail
                      go_roundw
                      case rel => exact ⟨j + 1, by omega, by go_num, HB7.out⟩
                      case measure => simp [intOf]; omega
                    · have hzd : (z != 0) = true := bne_iff_ne.2 hz
                      go_wp2_with fail
                      go_ret2
                      exact ⟨_, _, rfl, HW.out _ HB7.out⟩
              · have hzd : (z != 0) = true := bne_iff_ne.2 hz
                go_wp2_with fail
                go_ret2
                exact ⟨_, _, rfl, HW.out _ hb6⟩
            · have hge : n3 ≤ j := by omega
              go_wp2_with fail
              go_ret2
              exact ⟨_, _, rfl, HW.out _ hb⟩
set_option maxRecDepth 100000 in
theorem cright_any (A1 A2 A3 : Option Addr) (n1 n2 n3 c1 c2 c3 : Nat) (P : List PtV) (C : List ChV) (T : List TbV) (w : World) (hP : RdB pcl w w.heap.size A1 n1 P) (hC : RdB cc w w.heap.size A2 n2 C) (hT : RdB tcl w w.heap.size A3 n3 T)
    (hp : ∀ x ∈ P, PtAt w w.heap.size x) (ht : ∀ t ∈ T, TbAt w w.heap.size t) :
    Calls Try.prog 49 #[.agg #[.slice A1 n1 c1, .slice A2 n2 c2, .slice A3 n3 c3]] w (SomI w) := by
  have hb0 := bl1 w (.cells #[.slice A1 n1 c1, .slice A2 n2 c2, .slice A3 n3 c3] 31)
  have HW := Lib.hid (where_any A1 A2 A3 n1 n2 n3 c1 c2 c3 P C T _ (hP.on hb0) (hC.on hb0) (hT.on hb0) (fun x hx => (hp x hx).on hb0) (fun t ht' => (ht t ht').on hb0))
  clear hP hC hT hp ht
  go_enter Try.func49, Try.ntmps49
  go_wp2_with fail
  refine HW.out.mono ?_
  rintro e w5 ⟨z, i, rfl, hb5⟩
  go_wp2_with fail
  go_ret
  exact ⟨_, rfl, hb0.trans (hb5.mono hb0.size)⟩
end Go.Proofs.Ytoaocdmcjjohgaa
