/- IsaNumbers: each op with registers at bounds, places at bounds: the walk. -/
import Derived.Test.YtomaommamjhmmaaDoorKd
namespace Go.Proofs.YtomaommamjhmmaaDoor
set_option maxRecDepth 100000
open Go.RowKit
set_option linter.unusedSimpArgs false
set_option linter.unusedVariables false

/-- A row of small numbers. -/
def Sm (n g : Nat) (W : World) : Prop := ∀ i, i < n → ∃ z : Int, W.cell? ⟨g, i, none⟩ = some (.int .i64 z) ∧ -1 ≤ z ∧ z ≤ 256
theorem Sm.on {n g : Nat} {W W' : World} (h : Sm n g W) (hb : Below W.heap.size W W') : Sm n g W' := fun i hi => by
  obtain ⟨z, h1, h2⟩ := h i hi
  exact ⟨z, (hb.cell (p := ⟨g, i, none⟩) (World.block_lt_of_cell? _ _ h1)).trans h1, h2⟩
theorem sm_lit (W : World) (l : List Int) (C : Array Value) (T : TypeId) (hC : C = (l.map fun z => Value.int .i64 z).toArray) (hl : ∀ z ∈ l, -1 ≤ z ∧ z ≤ 256) : Sm l.length W.heap.size (W.alloc (.cells C T)) := fun i hi => by
  subst hC
  refine ⟨l[i], ?_, hl _ (List.getElem_mem hi)⟩
  rw [World.cell?_alloc_mark]
  simp [hi]
theorem add_sm {a b : Int} (h1 : -1 ≤ a) (h2 : a ≤ 256) (h3 : -1 ≤ b) (h4 : b ≤ 256) : ∃ s, Hid (wrap64 (a + b) = s) ∧ -9223372036854775808 ≤ s ∧ s ≤ 9223372036854775807 := ⟨a + b, Lib.hid (w64I (by omega)), by omega, by omega⟩
theorem up_sm {z : Int} (h1 : -5 ≤ z) (h2 : z ≤ 20) : Hid (wrap64 (z + 1) = z + 1) := Lib.hid (w64I (by omega))
theorem up_nat {i : Nat} (h : i ≤ 20) : Hid (wrap64 ((i : Int) + 1) = ((i + 1 : Nat) : Int)) := Lib.hid (by rw [w64I (by omega)]; omega)
theorem less_w {n k : Nat} {u : Int} (h : u = ((k + 1 : Nat) : Int)) (hk : k < n) : n - (intOf (.int .i64 u)).toNat < n - (intOf (.int .i64 (k : Int))).toNat := by
  subst h
  exact Nat.sub_lt_sub_left hk (Nat.lt_succ_self k)
theorem less_v {K z u : Int} (h : u = z + 1) (hz : z < K) : (K - intOf (.int .i64 u)).toNat < (K - intOf (.int .i64 z)).toNat := by
  subst h
  show (K - (z + 1)).toNat < (K - z).toNat
  omega
theorem less_z {z K : Int} (h : z < K) : (K - (z + 1)).toNat < (K - z).toNat := by omega
set_option maxHeartbeats 4000000 in
theorem numbers15_walk (H : IsaW) (w : World) (hnw : NamW w) : Calls Tryd.prog 3 #[] w (Yes w) := by
  have hrp := rd_lit w [1, 2, 3, 4, 5, 6, 7, 8, 9, 10, 11] #[.int .u8 1, .int .u8 2, .int .u8 3, .int .u8 4, .int .u8 5, .int .u8 6, .int .u8 7, .int .u8 8, .int .u8 9, .int .u8 10, .int .u8 11] 5 rfl
  have hb1 := bl1 w (.cells #[.int .u8 1, .int .u8 2, .int .u8 3, .int .u8 4, .int .u8 5, .int .u8 6, .int .u8 7, .int .u8 8, .int .u8 9, .int .u8 10, .int .u8 11] 5)
  have hnw1 := hnw.on hb1
  have HRP := Lib.hid hrp
  have HB1 := Lib.hid hb1
  have HNW := Lib.hid hnw1
  clear hrp hb1 hnw1 hnw
  go_enter Tryd.func3, Tryd.ntmps3
  go_upto_region 2 with fail
  generalize w.alloc (.cells #[.int .u8 1, .int .u8 2, .int .u8 3, .int .u8 4, .int .u8 5, .int .u8 6, .int .u8 7, .int .u8 8, .int .u8 9, .int .u8 10, .int .u8 11] 5) = W1 at HRP HB1 HNW ⊢
  obtain ⟨g1, hg⟩ : ∃ g, g = w.heap.size := ⟨_, rfl⟩
  have HRQ : Hid (Rd W1 W1.heap.size (some ⟨g1, 0, none⟩) 11 [1, 2, 3, 4, 5, 6, 7, 8, 9, 10, 11]) := Lib.hid (by rw [hg]; exact HRP.out)
  rw [← hg]
  clear hg HRP
  have CS := Lib.hid fun (q : Int) (hq : -9223372036854775808 ≤ q ∧ q ≤ 9223372036854775807) (o a b c : Int) V (hv : Below W1.heap.size W1 V) => same15_any H (some ⟨g1, 0, none⟩) 11 11 _ q ⟨o, a, b, c⟩ V ((HRQ.out.below hv).more hv.size) (by decide) (by decide) hq (HNW.out.on hv)
  have C4 := Lib.hid fun (q : Int) (hq : -9223372036854775808 ≤ q ∧ q ≤ 9223372036854775807) V (hv : Below W1.heap.size W1 V) => same15_any H (some ⟨g1, 0, none⟩) 4 11 _ q ⟨0, 0, 0, 0⟩ V (((HRQ.out.front 4 (by decide)).below hv).more hv.size) (by decide) (by decide) hq (HNW.out.on hv)
  have C0 := Lib.hid fun (q : Int) (hq : -9223372036854775808 ≤ q ∧ q ≤ 9223372036854775807) V (hv : Below W1.heap.size W1 V) => same15_any H none 0 0 [] q ⟨0, 0, 0, 0⟩ V (rd_nil V _) (by decide) (by decide) hq (HNW.out.on hv)
  have CK := Lib.hid fun V (hv : Below W1.heap.size W1 V) => known15_any H V (HNW.out.on hv)
  dsimp only [iv] at CS C4 C0
  clear HRQ HNW
  go_wp2_with fail
  go_loopw [2] (fun s wx => ∃ z : Int, s = .int .i64 z ∧ -1 ≤ z ∧ z ≤ 20 ∧ Below W1.heap.size W1 wx) (fun s _ => (20 - intOf s).toNat)
  case atStart => exact ⟨-1, rfl, by decide, by decide, Below.refl _ _⟩
  case round =>
    obtain ⟨z, rfl, h1, h2, hb⟩ := hrel
    by_cases hz : z < 20
    · have HZ := Lib.hid (And.intro h1 hz)
      have HB := Lib.hid hb
      clear h1 h2 hb
      go_wp2_with fail
      have HS2 := Lib.hid (sm_lit wr [-1, 0, 7, 8, 255, 256] #[.int .i64 (-1), .int .i64 0, .int .i64 7, .int .i64 8, .int .i64 255, .int .i64 256] 3 rfl (by decide))
      have HB2 := Lib.hid (HB.out.trans ((bl1 wr (.cells #[.int .i64 (-1), .int .i64 0, .int .i64 7, .int .i64 8, .int .i64 255, .int .i64 256] 3)).mono HB.out.size))
      generalize wr.alloc (.cells #[.int .i64 (-1), .int .i64 0, .int .i64 7, .int .i64 8, .int .i64 255, .int .i64 256] 3) = W2 at HS2 HB2 ⊢
      generalize wr.heap.size = g2 at HS2 ⊢
      clear HB hz
      go_loopw [17] (fun s wx => ∃ i : Nat, s = .int .i64 i ∧ i ≤ 6 ∧ Below W2.heap.size W2 wx) (fun s _ => 6 - (intOf s).toNat)
      case atStart => exact ⟨0, rfl, by decide, Below.refl _ _⟩
      case round =>
        obtain ⟨i, rfl, hi, hb⟩ := hrel
        by_cases hi6 : i < 6
        · obtain ⟨a, ha, ha1, ha2⟩ := (HS2.out.on hb) i hi6
          have ead := mk_addI g2 i
          have hi6' : (i : Int) < 6 := by omega
          have HI := Lib.hid hi6
          have HA := Lib.hid (And.intro ha1 ha2)
          have HB := Lib.hid (HB2.out.trans (hb.mono HB2.out.size))
          have HBI := Lib.hid hb
          clear ha1 ha2 hb hi hi6
          go_wp2_with fail
          clear ha ead hi6'
          have HS3 := Lib.hid (sm_lit wr [0, 7, 8, 255, 256] #[.int .i64 0, .int .i64 7, .int .i64 8, .int .i64 255, .int .i64 256] 3 rfl (by decide))
          have HBX := Lib.hid (HBI.out.trans ((bl1 wr (.cells #[.int .i64 0, .int .i64 7, .int .i64 8, .int .i64 255, .int .i64 256] 3)).mono HBI.out.size))
          have HB3 := Lib.hid (HB.out.trans ((bl1 wr (.cells #[.int .i64 0, .int .i64 7, .int .i64 8, .int .i64 255, .int .i64 256] 3)).mono HB.out.size))
          generalize wr.alloc (.cells #[.int .i64 0, .int .i64 7, .int .i64 8, .int .i64 255, .int .i64 256] 3) = W3 at HS3 HB3 HBX ⊢
          generalize wr.heap.size = g3 at HS3 ⊢
          clear HB HBI
          go_loopw [23] (fun s wx => ∃ j : Nat, s = .int .i64 j ∧ j ≤ 5 ∧ Below W3.heap.size W3 wx) (fun s _ => 5 - (intOf s).toNat)
          case atStart => exact ⟨0, rfl, by decide, Below.refl _ _⟩
          case round =>
            obtain ⟨j, rfl, hj, hb⟩ := hrel
            by_cases hj5 : j < 5
            · obtain ⟨b, hbc, hb1, hb2⟩ := (HS3.out.on hb) j hj5
              have ead := mk_addI g3 j
              have hj5' : (j : Int) < 5 := by omega
              have HJ := Lib.hid hj5
              obtain ⟨sm, HSM, hs1, hs2⟩ := add_sm HA.out.1 HA.out.2 hb1 hb2
              have HSB := Lib.hid (And.intro hs1 hs2)
              have HB := Lib.hid (HB3.out.trans (hb.mono HB3.out.size))
              have HBI := Lib.hid hb
              clear hb1 hb2 hb hj hj5 hs1 hs2
              go_wp2_with fail
              clear hbc ead hj5'
              have HS4 := Lib.hid (sm_lit wr [-1, 7, 8, 256] #[.int .i64 (-1), .int .i64 7, .int .i64 8, .int .i64 256] 3 rfl (by decide))
              have HBY := Lib.hid (HBI.out.trans ((bl1 wr (.cells #[.int .i64 (-1), .int .i64 7, .int .i64 8, .int .i64 256] 3)).mono HBI.out.size))
              have HB4 := Lib.hid (HB.out.trans ((bl1 wr (.cells #[.int .i64 (-1), .int .i64 7, .int .i64 8, .int .i64 256] 3)).mono HB.out.size))
              generalize wr.alloc (.cells #[.int .i64 (-1), .int .i64 7, .int .i64 8, .int .i64 256] 3) = W4 at HS4 HB4 HBY ⊢
              generalize wr.heap.size = g4 at HS4 ⊢
              clear HB HBI
              go_loopw [29] (fun s wx => ∃ k : Nat, s = .int .i64 k ∧ k ≤ 4 ∧ Below W4.heap.size W4 wx) (fun s _ => 4 - (intOf s).toNat)
              case atStart => exact ⟨0, rfl, by decide, Below.refl _ _⟩
              case round =>
                obtain ⟨k, rfl, hk, hb⟩ := hrel
                by_cases hk4 : k < 4
                · obtain ⟨c, hcc, _, _⟩ := (HS4.out.on hb) k hk4
                  have ead := mk_addI g4 k
                  have hk4' : (k : Int) < 4 := by omega
                  have HK := Lib.hid hk4
                  have HB := Lib.hid (HB4.out.trans (hb.mono HB4.out.size))
                  have HBI := Lib.hid hb
                  have hsm := HSM.out
                  clear hb hk hk4
                  go_wp2_with fail
                  refine (CS.out sm HSB.out z a b c wr HB.out).mono ?_
                  rintro e w5 ⟨rfl, hb5⟩
                  have HB5 := Lib.hid (HBI.out.trans (hb5.mono HBI.out.size))
                  have hup := (up_nat (Nat.le_of_lt (Nat.lt_of_lt_of_le HK.out (by decide : 4 ≤ 20)))).out
                  clear hb5 HBI hcc ead hk4' hsm
                  go_wp2_with fail
                  go_roundw
                  case rel => exact ⟨k + 1, congrArg (Value.int .i64) hup, HK.out, HB5.out⟩
                  case measure => exact less_w hup HK.out
                · obtain rfl : k = 4 := by omega
                  have HB5 := Lib.hid (HBY.out.trans (hb.mono HBY.out.size))
                  have hup := (up_nat (Nat.le_of_lt (Nat.lt_of_lt_of_le HJ.out (by decide : 5 ≤ 20)))).out
                  clear hb hk hk4
                  go_wp2_with fail
                  go_roundw
                  case rel => exact ⟨j + 1, congrArg (Value.int .i64) hup, HJ.out, HB5.out⟩
                  case measure => exact less_w hup HJ.out
            · obtain rfl : j = 5 := by omega
              have HB5 := Lib.hid (HBX.out.trans (hb.mono HBX.out.size))
              have hup := (up_nat (Nat.le_of_lt (Nat.lt_of_lt_of_le HI.out (by decide : 6 ≤ 20)))).out
              clear hb hj hj5
              go_wp2_with fail
              go_roundw
              case rel => exact ⟨i + 1, congrArg (Value.int .i64) hup, HI.out, HB5.out⟩
              case measure => exact less_w hup HI.out
        · obtain rfl : i = 6 := by omega
          have HB5 := Lib.hid (HB2.out.trans (hb.mono HB2.out.size))
          have hup := (up_sm (z := z) (Int.le_trans (by decide) HZ.out.1) (Int.le_of_lt HZ.out.2)).out
          clear hb hi hi6
          go_wp2_with fail
          go_roundw
          case rel => exact ⟨z + 1, congrArg (Value.int .i64) hup, by have := HZ.out; clear hup; omega, by have := HZ.out; clear hup; omega, HB5.out⟩
          case measure => exact less_v hup HZ.out.2
    · have HB := Lib.hid hb
      clear h1 h2 hb
      go_wp2_with fail
      clear hz
      generalize wr = W6 at HB ⊢
      go_loopw [9] (fun s wx => ∃ y : Int, s = .int .i64 y ∧ -5 ≤ y ∧ y ≤ 16 ∧ Below W6.heap.size W6 wx) (fun s _ => (16 - intOf s).toNat)
      case atStart => exact ⟨-5, rfl, by decide, by decide, Below.refl _ _⟩
      case round =>
        obtain ⟨y, rfl, h1, h2, hb⟩ := hrel
        have HB7 := Lib.hid (HB.out.trans (hb.mono HB.out.size))
        have HBJ := Lib.hid hb
        by_cases hy : y < 16
        · have HY := Lib.hid (And.intro h1 hy)
          have HY6 : Hid (-9223372036854775808 ≤ y ∧ y ≤ 9223372036854775807) := Lib.hid (by omega)
          clear h1 h2 hb
          go_wp2_with fail
          refine (CS.out y HY6.out 0 0 0 0 wr HB7.out).mono ?_
          rintro e w2 ⟨rfl, hb2⟩
          have HB8 := Lib.hid (HB7.out.trans (hb2.mono HB7.out.size))
          have HBK := Lib.hid (HBJ.out.trans (hb2.mono HBJ.out.size))
          clear hb2
          go_wp2_with fail
          refine (C4.out y HY6.out w2 HB8.out).mono ?_
          rintro e w3 ⟨rfl, hb3⟩
          have HB9 := Lib.hid (HB8.out.trans (hb3.mono HB8.out.size))
          have HBL := Lib.hid (HBK.out.trans (hb3.mono HBK.out.size))
          clear hb3
          go_wp2_with fail
          refine (C0.out y HY6.out w3 HB9.out).mono ?_
          rintro e w4 ⟨rfl, hb4⟩
          have HBM := Lib.hid (HBL.out.trans (hb4.mono HBL.out.size))
          have hup := (up_sm (z := y) HY.out.1 (Int.le_of_lt (Int.lt_trans HY.out.2 (by decide)))).out
          clear hb4 hy
          go_wp2_with fail
          go_roundw
          case rel => exact ⟨y + 1, congrArg (Value.int .i64) hup, by have := HY.out; clear hup; omega, by have := HY.out; clear hup; omega, HBM.out⟩
          case measure => exact less_v hup HY.out.2
        · clear h1 h2 hb
          go_wp2_with fail
          refine (CS.out 4611686018427387904 (by decide) 0 0 0 0 wr HB7.out).mono ?_
          rintro e w2 ⟨rfl, hb2⟩
          have HB8 := Lib.hid (HB7.out.trans (hb2.mono HB7.out.size))
          clear hb2
          go_wp2_with fail
          refine (CS.out (-9223372036854775808) (by decide) 0 0 0 0 w2 HB8.out).mono ?_
          rintro e w3 ⟨rfl, hb3⟩
          have HB9 := Lib.hid (HB8.out.trans (hb3.mono HB8.out.size))
          clear hb3
          go_wp2_with fail
          refine (CK.out w3 HB9.out).mono ?_
          rintro e w4 ⟨rfl, hb4⟩
          go_wp2_with fail
          go_ret
          exact ⟨rfl, HB1.out.trans ((HB9.out.trans (hb4.mono HB9.out.size)).mono HB1.out.size)⟩
end Go.Proofs.YtomaommamjhmmaaDoor
