/- Whether a partition may be, whether a name is one, by the document's own answer (that it answers). -/
import Derived.Test.YtoaocdmcjjohgaaLow6
import Derived.Test.YtoaocdmcjjohgaaLow1
namespace Go.Proofs.Ytoaocdmcjjohgaa
open Go.RowKit Tab
set_option linter.unusedSimpArgs false
set_option linter.unusedVariables false

/-- Processes in memory, whatever they are. -/
def ProcsAt (w : World) (B : Nat) (A : Option Addr) (n : Nat) : Prop := ∀ i, i < n → ∃ ad e p, A = some ad ∧ ad.block < B ∧ w.cell? (ad.add (i * 2)) = some (.int .i64 e) ∧ w.cell? ⟨(ad.add (i * 2)).block, (ad.add (i * 2)).off + 1, none⟩ = some (.int .i64 p)
theorem ProcsAt.on {w w' : World} {A : Option Addr} {n : Nat} (h : ProcsAt w w.heap.size A n) (hb : Below w.heap.size w w') : ProcsAt w' w'.heap.size A n := fun i hi => by
  obtain ⟨ad, e, p, hA, hB, h1, h2⟩ := h i hi
  refine ⟨ad, e, p, hA, Nat.lt_of_lt_of_le hB hb.size, ?_, ?_⟩
  · rw [hb.cell (by rw [add_block]; exact hB)]; exact h1
  · rw [hb.cell (by show (ad.add (i * 2)).block < _; rw [add_block]; exact hB)]; exact h2
set_option maxRecDepth 100000 in
set_option maxHeartbeats 4000000 in
theorem name_any (s : ByteArray) (w : World) (hs : s.size ≤ 1048576) : Calls Try.prog 70 #[.string s] w (SomB w) := by
  go_enter Try.func70, Try.ntmps70
  go_wp2_with fail
  go_loopw [3, 4] (fun q _ wr => ∃ i : Nat, i ≤ s.size ∧ q = .int .i64 i ∧ Below w.heap.size w wr) (fun q _ _ => s.size - (intOf q).toNat)
  case atStart => exact ⟨0, by omega, rfl, Below.refl _ _⟩
  case round =>
    obtain ⟨i, hi, rfl, hb⟩ := hrel
    by_cases hlt : i < s.size
    · go_wp2_with fail
      all_goals
        first
        | (go_ret; exact ⟨_, rfl, hb⟩)
        | (go_roundw
           case rel => exact ⟨i + 1, by omega, by go_num, hb⟩
           case measure => simp [intOf]; omega)
    · have hge : s.size ≤ i := by omega
      go_wp2_with fail
      all_goals
        go_ret
        exact ⟨_, rfl, hb⟩
set_option maxRecDepth 100000 in
set_option maxHeartbeats 4000000 in
theorem partRight_any (x : PtV) (w : World) (h : ProcsAt w w.heap.size x.pa x.pn) (hn : x.pn ≤ 1048576) : Calls Try.prog 71 #[pv x] w (SomB w) := by
  obtain ⟨nm, bu, pe, sc, st, pa, pn, pc, h0, h1, h2, h3, h4⟩ := x
  dsimp only at h hn
  go_enter Try.func71, Try.ntmps71
  by_cases hp1 : pn < 1
  · have hp1' : (pn : Int) < 1 := by omega
    go_wp2_with fail
    go_ret
    exact ⟨_, rfl, bl1 _ _⟩
  · by_cases hp3 : 3 < pn
    · have hp3' : (3 : Int) < (pn : Int) := by omega
      have hp1' : ¬ (pn : Int) < 1 := by omega
      go_wp2_with fail
      go_ret
      exact ⟨_, rfl, bl1 _ _⟩
    · have hp3' : ¬ (3 : Int) < (pn : Int) := by omega
      have hp1' : ¬ (pn : Int) < 1 := by omega
      go_wp2_with fail
      have hb0 := bl1 w (.cells #[.string nm, .int .i64 bu, .int .i64 pe, .bool sc, .bool st, .slice pa pn pc, .int .i64 h0, .int .i64 h1, .int .i64 h2, .int .i64 h3, .int .i64 h4] 64)
      have n1 : (w.alloc (.cells #[.string nm, .int .i64 bu, .int .i64 pe, .bool sc, .bool st, .slice pa pn pc, .int .i64 h0, .int .i64 h1, .int .i64 h2, .int .i64 h3, .int .i64 h4] 64)).cell? ⟨w.heap.size, 1, none⟩ = some (.int .i64 bu) := World.cell?_alloc_mark _ _ _ _ _
      have n2 : (w.alloc (.cells #[.string nm, .int .i64 bu, .int .i64 pe, .bool sc, .bool st, .slice pa pn pc, .int .i64 h0, .int .i64 h1, .int .i64 h2, .int .i64 h3, .int .i64 h4] 64)).cell? ⟨w.heap.size, 2, none⟩ = some (.int .i64 pe) := World.cell?_alloc_mark _ _ _ _ _
      have n6 : (w.alloc (.cells #[.string nm, .int .i64 bu, .int .i64 pe, .bool sc, .bool st, .slice pa pn pc, .int .i64 h0, .int .i64 h1, .int .i64 h2, .int .i64 h3, .int .i64 h4] 64)).cell? ⟨w.heap.size, 6, none⟩ = some (.int .i64 h0) := World.cell?_alloc_mark _ _ _ _ _
      have n7 : (w.alloc (.cells #[.string nm, .int .i64 bu, .int .i64 pe, .bool sc, .bool st, .slice pa pn pc, .int .i64 h0, .int .i64 h1, .int .i64 h2, .int .i64 h3, .int .i64 h4] 64)).cell? ⟨w.heap.size, 7, none⟩ = some (.int .i64 h1) := World.cell?_alloc_mark _ _ _ _ _
      have n8 : (w.alloc (.cells #[.string nm, .int .i64 bu, .int .i64 pe, .bool sc, .bool st, .slice pa pn pc, .int .i64 h0, .int .i64 h1, .int .i64 h2, .int .i64 h3, .int .i64 h4] 64)).cell? ⟨w.heap.size, 8, none⟩ = some (.int .i64 h2) := World.cell?_alloc_mark _ _ _ _ _
      have n9 : (w.alloc (.cells #[.string nm, .int .i64 bu, .int .i64 pe, .bool sc, .bool st, .slice pa pn pc, .int .i64 h0, .int .i64 h1, .int .i64 h2, .int .i64 h3, .int .i64 h4] 64)).cell? ⟨w.heap.size, 9, none⟩ = some (.int .i64 h3) := World.cell?_alloc_mark _ _ _ _ _
      have n10 : (w.alloc (.cells #[.string nm, .int .i64 bu, .int .i64 pe, .bool sc, .bool st, .slice pa pn pc, .int .i64 h0, .int .i64 h1, .int .i64 h2, .int .i64 h3, .int .i64 h4] 64)).cell? ⟨w.heap.size, 10, none⟩ = some (.int .i64 h4) := World.cell?_alloc_mark _ _ _ _ _
      have hgs : w.heap.size < (w.alloc (.cells #[.string nm, .int .i64 bu, .int .i64 pe, .bool sc, .bool st, .slice pa pn pc, .int .i64 h0, .int .i64 h1, .int .i64 h2, .int .i64 h3, .int .i64 h4] 64)).heap.size := by simp
      have hw1 := h.on hb0
      generalize w.alloc (.cells #[.string nm, .int .i64 bu, .int .i64 pe, .bool sc, .bool st, .slice pa pn pc, .int .i64 h0, .int .i64 h1, .int .i64 h2, .int .i64 h3, .int .i64 h4] 64) = W at n1 n2 n6 n7 n8 n9 n10 hb0 hgs hw1 ⊢
      obtain ⟨g, hg⟩ : ∃ g, g = w.heap.size := ⟨_, rfl⟩
      rw [← hg] at n1 n2 n6 n7 n8 n9 n10 hgs ⊢
      have HG := Lib.hid hg
      clear hg
      have HN := Lib.hid fun W' (hb : Below W.heap.size W W') (o : Nat) v (hv : W.cell? ⟨g, o, none⟩ = some v) => (hb.cell (p := ⟨g, o, none⟩) hgs).trans hv
      have N1 := Lib.hid n1
      have N2 := Lib.hid n2
      have N6 := Lib.hid n6
      have N7 := Lib.hid n7
      have N8 := Lib.hid n8
      have N9 := Lib.hid n9
      have N10 := Lib.hid n10
      clear n1 n2 n6 n7 n8 n9 n10
      go_loopw [4, 20] (fun _ s wr => ∃ i : Nat, i ≤ pn ∧ s = .int .i64 i ∧ Below W.heap.size W wr) (fun _ s _ => pn - (intOf s).toNat)
      case atStart => exact ⟨0, by omega, rfl, Below.refl _ _⟩
      case round =>
        obtain ⟨i, hi, rfl, hb⟩ := hrel
        by_cases hlt : i < pn
        · obtain ⟨ad, e, p, rfl, had, c0, c1⟩ := hw1.on hb i hlt
          have HB := Lib.hid (hb.trans ((bl1 wr (.cells #[.int .i64 e, .int .i64 p] 66)).mono hb.size))
          go_wp2_with fail
          all_goals
            first
            | (go_ret; exact ⟨_, rfl, hb0.trans (HB.out.mono hb0.size)⟩)
            | (go_roundw
               case rel => exact ⟨i + 1, by omega, by go_num, HB.out⟩
               case measure => simp [intOf]; omega)
        · have hge : pn ≤ i := by omega
          have n1 := HN.out wr hb 1 _ N1.out
          have n2 := HN.out wr hb 2 _ N2.out
          have n6 := HN.out wr hb 6 _ N6.out
          have n7 := HN.out wr hb 7 _ N7.out
          have n8 := HN.out wr hb 8 _ N8.out
          have n9 := HN.out wr hb 9 _ N9.out
          have n10 := HN.out wr hb 10 _ N10.out
          go_wp2_with fail
          clear n6 n7 n8 n9 n10
          go_loopw [6, 45] (fun _ s wx => ∃ j : Nat, j ≤ 5 ∧ s = .int .i64 j ∧ Below W.heap.size W wx) (fun _ s _ => 5 - (intOf s).toNat)
          case atStart => exact ⟨0, by omega, rfl, hb⟩
          case round =>
            obtain ⟨j, hj, rfl, hb⟩ := hrel
            by_cases hj5 : j < 5
            · obtain ⟨z, hz⟩ : ∃ z, ∀ W, (Instr.index 62 (.agg #[Value.int .i64 h0, .int .i64 h1, .int .i64 h2, .int .i64 h3, .int .i64 h4]) (.int .i64 (j : Int))).run Try.prog W = .ok (.int .i64 z) W := by
                rcases (by omega : j = 0 ∨ j = 1 ∨ j = 2 ∨ j = 3 ∨ j = 4) with rfl | rfl | rfl | rfl | rfl
                · exact ⟨h0, fun W => by simp [Instr.index, go_sem]⟩
                · exact ⟨h1, fun W => by simp [Instr.index, go_sem]⟩
                · exact ⟨h2, fun W => by simp [Instr.index, go_sem]⟩
                · exact ⟨h3, fun W => by simp [Instr.index, go_sem]⟩
                · exact ⟨h4, fun W => by simp [Instr.index, go_sem]⟩
              have hj5' : (j : Int) < 5 := by omega
              go_wp2_with fail
              all_goals
                first
                | (go_ret; exact ⟨_, rfl, hb0.trans (hb.mono hb0.size)⟩)
                | (go_roundw
                   case rel => exact ⟨j + 1, by omega, by go_num, hb⟩
                   case measure => simp [intOf]; omega)
            · have hj5' : ¬ (j : Int) < 5 := by omega
              have n1 := HN.out wr hb 1 _ N1.out
              have n2 := HN.out wr hb 2 _ N2.out
              go_wp2_with fail
              all_goals
                go_ret
                exact ⟨_, rfl, hb0.trans (hb.mono hb0.size)⟩
end Go.Proofs.Ytoaocdmcjjohgaa
