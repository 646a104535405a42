/- Contracts and mathematics that the texts behind it stand on: Gkno, Wsam. -/
import Derived.Test.YtoaocdmcjjohgaaLow9
import Derived.Test.YtoaocdmcjjohgaaLow5
import Derived.Test.YtoaocdmcjjohgaaLow4
import Derived.Test.YtoaocdmcjjohgaaLow3
import Derived.Laws.StructEq
/- Chapter 7's runs. -/
namespace Go.Proofs.Ytoaocdmcjjohgaa
open Go.RowKit Tab
set_option linter.unusedSimpArgs false
set_option linter.unusedVariables false

def zP : PtV := ⟨⟨#[]⟩, 0, 0, false, false, none, 0, 0, 0, 0, 0, 0, 0⟩
def P7 : List PtV := [zP, zP, zP]
def C7 : List ChV := [⟨0, 1, false, 0, 0, 0⟩, ⟨1, 2, true, 0, 0, 0⟩]
theorem elP : Elt 27 64 11 104 (.agg #[.string ⟨#[]⟩, .int .i64 0, .int .i64 0, .bool false, .bool false, .slice none 0 0, .int .i64 0, .int .i64 0, .int .i64 0, .int .i64 0, .int .i64 0]) := ⟨Try.underlying27, by kernel_rfl, rfl, by omega⟩
theorem elC : Elt 28 70 6 48 (.agg #[.int .i64 0, .int .i64 0, .bool false, .int .i64 0, .int .u32 0, .int .i64 0]) := ⟨Try.underlying28, by kernel_rfl, rfl, by omega⟩
theorem run_makeP (m : Nat) (hm : m ≤ 1024) (W : World) : (Instr.makeSlice 27 (.int .i64 (m : Int)) (.int .i64 (m : Int))).run Try.prog W = .ok (.slice (some ⟨W.heap.size, 0, none⟩) m m) (W.alloc (.cells (madeCells #[.string ⟨#[]⟩, .int .i64 0, .int .i64 0, .bool false, .bool false, .slice none 0 0, .int .i64 0, .int .i64 0, .int .i64 0, .int .i64 0, .int .i64 0] (m * 11)) 64)) := by
  obtain ⟨i, hi, hz, hs, hby⟩ := info_parts elP.hi
  have hr := run_make (P := Try.prog) W 27 64 i _ elP.ht hi hz .i64 .i64 m m (by omega) (by omega) (by rw [hby]; omega) (by omega)
  rw [hs] at hr
  simp only [Int.toNat_natCast] at hr
  exact hr
theorem made_parts : (madeCells #[.string ⟨#[]⟩, .int .i64 0, .int .i64 0, .bool false, .bool false, .slice none 0 0, .int .i64 0, .int .i64 0, .int .i64 0, .int .i64 0, .int .i64 0] 33).toList = P7.flatMap pcl := by kernel_rfl
theorem k7_1 : swayF (P7.map ptOf) (C7.map chOf) 0 1 = true := by kernel_rfl
theorem k7_2 : swayF (P7.map ptOf) (C7.map chOf) 1 0 = false := by kernel_rfl
theorem k7_3 : swayF (P7.map ptOf) (C7.map chOf) 2 1 = true := by kernel_rfl
theorem k7_4 : depF (P7.map ptOf) (C7.map chOf) 1 0 = true := by kernel_rfl
theorem k7_5 : depF (P7.map ptOf) (C7.map chOf) 0 2 = false := by kernel_rfl
theorem k7_6 : freeF (P7.map ptOf) (C7.map chOf) (-1) 0 = true := by kernel_rfl
theorem k7_7 : freeF (P7.map ptOf) (C7.map chOf) 0 2 = true := by kernel_rfl
theorem k7_8 : freeF (P7.map ptOf) (C7.map chOf) 0 9 = false := by kernel_rfl
theorem k7_9 : reachL (P7.map ptOf) (C7.map chOf) 1 = [0, 1, 2] := by kernel_rfl
theorem k7_10 : reachL (P7.map ptOf) (C7.map chOf) 0 = [0] := by kernel_rfl
theorem make_3 (W : World) : (Instr.makeSlice 27 (.int .i64 3) (.int .i64 3)).run Try.prog W = .ok (.slice (some ⟨W.heap.size, 0, none⟩) 3 3) (W.alloc (.cells (madeCells #[.string ⟨#[]⟩, .int .i64 0, .int .i64 0, .bool false, .bool false, .slice none 0 0, .int .i64 0, .int .i64 0, .int .i64 0, .int .i64 0, .int .i64 0] 33) 64)) := run_makeP 3 (by omega) W
end Go.Proofs.Ytoaocdmcjjohgaa

/- Law 8's same, over what package word is to answer. -/
namespace Go.Proofs.Ytoaocdmcjjohgaa
open Go.RowKit Tab
set_option linter.unusedSimpArgs false
set_option linter.unusedVariables false

/-- It answers a row of runs. -/
def RowW (L : List Rn) (w : World) (e : Ending) (w' : World) : Prop := ∃ A c, e = .returned (.slice A L.length c) ∧ RdR w' w'.heap.size A L.length L ∧ L.length ≤ c ∧ Below w.heap.size w w'
theorem MadeR.w {L : List Rn} {w w' : World} {e : Ending} (h : MadeR L w e w') : RowW L w e w' := by
  obtain ⟨A, c, h1, h2, h3, h4, _⟩ := h
  exact ⟨A, c, h1, h2, h3, h4⟩
/-- A row with the two at a place turned about; itself, where there are no two. -/
def swZ (L : List Rn) (k : Int) : List Rn := if 0 ≤ k ∧ k + 1 < (L.length : Int) then swapAt L k.toNat else L
theorem proj_le (a b : Int) (L : List Rn) : (proj a b L).length ≤ L.length := Nat.le_trans (tidy_le _) (prj_le a b L)
end Go.Proofs.Ytoaocdmcjjohgaa
