/- Chapter 7's runs. -/
import Derived.Test.YtcmdhaieggjgcaaGrea
import Derived.Test.YtcmdhaieggjgcaaLow5
import Derived.Test.YtcmdhaieggjgcaaSamem
import Derived.Test.YtcmdhaieggjgcaaLow2
import Derived.Test.YtcmdhaieggjgcaaLow3
import Derived.Laws.StructEq
import Derived.BigQuiet
namespace Go.Proofs.Ytcmdhaieggjgcaa
open Go.RowKit Tab
set_option linter.unusedSimpArgs false
set_option linter.unusedVariables false

def zP : PtV := ⟨⟨#[]⟩, 0, 0, false, false, none, 0, 0, 0, 0, 0, 0, 0⟩
def P7 : List PtV := [zP, zP, zP]
def C7 : List ChV := [⟨0, 1, false, 0, 0, 0⟩, ⟨1, 2, true, 0, 0, 0⟩]
theorem elP : Elt 32 52 11 104 (.agg #[.string ⟨#[]⟩, .int .i64 0, .int .i64 0, .bool false, .bool false, .slice none 0 0, .int .i64 0, .int .i64 0, .int .i64 0, .int .i64 0, .int .i64 0]) := ⟨Try.underlying32, by kernel_rfl, rfl, by omega⟩
theorem elC : Elt 33 48 6 48 (.agg #[.int .i64 0, .int .i64 0, .bool false, .int .i64 0, .int .u32 0, .int .i64 0]) := ⟨Try.underlying33, by kernel_rfl, rfl, by omega⟩
theorem run_makeP (m : Nat) (hm : m ≤ 1024) (W : World) : (Instr.makeSlice 32 (.int .i64 (m : Int)) (.int .i64 (m : Int))).run Try.prog W = .ok (.slice (some ⟨W.heap.size, 0, none⟩) m m) (W.alloc (.cells (madeCells #[.string ⟨#[]⟩, .int .i64 0, .int .i64 0, .bool false, .bool false, .slice none 0 0, .int .i64 0, .int .i64 0, .int .i64 0, .int .i64 0, .int .i64 0] (m * 11)) 52)) := by
  obtain ⟨i, hi, hz, hs, hby⟩ := info_parts elP.hi
  have hr := run_make (P := Try.prog) W 32 52 i _ elP.ht hi hz .i64 .i64 m m (by omega) (by omega) (by rw [hby]; omega) (by omega)
  rw [hs] at hr
  simp only [Int.toNat_natCast] at hr
  exact hr
theorem made_parts : (madeCells #[.string ⟨#[]⟩, .int .i64 0, .int .i64 0, .bool false, .bool false, .slice none 0 0, .int .i64 0, .int .i64 0, .int .i64 0, .int .i64 0, .int .i64 0] 33).toList = P7.flatMap pcl := by kernel_rfl
theorem k7_1 : swayF (P7.map ptOf) (C7.map chOf) 0 1 = true := by kernel_rfl
theorem k7_2 : swayF (P7.map ptOf) (C7.map chOf) 1 0 = false := by kernel_rfl
theorem k7_3 : swayF (P7.map ptOf) (C7.map chOf) 2 1 = true := by kernel_rfl
theorem k7_4 : depF (P7.map ptOf) (C7.map chOf) 1 0 = true := by kernel_rfl
theorem k7_5 : depF (P7.map ptOf) (C7.map chOf) 0 2 = false := by kernel_rfl
theorem k7_6 : freeF (P7.map ptOf) (C7.map chOf) (-1) 0 = true := by kernel_rfl
theorem k7_7 : freeF (P7.map ptOf) (C7.map chOf) 0 2 = true := by kernel_rfl
theorem k7_8 : freeF (P7.map ptOf) (C7.map chOf) 0 9 = false := by kernel_rfl
theorem k7_9 : reachL (P7.map ptOf) (C7.map chOf) 1 = [0, 1, 2] := by kernel_rfl
theorem k7_10 : reachL (P7.map ptOf) (C7.map chOf) 0 = [0] := by kernel_rfl
theorem make_3 (W : World) : (Instr.makeSlice 32 (.int .i64 3) (.int .i64 3)).run Try.prog W = .ok (.slice (some ⟨W.heap.size, 0, none⟩) 3 3) (W.alloc (.cells (madeCells #[.string ⟨#[]⟩, .int .i64 0, .int .i64 0, .bool false, .bool false, .slice none 0 0, .int .i64 0, .int .i64 0, .int .i64 0, .int .i64 0, .int .i64 0] 33) 52)) := run_makeP 3 (by omega) W
end Go.Proofs.Ytcmdhaieggjgcaa
