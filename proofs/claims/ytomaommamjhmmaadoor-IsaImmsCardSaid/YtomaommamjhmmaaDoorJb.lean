/- Instructions: the document's own Imm, and its names. -/
import Derived.Test.YtomaommamjhmmaaDoorJa
namespace Go.Proofs.YtomaommamjhmmaaDoor
open Go.RowKit
set_option linter.unusedSimpArgs false
set_option linter.unusedVariables false

/-- 256 times B and C, 32 bits. -/
def immF (x : InsV) : Int := (256 * x.b + x.c) % 4294967296
theorem imm_wrap (b c : Int) : wrap64 (wrap64 (256 * b) + c) % 4294967296 = (256 * b + c) % 4294967296 := by
  unfold wrap64
  omega
set_option maxRecDepth 100000 in
set_option maxHeartbeats 4000000 in
theorem rimm_any (x : InsV) (w : World) : Calls Tryd.prog 17 #[iv x] w (Ans (.int .u32 (immF x)) w) := by
  obtain ⟨o, a, b, c⟩ := x
  have HI : Hid (wrap64 (wrap64 (256 * b) + c) % 4294967296 = immF ⟨o, a, b, c⟩) := Lib.hid (imm_wrap b c)
  generalize immF ⟨o, a, b, c⟩ = v at HI ⊢
  unfold iv
  dsimp only
  have hb0 := bl1 w (.cells #[.int .i64 o, .int .i64 a, .int .i64 b, .int .i64 c] 26)
  have n2 : (w.alloc (.cells #[.int .i64 o, .int .i64 a, .int .i64 b, .int .i64 c] 26)).cell? ⟨w.heap.size, 2, none⟩ = some (.int .i64 b) := World.cell?_alloc_mark _ _ _ _ _
  have n3 : (w.alloc (.cells #[.int .i64 o, .int .i64 a, .int .i64 b, .int .i64 c] 26)).cell? ⟨w.heap.size, 3, none⟩ = some (.int .i64 c) := World.cell?_alloc_mark _ _ _ _ _
  go_enter Tryd.func17, Tryd.ntmps17
  go_upto_region 1 with fail
  generalize w.alloc (.cells #[.int .i64 o, .int .i64 a, .int .i64 b, .int .i64 c] 26) = w1 at hb0 n2 n3 ⊢
  have HB0 := Lib.hid hb0
  clear hb0
  obtain ⟨g, hg⟩ : ∃ g, g = w.heap.size := ⟨_, rfl⟩
  rw [← hg] at n2 n3 ⊢
  clear hg
  go_wp2_with fail
  go_ret
  exact Ans.mk (by rw [← HI.out]; rfl) HB0.out
/-- The names of the ops. -/
def opL : List ByteArray := [⟨#[110, 111, 112]⟩, ⟨#[115, 101, 116]⟩, ⟨#[97, 100, 100]⟩, ⟨#[115, 117, 98]⟩, ⟨#[109, 117, 108]⟩, ⟨#[100, 105, 118]⟩, ⟨#[108, 111, 97, 100]⟩, ⟨#[115, 116, 111, 114, 101]⟩, ⟨#[106, 109, 112]⟩, ⟨#[106, 122]⟩, ⟨#[119, 97, 105, 116]⟩, ⟨#[115, 101, 110, 100]⟩, ⟨#[114, 101, 99, 118]⟩, ⟨#[105, 110]⟩, ⟨#[116, 105, 109, 101]⟩, ⟨#[99, 104, 97, 110, 103, 101]⟩, ⟨#[115, 116, 111, 112, 97, 108, 108]⟩, ⟨#[101, 110, 100]⟩]
/-- Eighteen names in a row of one's own. -/
def OpnA (w : World) (e : Ending) (w' : World) : Prop := ∃ g, e = .returned (.slice (some ⟨g, 0, none⟩) 18 18) ∧ w.heap.size ≤ g ∧ g < w'.heap.size ∧ (∀ i s, opL[i]? = some s → w'.cell? ⟨g, i, none⟩ = some (.string s)) ∧ Below w.heap.size w w'
set_option maxRecDepth 100000 in
set_option maxHeartbeats 4000000 in
theorem lnames_any (w : World) : Calls Tryd.prog 16 #[] w (OpnA w) := by
  have hb := bl1 w (.cells (opL.map Value.string).toArray 9)
  have hc : ∀ i s, opL[i]? = some s → (w.alloc (.cells (opL.map Value.string).toArray 9)).cell? ⟨w.heap.size, i, none⟩ = some (.string s) := fun i s h => by
    rw [World.cell?_alloc_mark]
    simp [h]
  have hs : w.heap.size < (w.alloc (.cells (opL.map Value.string).toArray 9)).heap.size := by simp
  have H := Lib.hid (And.intro hs (And.intro hc hb))
  clear hs hc hb
  go_enter Tryd.func16, Tryd.ntmps16
  go_wp2_with fail
  go_ret
  exact ⟨w.heap.size, rfl, Nat.le_refl _, H.out.1, H.out.2.1, H.out.2.2⟩
end Go.Proofs.YtomaommamjhmmaaDoor
