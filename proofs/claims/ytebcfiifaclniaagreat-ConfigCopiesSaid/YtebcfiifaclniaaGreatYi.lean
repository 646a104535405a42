/- Chapter 12's run: the configurations it is of. -/
import Derived.Test.YtebcfiifaclniaaGreatYg
namespace Go.Proofs.YtebcfiifaclniaaGreat
open Go.RowKit Tab
set_option linter.unusedSimpArgs false
set_option linter.unusedVariables false

def nmA : ByteArray := ⟨#[97]⟩
def ptA (pa : Option Addr) : Pq := (⟨⟨#[97]⟩, 0, 0, false, false, pa, 1, 1, 0, 0, 0, 0, 0⟩, [(0, 0)])
def chA : ChV := ⟨0, 0, false, 0, 0, 0⟩
def tbA (A : Option Addr) : NdT := ⟨A, 1, 1, [⟨1, 0, 1⟩]⟩
def cfA (A1 A3 pa ta : Option Addr) : Cf := ⟨A1, none, A3, 1, 0, 1, 1, 0, 1, [ptA pa], [], [tbA ta]⟩
def cfD (A1 A2 A3 pa ta : Option Addr) : Cf := ⟨A1, A2, A3, 1, 1, 1, 1, 1, 1, [ptA pa], [chA], [tbA ta]⟩
def cfZ : Cf := ⟨none, none, none, 0, 0, 0, 0, 0, 0, [], [], []⟩
theorem ofF_w1 : ofF [⟨1, 0, 1⟩] = (0, [⟨0, 1⟩]) := by
  obtain ⟨x, k, hok, hl, e⟩ := ofF_whole (l := [⟨1, 0, 1⟩]) (by kernel_rfl)
  injection hl with h1 h2
  subst h1
  cases k with
  | nil => rw [e]; kernel_rfl
  | cons y k r => simp [F.flat] at h2
theorem ptA_ok (pa : Option Addr) : ∀ j, j < [ptA pa].length → ptE [ptA pa] j = 0 := fun j hj => by
  obtain rfl : j = 0 := by simpa using hj
  have hn : nameF (ptA pa).1.name = true := by kernel_rfl
  have e := ptE_end (P := [ptA pa]) (i := 0) (x := ptA pa) rfl hn (fun k y hk => by omega)
  have hp : partF (ptA pa).1 (ptA pa).2 = true := by kernel_rfl
  rw [hp] at e
  exact e
theorem szA (pa ta : Option Addr) (C : List ChV) (h : C.length ≤ 8) : sizesB [ptA pa] C [tbA ta] := ⟨Nat.le_refl 1, by show 1 ≤ 6; omega, h, Nat.le_refl 1, by show 1 ≤ 3; omega⟩
theorem whF_A (A1 A3 pa ta : Option Addr) : whF (cfA A1 A3 pa ta) = (0, -1) := by
  refine whereF_ok (szA pa ta [] (by show 0 ≤ 8; omega)) (ptA_ok pa) (fun j hj => by simp [cfA] at hj) fun j hj => ?_
  obtain rfl : j = 0 := by simpa [cfA] using hj
  rw [tbE_at (t := tbA ta) rfl]
  unfold tbW
  show (if (ofF [⟨1, 0, 1⟩]).1 = 0 then (if (ofF [⟨1, 0, 1⟩]).2.any (fun r => decide (((1 : Nat) : Int) ≤ r.p)) = true then 16 else holdsF (wordsL (ofF [⟨1, 0, 1⟩]).2) _ []) else (ofF [⟨1, 0, 1⟩]).1) = 0
  rw [ofF_w1]
  rfl
theorem whF_D (A1 A2 A3 pa ta : Option Addr) : whF (cfD A1 A2 A3 pa ta) = (17, 0) := by
  have e : chE [chA] 1 0 = 17 := by kernel_rfl
  have h := whereF_chan (P := [ptA pa]) (C := [chA]) (T := [tbA ta]) (szA pa ta [chA] (by show 1 ≤ 8; omega)) (ptA_ok pa) (i := 0) (by show 0 < 1; omega) (fun j hj => by omega) (by show chE [chA] 1 0 ≠ 0; rw [e]; decide)
  have e2 : chE [chA] [ptA pa].length 0 = 17 := e
  rw [e2] at h
  exact h
theorem whF_Z : whF cfZ = (3, 0) := whereF_big fun h => by have := h.1; simp [cfZ] at this
theorem nameF_1 : nameF ⟨#[49, 97]⟩ = false := by kernel_rfl
theorem nameF_2 : nameF ⟨#[97, 95, 49]⟩ = true := by kernel_rfl
theorem not_sameAD (A1 A3 pa ta A1' A2' A3' pa' ta' : Option Addr) : sameF (cfA A1 A3 pa ta).P (cfA A1 A3 pa ta).C (cfA A1 A3 pa ta).T (cfD A1' A2' A3' pa' ta').P (cfD A1' A2' A3' pa' ta').C (cfD A1' A2' A3' pa' ta').T = false :=
  sameF_no fun h => by have := h.1.2.2; simp [cfA, cfD] at this
theorem cfZ_rd (w : World) : CfR w cfZ :=
  ⟨⟨rfl, fun h => by simp [cfZ] at h⟩, ⟨rfl, fun h => by simp [cfZ] at h⟩, ⟨rfl, fun h => by simp [cfZ] at h⟩, fun y hy => by simp [cfZ] at hy, fun y hy => by simp [cfZ] at hy, Nat.le_refl _, Nat.le_refl _, Nat.le_refl _, Nat.zero_le _, Nat.zero_le _, Nat.zero_le _, by simp [SizX, cfZ]⟩
section
variable {w : World} {g0 g1 g2 g3 g4 : Nat}
/-- Rows of one element. -/
theorem rdb_one {α : Type} {f : α → List Value} {B g : Nat} (x : α) (h : RdV w B (some ⟨g, 0, none⟩) (f x)) : RdB f w B (some ⟨g, 0, none⟩) 1 [x] := ⟨rfl, by simpa using h⟩
theorem cfA_rd (h0 : RdV w w.heap.size (some ⟨g0, 0, none⟩) [.int .i64 0, .int .i64 0]) (h1 : RdV w w.heap.size (some ⟨g1, 0, none⟩) (pcq (ptA (some ⟨g0, 0, none⟩)))) (h2 : RdV w w.heap.size (some ⟨g2, 0, none⟩) [.int .i64 1, .int .i64 0, .int .i64 1]) (h3 : RdV w w.heap.size (some ⟨g3, 0, none⟩) [.slice (some ⟨g2, 0, none⟩) 1 1]) :
    CfR w (cfA (some ⟨g1, 0, none⟩) (some ⟨g3, 0, none⟩) (some ⟨g0, 0, none⟩) (some ⟨g2, 0, none⟩)) := by
  refine ⟨rdb_one _ h1, ⟨rfl, fun h => by simp [cfA] at h⟩, rdb_one _ h3, fun y hy => ?_, fun y hy => ?_, Nat.le_refl _, Nat.le_refl _, Nat.le_refl _, by show 1 ≤ _; omega, by show 0 ≤ _; omega, by show 1 ≤ _; omega, by simp [SizX, cfA, ptA, tbA]⟩
  · obtain rfl : y = ptA (some ⟨g0, 0, none⟩) := by simpa [cfA] using hy
    exact ⟨⟨⟨by show (-9223372036854775808 : Int) ≤ 0; omega, by show (0 : Int) ≤ 9223372036854775807; omega⟩, by show 1 ≤ 140737488351232; omega, rdb_one (0, 0) h0⟩, Nat.le_refl _, by show 1 ≤ _; omega⟩
  · obtain rfl : y = tbA (some ⟨g2, 0, none⟩) := by simpa [cfA] using hy
    exact ⟨⟨rfl, h2, fun z hz => by simp [tbA] at hz; subst hz; exact ndIn_mk (by omega) (by omega) (by omega)⟩, Nat.le_refl _, by show 1 ≤ _; omega⟩
theorem cfD_rd (h0 : RdV w w.heap.size (some ⟨g0, 0, none⟩) [.int .i64 0, .int .i64 0]) (h1 : RdV w w.heap.size (some ⟨g1, 0, none⟩) (pcq (ptA (some ⟨g0, 0, none⟩)))) (h2 : RdV w w.heap.size (some ⟨g2, 0, none⟩) [.int .i64 1, .int .i64 0, .int .i64 1]) (h3 : RdV w w.heap.size (some ⟨g3, 0, none⟩) [.slice (some ⟨g2, 0, none⟩) 1 1]) (h4 : RdV w w.heap.size (some ⟨g4, 0, none⟩) (cc chA)) :
    CfR w (cfD (some ⟨g1, 0, none⟩) (some ⟨g4, 0, none⟩) (some ⟨g3, 0, none⟩) (some ⟨g0, 0, none⟩) (some ⟨g2, 0, none⟩)) := by
  have h := cfA_rd h0 h1 h2 h3
  exact ⟨h.pp, rdb_one _ h4, h.tb, h.pt, h.tt, Nat.le_refl _, Nat.le_refl _, Nat.le_refl _, by show 1 ≤ _; omega, by show 1 ≤ _; omega, by show 1 ≤ _; omega, by simp [SizX, cfD, ptA, tbA]⟩
end
end Go.Proofs.YtebcfiifaclniaaGreat
