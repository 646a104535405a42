import Derived.Test.YtfmndmhjjbeokaaGreatDoorLow47
import Derived.Test.YtfmndmhjjbeokaaGreatDoorLow39
import Derived.Test.YtfmndmhjjbeokaaGreatDoorLow14
import Derived.Test.YtfmndmhjjbeokaaGreatDoorLow29
import Derived.Test.YtfmndmhjjbeokaaGreatDoorLow24
import Derived.Test.YtfmndmhjjbeokaaGreatDoorLow23
import Derived.Test.YtfmndmhjjbeokaaGreatDoorLow44
import Derived.Deep.CutBlock
import Derived.Test.YtfmndmhjjbeokaaGreatDoorLow19
namespace Go.Proofs.YtfmndmhjjbeokaaGreatDoor
set_option maxRecDepth 100000
open Go.RowKit Tab Txt
set_option linter.unusedSimpArgs false
set_option linter.unusedVariables false
set_option maxHeartbeats 400000 in
theorem ttxt_any (A : Option Addr) (n cap : Nat) (x : Nd) (k : F) (AN : Option Addr) (nn cn : Nat) (L : List (List UInt8)) (hL : ∀ s ∈ L, s.length ≤ 64) (w : World) (h : RdN w w.heap.size A n (x :: k.flat)) (hc : n ≤ cap) (hn : n ≤ 1048576) (hok : (F.cons x k .nil).ok) (hN : RdB sc w w.heap.size AN nn L) (hpp : ∀ y ∈ x :: k.flat, y.k = 1 → y.p < nn) (ht : TabW w) :
    Calls Tryz.prog 34 #[.slice A n cap, .slice AN nn cn] w (Ans (.string (bsOf (txN (nmP L) x (txX (nmP L) k false)))) w) := by
  have HC := Lib.hid (tspelt_any A n cap (x :: k.flat) hc hn AN nn cn L hL (k.sz + 1) 0 x k .nil [] w (Nat.lt_succ_self _) h hok (by show x :: k.flat = (x :: (k.flat ++ [])) ++ []; simp) hN hpp ht)
  generalize txN (nmP L) x (txX (nmP L) k false) = T at HC ⊢
  generalize 0 + 1 + k.sz = q at HC
  clear h hok hN hpp ht
  go_enter Tryz.func34, Tryz.ntmps34
  go_wp2_with fail
  refine HC.out.mono ?_
  rintro e w1 ⟨rfl, hb⟩
  go_wp2_with fail
  go_ret
  exact ⟨rfl, hb⟩
set_option maxHeartbeats 1000000 in
theorem tNode_tree (A : Option Addr) (n cap : Nat) (x : Nd) (k : F) (w : World) (h : RdN w w.heap.size A n (x :: k.flat)) (hc : n ≤ cap) (hn : n ≤ 1048576) (hok : (F.cons x k .nil).ok) (hr : Calls Tryz.prog 36 #[.slice A n cap] w (Ans (.int .i64 0) w)) (ht : TabW w) :
    Calls Tryz.prog 13 #[.slice A n cap] w (Ans (.string (bsOf (nodeT x k))) w) := by
  have H := Lib.hid hr
  have HH := Lib.hid h
  have HOK := Lib.hid hok
  have HTB := Lib.hid ht
  have HPP : Hid (∀ y ∈ x :: k.flat, y.k = 1 → y.p < ((6 : Nat) : Int)) := Lib.hid fun y hy hk => by
    have h1 := fine_mem (F.cons x k .nil) hok y (by rw [show (F.cons x k .nil).flat = x :: (k.flat ++ []) from rfl, List.append_nil]; exact hy)
    unfold fine at h1
    rw [if_pos hk] at h1
    simp only [Bool.and_eq_true, decide_eq_true_eq] at h1
    omega
  clear h hr hok ht
  go_enter Tryz.func13, Tryz.ntmps13
  go_wp2_with fail
  refine H.out.mono ?_
  rintro e w1 ⟨rfl, hb1⟩
  have HB1 := Lib.hid hb1
  have hmk : (Instr.makeSlice 39 (.int .i64 6) (.int .i64 6)).run Tryz.prog w1 = .ok (.slice (some ⟨w1.heap.size, 0, none⟩) 6 6) (w1.alloc (.cells (madeCells #[.string ⟨#[]⟩] 6) 9)) := run_makeSt 6 (by omega) w1
  have hbm := bl1 w1 (.cells (madeCells #[.string ⟨#[]⟩] 6) 9)
  have hom := ownV_lit w1 9 1 w1.heap.size (madeCells #[.string ⟨#[]⟩] 6) 6 (by simp [size_madeCells]) (Nat.le_refl _) (by unfold maxLen; omega)
  rw [made_strs] at hom
  have HBM := Lib.hid hbm
  have HOM := Lib.hid hom
  clear hb1 hbm hom H
  go_wp2_with fail
  generalize w1.alloc (.cells (madeCells #[.string ⟨#[]⟩] 6) 9) = wm at HBM HOM ⊢
  go_loopw [4, 11] (fun _ s wr => ∃ i : Nat, i ≤ 6 ∧ s = .int .i64 i ∧ OwnV 9 1 wr w1.heap.size (some ⟨w1.heap.size, 0, none⟩) 6 6 (stRow num6 6 i) ∧ Below w1.heap.size w1 wr) (fun _ s _ => 6 - (intOf s).toNat)
  case atStart => exact ⟨0, by omega, rfl, by rw [stRow_0]; exact HOM.out, HBM.out⟩
  case round =>
    obtain ⟨i, hi, rfl, ho, hb⟩ := hrel
    have HO := Lib.hid ho
    have HB := Lib.hid hb
    clear ho hb HOM HBM
    by_cases hlt : i < 6
    · have hlti : (i : Int) < 6 := by omega
      have HNM := Lib.hid (tnumi_any i (by omega) wr (HTB.out.on (HB1.out.trans (HB.out.mono HB1.out.size))))
      go_wp2_with fail
      refine HNM.out.mono ?_
      rintro e w4 ⟨rfl, hb4⟩
      have ho4 := OwnV.below HO.out rfl hb4
      have hb5 := HB.out.trans (hb4.mono HB.out.size)
      obtain ⟨z0, c1⟩ : ∃ v, w4.cell? ⟨w1.heap.size, i, none⟩ = some v := ⟨_, (World.ownsRow.cellAt ho4 i (by omega)).trans (List.getElem?_eq_getElem (by rw [ho4.1]; omega))⟩
      have c2 := World.ownsRow.frozenAt ho4 i
      have HO5 : Hid (OwnV 9 1 (w4.setCell ⟨w1.heap.size, i, none⟩ (.string (bsOf (numB i)))) w1.heap.size (some ⟨w1.heap.size, 0, none⟩) 6 6 (stRow num6 6 (i + 1))) := Lib.hid (by rw [← stRow_set hlt (num6_get hlt)]; exact OwnV.set ho4 i _ (by rw [ho4.1]; omega))
      have HB5 : Hid (Below w1.heap.size w1 (w4.setCell ⟨w1.heap.size, i, none⟩ (.string (bsOf (numB i))))) := Lib.hid (hb5.setCell (p := ⟨w1.heap.size, i, none⟩) (Nat.le_refl _) _)
      clear ho4 hb5 hb4 HNM
      go_wp2_with fail
      go_roundw
      case rel => exact ⟨i + 1, by omega, by go_num, HO5.out, HB5.out⟩
      case measure => simp [intOf]; omega
    · have hlti : ¬ (i : Int) < 6 := by omega
      obtain rfl : i = 6 := by omega
      have ho := HO.out
      rw [stRow_all (L := num6) (n := 6) rfl] at ho
      have hB := HB1.out.trans (HB.out.mono HB1.out.size)
      have HC := Lib.hid (ttxt_any A n cap x k (some ⟨w1.heap.size, 0, none⟩) 6 6 num6 num6_len wr (HH.out.on hB) hc hn HOK.out ⟨rfl, ho.rd⟩ HPP.out (HTB.out.on hB))
      have HBB := Lib.hid hB
      clear ho hB
      go_wp2_with fail
      refine HC.out.mono ?_
      rintro e w3 ⟨rfl, hb3⟩
      go_wp2_with fail
      go_ret
      exact ⟨rfl, HBB.out.trans (hb3.mono HBB.out.size)⟩
end Go.Proofs.YtfmndmhjjbeokaaGreatDoor
namespace Go.Proofs.YtfmndmhjjbeokaaGreatDoor
open Go.RowKit Tab
set_option linter.unusedSimpArgs false
set_option linter.unusedVariables false
theorem flat_inj : ∀ (a b : F) (s t : List Nd), a.ok → b.ok → a.cnt = b.cnt → a.flat ++ s = b.flat ++ t → a = b ∧ s = t
  | .nil, .nil, s, t, _, _, _, h => ⟨rfl, by simpa [F.flat] using h⟩
  | .nil, .cons _ _ _, _, _, _, _, hc, _ => by simp [F.cnt] at hc
  | .cons _ _ _, .nil, _, _, _, _, hc, _ => by simp [F.cnt] at hc
  | .cons x k r, .cons y k' r', s, t, ha, hb, hc, h => by
    simp only [F.flat, List.cons_append, List.cons.injEq, List.append_assoc] at h
    obtain ⟨rfl, h⟩ := h
    obtain ⟨_, hk, hkok, hrok⟩ := ha
    obtain ⟨_, hk', hkok', hrok'⟩ := hb
    obtain ⟨rfl, h2⟩ := flat_inj k k' _ _ hkok hkok' (by rw [hk, hk']) h
    obtain ⟨rfl, h3⟩ := flat_inj r r' _ _ hrok hrok' (by simp [F.cnt] at hc; exact hc) h2
    exact ⟨rfl, h3⟩
theorem ofF_tree {x : Nd} {k : F} (hok : (F.cons x k .nil).ok) : ofF (x :: k.flat) = (ofz (x :: k.flat).length (k.dep + 1) (one x k.lvs), tidy (one x k.lvs)) := by
  obtain ⟨y, k', hok', hl, e⟩ := ofF_whole (tree_whole hok)
  simp only [List.cons.injEq] at hl
  obtain ⟨rfl, hl⟩ := hl
  obtain ⟨rfl, _⟩ := flat_inj k k' [] [] hok.2.2.1 hok'.2.2.1 (by rw [hok.2.1, hok'.2.1]) (by rw [hl])
  exact e
end Go.Proofs.YtfmndmhjjbeokaaGreatDoor
namespace Go.Proofs.YtfmndmhjjbeokaaGreatDoor
set_option maxRecDepth 100000
open Go.RowKit Tab Txt
set_option linter.unusedSimpArgs false
set_option linter.unusedVariables false
def k13s1 : List UInt8 := [115, 40, 119, 48, 58, 49, 44, 105, 50, 41]
def k13s2 : List UInt8 := [115, 40, 41]
def k13m4 : List UInt8 := [35, 32, 97, 32, 109, 111, 100, 117, 108, 101, 10, 112, 97, 114, 116, 32, 97, 32, 48, 32, 48, 32, 115, 116, 32, 48, 49, 50, 48, 48, 32, 48, 58, 49, 44, 52, 58, 50, 10, 10, 116, 97, 98, 108, 101, 32, 114, 50, 40, 119, 97, 58, 51, 41, 10]
def k13m5 : List UInt8 := [112, 97, 114, 116, 32, 97, 32, 48, 32, 48, 32, 45, 32, 48, 48, 48, 48, 48, 32, 48, 58, 48, 10, 99, 104, 97, 110, 32, 97, 32, 98, 32, 115, 32, 49, 32, 48, 10]
def k13c : Cft := ⟨[(⟨bsOf [97], 0, 0, true, true, none, 2, 2, 0, 1, 2, 0, 0⟩, [(0, 1), (4, 2)])], [], [ndT0 [⟨4, 0, 2⟩, ⟨1, 0, 3⟩]]⟩
theorem k13_1 : tabD k13s1 = some [⟨3, 0, 2⟩, ⟨1, 0, 1⟩, ⟨2, 0, 2⟩] := by kernel_rfl
theorem k13_2 : tabD k13s2 = none := by kernel_rfl
theorem k13_4 : linesQ 0 cft0 (splitF 10 k13m4) = .inr k13c := by kernel_rfl
theorem k13_5 : linesQ 0 cft0 (splitF 10 k13m5) = .inl 2 := by kernel_rfl
theorem wh_none : whereF [] [] [] = (3, 0) := by
  unfold whereF
  rw [if_neg (by decide)]
theorem k13_p3 : parseQ [] = (3, 0, cft0) := by
  unfold parseQ
  rw [if_neg (by decide), linesQ_nil]
  show (if (whereF [] [] []).1 = 0 then ((0 : Int), (0 : Int), cft0) else ((whereF [] [] []).1, 0, cft0)) = (3, 0, cft0)
  rw [wh_none]
  rfl
theorem k13_ok : whereF k13c.P k13c.C k13c.T = (0, -1) := by
  refine whereF_ok (by decide) (fun j hj => ?_) (fun j hj => absurd hj (Nat.not_lt_zero _)) fun j hj => ?_
  · obtain rfl : j = 0 := by have : j < 1 := hj; omega
    kernel_rfl
  · obtain rfl : j = 0 := by have : j < 1 := hj; omega
    show tbW k13c.P k13c.C [⟨4, 0, 2⟩, ⟨1, 0, 3⟩] = 0
    have e := ofF_tree (x := ⟨4, 0, 2⟩) (k := .cons ⟨1, 0, 3⟩ .nil .nil) (by simp [F.ok, fine, kn, F.cnt])
    have e2 : ofF [⟨4, 0, 2⟩, ⟨1, 0, 3⟩] = (0, [⟨0, 6⟩]) := e.trans (by kernel_rfl)
    have e3 : holdsF (wordsL [⟨0, 6⟩]) (k13c.P.map Prod.fst) k13c.C = 0 := by kernel_rfl
    unfold tbW
    rw [e2]
    show (if (0 : Int) = 0 then (if ([(⟨0, 6⟩ : Rn)]).any (fun r => decide ((k13c.P.length : Int) ≤ r.p)) = true then 16 else holdsF (wordsL [⟨0, 6⟩]) (k13c.P.map Prod.fst) k13c.C) else 0) = 0
    rw [if_pos rfl, if_neg (by decide), e3]
theorem k13_p4 : parseQ k13m4 = (0, 0, k13c) := by
  unfold parseQ
  rw [if_neg (by decide), k13_4]
  show (if (whereF k13c.P k13c.C k13c.T).1 = 0 then _ else _) = _
  rw [k13_ok, if_pos rfl]
theorem k13_p5 : parseQ k13m5 = (12, 2, cft0) := by
  unfold parseQ
  rw [if_neg (by decide), k13_5]
  rfl
end Go.Proofs.YtfmndmhjjbeokaaGreatDoor
