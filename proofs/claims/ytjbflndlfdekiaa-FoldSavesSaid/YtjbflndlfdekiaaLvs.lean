/- The leaves of a row of runs, as items. -/
import Derived.Test.YtjbflndlfdekiaaSzi
import Derived.Test.YtjbflndlfdekiaaLow3
namespace Go.Proofs.Ytjbflndlfdekiaa
open Go.RowKit Tab
set_option linter.unusedSimpArgs false
set_option linter.unusedVariables false

/-- A row of runs as items. -/
def itemsI (L : List Rn) : Itr := L.map fun r => [leafN r]
theorem itemsI_parts (L : List Rn) : parts (itemsF L) = itemsI L := by
  induction L with
  | nil => rfl
  | cons r s ih => simp only [itemsF, parts, itemsI, List.map_cons, F.flat] at ih ⊢; rw [ih]
theorem itemsI_len (L : List Rn) : (itemsI L).length = L.length := by simp [itemsI]
theorem itemsI_sz (L : List Rn) : szI (itemsI L) = L.length := by rw [← itemsI_parts, parts_sz, itemsF_sz]
/-- It answers a row of items, new. -/
def MadeL (I : Itr) (w : World) (e : Ending) (w' : World) : Prop := ∃ g c, e = .returned (.slice (some ⟨g, 0, none⟩) I.length c) ∧ OwnL w' w.heap.size g I.length c I ∧ Below w.heap.size w w' ∧ c = I.length
theorem run_makeL (m : Nat) (hm : m ≤ 1048576) (W : World) : (Instr.makeSlice 46 (.int .i64 (m : Int)) (.int .i64 (m : Int))).run Try.prog W = .ok (.slice (some ⟨W.heap.size, 0, none⟩) m m) (W.alloc (.cells (madeCells #[.slice none 0 0] m) 31)) := by
  obtain ⟨i, hi, hz, hs, hby⟩ := info_parts elL.hi
  have hr := run_make (P := Try.prog) W 46 31 i _ elL.ht hi hz .i64 .i64 m m (by omega) (by omega) (by rw [hby]; omega) (by omega)
  rw [hs] at hr
  simp only [Int.toNat_natCast, Nat.mul_one] at hr
  exact hr
/-- The first i cells are leaves. -/
def LeafCells (w : World) (g i : Nat) (L : List Rn) (V : List Value) : Prop := ∀ j r v, j < i → L[j]? = some r → V[j]? = some v → ItemAt w w.heap.size g [leafN r] v
theorem lvs_step {wr w1 : World} {g n i : Nat} {L : List Rn} {V : List Value} {r : Rn} {k1 k2 k3 : Int} (hlc : LeafCells wr g i L V) (how : OwnV 31 1 w1 g (some ⟨g, 0, none⟩) n n V) (hb : Below wr.heap.size wr w1) (hgs : g < wr.heap.size)
    (hr : L[i]? = some r) (hk : (⟨k1, k2, k3⟩ : Nd) = leafN r) (hin : NdIn ⟨k1, k2, k3⟩) (hlt : i < n) :
    OwnV 31 1 ((w1.setCell ⟨g, i, none⟩ (.slice (some ⟨w1.heap.size, 0, none⟩) 1 1)).alloc (.cells #[.int .i64 k1, .int .i64 k2, .int .i64 k3] 53)) g (some ⟨g, 0, none⟩) n n (V.set i (.slice (some ⟨w1.heap.size, 0, none⟩) 1 1)) ∧
    LeafCells ((w1.setCell ⟨g, i, none⟩ (.slice (some ⟨w1.heap.size, 0, none⟩) 1 1)).alloc (.cells #[.int .i64 k1, .int .i64 k2, .int .i64 k3] 53)) g (i + 1) L (V.set i (.slice (some ⟨w1.heap.size, 0, none⟩) 1 1)) ∧
    Below g wr ((w1.setCell ⟨g, i, none⟩ (.slice (some ⟨w1.heap.size, 0, none⟩) 1 1)).alloc (.cells #[.int .i64 k1, .int .i64 k2, .int .i64 k3] 53)) ∧
    g < ((w1.setCell ⟨g, i, none⟩ (.slice (some ⟨w1.heap.size, 0, none⟩) 1 1)).alloc (.cells #[.int .i64 k1, .int .i64 k2, .int .i64 k3] 53)).heap.size := by
  obtain ⟨ho, _⟩ := World.ownsRow.stored how i (.slice (some ⟨w1.heap.size, 0, none⟩) 1 1)
  have hs : (w1.setCell ⟨g, i, none⟩ (.slice (some ⟨w1.heap.size, 0, none⟩) 1 1)).heap.size = w1.heap.size := by simp
  have hbs := hb.size
  have hbl := bl1 (w1.setCell ⟨g, i, none⟩ (.slice (some ⟨w1.heap.size, 0, none⟩) 1 1)) (.cells #[.int .i64 k1, .int .i64 k2, .int .i64 k3] 53)
  have hrd := rdV_new (w1.setCell ⟨g, i, none⟩ (.slice (some ⟨w1.heap.size, 0, none⟩) 1 1)) #[.int .i64 k1, .int .i64 k2, .int .i64 k3] 53 (ns [⟨k1, k2, k3⟩]) rfl
  rw [hs] at hrd
  have hsz := hbl.size
  refine ⟨OwnV.below ho rfl hbl, fun j q v hj hq hv => ?_, ((hb.mono (Nat.le_of_lt hgs)).setCell (p := ⟨g, i, none⟩) (Nat.le_refl _) _).trans (hbl.mono (by rw [hs]; omega)), by omega⟩
  by_cases hji : j = i
  · subst hji
    rw [hr] at hq
    injection hq with hq
    subst hq
    rw [List.getElem?_set_self (by rw [how.len]; omega)] at hv
    injection hv with hv
    subst hv
    rw [← hk]
    exact ⟨_, 1, rfl, Nat.le_refl _, ⟨rfl, hrd, fun y hy => by simp at hy; subst hy; exact hin⟩, fun ad had => by injection had with had; subst had; show w1.heap.size ≠ g; omega⟩
  · rw [List.getElem?_set_ne (by omega)] at hv
    refine (hlc j q v (by omega) hq hv).keep (by omega) fun p hp hg => ?_
    rw [World.cell?_alloc_lt _ _ _ (by rw [hs]; omega), World.cell?_setCell_other _ _ _ _ (fun e => hg (by first | rw [e] | rw [← e]))]
    exact hb.cell hp
set_option maxRecDepth 100000 in
set_option maxHeartbeats 4000000 in
theorem leaves_any (A : Option Addr) (n cap : Nat) (L : List Rn) (w : World) (h : RdR w w.heap.size A n L) (hc : n ≤ cap) (hn : n ≤ 1048576) (hL : ∀ r ∈ L, In64 r.p ∧ r.n ≤ 1048576) :
    Calls Try.prog 20 #[.slice A n cap] w (MadeL (itemsI L) w) := by
  have hmk := run_makeL n hn
  have HLL := Lib.hid hL
  clear hL
  go_enter Try.func20, Try.ntmps20
  go_wp2_with fail
  have hb0 := bl1 w (.cells (madeCells #[.slice none 0 0] n) 31)
  have how0 : OwnV 31 1 (w.alloc (.cells (madeCells #[.slice none 0 0] n) 31)) w.heap.size (some ⟨w.heap.size, 0, none⟩) n n (madeCells #[.slice none 0 0] n).toList := ownV_lit w _ 1 w.heap.size _ n (by rw [size_madeCells, Nat.mul_one]) (Nat.le_refl _) (by unfold maxLen; omega)
  obtain ⟨V0, hV0⟩ : ∃ V0, V0 = (madeCells #[.slice none 0 0] n).toList := ⟨_, rfl⟩
  rw [← hV0] at how0
  have hg0 : w.heap.size < (w.alloc (.cells (madeCells #[.slice none 0 0] n) 31)).heap.size := by simp
  clear hV0
  obtain ⟨g, hg⟩ : ∃ g, g = w.heap.size := ⟨_, rfl⟩
  generalize w.alloc (.cells (madeCells #[.slice none 0 0] n) 31) = W0 at hb0 how0 hg0 ⊢
  rw [← hg] at how0 hg0 ⊢
  have HG := Lib.hid hg
  clear hg hmk
  go_loopw [4, 5, 11] (fun _ _ s wr => ∃ (i : Nat) (V : List Value), i ≤ n ∧ s = .int .i64 i ∧ OwnV 31 1 wr g (some ⟨g, 0, none⟩) n n V ∧ LeafCells wr g i L V ∧ Below w.heap.size w wr ∧ g < wr.heap.size) (fun _ _ s _ => n - (intOf s).toNat)
  case atStart => exact ⟨0, V0, by omega, rfl, how0, fun j r v hj => by omega, hb0, hg0⟩
  case round =>
    obtain ⟨i, V, hi, rfl, how, hlc, hb, hgs⟩ := hrel
    have HLC := Lib.hid hlc
    clear hlc
    by_cases hlt : i < n
    · obtain ⟨ad, r, rfl, had, hr, c0, c1⟩ := (h.on hb).at_ hlt
      have hrL := HLL.out r (List.mem_of_getElem? hr)
      obtain ⟨rp, rn⟩ := r
      dsimp only at c0 c1 hrL
      have hbx := bl1 wr (.cells #[.int .i64 rp, .int .i64 (rn : Int)] 41)
      have HR := Lib.hid hr
      clear hr
      go_wp2_with fail
      refine (leaf_any ⟨rp, rn⟩ _).mono ?_
      rintro e w1 ⟨rfl, hb1⟩
      have hb2 : Below wr.heap.size wr w1 := hbx.trans (hb1.mono hbx.size)
      have hin : NdIn (leafN ⟨rp, rn⟩) := by
        unfold leafN NdIn
        unfold In64 at hrL ⊢
        dsimp only at hrL ⊢
        split <;> dsimp only <;> omega
      have hown1 := how.below rfl hb2
      have hgs1 : g < w1.heap.size := Nat.lt_of_lt_of_le hgs hb2.size
      have hvi : V[i]? = some (V[i]'(by rw [how.len]; omega)) := List.getElem?_eq_getElem _
      have d0 : w1.cell? ⟨g, i, none⟩ = some (V[i]'(by rw [how.len]; omega)) := (World.ownsRow.cellAt hown1 i (by omega)).trans hvi
      have d1 : w1.frozen? ⟨g, i, none⟩ = false := World.ownsRow.frozenAt hown1 i
      generalize (V[i]'(by rw [how.len]; omega)) = u at d0 hvi
      clear hvi c0 c1 hbx hb1
      obtain ⟨lk, hlk⟩ : ∃ x, x = leafN ⟨rp, rn⟩ := ⟨_, rfl⟩
      have HK := Lib.hid hlk
      rw [← hlk] at hin ⊢
      clear hlk
      obtain ⟨k1, k2, k3⟩ := lk
      go_wp2_with fail
      have F := lvs_step (i := i) HLC.out hown1 hb2 hgs HR.out (k1 := k1) (k2 := k2) (k3 := k3) HK.out hin hlt
      go_roundw
      case rel => exact ⟨i + 1, _, by omega, by go_num, F.1, F.2.1, hb.trans (F.2.2.1.mono (by rw [HG.out]; exact Nat.le_refl _)), F.2.2.2⟩
      case measure => simp [intOf]; omega
    · have hge : n ≤ i := by omega
      go_wp2_with fail
      go_ret
      have hll := h.len
      refine ⟨g, n, by rw [itemsI_len, hll]; rfl, ?_, hb, by rw [itemsI_len, hll]⟩
      rw [itemsI_len, hll]
      refine ⟨by rw [itemsI_len, hll], ⟨V, how.weak (by rw [HG.out]; exact Nat.le_refl _), by rw [how.len, itemsI_len, hll]; omega, fun j x v hx hv => ?_⟩, by rw [HG.out]; exact Nat.le_refl _, hgs, Nat.le_refl _⟩
      unfold itemsI at hx
      rw [List.getElem?_map] at hx
      cases hr : L[j]? with
      | none => rw [hr] at hx; cases hx
      | some r =>
        rw [hr] at hx
        simp only [Option.map_some, Option.some.injEq] at hx
        subst hx
        exact HLC.out j r v (by have := (List.getElem?_eq_some_iff.1 hr).1; omega) hr hv
end Go.Proofs.Ytjbflndlfdekiaa
