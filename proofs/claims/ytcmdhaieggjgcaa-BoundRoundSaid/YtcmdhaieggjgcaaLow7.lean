/- Contracts and mathematics that the texts behind it stand on: Bkno, Gdep. -/
import Derived.Test.YtcmdhaieggjgcaaLow6
import Derived.StillTailTactics
/- Law 9's known, over what package bound is to answer. -/
namespace Go.Proofs.Ytcmdhaieggjgcaa
open Go.RowKit Tab
set_option linter.unusedSimpArgs false
set_option linter.unusedVariables false

def L9 : List Rn := [⟨0, 2⟩, ⟨1, 1⟩, ⟨-1, 3⟩]
def X9 : ChV := ⟨0, 1, false, 0, 0, 1⟩
theorem k9_0 : lateL (wordsL L9) 0 1 = 2 := by kernel_rfl
theorem k9_1 : lateL (wordsL L9) 1 0 = 4 := by kernel_rfl
theorem k9_2 : lateL (wordsL L9) 0 3 = (-1) := by kernel_rfl
theorem k9_3 : lateL (wordsL L9) 3 0 = 0 := by kernel_rfl
theorem k9_4 : budL (wordsL L9) 0 3 = 0 := by kernel_rfl
theorem k9_5 : budL (wordsL L9) 0 6 = 2 := by kernel_rfl
theorem k9_6 : budL (wordsL L9) 0 0 = (-1) := by kernel_rfl
theorem k9_7 : budL (wordsL L9) 0 4 = (-1) := by kernel_rfl
theorem k9_8 : gapL (wordsL L9) 0 = 4 := by kernel_rfl
theorem k9_9 : gapL (wordsL L9) 5 = (-1) := by kernel_rfl
theorem k9_late : holdsF (wordsL L9) [] [X9] = 19 := by kernel_rfl
theorem k9_ok : holdsF (wordsL L9) [] [] = 0 := by kernel_rfl
theorem rdb_nil {α : Type} (f : α → List Value) (w : World) (B : Nat) : RdB f w B none 0 [] := ⟨rfl, RdV.nil⟩
set_option maxRecDepth 100000 in
set_option maxHeartbeats 4000000 in
theorem known9_any (H : BoundW) (w : World) : Calls Try.prog 18 #[] w (Ans (.bool true) w) := by
  have hb0 := bl1 w (.cells #[.int .i64 0, .int .i64 2, .int .i64 1, .int .i64 1, .int .i64 (-1), .int .i64 3] 44)
  have hrl : RdR (w.alloc (.cells #[.int .i64 0, .int .i64 2, .int .i64 1, .int .i64 1, .int .i64 (-1), .int .i64 3] 44)) (w.alloc (.cells #[.int .i64 0, .int .i64 2, .int .i64 1, .int .i64 1, .int .i64 (-1), .int .i64 3] 44)).heap.size (some ⟨w.heap.size, 0, none⟩) 3 L9 := ⟨rfl, rdV_new w _ _ _ rfl⟩
  have HB0 := Lib.hid hb0
  have htk : ticks L9 ≤ 8192 := by decide
  go_enter Try.func18, Try.ntmps18
  go_upto_region 2 with fail
  obtain ⟨g1, hg1⟩ : ∃ g1, g1 = w.heap.size := ⟨_, rfl⟩
  rw [← hg1] at hrl ⊢
  clear hg1 hb0
  generalize w.alloc (.cells #[.int .i64 0, .int .i64 2, .int .i64 1, .int .i64 1, .int .i64 (-1), .int .i64 3] 44) = W0 at HB0 hrl ⊢
  have HRL := Lib.hid fun W (hb : Below W0.heap.size W0 W) => hrl.on hb
  clear hrl
  have C0 := Lib.hid fun W (hb : Below W0.heap.size W0 W) => H.late (some ⟨g1, 0, none⟩) 3 3 L9 0 1 W (HRL.out W hb) (by omega) (by omega) htk
  rw [k9_0] at C0
  have C1 := Lib.hid fun W (hb : Below W0.heap.size W0 W) => H.late (some ⟨g1, 0, none⟩) 3 3 L9 1 0 W (HRL.out W hb) (by omega) (by omega) htk
  rw [k9_1] at C1
  have C2 := Lib.hid fun W (hb : Below W0.heap.size W0 W) => H.late (some ⟨g1, 0, none⟩) 3 3 L9 0 3 W (HRL.out W hb) (by omega) (by omega) htk
  rw [k9_2] at C2
  have C3 := Lib.hid fun W (hb : Below W0.heap.size W0 W) => H.late (some ⟨g1, 0, none⟩) 3 3 L9 3 0 W (HRL.out W hb) (by omega) (by omega) htk
  rw [k9_3] at C3
  have C4 := Lib.hid fun W (hb : Below W0.heap.size W0 W) => H.budget (some ⟨g1, 0, none⟩) 3 3 L9 0 3 W (HRL.out W hb) (by omega) (by omega) htk (by unfold In64; omega)
  rw [k9_4] at C4
  have C5 := Lib.hid fun W (hb : Below W0.heap.size W0 W) => H.budget (some ⟨g1, 0, none⟩) 3 3 L9 0 6 W (HRL.out W hb) (by omega) (by omega) htk (by unfold In64; omega)
  rw [k9_5] at C5
  have C6 := Lib.hid fun W (hb : Below W0.heap.size W0 W) => H.budget (some ⟨g1, 0, none⟩) 3 3 L9 0 0 W (HRL.out W hb) (by omega) (by omega) htk (by unfold In64; omega)
  rw [k9_6] at C6
  have C7 := Lib.hid fun W (hb : Below W0.heap.size W0 W) => H.budget (some ⟨g1, 0, none⟩) 3 3 L9 0 4 W (HRL.out W hb) (by omega) (by omega) htk (by unfold In64; omega)
  rw [k9_7] at C7
  have C8 := Lib.hid fun W (hb : Below W0.heap.size W0 W) => H.gaps (some ⟨g1, 0, none⟩) 3 3 L9 0 W (HRL.out W hb) (by omega) (by omega) htk
  rw [k9_8] at C8
  have C9 := Lib.hid fun W (hb : Below W0.heap.size W0 W) => H.gaps (some ⟨g1, 0, none⟩) 3 3 L9 5 W (HRL.out W hb) (by omega) (by omega) htk
  rw [k9_9] at C9
  have CL := Lib.hid fun W (hb : Below W0.heap.size W0 W) A2 (hC : RdB cc W W.heap.size A2 1 [X9]) => H.holds none A2 none (some ⟨g1, 0, none⟩) 0 1 0 3 0 1 0 3 [] [X9] L9 W (rdb_nil _ _ _) hC (HRL.out W hb) (by omega) (by omega) (by omega) (by omega) htk (fun x hx => by cases hx)
  rw [k9_late] at CL
  have CO := Lib.hid fun W (hb : Below W0.heap.size W0 W) => H.holds none none none (some ⟨g1, 0, none⟩) 0 0 0 3 0 0 0 3 [] [] L9 W (rdb_nil _ _ _) (rdb_nil _ _ _) (HRL.out W hb) (by omega) (by omega) (by omega) (by omega) htk (fun x hx => by cases hx)
  rw [k9_ok] at CO
  clear H HRL htk
  go_wp2_with fail
  refine (C0.out W0 (Below.refl _ _)).mono ?_
  rintro e w0 ⟨rfl, k0⟩
  go_wp2_with fail
  refine (C1.out w0 k0).mono ?_
  rintro e w1 ⟨rfl, hb1⟩
  have k1 := k0.trans (hb1.mono k0.size)
  clear hb1 k0
  go_wp2_with fail
  refine (C2.out w1 k1).mono ?_
  rintro e w2 ⟨rfl, hb2⟩
  have k2 := k1.trans (hb2.mono k1.size)
  clear hb2 k1
  go_wp2_with fail
  refine (C3.out w2 k2).mono ?_
  rintro e w3 ⟨rfl, hb3⟩
  have k3 := k2.trans (hb3.mono k2.size)
  clear hb3 k2
  go_wp2_with fail
  refine (C4.out w3 k3).mono ?_
  rintro e w4 ⟨rfl, hb4⟩
  have k4 := k3.trans (hb4.mono k3.size)
  clear hb4 k3
  go_wp2_with fail
  refine (C5.out w4 k4).mono ?_
  rintro e w5 ⟨rfl, hb5⟩
  have k5 := k4.trans (hb5.mono k4.size)
  clear hb5 k4
  go_wp2_with fail
  refine (C6.out w5 k5).mono ?_
  rintro e w6 ⟨rfl, hb6⟩
  have k6 := k5.trans (hb6.mono k5.size)
  clear hb6 k5
  go_wp2_with fail
  refine (C7.out w6 k6).mono ?_
  rintro e w7 ⟨rfl, hb7⟩
  have k7 := k6.trans (hb7.mono k6.size)
  clear hb7 k6
  go_wp2_with fail
  refine (C8.out w7 k7).mono ?_
  rintro e w8 ⟨rfl, hb8⟩
  have k8 := k7.trans (hb8.mono k7.size)
  clear hb8 k7
  go_wp2_with fail
  refine (C9.out w8 k8).mono ?_
  rintro e w9 ⟨rfl, hb9⟩
  have k9 := k8.trans (hb9.mono k8.size)
  clear hb9 k8
  have hbl := bl1 w9 (.cells #[.int .i64 0, .int .i64 1, .bool false, .int .i64 0, .int .u32 0, .int .i64 1] 48)
  have hch : RdB cc (w9.alloc (.cells #[.int .i64 0, .int .i64 1, .bool false, .int .i64 0, .int .u32 0, .int .i64 1] 48)) (w9.alloc (.cells #[.int .i64 0, .int .i64 1, .bool false, .int .i64 0, .int .u32 0, .int .i64 1] 48)).heap.size (some ⟨w9.heap.size, 0, none⟩) 1 [X9] := ⟨rfl, rdV_new w9 _ _ _ rfl⟩
  have k10 := k9.trans (hbl.mono k9.size)
  clear hbl k9
  go_wp2_with fail
  refine (CL.out _ k10 _ hch).mono ?_
  rintro e w11 ⟨rfl, hb11⟩
  have k11 := k10.trans (hb11.mono k10.size)
  clear hb11 k10 hch
  go_wp2_with fail
  refine (CO.out _ k11).mono ?_
  rintro e w12 ⟨rfl, hb12⟩
  have k12 := k11.trans (hb12.mono k11.size)
  clear hb12 k11
  go_wp2_with fail
  go_ret
  exact Ans.mk rfl (HB0.out.trans (k12.mono HB0.out.size))
end Go.Proofs.Ytcmdhaieggjgcaa

/- Who depends on whom, as a matrix, by the program. -/
namespace Go.Proofs.Ytcmdhaieggjgcaa
open Go.RowKit Tab
set_option linter.unusedSimpArgs false
set_option linter.unusedVariables false

/-- A store into another block leaves a row. -/
theorem RdB.other {α : Type} {f : α → List Value} {w : World} {n B : Nat} {A : Option Addr} {l : List α} (h : RdB f w B A n l) (p : Addr) (v : Value) (hp : ∀ b, obk A = some b → b ≠ p.block) : RdB f (w.setCell p v) B A n l := by
  refine ⟨h.len, fun hl => ?_⟩
  obtain ⟨ad, e, hb, hc⟩ := h.rd hl
  refine ⟨ad, e, hb, fun j u hj => ?_⟩
  rw [World.cell?_of_block (Below.heap_setCell w p v (ad.add j).block (by rw [add_block]; exact hp _ (by rw [e]; rfl)))]
  exact hc j u hj
theorem RdB.on' {α : Type} {f : α → List Value} {w w' : World} {n : Nat} {A : Option Addr} {l : List α} (h : RdB f w w.heap.size A n l) (hb : Below w.heap.size w w') : RdB f w' w'.heap.size A n l := (h.below hb).more hb.size
def mA (W : List (Nat × Nat)) (a b : Nat) : Bool := decide (a = b) || decide ((a, b) ∈ W) || decide ((b, a) ∈ W)
def mS (W : List (Nat × Nat)) (a b : Nat) : Bool := decide (a = b) || decide ((a, b) ∈ W)
theorem take_one {α : Type} {L : List α} {i : Nat} {x : α} (h : L[i]? = some x) : L.take (i + 1) = L.take i ++ [x] := by
  obtain ⟨hi, e⟩ := List.getElem?_eq_some_iff.1 h
  rw [List.take_succ_eq_append_getElem hi, e]
theorem mA_more {W : List (Nat × Nat)} {i : Nat} {f t : Nat} (h : W[i]? = some (f, t)) (a b : Nat) : put2 (put2 (mA (W.take i)) f t true) t f true a b = mA (W.take (i + 1)) a b := by
  rw [take_one h]
  unfold put2 mA
  simp only [List.mem_append, List.mem_singleton, Prod.mk.injEq]
  by_cases h1 : a = t ∧ b = f
  · rw [if_pos h1]; simp [h1.1, h1.2]
  · rw [if_neg h1]
    by_cases h2 : a = f ∧ b = t
    · rw [if_pos h2]; simp [h2.1, h2.2]
    · rw [if_neg h2]
      have h3 : ¬ (b = f ∧ a = t) := fun e => h1 ⟨e.2, e.1⟩
      simp [h2, h3]
theorem mS_more {W : List (Nat × Nat)} {i : Nat} {f t : Nat} (h : W[i]? = some (f, t)) (a b : Nat) : put2 (mS (W.take i)) f t true a b = mS (W.take (i + 1)) a b := by
  rw [take_one h]
  unfold put2 mS
  simp only [List.mem_append, List.mem_singleton, Prod.mk.injEq]
  by_cases h2 : a = f ∧ b = t
  · rw [if_pos h2]; simp [h2.1, h2.2]
  · rw [if_neg h2]
    simp [h2]
/-- Rows ahead of i, and of row i the places ahead of j, have q besides. -/
def mQ (m q : Nat → Nat → Bool) (i j x y : Nat) : Bool := m x y || (q x y && (decide (x < i) || (decide (x = i) && decide (y < j))))
theorem mQ_zero (m q : Nat → Nat → Bool) (x y : Nat) : mQ m q 0 0 x y = m x y := by simp [mQ]
theorem mQ_put {m q : Nat → Nat → Bool} {i j : Nat} (h : q i j = true) (x y : Nat) : put2 (mQ m q i j) i j true x y = mQ m q i (j + 1) x y := by
  unfold put2 mQ
  by_cases h1 : x = i ∧ y = j
  · rw [if_pos h1, h1.1, h1.2, h]; simp
  · rw [if_neg h1]
    congr 2
    by_cases h2 : x = i
    · have h3 : y ≠ j := fun e => h1 ⟨h2, e⟩
      have h4 : (y < j) = (y < j + 1) := by simp; omega
      simp [h2, h4]
    · simp [h2]
theorem mQ_skip {m q : Nat → Nat → Bool} {i j : Nat} (h : q i j = false) (x y : Nat) : mQ m q i j x y = mQ m q i (j + 1) x y := by
  unfold mQ
  by_cases h1 : x = i ∧ y = j
  · rw [h1.1, h1.2, h]; simp
  · congr 2
    by_cases h2 : x = i
    · have h3 : y ≠ j := fun e => h1 ⟨h2, e⟩
      have h4 : (y < j) = (y < j + 1) := by simp; omega
      simp [h2, h4]
    · simp [h2]
theorem mQ_row {m q : Nat → Nat → Bool} {i n x y : Nat} (hy : y < n) : mQ m q i n x y = mQ m q (i + 1) 0 x y := by
  unfold mQ
  congr 2
  rw [Bool.eq_iff_iff]
  simp
  omega
theorem mQ_all {m q : Nat → Nat → Bool} {n x y : Nat} (hx : x < n) : mQ m q n 0 x y = (m x y || q x y) := by
  unfold mQ
  simp [hx]
def schQ (P : List PtV) (x y : Nat) : Bool := schedOf (P.map ptOf) x && schedOf (P.map ptOf) y
theorem depF_mQ {P : List PtV} {C : List ChV} {n a b : Nat} (hn : P.length = n) (ha : a < n) : mQ (mA (wayL n (C.map chOf))) (schQ P) n 0 a b = depF (P.map ptOf) (C.map chOf) a b := by
  rw [mQ_all ha, Bool.eq_iff_iff, depF_iff, List.length_map, hn]
  unfold mA schQ
  simp only [Bool.or_eq_true, Bool.and_eq_true, decide_eq_true_eq]
  constructor
  · rintro (((h | h) | h) | h)
    · exact .inl h
    · exact .inr (.inr (.inl h))
    · exact .inr (.inr (.inr h))
    · exact .inr (.inl h)
  · rintro (h | h | h | h)
    · exact .inl (.inl (.inl h))
    · exact .inr h
    · exact .inl (.inl (.inr h))
    · exact .inl (.inr h)
theorem RdB.way {w : World} {B n : Nat} {A : Option Addr} {L : List (Nat × Nat)} (h : RdB wcl w B A n L) {i : Nat} (hi : i < n) : ∃ (ad : Addr) (f t : Nat), A = some ad ∧ ad.block < B ∧ L[i]? = some (f, t) ∧ w.cell? (ad.add (i * 2)) = some (.int .i64 (f : Int)) ∧ w.cell? ⟨(ad.add (i * 2)).block, (ad.add (i * 2)).off + 1, none⟩ = some (.int .i64 (t : Int)) := by
  obtain ⟨ad, x, e, hb, hx, c0, ck⟩ := h.at_ wcl_len (by omega) hi
  obtain ⟨f, t⟩ := x
  exact ⟨ad, f, t, e, hb, hx, c0 _ rfl, ck 1 _ (by omega) rfl⟩
/-- A configuration in a box. -/
theorem box_vec (w : World) (v0 v1 v2 : Value) (t : TypeId) : Vec (w.alloc (.cells #[v0, v1, v2] t)) w.heap.size 3 fun j => if j = 0 then v0 else if j = 1 then v1 else v2 :=
  Vec.lit w _ _ 3 _ fun j hj => by rcases (by omega : j = 0 ∨ j = 1 ∨ j = 2) with rfl | rfl | rfl <;> rfl
theorem Vec.three {w : World} {g : Nat} {v0 v1 v2 : Value} (h : Vec w g 3 fun j => if j = 0 then v0 else if j = 1 then v1 else v2) : w.cell? ⟨g, 0, none⟩ = some v0 ∧ w.cell? ⟨g, 1, none⟩ = some v1 ∧ w.cell? ⟨g, 2, none⟩ = some v2 := by
  refine ⟨?_, ?_, ?_⟩
  · have := h.cell 0 (by omega); rwa [if_pos rfl] at this
  · have := h.cell 1 (by omega); rwa [if_neg (by omega), if_pos rfl] at this
  · have := h.cell 2 (by omega); rwa [if_neg (by omega), if_neg (by omega)] at this
end Go.Proofs.Ytcmdhaieggjgcaa
