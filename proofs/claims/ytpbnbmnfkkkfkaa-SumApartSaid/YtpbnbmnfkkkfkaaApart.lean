/- SumApart: rows of one length that differ in up to 32 bits side by side have unlike sums; what is sealed with a byte more is another text. -/
import Derived.Test.YtpbnbmnfkkkfkaaFrame
namespace Go.Proofs.Ytpbnbmnfkkkfkaa.sumApart
open Go.ChangeShapes Go.WideShapes Go.ChangeAt Go.RowKit
set_option linter.unusedSimpArgs false
set_option linter.unusedVariables false

theorem u32_of (n : Int) (h : (Lit.int .u32 n).wf = true) : ∃ c : BitVec 32, n = (c.toNat : Int) := by
  have hb := bounds_u32 h
  exact ⟨BitVec.ofNat 32 n.toNat, by simp; omega⟩

/-- The byte of a turn. -/
def tb (c : BitVec 32) (j : Nat) : UInt8 := UInt8.ofNat (c.toNat / 2 ^ (8 * j))
/-- The row behind j turns, from place k on. -/
def Yl (L : List UInt8) (k : Nat) (c : BitVec 32) : Nat → List UInt8
  | 0 => L
  | j + 1 => (Yl L k c j).set (k + j) ((Yl L k c j).getD (k + j) 0 ^^^ tb c j)
theorem Yl_length (L : List UInt8) (k : Nat) (c : BitVec 32) (j : Nat) : (Yl L k c j).length = L.length := by
  induction j with
  | zero => rfl
  | succ j ih => simp [Yl, ih]
theorem Yl_get (L : List UInt8) (k : Nat) (c : BitVec 32) (j : Nat) (h : k + j < (Yl L k c j).length) : (Yl L k c j)[k + j]? = some ((Yl L k c j).getD (k + j) 0) := by
  simp [List.getD, List.getElem?_eq_getElem h]

theorem tb_nat (c : BitVec 32) (j : Nat) : (c.toNat : Int) / (2 : Int) ^ (8 * j) % (256 : Int) = ((tb c j).toNat : Int) := by
  unfold tb
  simp
theorem Yl_store (L : List UInt8) (k : Nat) (c : BitVec 32) (j g : Nat) {w : World} {B n d : Nat} (h : Own w B (some ⟨g, 0, none⟩) n d (Yl L k c j)) :
    Own (w.setCell ⟨g, k + j, none⟩ (.int .u8 (bits .xor .u8 (((Yl L k c j)[k + j]?.getD 0).toNat : Int) ((c.toNat : Int) / (2 : Int) ^ (8 * j) % (256 : Int))))) B (some ⟨g, 0, none⟩) n d (Yl L k c (j + 1)) := by
  rw [tb_nat, bx8]
  exact h.store (k + j) _
theorem Yl_four (P Q : List UInt8) (x0 x1 x2 x3 : UInt8) (c : BitVec 32) (k : Nat) (hk : P.length = k) :
    Yl (P ++ x0 :: x1 :: x2 :: x3 :: Q) k c 4 = P ++ (x0 ^^^ tb c 0) :: (x1 ^^^ tb c 1) :: (x2 ^^^ tb c 2) :: (x3 ^^^ tb c 3) :: Q := by
  subst hk
  simp [Yl, List.getElem?_append]
theorem xor_same (a b : UInt8) (h : a = a ^^^ b) : b = 0 := by
  have : a ^^^ a = a ^^^ (a ^^^ b) := by rw [← h]
  simpa [← UInt8.xor_assoc] using this.symm
theorem tb_zero (c : BitVec 32) (h0 : tb c 0 = 0) (h1 : tb c 1 = 0) (h2 : tb c 2 = 0) (h3 : tb c 3 = 0) : c = 0#32 := by
  have e0 := congrArg UInt8.toNat h0
  have e1 := congrArg UInt8.toNat h1
  have e2 := congrArg UInt8.toNat h2
  have e3 := congrArg UInt8.toNat h3
  simp [tb] at e0 e1 e2 e3
  have := c.isLt
  apply BitVec.eq_of_toNat_eq
  simp
  omega
theorem of_turn (L : List UInt8) (k : Nat) (c : BitVec 32) (hk : k + 4 ≤ L.length) : Crc.of L = Crc.of (Yl L k c 4) ↔ c = 0#32 := by
  obtain ⟨P, x0, x1, x2, x3, Q, rfl, hP⟩ : ∃ P x0 x1 x2 x3 Q, L = P ++ x0 :: x1 :: x2 :: x3 :: Q ∧ P.length = k := by
    refine ⟨L.take k, L[k], L[k + 1], L[k + 2], L[k + 3], L.drop (k + 4), ?_, by rw [List.length_take]; omega⟩
    rw [List.getElem_cons_drop, List.getElem_cons_drop, List.getElem_cons_drop, List.getElem_cons_drop, List.take_append_drop]
  rw [Yl_four P Q x0 x1 x2 x3 c k hP]
  constructor
  · intro h
    obtain ⟨h0, h1, h2, h3⟩ := Crc.of_four _ _ _ _ _ _ _ _ _ _ h
    exact tb_zero c (xor_same _ _ h0) (xor_same _ _ h1) (xor_same _ _ h2) (xor_same _ _ h3)
  · rintro rfl
    have z : ∀ j, tb 0#32 j = 0 := fun j => by simp [tb]
    simp [z]


/-- What each operation of the last line yields: B, N: where the call's own blocks, where the line's own blocks begin. -/
def ApV (B N gx g n0 c2 c3 : Nat) (l0 : List UInt8) (k : Nat) (c : BitVec 32) (z : Bool) (j : Nat) (v : Value) (w : World) : Prop :=
  match j with
  | 0 => v = .slice (some ⟨gx, 0, none⟩) (n0 + 4) c2
  | 1 => v = .int .u32 ((Crc.of (l0 ++ [1, 2, 3, 4])).toNat : Int)
  | 2 => v = .slice (some ⟨g, 0, none⟩) (n0 + 4) c3
  | 3 => v = .int .u32 ((Crc.of (Yl (l0 ++ [1, 2, 3, 4]) k c 4)).toNat : Int)
  | 4 => v = .bool z
  | 5 => v = .int .u32 (c.toNat : Int)
  | 6 => v = .bool z
  | 7 => v = .bool true
  | 8 => v = .bool true
  | 9 => v = .slice (some ⟨gx, 0, none⟩) (n0 + 4) c2
  | 10 => ∃ A d, v = .slice A (n0 + 4 + 4) d ∧ Own w N A (n0 + 4 + 4) d (Crc.seal4 (l0 ++ [1, 2, 3, 4]))
  | 11 => v = .string (str (Crc.seal4 (l0 ++ [1, 2, 3, 4])))
  | 12 => v = .slice (some ⟨gx, 0, none⟩) (n0 + 4) c2
  | 13 => ∃ A d, v = .slice A 1 d ∧ Own w N A 1 d [0]
  | 14 => ∃ A d, v = .slice A (n0 + 5) d ∧ Own w B A (n0 + 5) d ((l0 ++ [1, 2, 3, 4]) ++ [0])
  | 15 => ∃ A d, v = .slice A (n0 + 5 + 4) d ∧ Own w N A (n0 + 5 + 4) d (Crc.seal4 ((l0 ++ [1, 2, 3, 4]) ++ [0]))
  | 16 => v = .string (str (Crc.seal4 ((l0 ++ [1, 2, 3, 4]) ++ [0])))
  | 17 => v = .bool true
  | 18 => v = .bool true
  | 19 => v = .bool true
  | 20 => v = .bool true
  | 21 => v = .bool true
  | 22 => v = .bool true
  | _ => True
theorem ApV.keep {B N gx g n0 c2 c3 : Nat} {l0 : List UInt8} {k : Nat} {c : BitVec 32} {z : Bool} {w w' : World} (hb : Below w.heap.size w w') (j : Nat) (v : Value) (h : ApV B N gx g n0 c2 c3 l0 k c z j v w) : ApV B N gx g n0 c2 c3 l0 k c z j v w' := by
  unfold ApV at h ⊢
  split at h <;> first | exact h | skip
  all_goals
    obtain ⟨A3, d3, e, hr⟩ := h
    exact ⟨A3, d3, e, hr.below rfl hb⟩
theorem ApV.keep2 {B N gx g n0 c2 c3 : Nat} {l0 : List UInt8} {k : Nat} {c : BitVec 32} {z : Bool} {w w' : World} {j : Nat} {v : Value} (hj : j ≠ 14) (hk : ∀ b, N ≤ b → b < w.heap.size → w'.heap[b]? = w.heap[b]?) (h : ApV B N gx g n0 c2 c3 l0 k c z j v w) : ApV B N gx g n0 c2 c3 l0 k c z j v w' := by
  unfold ApV at h ⊢
  split at h <;> first | exact h | (exact absurd rfl hj) | skip
  all_goals
    obtain ⟨A3, d3, e, hr⟩ := h
    exact ⟨A3, d3, e, hr.other hk⟩
/-- What holds of memory all along. -/
structure ApW (w0 : World) (B B2 N gx g n0 c2 c3 : Nat) (L Y : List UInt8) (w : World) : Prop where
  old : Below B w0 w
  x : Own w B (some ⟨gx, 0, none⟩) (n0 + 4) c2 L
  y : Own w B2 (some ⟨g, 0, none⟩) (n0 + 4) c3 Y
  n : N ≤ w.heap.size
theorem ApW.b {w0 : World} {B B2 N gx g n0 c2 c3 : Nat} {L Y : List UInt8} {w : World} (h : ApW w0 B B2 N gx g n0 c2 c3 L Y w) : B ≤ w.heap.size := by
  obtain ⟨g', he, hb⟩ := h.x.at_ (by omega)
  have hlt := (World.ownsRow.lt h.x g' (by rw [he]; rfl)).2
  omega
theorem ApW.below {w0 : World} {B B2 N gx g n0 c2 c3 : Nat} {L Y : List UInt8} {w w' : World} (h : ApW w0 B B2 N gx g n0 c2 c3 L Y w) (hb : Below w.heap.size w w') : ApW w0 B B2 N gx g n0 c2 c3 L Y w' :=
  ⟨h.old.trans (hb.mono h.b), h.x.below rfl hb, h.y.below rfl hb, Nat.le_trans h.n hb.size⟩

theorem beq_nat (a b : Nat) (z : Bool) (h : (a = b) ↔ z = true) : ((a : Int) == (b : Int)) = z := by
  rw [Bool.eq_iff_iff, ← h, beq_iff_eq]
  exact Int.ofNat_inj
theorem str_longer (L : List UInt8) : ((str (Crc.seal4 L)).toList == (str (Crc.seal4 (L ++ [0]))).toList) = false := by
  refine str_ne fun h => ?_
  have := congrArg List.length h
  rw [Crc.seal4_length, Crc.seal4_length, List.length_append] at this
  simp at this

set_option maxRecDepth 100000 in
set_option maxHeartbeats 4000000 in
theorem walk (A0 : Option Addr) (n0 k0 : Nat) (l0 : List UInt8) (a1 : Int) (a2 : Int) (w : World) (r0 : Rd w w.heap.size A0 n0 l0) (c0 : n0 ≤ k0) (b0 : k0 ≤ 140737488351232) (w1 : (Lit.int .i64 a1).wf = true) (w2 : (Lit.int .u32 a2).wf = true) :
    Calls Try.prog 7 #[.slice A0 n0 k0, .int .i64 a1, .int .u32 a2] w (Yes w) := by
  obtain ⟨c, rfl⟩ := u32_of a2 w2
  clear w1 w2
  have hl := Lib.hid r0.1
  go_enter Try.func7, Try.ntmps7
  go_wp2_with (first
    | (at_builtin; refine wpList_app rfl (.tmp 11) (.tmp 12) rfl rfl w.heap.size (some ⟨w.heap.size, 0, none⟩) 0 0 [] rfl (own_lit w w.heap.size [] #[] rfl (Nat.le_refl _) (by decide)) A0 n0 k0 l0 w.heap.size rfl (r0.alloc (Nat.le_refl _) _) n0 (Nat.zero_add _) l0 (List.nil_append _) (by omega) (by simp) ?_; intro A1 c1 w1 hw1 hb1; have hz1 : w.heap.size ≤ w1.heap.size := by { have := hb1.size; simp at this; omega })
    | (at_builtin; refine wpList_app rfl (.tmp 13) (.tmp 14) rfl rfl w.heap.size A1 n0 c1 l0 rfl (hw1.below rfl ((Below.refl _ _).alloc (Nat.le_refl _) _)) (some ⟨w1.heap.size, 0, none⟩) 4 4 [1, 2, 3, 4] _ rfl (own_lit w1 w.heap.size [1, 2, 3, 4] #[.int .u8 1, .int .u8 2, .int .u8 3, .int .u8 4] rfl hz1 (by decide)).rd (n0 + 4) rfl (l0 ++ [1, 2, 3, 4]) rfl (by omega) (by simp; omega) ?_; intro A2 c2 w2 hw2 hb2))
  have h2 : Below w.heap.size w w2 := (((Below.refl _ _).alloc (Nat.le_refl _) _).trans hb1).trans (((Below.refl _ _).alloc hz1 _).trans hb2)
  refine (within_at a1 _ n0 w2 (by omega) (by omega)).mono ?_
  rintro e w3 ⟨k, hk, rfl, rfl⟩
  go_wp2_with (first
    | (at_builtin; refine wpList_app rfl (.tmp 21) (.tmp 22) rfl rfl w2.heap.size (some ⟨w2.heap.size, 0, none⟩) 0 0 [] rfl (own_lit w2 w2.heap.size [] #[] rfl (Nat.le_refl _) (by decide)) A2 (n0 + 4) c2 (l0 ++ [1, 2, 3, 4]) w2.heap.size rfl (hw2.rd.alloc (Nat.le_refl _) _) (n0 + 4) (Nat.zero_add _) (l0 ++ [1, 2, 3, 4]) (List.nil_append _) (by omega) (by simp) ?_; intro A3 c3 w3 hw3 hb3; obtain ⟨g, rfl, hg⟩ := hw3.at_ (by omega)))
  have h3 : Below w2.heap.size w2 w3 := ((Below.refl _ _).alloc (Nat.le_refl _) _).trans hb3
  go_loopw [10] (fun i wr => ∃ j : Nat, j ≤ 4 ∧ i = .int .i64 j ∧ Own wr w2.heap.size (some ⟨g, 0, none⟩) (n0 + 4) c3 (Yl (l0 ++ [1, 2, 3, 4]) k c j) ∧ Below w2.heap.size w2 wr) (fun i _ => 4 - (intOf i).toNat)
  case atStart => exact ⟨0, by omega, rfl, hw3, h3⟩
  case round =>
    obtain ⟨j, hj, rfl, ho, hb⟩ := hrel
    by_cases hlt : j < 4
    · have hcell := ho.cell (Yl_get (l0 ++ [1, 2, 3, 4]) k c j (by rw [Yl_length]; have := ho.len; rw [Yl_length] at this; omega))
      have hfree := ho.free (k + j)
      have hj8 : (8 : Int) * (j : Int) ≤ 24 := by omega
      go_wp2_with fail
      refine ⟨⟨j + 1, by omega, by go_num, Yl_store _ _ _ _ _ ho, hb.setCell (p := ⟨g, k + j, none⟩) hg _⟩, by simp [intOf]; omega⟩
    · obtain rfl : j = 4 := by omega
      go_wp2_with fail
      obtain ⟨gx, rfl, hgx⟩ := hw2.at_ (by omega)
      have hgl : gx < w2.heap.size := (World.ownsRow.lt hw2 gx rfl).2
      have hx := hw2.below rfl hb
      have hle : (l0 ++ [1, 2, 3, 4]).length = n0 + 4 := hw2.len
      have hz2 := hb.size
      obtain ⟨z, hzz⟩ : ∃ z : Bool, z = decide (c = 0#32) := ⟨_, rfl⟩
      have he : (((Crc.of (l0 ++ [1, 2, 3, 4])).toNat : Int) == ((Crc.of (Yl (l0 ++ [1, 2, 3, 4]) k c 4)).toNat : Int)) = z := beq_nat _ _ _ (by
        rw [hzz, decide_eq_true_iff, ← of_turn (l0 ++ [1, 2, 3, 4]) k c (by omega)]
        exact ⟨fun h => BitVec.eq_of_toNat_eq h, fun h => by rw [h]⟩)
      have hz : ((c.toNat : Int) == 0) = z := beq_nat c.toNat 0 z (by
        rw [hzz, decide_eq_true_iff]
        exact ⟨fun h => BitVec.eq_of_toNat_eq (by simpa using h), fun h => by rw [h]; rfl⟩)
      have hs : ¬ (str (Crc.seal4 (l0 ++ [1, 2, 3, 4]))).toList = (str (Crc.seal4 (l0 ++ [1, 2, 3, 4, 0]))).toList := by
        have h := str_longer (l0 ++ [1, 2, 3, 4])
        simpa using h
      have hold : Below w.heap.size w wr := h2.trans (hb.mono h2.size)
      obtain ⟨N, hN⟩ : ∃ N, N = wr.heap.size := ⟨_, rfl⟩
      obtain ⟨B, hB⟩ : ∃ B, B = w.heap.size := ⟨_, rfl⟩
      obtain ⟨B2, hB2⟩ : ∃ B2, B2 = w2.heap.size := ⟨_, rfl⟩
      rw [← hB] at hx hold
      rw [← hB2] at ho
      refine Reg.region (by kernel_rfl) (by kernel_rfl) (ApV B N gx g n0 c2 c3 l0 k c z) (ApW w B B2 N gx g n0 c2 c3 (l0 ++ [1, 2, 3, 4]) (Yl (l0 ++ [1, 2, 3, 4]) k c 4)) ⟨hold.drew, hx, ho, by rw [hN]; exact Nat.le_refl _⟩ (Reg.steps_of ?_) ?_
      · refine ⟨?_, ?_, ?_, ?_, ?_, ?_, ?_, ?_, ?_, ?_, ?_, ?_, ?_, ?_, ?_, ?_, ?_, ?_, ?_, ?_, ?_, ?_, ?_, trivial⟩
        · intro a w1 E D hW
          have e7 : a.eval (.tmp 7) = .slice (some ⟨gx, 0, none⟩) (n0 + 4) c2 := E 7 rfl
          exact Reg.val rfl (Reg.wanted_free rfl) hW (.slice (some ⟨gx, 0, none⟩) (n0 + 4) c2) (by have c := Reg.consts a; generalize a.eval = ρ at *; simp [go_sem, c.1, c.2, e7]) rfl
        · intro a w1 E D hW
          have d0 : a.eval (.tmp 42) = .slice (some ⟨gx, 0, none⟩) (n0 + 4) c2 := D 0 rfl
          refine Reg.call rfl (Reg.wanted_free rfl) 14 #[.slice (some ⟨gx, 0, none⟩) (n0 + 4) c2] (by have c := Reg.consts a; generalize a.eval = ρ at *; simp [go_sem, c.1, c.2, d0]) ?_
          refine (of_any _ _ _ _ _ _ hW.x.rd (by omega)).mono ?_
          rintro e w2 ⟨rfl, rfl⟩
          exact ⟨_, rfl, rfl, hW, fun _ _ h => h⟩
        · intro a w1 E D hW
          have e9 : a.eval (.tmp 9) = .slice (some ⟨g, 0, none⟩) (n0 + 4) c3 := E 9 rfl
          exact Reg.val rfl (Reg.wanted_free rfl) hW (.slice (some ⟨g, 0, none⟩) (n0 + 4) c3) (by have c := Reg.consts a; generalize a.eval = ρ at *; simp [go_sem, c.1, c.2, e9]) rfl
        · intro a w1 E D hW
          have d2 : a.eval (.tmp 44) = .slice (some ⟨g, 0, none⟩) (n0 + 4) c3 := D 2 rfl
          refine Reg.call rfl (Reg.wanted_free rfl) 14 #[.slice (some ⟨g, 0, none⟩) (n0 + 4) c3] (by have c := Reg.consts a; generalize a.eval = ρ at *; simp [go_sem, c.1, c.2, d2]) ?_
          refine (of_any _ _ _ _ _ _ hW.y.rd (by omega)).mono ?_
          rintro e w2 ⟨rfl, rfl⟩
          exact ⟨_, rfl, rfl, hW, fun _ _ h => h⟩
        · intro a w1 E D hW
          have d1 : a.eval (.tmp 43) = .int .u32 ((Crc.of (l0 ++ [1, 2, 3, 4])).toNat : Int) := D 1 rfl
          have d3 : a.eval (.tmp 45) = .int .u32 ((Crc.of (Yl (l0 ++ [1, 2, 3, 4]) k c 4)).toNat : Int) := D 3 rfl
          exact Reg.val rfl (Reg.wanted_free rfl) hW (.bool z) (by have c := Reg.consts a; generalize a.eval = ρ at *; simp [go_sem, c.1, c.2, d1, d3, he]) rfl
        · intro a w1 E D hW
          have e2 : a.eval (.tmp 2) = .int .u32 (c.toNat : Int) := E 2 rfl
          exact Reg.val rfl (Reg.wanted_free rfl) hW (.int .u32 (c.toNat : Int)) (by have c := Reg.consts a; generalize a.eval = ρ at *; simp [go_sem, c.1, c.2, e2]) rfl
        · intro a w1 E D hW
          have d5 : a.eval (.tmp 47) = .int .u32 (c.toNat : Int) := D 5 rfl
          exact Reg.val rfl (Reg.wanted_free rfl) hW (.bool z) (by have c := Reg.consts a; generalize a.eval = ρ at *; simp [go_sem, c.1, c.2, d5, hz]) rfl
        · intro a w1 E D hW
          have d4 : a.eval (.tmp 46) = .bool z := D 4 rfl
          have d6 : a.eval (.tmp 48) = .bool z := D 6 rfl
          exact Reg.val rfl (Reg.wanted_free rfl) hW (.bool true) (by have c := Reg.consts a; generalize a.eval = ρ at *; simp [go_sem, c.1, c.2, d4, d6]) rfl
        · intro a w1 E D hW
          have d7 : a.eval (.tmp 49) = .bool true := D 7 rfl
          exact Reg.val rfl (Reg.wanted_free rfl) hW (.bool true) (by have c := Reg.consts a; generalize a.eval = ρ at *; simp [go_sem, c.1, c.2, d7]) rfl
        · intro a w1 E D hW
          have e7 : a.eval (.tmp 7) = .slice (some ⟨gx, 0, none⟩) (n0 + 4) c2 := E 7 rfl
          have g : a.eval (.tmp 50) = .bool true := D 8 rfl
          exact Reg.val rfl (Reg.wanted_if rfl rfl g rfl) hW (.slice (some ⟨gx, 0, none⟩) (n0 + 4) c2) (by have c := Reg.consts a; generalize a.eval = ρ at *; simp [go_sem, c.1, c.2, e7]) rfl
        · intro a w1 E D hW
          have d9 : a.eval (.tmp 51) = .slice (some ⟨gx, 0, none⟩) (n0 + 4) c2 := D 9 rfl
          have g : a.eval (.tmp 50) = .bool true := D 8 rfl
          refine Reg.call rfl (Reg.wanted_if rfl rfl g rfl) 12 #[.slice (some ⟨gx, 0, none⟩) (n0 + 4) c2] (by have c := Reg.consts a; generalize a.eval = ρ at *; simp [go_sem, c.1, c.2, d9]) ?_
          refine (seal_any _ (n0 + 4) c2 _ w1 hW.x.rd (by omega)).mono ?_
          rintro e w2 ⟨A3, d3, rfl, hw2, hb2⟩
          exact ⟨_, rfl, ⟨A3, d3, rfl, hw2.weak hW.n⟩, hW.below hb2, ApV.keep hb2⟩
        · intro a w1 E D hW
          obtain ⟨A3, d3, d, hr⟩ : ∃ A d, a.eval (.tmp 52) = .slice A (n0 + 4 + 4) d ∧ Own w1 N A (n0 + 4 + 4) d (Crc.seal4 (l0 ++ [1, 2, 3, 4])) := D 10 rfl
          have q := run_conv w1 _ _ _ d3 _ hr.rd
          have g : a.eval (.tmp 50) = .bool true := D 8 rfl
          exact Reg.val rfl (Reg.wanted_if rfl rfl g rfl) hW (.string (str (Crc.seal4 (l0 ++ [1, 2, 3, 4])))) (by have c := Reg.consts a; generalize a.eval = ρ at *; simp [go_sem, c.1, c.2, d, q]) rfl
        · intro a w1 E D hW
          have e7 : a.eval (.tmp 7) = .slice (some ⟨gx, 0, none⟩) (n0 + 4) c2 := E 7 rfl
          have g : a.eval (.tmp 50) = .bool true := D 8 rfl
          exact Reg.val rfl (Reg.wanted_if rfl rfl g rfl) hW (.slice (some ⟨gx, 0, none⟩) (n0 + 4) c2) (by have c := Reg.consts a; generalize a.eval = ρ at *; simp [go_sem, c.1, c.2, e7]) rfl
        · intro a w1 E D hW
          have g : a.eval (.tmp 50) = .bool true := D 8 rfl
          have hb2 : Below w1.heap.size w1 (w1.alloc (.cells #[.int .u8 0] 5)) := (Below.refl _ _).alloc (Nat.le_refl _) _
          exact Reg.grow rfl (Reg.wanted_if rfl rfl g rfl) (.slice (some ⟨w1.heap.size, 0, none⟩) 1 1) (w1.alloc (.cells #[.int .u8 0] 5)) (by have c := Reg.consts a; generalize a.eval = ρ at *; simp [go_sem, c.1, c.2]) ⟨_, _, rfl, own_lit w1 N [0] _ rfl hW.n (by decide)⟩ (hW.below hb2) (fun j v _ => ApV.keep hb2 j v)
        · intro a w1 E D hW
          have d12 : a.eval (.tmp 54) = .slice (some ⟨gx, 0, none⟩) (n0 + 4) c2 := D 12 rfl
          have g : a.eval (.tmp 50) = .bool true := D 8 rfl
          obtain ⟨A3, d3, d, hr⟩ : ∃ A d, a.eval (.tmp 55) = .slice A 1 d ∧ Own w1 N A 1 d [0] := D 13 rfl
          obtain ⟨g4, d4, w2, hrun, hv, hb2, hk2, hk3⟩ := run_app_keep w1 B gx (n0 + 4) c2 (l0 ++ [1, 2, 3, 4]) hW.x A3 1 d3 [0] _ hr.rd (by omega) hW.b
          refine Reg.grow rfl (Reg.wanted_if rfl rfl g rfl) (.slice (some ⟨g4, 0, none⟩) (n0 + 5) d4) w2 ?_ ⟨_, d4, rfl, hv⟩ ⟨hW.old.trans hb2, hk3 _ _ _ _ _ (Nat.le_refl _) hW.x, hW.y.other (fun b h1 h2 => hk2 b h2 (by omega)), Nat.le_trans hW.n hb2.size⟩ (fun j v hj h => ApV.keep2 hj (fun b h1 h2 => hk2 b h2 (by omega)) h)
          unfold execOp
          simp only [resolve, invoke, builtin, Sem.run_bind, Sem.run_pure, Result.andThen_ok, List.map_toArray, List.map_cons, List.map_nil, d12, d, hrun]
        · intro a w1 E D hW
          have g : a.eval (.tmp 50) = .bool true := D 8 rfl
          obtain ⟨A3, d3, d, hr⟩ : ∃ A d, a.eval (.tmp 56) = .slice A (n0 + 5) d ∧ Own w1 B A (n0 + 5) d ((l0 ++ [1, 2, 3, 4]) ++ [0]) := D 14 rfl
          refine Reg.call rfl (Reg.wanted_if rfl rfl g rfl) 12 #[.slice A3 (n0 + 5) d3] (by have c := Reg.consts a; generalize a.eval = ρ at *; simp [go_sem, c.1, c.2, d]) ?_
          refine (seal_any _ (n0 + 5) d3 _ w1 hr.rd (by omega)).mono ?_
          rintro e w2 ⟨A5, d5, rfl, hw2, hb2⟩
          exact ⟨_, rfl, ⟨A5, d5, rfl, hw2.weak hW.n⟩, hW.below hb2, ApV.keep hb2⟩
        · intro a w1 E D hW
          obtain ⟨A3, d3, d, hr⟩ : ∃ A d, a.eval (.tmp 57) = .slice A (n0 + 5 + 4) d ∧ Own w1 N A (n0 + 5 + 4) d (Crc.seal4 ((l0 ++ [1, 2, 3, 4]) ++ [0])) := D 15 rfl
          have q := run_conv w1 _ _ _ d3 _ hr.rd
          have g : a.eval (.tmp 50) = .bool true := D 8 rfl
          exact Reg.val rfl (Reg.wanted_if rfl rfl g rfl) hW (.string (str (Crc.seal4 ((l0 ++ [1, 2, 3, 4]) ++ [0])))) (by have c := Reg.consts a; generalize a.eval = ρ at *; simp [go_sem, c.1, c.2, d, q]) rfl
        · intro a w1 E D hW
          have d11 : a.eval (.tmp 53) = .string (str (Crc.seal4 (l0 ++ [1, 2, 3, 4]))) := D 11 rfl
          have d16 : a.eval (.tmp 58) = .string (str (Crc.seal4 ((l0 ++ [1, 2, 3, 4]) ++ [0]))) := D 16 rfl
          have g : a.eval (.tmp 50) = .bool true := D 8 rfl
          exact Reg.val rfl (Reg.wanted_if rfl rfl g rfl) hW (.bool true) (by have c := Reg.consts a; generalize a.eval = ρ at *; simp [go_sem, c.1, c.2, d11, d16, hs]) rfl
        · intro a w1 E D hW
          have d8 : a.eval (.tmp 50) = .bool true := D 8 rfl
          have d17 : a.eval (.tmp 59) = .bool true := D 17 rfl
          exact Reg.val rfl (Reg.wanted_free rfl) hW (.bool true) (by have c := Reg.consts a; generalize a.eval = ρ at *; simp [go_sem, c.1, c.2, d8, d17]) rfl
        · intro a w1 E D hW
          have d18 : a.eval (.tmp 60) = .bool true := D 18 rfl
          exact Reg.val rfl (Reg.wanted_free rfl) hW (.bool true) (by have c := Reg.consts a; generalize a.eval = ρ at *; simp [go_sem, c.1, c.2, d18]) rfl
        · intro a w1 E D hW
          have g : a.eval (.tmp 61) = .bool true := D 19 rfl
          refine Reg.call rfl (Reg.wanted_if rfl rfl g rfl) 10 #[] (by have c := Reg.consts a; generalize a.eval = ρ at *; simp [go_sem, c.1, c.2]) ?_
          refine (known_any w1).mono ?_
          rintro e w2 ⟨rfl, hb2⟩
          exact ⟨_, rfl, rfl, hW.below hb2, ApV.keep hb2⟩
        · intro a w1 E D hW
          have d19 : a.eval (.tmp 61) = .bool true := D 19 rfl
          have d20 : a.eval (.tmp 62) = .bool true := D 20 rfl
          exact Reg.val rfl (Reg.wanted_free rfl) hW (.bool true) (by have c := Reg.consts a; generalize a.eval = ρ at *; simp [go_sem, c.1, c.2, d19, d20]) rfl
        · intro a w1 E D hW
          have d21 : a.eval (.tmp 63) = .bool true := D 21 rfl
          exact Reg.val rfl (Reg.wanted_free rfl) hW (.bool true) (by have c := Reg.consts a; generalize a.eval = ρ at *; simp [go_sem, c.1, c.2, d21]) rfl
      · intro a w5 hs hd E D hW
        have d22 : a.eval (.tmp 6) = .bool true := D 22 (by decide)
        have hfin : Below w.heap.size w w5 := by rw [← hB]; exact hW.old
        rw [Reg.act_lit a 64 hs, hd]
        simp only [List.range, List.range.loop, List.map, d22]
        clear E d22 hN hB hB2 he hz hzz
        generalize a.eval = ρ
        clear a hs hd D hW
        go_wp2
        go_ret
        exact ⟨rfl, hfin⟩

set_option maxRecDepth 100000 in
theorem lifted (os : Os) (started : os.Started) (H : Type) (enc : TypeId × Value → H) :
    ReturnsInHanded {} Try.checked os 7 .any (Rows.sumApartSpec.pre6 enc Try.prog Try.f7 Rows.sumApartRow.domain false) (Rows.sumApartSpec.post enc Try.prog Try.f7 false true false false) := by
  refine returnsInHanded_of_change_sized (C := Try.checked) own started (by kernel_rfl) Try.func7
    (ChangeSpec.witness6 (enc := enc) (C := Try.checked) false ⟨#[], #[.slice none 0 0, .int .i64 0, .int .u32 0], []⟩ 8 (by kernel_rfl) (by kernel_rfl) (by kernel_rfl) (by kernel_rfl)) ?_
  intro W base args ds gs before hval0 hW hcnd hsz0 _
  have hval : ∀ (j : Nat) t v, Try.f7.params[j]? = some t → args[j]? = some v → Value.okWide Try.prog W .any base t v := hval0
  have hW' := hW
  obtain ⟨p, q, hA0, hV, rfl, hfz, hnd⟩ := hW
  have hA : DataW.TrodAll enc Try.prog W 0 (fun _ => true) true Try.f7.params.toList args.toList ds p := hA0
  have hsz : (DataW.weightsEach Try.prog (Try.f7.params.toList ++ Rows.sumApartSpec.plain.varTypes Try.prog) (ds ++ gs)).all (· ≤ reachBytes) = true := hsz0
  rw [Try.params7] at hA hval hsz
  obtain ⟨v0, vs0, d0, ds0, p0, q0, hargs, rfl, rfl, h0, r0⟩ := trodAll_cons hA
  obtain ⟨v1, vs1, d1, ds1, p1, q1, rfl, rfl, rfl, h1, r1⟩ := trodAll_cons r0
  obtain ⟨v2, vs2, d2, ds2, p2, q2, rfl, rfl, rfl, h2, r2⟩ := trodAll_cons r1
  obtain ⟨rfl, rfl, rfl⟩ := trodAll_nil r2
  obtain rfl : args = #[v0, v1, v2] := by cases args; simp_all
  obtain ⟨rfl, rfl⟩ := trodVars_none hV
  obtain ⟨A0, n0, k0, rfl⟩ := okWide_slice Try.underlying22 (hval 0 22 v0 rfl rfl)
  have t0 := h0
  have lt0 : ∀ x ∈ p0, x.block < W.heap.size := by obtain ⟨m, hm⟩ := t0; exact DataW.trod_lt m _ _ _ hm
  obtain ⟨l0, u0, c0, b0⟩ := row_sized h0 (fun elems spare e => sized_slice hsz (j := 0) (t := 22) (e := 5) rfl (by rw [← e]; rfl) Try.underlying22)
  obtain ⟨a1, rfl, rfl, rfl, w1⟩ := open_int Try.underlying3 (hval 1 3 v1 rfl rfl) h1
  obtain ⟨a2, rfl, rfl, rfl, w2⟩ := open_int Try.underlying26 (hval 2 26 v2 rfl rfl) h2
  clear hA0 hval0
  refine (walk A0 n0 k0 l0 a1 a2 W u0 c0 b0 w1 w2).mono fun e W' ⟨he, bel⟩ => ?_
  subst he
  exact ⟨_, rfl, _, _, _, [], _, [], hW', trodAll_mk1 (shut_bool Try.underlying4 _), (trodAll_cons_mk (Below.trod laidOut (by kernel_rfl) (of_decide_eq_true (by kernel_rfl)) t0 bel lt0) (trodAll_cons_mk (shut_int Try.underlying3 w1) (trodAll_cons_mk (shut_int Try.underlying26 w2) trodAll_mk0))), rfl, bel.frame _, fun h => by cases h⟩

theorem proved : Rows.SumApartSaid :=
  OpenClaim.holds_of_wide 7 Try.f7 rfl rfl rfl rfl rfl rfl rfl ⟨rfl, rfl, rfl, rfl, rfl⟩ rfl rfl rfl rfl rfl (by kernel_rfl) Try.func7 (by kernel_rfl)
    (of_decide_eq_true (by kernel_rfl)) (by unfold Func.isWrapper; first | (rw [if_pos (by decide +kernel)]; kernel_rfl) | (rw [if_neg (by decide +kernel)]; exact ⟨rfl, rfl⟩))
    (fun os started H enc _ => lifted os started H enc)
end Go.Proofs.Ytpbnbmnfkkkfkaa.sumApart
