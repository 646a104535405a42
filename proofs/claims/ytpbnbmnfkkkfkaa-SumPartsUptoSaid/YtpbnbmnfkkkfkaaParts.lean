/- SumParts, where what is handed in is of bulk at most 1048576: a sum goes on byte by byte; two rows turned into one another have the sum of both, and of noughts. -/
import Derived.Test.YtpbnbmnfkkkfkaaFrame
import Derived.RegionTactic
import Derived.ChangeAlike
namespace Go.Proofs.Ytpbnbmnfkkkfkaa.sumParts
open Go.ChangeShapes Go.WideShapes Go.ChangeAt Go.RowKit
set_option linter.unusedSimpArgs false
set_option linter.unusedVariables false


/-- What each operation of the last line yields; N: where the line's own blocks begin. -/
def PaV (N n0 k0 n1 k1 gz m : Nat) (A0 A1 : Option Addr) (l0 l1 Zs : List UInt8) (j : Nat) (v : Value) (w : World) : Prop :=
  match j with
  | 0 => v = .int .u32 ((Crc.fld (~~~ Crc.of l0) (l1.take n1)).toNat : Int)
  | 1 => v = .int .u32 ((Crc.of (l0 ++ l1)).toNat : Int)
  | 2 => ∃ b, v = .slice (some ⟨b, 0, none⟩) 0 0 ∧ Own w N (some ⟨b, 0, none⟩) 0 0 []
  | 3 => v = .slice A0 n0 k0
  | 4 => ∃ b d, v = .slice (some ⟨b, 0, none⟩) n0 d ∧ Own w N (some ⟨b, 0, none⟩) n0 d l0
  | 5 => v = .slice A1 n1 k1
  | 6 => ∃ b d, v = .slice (some ⟨b, 0, none⟩) (n0 + n1) d ∧ Own w N (some ⟨b, 0, none⟩) (n0 + n1) d (l0 ++ l1)
  | 7 => v = .int .u32 ((Crc.of (l0 ++ l1)).toNat : Int)
  | 8 => v = .bool true
  | 9 => v = .bool true
  | 10 => v = .slice A0 n0 k0
  | 11 => v = .int .i64 (m : Int)
  | 12 => v = .slice A0 m k0
  | 13 => v = .int .u32 ((Crc.of (l0.take m)).toNat : Int)
  | 14 => v = .slice A1 n1 k1
  | 15 => v = .int .i64 (m : Int)
  | 16 => v = .slice A1 m k1
  | 17 => v = .int .u32 ((Crc.of (l1.take m)).toNat : Int)
  | 18 => v = .int .u32 ((Crc.of (l0.take m) ^^^ Crc.of (l1.take m)).toNat : Int)
  | 19 => v = .slice (some ⟨gz, 0, none⟩) m m
  | 20 => v = .int .u32 ((Crc.of Zs).toNat : Int)
  | 21 => v = .int .i64 (m : Int)
  | 22 => ∃ A d, v = .slice A m d ∧ Own w N A m d (List.replicate m 0)
  | 23 => v = .int .u32 ((Crc.of (List.replicate m 0)).toNat : Int)
  | 24 => v = .int .u32 ((Crc.of Zs ^^^ Crc.of (List.replicate m 0)).toNat : Int)
  | 25 => v = .bool true
  | 26 => v = .bool true
  | 27 => v = .bool true
  | 28 => v = .bool true
  | 29 => v = .bool true
  | 30 => v = .bool true
  | _ => True
theorem PaV.keep {N n0 k0 n1 k1 gz m : Nat} {A0 A1 : Option Addr} {l0 l1 Zs : List UInt8} {w w' : World} (hb : Below w.heap.size w w') (j : Nat) (v : Value) (h : PaV N n0 k0 n1 k1 gz m A0 A1 l0 l1 Zs j v w) : PaV N n0 k0 n1 k1 gz m A0 A1 l0 l1 Zs j v w' := by
  unfold PaV at h ⊢
  split at h <;> first | exact h | skip
  · obtain ⟨b, e, hr⟩ := h
    exact ⟨b, e, hr.below rfl hb⟩
  all_goals
    obtain ⟨A3, d3, e, hr⟩ := h
    exact ⟨A3, d3, e, hr.below rfl hb⟩
theorem PaV.keepA {N n0 k0 n1 k1 gz m : Nat} {A0 A1 : Option Addr} {l0 l1 Zs : List UInt8} {w w' : World} {nn j : Nat} {v : Value} (hk : ∀ B' A' n' c' l', n' ≤ nn → Own w B' A' n' c' l' → Own w' B' A' n' c' l') (h4 : j ≠ 4 ∨ n0 ≤ nn) (h6 : j ≠ 6) (h22 : j ≠ 22) (h : PaV N n0 k0 n1 k1 gz m A0 A1 l0 l1 Zs j v w) : PaV N n0 k0 n1 k1 gz m A0 A1 l0 l1 Zs j v w' := by
  unfold PaV at h ⊢
  split at h <;> first | exact h | (exact absurd rfl h6) | (exact absurd rfl h22) | skip
  · obtain ⟨b, e, hr⟩ := h
    exact ⟨b, e, hk _ _ _ _ _ (Nat.zero_le _) hr⟩
  · obtain ⟨A3, d3, e, hr⟩ := h
    exact ⟨A3, d3, e, hk _ _ _ _ _ (h4.resolve_left (fun h => h rfl)) hr⟩
/-- What holds of memory all along. -/
structure PaW (w0 : World) (N gz m : Nat) (Zs : List UInt8) (w : World) : Prop where
  old : Below w0.heap.size w0 w
  z : Own w w0.heap.size (some ⟨gz, 0, none⟩) m m Zs
  n : N ≤ w.heap.size
  far : gz < N
  first : w0.heap.size ≤ N
theorem PaW.below {w0 : World} {N gz m : Nat} {Zs : List UInt8} {w w' : World} (h : PaW w0 N gz m Zs w) (hb : Below w.heap.size w w') : PaW w0 N gz m Zs w' :=
  ⟨h.old.trans (hb.mono h.old.size), h.z.below rfl hb, Nat.le_trans h.n hb.size, h.far, h.first⟩
theorem PaW.app {w0 : World} {N gz m b : Nat} {Zs : List UInt8} {w w' : World} (h : PaW w0 N gz m Zs w) (hb : N ≤ b) (hk : ∀ c, c < w.heap.size → c ≠ b → w'.heap[c]? = w.heap[c]?) (hbel : Below N w w') : PaW w0 N gz m Zs w' :=
  ⟨h.old.trans (hbel.mono h.first), h.z.here (hk gz (by have := h.far; have := h.n; omega) (by have := h.far; omega)), Nat.le_trans h.n hbel.size, h.far, h.first⟩

/-- The row of noughts behind i turns. -/
def Zl (l0 l1 : List UInt8) (m : Nat) : Nat → List UInt8
  | 0 => List.replicate m 0
  | i + 1 => (Zl l0 l1 m i).set i (l0.getD i 0 ^^^ l1.getD i 0)
theorem Zl_length (l0 l1 : List UInt8) (m i : Nat) : (Zl l0 l1 m i).length = m := by
  induction i with
  | zero => simp [Zl]
  | succ i ih => simp [Zl, ih]
theorem Zl_get (l0 l1 : List UInt8) (m i j : Nat) (hj : j < i) (hm : i ≤ m) : (Zl l0 l1 m i)[j]? = some (l0.getD j 0 ^^^ l1.getD j 0) := by
  induction i with
  | zero => omega
  | succ i ih =>
    unfold Zl
    by_cases e : i = j
    · subst e
      rw [List.getElem?_set_self (by rw [Zl_length]; omega)]
    · rw [List.getElem?_set_ne e]
      exact ih (by omega) (by omega)
theorem Zl_all (l0 l1 : List UInt8) (m : Nat) (h0 : m ≤ l0.length) (h1 : m ≤ l1.length) : Zl l0 l1 m m = List.zipWith (fun x y => x ^^^ y) (l0.take m) (l1.take m) := by
  apply List.ext_getElem
  · rw [Zl_length]
    simp
    omega
  · intro j h2 h3
    rw [Zl_length] at h2
    have h4 := Zl_get l0 l1 m m j h2 (Nat.le_refl _)
    rw [List.getElem?_eq_getElem (by rw [Zl_length]; exact h2)] at h4
    injection h4 with h4
    rw [h4]
    simp [List.getD, List.getElem?_eq_getElem (show j < l0.length by omega), List.getElem?_eq_getElem (show j < l1.length by omega)]
theorem Zl_store (l0 l1 : List UInt8) (m i g : Nat) (x0 x1 : UInt8) (e0 : l0[i]? = some x0) (e1 : l1[i]? = some x1) {w : World} {B n d : Nat} (h : Own w B (some ⟨g, 0, none⟩) n d (Zl l0 l1 m i)) :
    Own (w.setCell ⟨g, i, none⟩ (.int .u8 (bits .xor .u8 (x0.toNat : Int) (x1.toNat : Int)))) B (some ⟨g, 0, none⟩) n d (Zl l0 l1 m (i + 1)) := by
  rw [bx8]
  have : Zl l0 l1 m (i + 1) = (Zl l0 l1 m i).set i (x0 ^^^ x1) := by
    show (Zl l0 l1 m i).set i (l0.getD i 0 ^^^ l1.getD i 0) = _
    simp [List.getD, e0, e1]
  rw [this]
  exact h.store i _
theorem xor_eq (l0 l1 : List UInt8) (m : Nat) (h0 : m ≤ l0.length) (h1 : m ≤ l1.length) : Crc.of (l0.take m) ^^^ Crc.of (l1.take m) = Crc.of (Zl l0 l1 m m) ^^^ Crc.of (List.replicate m 0) := by
  have hl : (l0.take m).length = m := by rw [List.length_take]; omega
  rw [Crc.of_xor _ _ (by rw [List.length_take, List.length_take]; omega), hl, Zl_all l0 l1 m h0 h1]

set_option maxRecDepth 100000 in
set_option maxHeartbeats 4000000 in
theorem walk (A0 : Option Addr) (n0 k0 : Nat) (l0 : List UInt8) (A1 : Option Addr) (n1 k1 : Nat) (l1 : List UInt8) (w : World) (r0 : Rd w w.heap.size A0 n0 l0) (c0 : n0 ≤ k0) (b0 : k0 ≤ 1048576) (r1 : Rd w w.heap.size A1 n1 l1) (c1 : n1 ≤ k1) (b1 : k1 ≤ 1048576) :
    Calls Try.prog 6 #[.slice A0 n0 k0, .slice A1 n1 k1] w (Yes w) := by
  have hl0 := Lib.hid r0.1
  have hl1 := Lib.hid r1.1
  go_enter Try.func6, Try.ntmps6
  go_wp2_with fail
  refine (of_any A0 n0 k0 l0 w.heap.size w r0 (by omega)).mono ?_
  rintro e w' ⟨rfl, rfl⟩
  go_wp2_with fail
  go_loop [5, 16] (fun t i => ∃ j : Nat, j ≤ n1 ∧ i = .int .i64 j ∧ t = .int .u32 ((Crc.fld (~~~ Crc.of l0) (l1.take j)).toNat : Int)) (fun _ i => n1 - (intOf i).toNat)
  case atStart => exact ⟨0, by omega, rfl, u32_eq (flip_nat _)⟩
  case round =>
    obtain ⟨j, hj, rfl, rfl⟩ := hrel
    by_cases hlt : j < n1
    · obtain ⟨ad, x, rfl, _, hx, hc⟩ := r1.at_ hlt
      have H := Lib.hid (fld_snoc (~~~ Crc.of l0) l1 j x hx)
      clear hx
      go_wp2_with fail
      refine (next_any _ _ _).mono ?_
      rintro e w' ⟨rfl, rfl⟩
      go_wp2_with fail
      go_round
      case rel => exact ⟨j + 1, by omega, by go_num, by rw [H.out]⟩
      case measure => simp [intOf]; omega
    · have hjn : n1 = j := by omega
      subst hjn
      have hflip : bits .xor .u32 IntKind.u32.max ((Crc.fld (~~~ Crc.of l0) (l1.take n1)).toNat : Int) = ((Crc.of (l0 ++ l1)).toNat : Int) := by
        rw [Crc.of_append, List.take_of_length_le (by rw [hl1.out]; exact Nat.le_refl _)]
        exact flip_nat _
      have HF := Lib.hid hflip
      clear hflip hlt
      by_cases hmin : n1 < n0
      · have hle : n1 ≤ n0 := by omega
        have hmk0 : n1 ≤ k0 := by omega
        have hmk1 : n1 ≤ k1 := by omega
        go_wp2_with (first
          | (at_make; refine wpList_mk rfl (.tmp 29) (.tmp 29) rfl w.heap.size n1 n1 _ rfl rfl rfl (Nat.le_refl _) (by omega) (Nat.le_refl _) ?_; intro w1 hw1 hb1))
        go_loopw [10] (fun t wr => ∃ i : Nat, i ≤ n1 ∧ t = .int .i64 i ∧ Own wr w.heap.size (some ⟨w.heap.size, 0, none⟩) n1 n1 (Zl l0 l1 n1 i) ∧ Below w.heap.size w wr) (fun t _ => n1 - (intOf t).toNat)
        case atStart => exact ⟨0, by omega, rfl, hw1, hb1⟩
        case round =>
          obtain ⟨i, hi, rfl, ho, hb⟩ := hrel
          by_cases hil : i < n1
          · obtain ⟨ad0, x0, rfl, _, hx0, hc0⟩ := (r0.below hb).at_ (k := i) (by omega)
            obtain ⟨ad1, x1, rfl, _, hx1, hc1⟩ := (r1.below hb).at_ (k := i) (by omega)
            obtain ⟨z, hz⟩ : ∃ z, (Zl l0 l1 n1 i)[i]? = some z := ⟨_, List.getElem?_eq_getElem (by rw [Zl_length]; omega)⟩
            have hcell := ho.cell hz
            have hfree := ho.free i
            have HX0 := Lib.hid hx0
            have HX1 := Lib.hid hx1
            clear hz hx0 hx1
            go_wp2_with fail
            go_region
            go_wp2_with fail
            go_roundw
            case rel => exact ⟨i + 1, by omega, by go_num, Zl_store l0 l1 n1 i w.heap.size x0 x1 HX0.out HX1.out ho, (hb.setCell (p := ⟨w.heap.size, i, none⟩) (Nat.le_refl _) _).drew⟩
            case measure => simp [intOf]; omega
          · have hie : n1 = i := by omega
            subst hie
            go_wp2_with fail
            obtain ⟨Zs, hZs⟩ : ∃ Zs, Zs = Zl l0 l1 n1 n1 := ⟨_, rfl⟩
            rw [← hZs] at ho
            have hxor : Crc.of (l0.take n1) ^^^ Crc.of (l1.take n1) = Crc.of Zs ^^^ Crc.of (List.replicate n1 0) := by
              rw [hZs]
              exact xor_eq l0 l1 n1 (by rw [hl0.out]; omega) (by rw [hl1.out]; omega)
            have hxn : (Crc.of (l0.take n1)).toNat ^^^ (Crc.of (l1.take n1)).toNat = (Crc.of Zs).toNat ^^^ (Crc.of (List.replicate n1 0)).toNat := by
              rw [← BitVec.toNat_xor, ← BitVec.toNat_xor, hxor]
            have hflip := HF.out
            have hsg : IntKind.u32.signed = false := rfl
            have hm0 := hmk0
            have hm1 := hmk1
            obtain ⟨N, hN⟩ : ∃ N, N = wr.heap.size := ⟨_, rfl⟩
            have hfar : w.heap.size < N := by rw [hN]; exact ho.high
            refine Reg.region (by kernel_rfl) (by kernel_rfl) (PaV N n0 k0 n1 k1 w.heap.size n1 A0 A1 l0 l1 Zs) (PaW w N w.heap.size n1 Zs) ⟨hb.drew, ho, by rw [hN]; exact Nat.le_refl _, hfar, by rw [hN]; exact hb.size⟩ (Reg.steps_of ?_) ?_
            · refine ⟨?_, ?_, ?_, ?_, ?_, ?_, ?_, ?_, ?_, ?_, ?_, ?_, ?_, ?_, ?_, ?_, ?_, ?_, ?_, ?_, ?_, ?_, ?_, ?_, ?_, ?_, ?_, ?_, ?_, ?_, ?_, trivial⟩
              · intro a w1 E D hW
                have e5 : a.eval (.tmp 5) = .int .u32 ((Crc.fld (~~~ Crc.of l0) (l1.take n1)).toNat : Int) := E 5 rfl
                exact Reg.val rfl (Reg.wanted_free rfl) hW (.int .u32 ((Crc.fld (~~~ Crc.of l0) (l1.take n1)).toNat : Int)) (by have c := Reg.consts a; generalize a.eval = ρ at *; simp [go_sem, c.1, c.2, e5]) rfl
              · intro a w1 E D hW
                have d0 : a.eval (.tmp 48) = .int .u32 ((Crc.fld (~~~ Crc.of l0) (l1.take n1)).toNat : Int) := D 0 rfl
                exact Reg.val rfl (Reg.wanted_free rfl) hW (.int .u32 ((Crc.of (l0 ++ l1)).toNat : Int)) (by have c := Reg.consts a; generalize a.eval = ρ at *; simp [go_sem, c.1, c.2, d0, hsg, hflip]) rfl
              · intro a w1 E D hW
                have hb2 : Below w1.heap.size w1 (w1.alloc (.cells #[] 5)) := (Below.refl _ _).alloc (Nat.le_refl _) _
                exact Reg.grow rfl (Reg.wanted_free rfl) (.slice (some ⟨w1.heap.size, 0, none⟩) 0 0) (w1.alloc (.cells #[] 5)) (by have c := Reg.consts a; generalize a.eval = ρ at *; simp [go_sem, c.1, c.2]) ⟨_, rfl, own_lit w1 N [] _ rfl hW.n (by decide)⟩ (hW.below hb2) (fun j v _ => PaV.keep hb2 j v)
              · intro a w1 E D hW
                have e0 : a.eval (.tmp 0) = .slice A0 n0 k0 := E 0 rfl
                exact Reg.val rfl (Reg.wanted_free rfl) hW (.slice A0 n0 k0) (by have c := Reg.consts a; generalize a.eval = ρ at *; simp [go_sem, c.1, c.2, e0]) rfl
              · intro a w1 E D hW
                have d3 : a.eval (.tmp 51) = .slice A0 n0 k0 := D 3 rfl
                obtain ⟨b2, d, hr⟩ : ∃ b, a.eval (.tmp 50) = .slice (some ⟨b, 0, none⟩) 0 0 ∧ Own w1 N (some ⟨b, 0, none⟩) 0 0 [] := D 2 rfl
                obtain ⟨g4, d4, w2, hrun, hv, hb2, hk2, hk3⟩ := run_app_keep w1 N b2 0 0 [] hr A0 n0 k0 l0 _ (r0.below hW.old) (by omega) hW.n
                rw [Nat.zero_add] at hrun hv
                refine Reg.growL rfl (Reg.wanted_free rfl) (.slice (some ⟨g4, 0, none⟩) n0 d4) w2 ?_ ⟨g4, d4, rfl, hv⟩ (hW.app hr.low hk2 hb2) ?_
                · unfold execOp
                  simp only [resolve, invoke, builtin, Sem.run_bind, Sem.run_pure, Result.andThen_ok, List.map_toArray, List.map_cons, List.map_nil, d3, d, hrun]
                · intro live hc h0 j v hj h
                  have n6 := Reg.not_live hc h0 (j := 6) rfl rfl
                  have n7 := Reg.not_live hc n6 (j := 7) rfl rfl
                  have n8 := Reg.not_live hc n7 (j := 8) rfl rfl
                  have n9 := Reg.not_live hc n8 (j := 9) rfl rfl
                  have n22 := Reg.not_live hc n9 (j := 22) rfl rfl
                  exact PaV.keepA hk3 (.inl (fun e => by rw [e, h0] at hj; cases hj)) (fun e => by rw [e, n6] at hj; cases hj) (fun e => by rw [e, n22] at hj; cases hj) h
              · intro a w1 E D hW
                have e1 : a.eval (.tmp 1) = .slice A1 n1 k1 := E 1 rfl
                exact Reg.val rfl (Reg.wanted_free rfl) hW (.slice A1 n1 k1) (by have c := Reg.consts a; generalize a.eval = ρ at *; simp [go_sem, c.1, c.2, e1]) rfl
              · intro a w1 E D hW
                have d5 : a.eval (.tmp 53) = .slice A1 n1 k1 := D 5 rfl
                obtain ⟨b2, k2, d, hr⟩ : ∃ b d, a.eval (.tmp 52) = .slice (some ⟨b, 0, none⟩) n0 d ∧ Own w1 N (some ⟨b, 0, none⟩) n0 d l0 := D 4 rfl
                obtain ⟨g4, d4, w2, hrun, hv, hb2, hk2, hk3⟩ := run_app_keep w1 N b2 n0 k2 l0 hr A1 n1 k1 l1 _ (r1.below hW.old) (by omega) hW.n
                refine Reg.growL rfl (Reg.wanted_free rfl) (.slice (some ⟨g4, 0, none⟩) (n0 + n1) d4) w2 ?_ ⟨g4, d4, rfl, hv⟩ (hW.app hr.low hk2 hb2) ?_
                · unfold execOp
                  simp only [resolve, invoke, builtin, Sem.run_bind, Sem.run_pure, Result.andThen_ok, List.map_toArray, List.map_cons, List.map_nil, d5, d, hrun]
                · intro live hc h0 j v hj h
                  have n7 := Reg.not_live hc h0 (j := 7) rfl rfl
                  have n8 := Reg.not_live hc n7 (j := 8) rfl rfl
                  have n9 := Reg.not_live hc n8 (j := 9) rfl rfl
                  have n22 := Reg.not_live hc n9 (j := 22) rfl rfl
                  exact PaV.keepA hk3 (.inr (Nat.le_refl _)) (fun e => by rw [e, h0] at hj; cases hj) (fun e => by rw [e, n22] at hj; cases hj) h
              · intro a w1 E D hW
                obtain ⟨b2, k2, d, hr⟩ : ∃ b d, a.eval (.tmp 54) = .slice (some ⟨b, 0, none⟩) (n0 + n1) d ∧ Own w1 N (some ⟨b, 0, none⟩) (n0 + n1) d (l0 ++ l1) := D 6 rfl
                refine Reg.call rfl (Reg.wanted_free rfl) 14 #[.slice (some ⟨b2, 0, none⟩) (n0 + n1) k2] (by have c := Reg.consts a; generalize a.eval = ρ at *; simp [go_sem, c.1, c.2, d]) ?_
                refine (of_any _ _ _ _ _ _ hr.rd (by omega)).mono ?_
                rintro e w2 ⟨rfl, rfl⟩
                exact ⟨_, rfl, rfl, hW, fun _ _ h => h⟩
              · intro a w1 E D hW
                have d1 : a.eval (.tmp 49) = .int .u32 ((Crc.of (l0 ++ l1)).toNat : Int) := D 1 rfl
                have d7 : a.eval (.tmp 55) = .int .u32 ((Crc.of (l0 ++ l1)).toNat : Int) := D 7 rfl
                exact Reg.val rfl (Reg.wanted_free rfl) hW (.bool true) (by have c := Reg.consts a; generalize a.eval = ρ at *; simp [go_sem, c.1, c.2, d1, d7]) rfl
              · intro a w1 E D hW
                have d8 : a.eval (.tmp 56) = .bool true := D 8 rfl
                exact Reg.val rfl (Reg.wanted_free rfl) hW (.bool true) (by have c := Reg.consts a; generalize a.eval = ρ at *; simp [go_sem, c.1, c.2, d8]) rfl
              · intro a w1 E D hW
                have e0 : a.eval (.tmp 0) = .slice A0 n0 k0 := E 0 rfl
                have g : a.eval (.tmp 57) = .bool true := D 9 rfl
                exact Reg.val rfl (Reg.wanted_if rfl rfl g rfl) hW (.slice A0 n0 k0) (by have c := Reg.consts a; generalize a.eval = ρ at *; simp [go_sem, c.1, c.2, e0]) rfl
              · intro a w1 E D hW
                have e8 : a.eval (.tmp 8) = .int .i64 (n1 : Int) := E 8 rfl
                have g : a.eval (.tmp 57) = .bool true := D 9 rfl
                exact Reg.val rfl (Reg.wanted_if rfl rfl g rfl) hW (.int .i64 (n1 : Int)) (by have c := Reg.consts a; generalize a.eval = ρ at *; simp [go_sem, c.1, c.2, e8]) rfl
              · intro a w1 E D hW
                have d10 : a.eval (.tmp 58) = .slice A0 n0 k0 := D 10 rfl
                have d11 : a.eval (.tmp 59) = .int .i64 (n1 : Int) := D 11 rfl
                have g : a.eval (.tmp 57) = .bool true := D 9 rfl
                exact Reg.val rfl (Reg.wanted_if rfl rfl g rfl) hW (.slice A0 n1 k0) (by have c := Reg.consts a; generalize a.eval = ρ at *; simp [go_sem, c.1, c.2, d10, d11, hm0]) rfl
              · intro a w1 E D hW
                have d12 : a.eval (.tmp 60) = .slice A0 n1 k0 := D 12 rfl
                have g : a.eval (.tmp 57) = .bool true := D 9 rfl
                refine Reg.call rfl (Reg.wanted_if rfl rfl g rfl) 14 #[.slice A0 n1 k0] (by have c := Reg.consts a; generalize a.eval = ρ at *; simp [go_sem, c.1, c.2, d12]) ?_
                refine (of_any _ _ _ _ _ _ ((r0.front n1 hle).below hW.old) (by omega)).mono ?_
                rintro e w2 ⟨rfl, rfl⟩
                exact ⟨_, rfl, rfl, hW, fun _ _ h => h⟩
              · intro a w1 E D hW
                have e1 : a.eval (.tmp 1) = .slice A1 n1 k1 := E 1 rfl
                have g : a.eval (.tmp 57) = .bool true := D 9 rfl
                exact Reg.val rfl (Reg.wanted_if rfl rfl g rfl) hW (.slice A1 n1 k1) (by have c := Reg.consts a; generalize a.eval = ρ at *; simp [go_sem, c.1, c.2, e1]) rfl
              · intro a w1 E D hW
                have e8 : a.eval (.tmp 8) = .int .i64 (n1 : Int) := E 8 rfl
                have g : a.eval (.tmp 57) = .bool true := D 9 rfl
                exact Reg.val rfl (Reg.wanted_if rfl rfl g rfl) hW (.int .i64 (n1 : Int)) (by have c := Reg.consts a; generalize a.eval = ρ at *; simp [go_sem, c.1, c.2, e8]) rfl
              · intro a w1 E D hW
                have d14 : a.eval (.tmp 62) = .slice A1 n1 k1 := D 14 rfl
                have d15 : a.eval (.tmp 63) = .int .i64 (n1 : Int) := D 15 rfl
                have g : a.eval (.tmp 57) = .bool true := D 9 rfl
                exact Reg.val rfl (Reg.wanted_if rfl rfl g rfl) hW (.slice A1 n1 k1) (by have c := Reg.consts a; generalize a.eval = ρ at *; simp [go_sem, c.1, c.2, d14, d15, hm1]) rfl
              · intro a w1 E D hW
                have d16 : a.eval (.tmp 64) = .slice A1 n1 k1 := D 16 rfl
                have g : a.eval (.tmp 57) = .bool true := D 9 rfl
                refine Reg.call rfl (Reg.wanted_if rfl rfl g rfl) 14 #[.slice A1 n1 k1] (by have c := Reg.consts a; generalize a.eval = ρ at *; simp [go_sem, c.1, c.2, d16]) ?_
                refine (of_any _ _ _ _ _ _ ((r1.front n1 (Nat.le_refl _)).below hW.old) (by omega)).mono ?_
                rintro e w2 ⟨rfl, rfl⟩
                exact ⟨_, rfl, rfl, hW, fun _ _ h => h⟩
              · intro a w1 E D hW
                have d13 : a.eval (.tmp 61) = .int .u32 ((Crc.of (l0.take n1)).toNat : Int) := D 13 rfl
                have d17 : a.eval (.tmp 65) = .int .u32 ((Crc.of (l1.take n1)).toNat : Int) := D 17 rfl
                have g : a.eval (.tmp 57) = .bool true := D 9 rfl
                exact Reg.val rfl (Reg.wanted_if rfl rfl g rfl) hW (.int .u32 ((Crc.of (l0.take n1) ^^^ Crc.of (l1.take n1)).toNat : Int)) (by have c := Reg.consts a; generalize a.eval = ρ at *; simp [go_sem, c.1, c.2, d13, d17, bx]) rfl
              · intro a w1 E D hW
                have e9 : a.eval (.tmp 9) = .slice (some ⟨w.heap.size, 0, none⟩) n1 n1 := E 9 rfl
                have g : a.eval (.tmp 57) = .bool true := D 9 rfl
                exact Reg.val rfl (Reg.wanted_if rfl rfl g rfl) hW (.slice (some ⟨w.heap.size, 0, none⟩) n1 n1) (by have c := Reg.consts a; generalize a.eval = ρ at *; simp [go_sem, c.1, c.2, e9]) rfl
              · intro a w1 E D hW
                have d19 : a.eval (.tmp 67) = .slice (some ⟨w.heap.size, 0, none⟩) n1 n1 := D 19 rfl
                have g : a.eval (.tmp 57) = .bool true := D 9 rfl
                refine Reg.call rfl (Reg.wanted_if rfl rfl g rfl) 14 #[.slice (some ⟨w.heap.size, 0, none⟩) n1 n1] (by have c := Reg.consts a; generalize a.eval = ρ at *; simp [go_sem, c.1, c.2, d19]) ?_
                refine (of_any _ _ _ _ _ _ hW.z.rd (by omega)).mono ?_
                rintro e w2 ⟨rfl, rfl⟩
                exact ⟨_, rfl, rfl, hW, fun _ _ h => h⟩
              · intro a w1 E D hW
                have e8 : a.eval (.tmp 8) = .int .i64 (n1 : Int) := E 8 rfl
                have g : a.eval (.tmp 57) = .bool true := D 9 rfl
                exact Reg.val rfl (Reg.wanted_if rfl rfl g rfl) hW (.int .i64 (n1 : Int)) (by have c := Reg.consts a; generalize a.eval = ρ at *; simp [go_sem, c.1, c.2, e8]) rfl
              · intro a w1 E D hW
                have d21 : a.eval (.tmp 69) = .int .i64 (n1 : Int) := D 21 rfl
                have g : a.eval (.tmp 57) = .bool true := D 9 rfl
                obtain ⟨w2, hrun, hv, hb2⟩ := run_mk w1 N n1 (by omega) hW.n
                exact Reg.grow rfl (Reg.wanted_if rfl rfl g rfl) (.slice (some ⟨w1.heap.size, 0, none⟩) n1 n1) w2 (by have c := Reg.consts a; generalize a.eval = ρ at *; simp [go_sem, c.1, c.2, d21, hrun]) ⟨_, _, rfl, hv⟩ (hW.below hb2) (fun j v _ => PaV.keep hb2 j v)
              · intro a w1 E D hW
                obtain ⟨A2, k2, d, hr⟩ : ∃ A d, a.eval (.tmp 70) = .slice A n1 d ∧ Own w1 N A n1 d (List.replicate n1 0) := D 22 rfl
                have g : a.eval (.tmp 57) = .bool true := D 9 rfl
                refine Reg.call rfl (Reg.wanted_if rfl rfl g rfl) 14 #[.slice A2 n1 k2] (by have c := Reg.consts a; generalize a.eval = ρ at *; simp [go_sem, c.1, c.2, d]) ?_
                refine (of_any _ _ _ _ _ _ hr.rd (by omega)).mono ?_
                rintro e w2 ⟨rfl, rfl⟩
                exact ⟨_, rfl, rfl, hW, fun _ _ h => h⟩
              · intro a w1 E D hW
                have d20 : a.eval (.tmp 68) = .int .u32 ((Crc.of Zs).toNat : Int) := D 20 rfl
                have d23 : a.eval (.tmp 71) = .int .u32 ((Crc.of (List.replicate n1 0)).toNat : Int) := D 23 rfl
                have g : a.eval (.tmp 57) = .bool true := D 9 rfl
                exact Reg.val rfl (Reg.wanted_if rfl rfl g rfl) hW (.int .u32 ((Crc.of Zs ^^^ Crc.of (List.replicate n1 0)).toNat : Int)) (by have c := Reg.consts a; generalize a.eval = ρ at *; simp [go_sem, c.1, c.2, d20, d23, bx]) rfl
              · intro a w1 E D hW
                have d18 : a.eval (.tmp 66) = .int .u32 ((Crc.of (l0.take n1) ^^^ Crc.of (l1.take n1)).toNat : Int) := D 18 rfl
                have d24 : a.eval (.tmp 72) = .int .u32 ((Crc.of Zs ^^^ Crc.of (List.replicate n1 0)).toNat : Int) := D 24 rfl
                have g : a.eval (.tmp 57) = .bool true := D 9 rfl
                exact Reg.val rfl (Reg.wanted_if rfl rfl g rfl) hW (.bool true) (by have c := Reg.consts a; generalize a.eval = ρ at *; simp [go_sem, c.1, c.2, d18, d24, hxor, hxn]) rfl
              · intro a w1 E D hW
                have d9 : a.eval (.tmp 57) = .bool true := D 9 rfl
                have d25 : a.eval (.tmp 73) = .bool true := D 25 rfl
                exact Reg.val rfl (Reg.wanted_free rfl) hW (.bool true) (by have c := Reg.consts a; generalize a.eval = ρ at *; simp [go_sem, c.1, c.2, d9, d25]) rfl
              · intro a w1 E D hW
                have d26 : a.eval (.tmp 74) = .bool true := D 26 rfl
                exact Reg.val rfl (Reg.wanted_free rfl) hW (.bool true) (by have c := Reg.consts a; generalize a.eval = ρ at *; simp [go_sem, c.1, c.2, d26]) rfl
              · intro a w1 E D hW
                have g : a.eval (.tmp 75) = .bool true := D 27 rfl
                refine Reg.call rfl (Reg.wanted_if rfl rfl g rfl) 10 #[] (by have c := Reg.consts a; generalize a.eval = ρ at *; simp [go_sem, c.1, c.2]) ?_
                refine (known_any w1).mono ?_
                rintro e w2 ⟨rfl, hb2⟩
                exact ⟨_, rfl, rfl, hW.below hb2, PaV.keep hb2⟩
              · intro a w1 E D hW
                have d27 : a.eval (.tmp 75) = .bool true := D 27 rfl
                have d28 : a.eval (.tmp 76) = .bool true := D 28 rfl
                exact Reg.val rfl (Reg.wanted_free rfl) hW (.bool true) (by have c := Reg.consts a; generalize a.eval = ρ at *; simp [go_sem, c.1, c.2, d27, d28]) rfl
              · intro a w1 E D hW
                have d29 : a.eval (.tmp 77) = .bool true := D 29 rfl
                exact Reg.val rfl (Reg.wanted_free rfl) hW (.bool true) (by have c := Reg.consts a; generalize a.eval = ρ at *; simp [go_sem, c.1, c.2, d29]) rfl
            · intro a w5 hs hd E D hW
              have d30 : a.eval (.tmp 4) = .bool true := D 30 (by decide)
              have hfin := hW.old
              rw [Reg.act_lit a 78 hs, hd]
              simp only [List.range, List.range.loop, List.map, d30]
              clear E d30 hN hsg hflip hxor hxn hZs hfar
              generalize a.eval = ρ
              clear a hs hd D hW
              go_wp2
              go_ret
              exact ⟨rfl, hfin⟩
      · have hle : n0 ≤ n1 := by omega
        have hmk0 : n0 ≤ k0 := by omega
        have hmk1 : n0 ≤ k1 := by omega
        go_wp2_with (first
          | (at_make; refine wpList_mk rfl (.tmp 29) (.tmp 29) rfl w.heap.size n0 n0 _ rfl rfl rfl (Nat.le_refl _) (by omega) (Nat.le_refl _) ?_; intro w1 hw1 hb1))
        go_loopw [10] (fun t wr => ∃ i : Nat, i ≤ n0 ∧ t = .int .i64 i ∧ Own wr w.heap.size (some ⟨w.heap.size, 0, none⟩) n0 n0 (Zl l0 l1 n0 i) ∧ Below w.heap.size w wr) (fun t _ => n0 - (intOf t).toNat)
        case atStart => exact ⟨0, by omega, rfl, hw1, hb1⟩
        case round =>
          obtain ⟨i, hi, rfl, ho, hb⟩ := hrel
          by_cases hil : i < n0
          · obtain ⟨ad0, x0, rfl, _, hx0, hc0⟩ := (r0.below hb).at_ (k := i) (by omega)
            obtain ⟨ad1, x1, rfl, _, hx1, hc1⟩ := (r1.below hb).at_ (k := i) (by omega)
            obtain ⟨z, hz⟩ : ∃ z, (Zl l0 l1 n0 i)[i]? = some z := ⟨_, List.getElem?_eq_getElem (by rw [Zl_length]; omega)⟩
            have hcell := ho.cell hz
            have hfree := ho.free i
            have HX0 := Lib.hid hx0
            have HX1 := Lib.hid hx1
            clear hz hx0 hx1
            go_wp2_with fail
            go_region
            go_wp2_with fail
            go_roundw
            case rel => exact ⟨i + 1, by omega, by go_num, Zl_store l0 l1 n0 i w.heap.size x0 x1 HX0.out HX1.out ho, (hb.setCell (p := ⟨w.heap.size, i, none⟩) (Nat.le_refl _) _).drew⟩
            case measure => simp [intOf]; omega
          · have hie : n0 = i := by omega
            subst hie
            go_wp2_with fail
            obtain ⟨Zs, hZs⟩ : ∃ Zs, Zs = Zl l0 l1 n0 n0 := ⟨_, rfl⟩
            rw [← hZs] at ho
            have hxor : Crc.of (l0.take n0) ^^^ Crc.of (l1.take n0) = Crc.of Zs ^^^ Crc.of (List.replicate n0 0) := by
              rw [hZs]
              exact xor_eq l0 l1 n0 (by rw [hl0.out]; omega) (by rw [hl1.out]; omega)
            have hxn : (Crc.of (l0.take n0)).toNat ^^^ (Crc.of (l1.take n0)).toNat = (Crc.of Zs).toNat ^^^ (Crc.of (List.replicate n0 0)).toNat := by
              rw [← BitVec.toNat_xor, ← BitVec.toNat_xor, hxor]
            have hflip := HF.out
            have hsg : IntKind.u32.signed = false := rfl
            have hm0 := hmk0
            have hm1 := hmk1
            obtain ⟨N, hN⟩ : ∃ N, N = wr.heap.size := ⟨_, rfl⟩
            have hfar : w.heap.size < N := by rw [hN]; exact ho.high
            refine Reg.region (by kernel_rfl) (by kernel_rfl) (PaV N n0 k0 n1 k1 w.heap.size n0 A0 A1 l0 l1 Zs) (PaW w N w.heap.size n0 Zs) ⟨hb.drew, ho, by rw [hN]; exact Nat.le_refl _, hfar, by rw [hN]; exact hb.size⟩ (Reg.steps_of ?_) ?_
            · refine ⟨?_, ?_, ?_, ?_, ?_, ?_, ?_, ?_, ?_, ?_, ?_, ?_, ?_, ?_, ?_, ?_, ?_, ?_, ?_, ?_, ?_, ?_, ?_, ?_, ?_, ?_, ?_, ?_, ?_, ?_, ?_, trivial⟩
              · intro a w1 E D hW
                have e5 : a.eval (.tmp 5) = .int .u32 ((Crc.fld (~~~ Crc.of l0) (l1.take n1)).toNat : Int) := E 5 rfl
                exact Reg.val rfl (Reg.wanted_free rfl) hW (.int .u32 ((Crc.fld (~~~ Crc.of l0) (l1.take n1)).toNat : Int)) (by have c := Reg.consts a; generalize a.eval = ρ at *; simp [go_sem, c.1, c.2, e5]) rfl
              · intro a w1 E D hW
                have d0 : a.eval (.tmp 48) = .int .u32 ((Crc.fld (~~~ Crc.of l0) (l1.take n1)).toNat : Int) := D 0 rfl
                exact Reg.val rfl (Reg.wanted_free rfl) hW (.int .u32 ((Crc.of (l0 ++ l1)).toNat : Int)) (by have c := Reg.consts a; generalize a.eval = ρ at *; simp [go_sem, c.1, c.2, d0, hsg, hflip]) rfl
              · intro a w1 E D hW
                have hb2 : Below w1.heap.size w1 (w1.alloc (.cells #[] 5)) := (Below.refl _ _).alloc (Nat.le_refl _) _
                exact Reg.grow rfl (Reg.wanted_free rfl) (.slice (some ⟨w1.heap.size, 0, none⟩) 0 0) (w1.alloc (.cells #[] 5)) (by have c := Reg.consts a; generalize a.eval = ρ at *; simp [go_sem, c.1, c.2]) ⟨_, rfl, own_lit w1 N [] _ rfl hW.n (by decide)⟩ (hW.below hb2) (fun j v _ => PaV.keep hb2 j v)
              · intro a w1 E D hW
                have e0 : a.eval (.tmp 0) = .slice A0 n0 k0 := E 0 rfl
                exact Reg.val rfl (Reg.wanted_free rfl) hW (.slice A0 n0 k0) (by have c := Reg.consts a; generalize a.eval = ρ at *; simp [go_sem, c.1, c.2, e0]) rfl
              · intro a w1 E D hW
                have d3 : a.eval (.tmp 51) = .slice A0 n0 k0 := D 3 rfl
                obtain ⟨b2, d, hr⟩ : ∃ b, a.eval (.tmp 50) = .slice (some ⟨b, 0, none⟩) 0 0 ∧ Own w1 N (some ⟨b, 0, none⟩) 0 0 [] := D 2 rfl
                obtain ⟨g4, d4, w2, hrun, hv, hb2, hk2, hk3⟩ := run_app_keep w1 N b2 0 0 [] hr A0 n0 k0 l0 _ (r0.below hW.old) (by omega) hW.n
                rw [Nat.zero_add] at hrun hv
                refine Reg.growL rfl (Reg.wanted_free rfl) (.slice (some ⟨g4, 0, none⟩) n0 d4) w2 ?_ ⟨g4, d4, rfl, hv⟩ (hW.app hr.low hk2 hb2) ?_
                · unfold execOp
                  simp only [resolve, invoke, builtin, Sem.run_bind, Sem.run_pure, Result.andThen_ok, List.map_toArray, List.map_cons, List.map_nil, d3, d, hrun]
                · intro live hc h0 j v hj h
                  have n6 := Reg.not_live hc h0 (j := 6) rfl rfl
                  have n7 := Reg.not_live hc n6 (j := 7) rfl rfl
                  have n8 := Reg.not_live hc n7 (j := 8) rfl rfl
                  have n9 := Reg.not_live hc n8 (j := 9) rfl rfl
                  have n22 := Reg.not_live hc n9 (j := 22) rfl rfl
                  exact PaV.keepA hk3 (.inl (fun e => by rw [e, h0] at hj; cases hj)) (fun e => by rw [e, n6] at hj; cases hj) (fun e => by rw [e, n22] at hj; cases hj) h
              · intro a w1 E D hW
                have e1 : a.eval (.tmp 1) = .slice A1 n1 k1 := E 1 rfl
                exact Reg.val rfl (Reg.wanted_free rfl) hW (.slice A1 n1 k1) (by have c := Reg.consts a; generalize a.eval = ρ at *; simp [go_sem, c.1, c.2, e1]) rfl
              · intro a w1 E D hW
                have d5 : a.eval (.tmp 53) = .slice A1 n1 k1 := D 5 rfl
                obtain ⟨b2, k2, d, hr⟩ : ∃ b d, a.eval (.tmp 52) = .slice (some ⟨b, 0, none⟩) n0 d ∧ Own w1 N (some ⟨b, 0, none⟩) n0 d l0 := D 4 rfl
                obtain ⟨g4, d4, w2, hrun, hv, hb2, hk2, hk3⟩ := run_app_keep w1 N b2 n0 k2 l0 hr A1 n1 k1 l1 _ (r1.below hW.old) (by omega) hW.n
                refine Reg.growL rfl (Reg.wanted_free rfl) (.slice (some ⟨g4, 0, none⟩) (n0 + n1) d4) w2 ?_ ⟨g4, d4, rfl, hv⟩ (hW.app hr.low hk2 hb2) ?_
                · unfold execOp
                  simp only [resolve, invoke, builtin, Sem.run_bind, Sem.run_pure, Result.andThen_ok, List.map_toArray, List.map_cons, List.map_nil, d5, d, hrun]
                · intro live hc h0 j v hj h
                  have n7 := Reg.not_live hc h0 (j := 7) rfl rfl
                  have n8 := Reg.not_live hc n7 (j := 8) rfl rfl
                  have n9 := Reg.not_live hc n8 (j := 9) rfl rfl
                  have n22 := Reg.not_live hc n9 (j := 22) rfl rfl
                  exact PaV.keepA hk3 (.inr (Nat.le_refl _)) (fun e => by rw [e, h0] at hj; cases hj) (fun e => by rw [e, n22] at hj; cases hj) h
              · intro a w1 E D hW
                obtain ⟨b2, k2, d, hr⟩ : ∃ b d, a.eval (.tmp 54) = .slice (some ⟨b, 0, none⟩) (n0 + n1) d ∧ Own w1 N (some ⟨b, 0, none⟩) (n0 + n1) d (l0 ++ l1) := D 6 rfl
                refine Reg.call rfl (Reg.wanted_free rfl) 14 #[.slice (some ⟨b2, 0, none⟩) (n0 + n1) k2] (by have c := Reg.consts a; generalize a.eval = ρ at *; simp [go_sem, c.1, c.2, d]) ?_
                refine (of_any _ _ _ _ _ _ hr.rd (by omega)).mono ?_
                rintro e w2 ⟨rfl, rfl⟩
                exact ⟨_, rfl, rfl, hW, fun _ _ h => h⟩
              · intro a w1 E D hW
                have d1 : a.eval (.tmp 49) = .int .u32 ((Crc.of (l0 ++ l1)).toNat : Int) := D 1 rfl
                have d7 : a.eval (.tmp 55) = .int .u32 ((Crc.of (l0 ++ l1)).toNat : Int) := D 7 rfl
                exact Reg.val rfl (Reg.wanted_free rfl) hW (.bool true) (by have c := Reg.consts a; generalize a.eval = ρ at *; simp [go_sem, c.1, c.2, d1, d7]) rfl
              · intro a w1 E D hW
                have d8 : a.eval (.tmp 56) = .bool true := D 8 rfl
                exact Reg.val rfl (Reg.wanted_free rfl) hW (.bool true) (by have c := Reg.consts a; generalize a.eval = ρ at *; simp [go_sem, c.1, c.2, d8]) rfl
              · intro a w1 E D hW
                have e0 : a.eval (.tmp 0) = .slice A0 n0 k0 := E 0 rfl
                have g : a.eval (.tmp 57) = .bool true := D 9 rfl
                exact Reg.val rfl (Reg.wanted_if rfl rfl g rfl) hW (.slice A0 n0 k0) (by have c := Reg.consts a; generalize a.eval = ρ at *; simp [go_sem, c.1, c.2, e0]) rfl
              · intro a w1 E D hW
                have e8 : a.eval (.tmp 8) = .int .i64 (n0 : Int) := E 8 rfl
                have g : a.eval (.tmp 57) = .bool true := D 9 rfl
                exact Reg.val rfl (Reg.wanted_if rfl rfl g rfl) hW (.int .i64 (n0 : Int)) (by have c := Reg.consts a; generalize a.eval = ρ at *; simp [go_sem, c.1, c.2, e8]) rfl
              · intro a w1 E D hW
                have d10 : a.eval (.tmp 58) = .slice A0 n0 k0 := D 10 rfl
                have d11 : a.eval (.tmp 59) = .int .i64 (n0 : Int) := D 11 rfl
                have g : a.eval (.tmp 57) = .bool true := D 9 rfl
                exact Reg.val rfl (Reg.wanted_if rfl rfl g rfl) hW (.slice A0 n0 k0) (by have c := Reg.consts a; generalize a.eval = ρ at *; simp [go_sem, c.1, c.2, d10, d11, hm0]) rfl
              · intro a w1 E D hW
                have d12 : a.eval (.tmp 60) = .slice A0 n0 k0 := D 12 rfl
                have g : a.eval (.tmp 57) = .bool true := D 9 rfl
                refine Reg.call rfl (Reg.wanted_if rfl rfl g rfl) 14 #[.slice A0 n0 k0] (by have c := Reg.consts a; generalize a.eval = ρ at *; simp [go_sem, c.1, c.2, d12]) ?_
                refine (of_any _ _ _ _ _ _ ((r0.front n0 (Nat.le_refl _)).below hW.old) (by omega)).mono ?_
                rintro e w2 ⟨rfl, rfl⟩
                exact ⟨_, rfl, rfl, hW, fun _ _ h => h⟩
              · intro a w1 E D hW
                have e1 : a.eval (.tmp 1) = .slice A1 n1 k1 := E 1 rfl
                have g : a.eval (.tmp 57) = .bool true := D 9 rfl
                exact Reg.val rfl (Reg.wanted_if rfl rfl g rfl) hW (.slice A1 n1 k1) (by have c := Reg.consts a; generalize a.eval = ρ at *; simp [go_sem, c.1, c.2, e1]) rfl
              · intro a w1 E D hW
                have e8 : a.eval (.tmp 8) = .int .i64 (n0 : Int) := E 8 rfl
                have g : a.eval (.tmp 57) = .bool true := D 9 rfl
                exact Reg.val rfl (Reg.wanted_if rfl rfl g rfl) hW (.int .i64 (n0 : Int)) (by have c := Reg.consts a; generalize a.eval = ρ at *; simp [go_sem, c.1, c.2, e8]) rfl
              · intro a w1 E D hW
                have d14 : a.eval (.tmp 62) = .slice A1 n1 k1 := D 14 rfl
                have d15 : a.eval (.tmp 63) = .int .i64 (n0 : Int) := D 15 rfl
                have g : a.eval (.tmp 57) = .bool true := D 9 rfl
                exact Reg.val rfl (Reg.wanted_if rfl rfl g rfl) hW (.slice A1 n0 k1) (by have c := Reg.consts a; generalize a.eval = ρ at *; simp [go_sem, c.1, c.2, d14, d15, hm1]) rfl
              · intro a w1 E D hW
                have d16 : a.eval (.tmp 64) = .slice A1 n0 k1 := D 16 rfl
                have g : a.eval (.tmp 57) = .bool true := D 9 rfl
                refine Reg.call rfl (Reg.wanted_if rfl rfl g rfl) 14 #[.slice A1 n0 k1] (by have c := Reg.consts a; generalize a.eval = ρ at *; simp [go_sem, c.1, c.2, d16]) ?_
                refine (of_any _ _ _ _ _ _ ((r1.front n0 hle).below hW.old) (by omega)).mono ?_
                rintro e w2 ⟨rfl, rfl⟩
                exact ⟨_, rfl, rfl, hW, fun _ _ h => h⟩
              · intro a w1 E D hW
                have d13 : a.eval (.tmp 61) = .int .u32 ((Crc.of (l0.take n0)).toNat : Int) := D 13 rfl
                have d17 : a.eval (.tmp 65) = .int .u32 ((Crc.of (l1.take n0)).toNat : Int) := D 17 rfl
                have g : a.eval (.tmp 57) = .bool true := D 9 rfl
                exact Reg.val rfl (Reg.wanted_if rfl rfl g rfl) hW (.int .u32 ((Crc.of (l0.take n0) ^^^ Crc.of (l1.take n0)).toNat : Int)) (by have c := Reg.consts a; generalize a.eval = ρ at *; simp [go_sem, c.1, c.2, d13, d17, bx]) rfl
              · intro a w1 E D hW
                have e9 : a.eval (.tmp 9) = .slice (some ⟨w.heap.size, 0, none⟩) n0 n0 := E 9 rfl
                have g : a.eval (.tmp 57) = .bool true := D 9 rfl
                exact Reg.val rfl (Reg.wanted_if rfl rfl g rfl) hW (.slice (some ⟨w.heap.size, 0, none⟩) n0 n0) (by have c := Reg.consts a; generalize a.eval = ρ at *; simp [go_sem, c.1, c.2, e9]) rfl
              · intro a w1 E D hW
                have d19 : a.eval (.tmp 67) = .slice (some ⟨w.heap.size, 0, none⟩) n0 n0 := D 19 rfl
                have g : a.eval (.tmp 57) = .bool true := D 9 rfl
                refine Reg.call rfl (Reg.wanted_if rfl rfl g rfl) 14 #[.slice (some ⟨w.heap.size, 0, none⟩) n0 n0] (by have c := Reg.consts a; generalize a.eval = ρ at *; simp [go_sem, c.1, c.2, d19]) ?_
                refine (of_any _ _ _ _ _ _ hW.z.rd (by omega)).mono ?_
                rintro e w2 ⟨rfl, rfl⟩
                exact ⟨_, rfl, rfl, hW, fun _ _ h => h⟩
              · intro a w1 E D hW
                have e8 : a.eval (.tmp 8) = .int .i64 (n0 : Int) := E 8 rfl
                have g : a.eval (.tmp 57) = .bool true := D 9 rfl
                exact Reg.val rfl (Reg.wanted_if rfl rfl g rfl) hW (.int .i64 (n0 : Int)) (by have c := Reg.consts a; generalize a.eval = ρ at *; simp [go_sem, c.1, c.2, e8]) rfl
              · intro a w1 E D hW
                have d21 : a.eval (.tmp 69) = .int .i64 (n0 : Int) := D 21 rfl
                have g : a.eval (.tmp 57) = .bool true := D 9 rfl
                obtain ⟨w2, hrun, hv, hb2⟩ := run_mk w1 N n0 (by omega) hW.n
                exact Reg.grow rfl (Reg.wanted_if rfl rfl g rfl) (.slice (some ⟨w1.heap.size, 0, none⟩) n0 n0) w2 (by have c := Reg.consts a; generalize a.eval = ρ at *; simp [go_sem, c.1, c.2, d21, hrun]) ⟨_, _, rfl, hv⟩ (hW.below hb2) (fun j v _ => PaV.keep hb2 j v)
              · intro a w1 E D hW
                obtain ⟨A2, k2, d, hr⟩ : ∃ A d, a.eval (.tmp 70) = .slice A n0 d ∧ Own w1 N A n0 d (List.replicate n0 0) := D 22 rfl
                have g : a.eval (.tmp 57) = .bool true := D 9 rfl
                refine Reg.call rfl (Reg.wanted_if rfl rfl g rfl) 14 #[.slice A2 n0 k2] (by have c := Reg.consts a; generalize a.eval = ρ at *; simp [go_sem, c.1, c.2, d]) ?_
                refine (of_any _ _ _ _ _ _ hr.rd (by omega)).mono ?_
                rintro e w2 ⟨rfl, rfl⟩
                exact ⟨_, rfl, rfl, hW, fun _ _ h => h⟩
              · intro a w1 E D hW
                have d20 : a.eval (.tmp 68) = .int .u32 ((Crc.of Zs).toNat : Int) := D 20 rfl
                have d23 : a.eval (.tmp 71) = .int .u32 ((Crc.of (List.replicate n0 0)).toNat : Int) := D 23 rfl
                have g : a.eval (.tmp 57) = .bool true := D 9 rfl
                exact Reg.val rfl (Reg.wanted_if rfl rfl g rfl) hW (.int .u32 ((Crc.of Zs ^^^ Crc.of (List.replicate n0 0)).toNat : Int)) (by have c := Reg.consts a; generalize a.eval = ρ at *; simp [go_sem, c.1, c.2, d20, d23, bx]) rfl
              · intro a w1 E D hW
                have d18 : a.eval (.tmp 66) = .int .u32 ((Crc.of (l0.take n0) ^^^ Crc.of (l1.take n0)).toNat : Int) := D 18 rfl
                have d24 : a.eval (.tmp 72) = .int .u32 ((Crc.of Zs ^^^ Crc.of (List.replicate n0 0)).toNat : Int) := D 24 rfl
                have g : a.eval (.tmp 57) = .bool true := D 9 rfl
                exact Reg.val rfl (Reg.wanted_if rfl rfl g rfl) hW (.bool true) (by have c := Reg.consts a; generalize a.eval = ρ at *; simp [go_sem, c.1, c.2, d18, d24, hxor, hxn]) rfl
              · intro a w1 E D hW
                have d9 : a.eval (.tmp 57) = .bool true := D 9 rfl
                have d25 : a.eval (.tmp 73) = .bool true := D 25 rfl
                exact Reg.val rfl (Reg.wanted_free rfl) hW (.bool true) (by have c := Reg.consts a; generalize a.eval = ρ at *; simp [go_sem, c.1, c.2, d9, d25]) rfl
              · intro a w1 E D hW
                have d26 : a.eval (.tmp 74) = .bool true := D 26 rfl
                exact Reg.val rfl (Reg.wanted_free rfl) hW (.bool true) (by have c := Reg.consts a; generalize a.eval = ρ at *; simp [go_sem, c.1, c.2, d26]) rfl
              · intro a w1 E D hW
                have g : a.eval (.tmp 75) = .bool true := D 27 rfl
                refine Reg.call rfl (Reg.wanted_if rfl rfl g rfl) 10 #[] (by have c := Reg.consts a; generalize a.eval = ρ at *; simp [go_sem, c.1, c.2]) ?_
                refine (known_any w1).mono ?_
                rintro e w2 ⟨rfl, hb2⟩
                exact ⟨_, rfl, rfl, hW.below hb2, PaV.keep hb2⟩
              · intro a w1 E D hW
                have d27 : a.eval (.tmp 75) = .bool true := D 27 rfl
                have d28 : a.eval (.tmp 76) = .bool true := D 28 rfl
                exact Reg.val rfl (Reg.wanted_free rfl) hW (.bool true) (by have c := Reg.consts a; generalize a.eval = ρ at *; simp [go_sem, c.1, c.2, d27, d28]) rfl
              · intro a w1 E D hW
                have d29 : a.eval (.tmp 77) = .bool true := D 29 rfl
                exact Reg.val rfl (Reg.wanted_free rfl) hW (.bool true) (by have c := Reg.consts a; generalize a.eval = ρ at *; simp [go_sem, c.1, c.2, d29]) rfl
            · intro a w5 hs hd E D hW
              have d30 : a.eval (.tmp 4) = .bool true := D 30 (by decide)
              have hfin := hW.old
              rw [Reg.act_lit a 78 hs, hd]
              simp only [List.range, List.range.loop, List.map, d30]
              clear E d30 hN hsg hflip hxor hxn hZs hfar
              generalize a.eval = ρ
              clear a hs hd D hW
              go_wp2
              go_ret
              exact ⟨rfl, hfin⟩

set_option maxRecDepth 100000 in
theorem lifted (os : Os) (started : os.Started) (H : Type) (enc : TypeId × Value → H) (F : Stop.Interp) :
    ReturnsInHanded {} Try.checked os 6 .any ((Rows.OpenSpec.upto Rows.sumPartsSpec).pre6 enc Try.prog Try.f6 Rows.sumPartsUptoRow.domain false) (((Rows.OpenSpec.upto Rows.sumPartsSpec).at F).post enc Try.prog Try.f6 false true false false) := by
  refine returnsInHanded_of_cond (C := Try.checked) (s := Rows.OpenSpec.upto Rows.sumPartsSpec) (k := Rows.uptoSmall) rfl own started (by kernel_rfl) Try.func6
    (OpenSpec.witness (enc := enc) (C := Try.checked) (s := Rows.OpenSpec.upto Rows.sumPartsSpec) (k := Rows.uptoSmall) rfl false ⟨#[], #[.slice none 0 0, .slice none 0 0], []⟩ 8 (by kernel_rfl) (by kernel_rfl) (by kernel_rfl)
      (x := ([.nil, .nil], [], [])) (by kernel_rfl) rfl (by kernel_rfl)) ?_
  intro W base args ds gs before hval0 hW hcnd hk0 _
  have hval : ∀ (j : Nat) t v, Try.f6.params[j]? = some t → args[j]? = some v → Value.okWide Try.prog W .any base t v := hval0
  have hW' := hW
  obtain ⟨p, q, hA0, hV, rfl, hfz, hnd⟩ := hW
  have hA : DataW.TrodAll enc Try.prog W 0 (fun _ => true) true Try.f6.params.toList args.toList ds p := hA0
  rw [Try.params6] at hA hval
  obtain ⟨v0, vs0, d0, ds0, p0, q0, hargs, rfl, rfl, h0, r0⟩ := trodAll_cons hA
  obtain ⟨v1, vs1, d1, ds1, p1, q1, rfl, rfl, rfl, h1, r1⟩ := trodAll_cons r0
  obtain ⟨rfl, rfl, rfl⟩ := trodAll_nil r1
  obtain rfl : args = #[v0, v1] := by cases args; simp_all
  obtain ⟨rfl, rfl⟩ := trodVars_none hV
  have hk : Rows.uptoBulkAll ([d0, d1] ++ []) ≤ 1048576 := of_decide_eq_true hk0
  simp only [List.append_nil, Rows.uptoBulkAll] at hk
  obtain ⟨A0, n0, k0, rfl⟩ := okWide_slice Try.underlying22 (hval 0 22 v0 rfl rfl)
  have t0 := h0
  have lt0 : ∀ x ∈ p0, x.block < W.heap.size := by obtain ⟨m, hm⟩ := t0; exact DataW.trod_lt m _ _ _ hm
  obtain ⟨l0, u0, c0, b0⟩ := row_bulk h0 (by omega)
  obtain ⟨A1, n1, k1, rfl⟩ := okWide_slice Try.underlying22 (hval 1 22 v1 rfl rfl)
  have t1 := h1
  have lt1 : ∀ x ∈ p1, x.block < W.heap.size := by obtain ⟨m, hm⟩ := t1; exact DataW.trod_lt m _ _ _ hm
  obtain ⟨l1, u1, c1, b1⟩ := row_bulk h1 (by omega)
  clear hA0 hval0
  refine (walk A0 n0 k0 l0 A1 n1 k1 l1 W u0 c0 b0 u1 c1 b1).mono fun e W' ⟨he, bel⟩ => ?_
  subst he
  exact ⟨_, rfl, _, _, _, [], _, [], hW', trodAll_mk1 (shut_bool Try.underlying4 _), (trodAll_cons_mk (Below.trod laidOut (by kernel_rfl) (of_decide_eq_true (by kernel_rfl)) t0 bel lt0) (trodAll_cons_mk (Below.trod laidOut (by kernel_rfl) (of_decide_eq_true (by kernel_rfl)) t1 bel lt1) trodAll_mk0)), rfl, bel.frame _, fun h => by cases h⟩

theorem proved : Rows.SumPartsUptoSaid :=
  OpenClaim.holds_of_cond 6 Try.f6 rfl rfl rfl rfl rfl rfl rfl ⟨rfl, rfl, rfl, rfl, rfl⟩ rfl rfl rfl rfl rfl (by kernel_rfl) Try.func6 (by kernel_rfl)
    (of_decide_eq_true (by kernel_rfl)) (by unfold Func.isWrapper; first | (rw [if_pos (by decide +kernel)]; kernel_rfl) | (rw [if_neg (by decide +kernel)]; exact ⟨rfl, rfl⟩))
    (fun os started H enc _ F => lifted os started H enc F)
end Go.Proofs.Ytpbnbmnfkkkfkaa.sumParts
