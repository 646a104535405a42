/- Law 8's dependence: a square by a number's bits. -/
import Derived.Test.YtcdgofdnafbacaaLow4
import Derived.Test.YtcdgofdnafbacaaConf
import Derived.Test.YtcdgofdnafbacaaLow2
import Derived.Test.YtcdgofdnafbacaaRegs
import Derived.Test.YtcdgofdnafbacaaOwnb
namespace Go.Proofs.Ytcdgofdnafbacaa
open Go.RowKit Tab
set_option linter.unusedSimpArgs false
set_option linter.unusedVariables false

def tri : Nat → Nat
  | 0 => 0
  | i + 1 => tri i + (i + 1)
theorem tri_le (i : Nat) : tri i ≤ i * i := by
  induction i with
  | zero => simp [tri]
  | succ i ih => simp only [tri, Nat.succ_mul, Nat.mul_succ]; omega
/-- Bit q of a number, of twenty. -/
def bitB (b : Int) (q : Nat) : Bool := bits BinOp.and IntKind.i64 (b / 2 ^ (q % 20)) 1 == 1
/-- Do two depend, by a number's bits? -/
def depF (b : Int) (x y : Nat) : Bool := decide (x = y) || bitB b (tri (max x y) + min x y)
theorem depF_self (b : Int) (x : Nat) : depF b x x = true := by simp [depF]
theorem depF_sym (b : Int) (x y : Nat) : depF b x y = depF b y x := by
  unfold depF
  rw [show decide (x = y) = decide (y = x) from by by_cases h : x = y <;> simp [h, eq_comm], Nat.max_comm, Nat.min_comm]
/-- What is laid of it by then. -/
def layD (b : Int) (i j x y : Nat) : Bool := (decide (max x y < i) || (decide (max x y = i) && decide (min x y < j))) && depF b x y
theorem layD_zero (b : Int) (x y : Nat) : layD b 0 0 x y = false := by simp [layD]
theorem layD_turn (b : Int) (i x y : Nat) : layD b i (i + 1) x y = layD b (i + 1) 0 x y := by
  unfold layD
  congr 1
  rw [Bool.eq_iff_iff]
  simp
  omega
theorem layD_done (b : Int) (n x y : Nat) (hx : x < n) (hy : y < n) : layD b n 0 x y = depF b x y := by
  have h : max x y < n := by omega
  simp [layD, h]
theorem layD_put (b : Int) (i j x y : Nat) (h : j ≤ i) : put2 (put2 (layD b i j) i j (depF b i j)) j i (depF b i j) x y = layD b i (j + 1) x y := by
  unfold put2
  by_cases h1 : x = j ∧ y = i
  · obtain ⟨rfl, rfl⟩ := h1
    rw [if_pos ⟨rfl, rfl⟩, depF_sym]
    have e1 : max x y = y := by omega
    have e2 : min x y = x := by omega
    simp [layD, e1, e2]
  · rw [if_neg h1]
    by_cases h2 : x = i ∧ y = j
    · obtain ⟨rfl, rfl⟩ := h2
      rw [if_pos ⟨rfl, rfl⟩]
      have e1 : max x y = x := by omega
      have e2 : min x y = y := by omega
      simp [layD, e1, e2]
    · rw [if_neg h2]
      unfold layD
      congr 1
      rw [Bool.eq_iff_iff]
      simp
      omega
/-- With more bits no fewer depend. -/
theorem depF_of {b c : Int} (h : ∀ q, q < 20 → bitB b q = true → bitB c q = true) (x y : Nat) (hd : depF b x y = true) : depF c x y = true := by
  unfold depF at hd ⊢
  rcases Bool.or_eq_true_iff.1 hd with h1 | h1
  · rw [h1]; rfl
  · have e : ∀ z : Int, bitB z (tri (max x y) + min x y) = bitB z ((tri (max x y) + min x y) % 20) := fun z => by unfold bitB; rw [Nat.mod_mod]
    rw [e] at h1
    rw [e, h _ (Nat.mod_lt _ (by omega)) h1, Bool.or_true]
set_option maxRecDepth 100000 in
set_option maxHeartbeats 4000000 in
theorem dependence_any (n : Nat) (bs : Int) (w : World) (hn : n ≤ 16) (h1 : -9223372036854775808 ≤ bs) (h2 : bs ≤ 9223372036854775807) : Calls Try.prog 14 #[.int .i64 (n : Int), .int .i64 bs] w (MadG n (depF bs) w) := by
  have hmk := run_makeBB n (by omega)
  have hmb := run_makeB n (by omega)
  obtain ⟨B, hB⟩ : ∃ B, B = w.heap.size := ⟨_, rfl⟩
  have hb0 : Below B w (w.alloc (.cells (madeCells #[.slice none 0 0] n) 42)) := by rw [hB]; exact bl1 w _
  have hM0 := Mat.start w B n (by omega) 42 (fun _ _ => false) (fun _ => 0)
  have HB := Lib.hid hB
  have HZ := Lib.hid (And.intro h1 h2)
  clear hB h1 h2
  go_enter Try.func14, Try.ntmps14
  go_wp2_with fail
  generalize w.alloc (.cells (madeCells #[.slice none 0 0] n) 42) = W0 at hb0 hM0 ⊢
  generalize w.heap.size = g at hM0 ⊢
  clear hmk
  go_loopw [6, 14] (fun _ s wr => ∃ (i : Nat) (G : Nat → Nat), i ≤ n ∧ s = .int .i64 i ∧ Mat wr B g n i G (fun _ _ => false) ∧ Below B w wr) (fun _ s _ => n - (intOf s).toNat)
  case atStart => exact ⟨0, _, by omega, rfl, hM0, hb0⟩
  case round =>
    obtain ⟨i, G, hi, rfl, hM, hb⟩ := hrel
    by_cases hlt : i < n
    · have hbl := bl1 wr (.cells (madeCells #[.bool false] n) 4)
      have hM1 := hM.on hbl
      have hV : Vec (wr.alloc (.cells (madeCells #[.bool false] n) 4)) wr.heap.size n fun _ => .bool false := Vec.lit wr _ _ n _ fun j hj => made_get _ n j hj
      have hgl : g < wr.heap.size := by
        obtain ⟨f, h1, _⟩ := hM.outer
        exact h1.lt
      have hBg := hM.low
      have hb1 := hb.trans (hbl.mono (by omega))
      have hxG : ∀ j, j < i → G j ≠ wr.heap.size := fun j hj => by
        have := (hM.rows j hj).lt
        omega
      obtain ⟨f, hf, _⟩ := hM1.outer
      have d0 := hf.cell i hlt
      have d1 := hf.thaw i
      have hM2 := hM1.push hV (by omega) (by omega) hxG hlt
      have hb2 := hb1.setCell (p := ⟨g, i, none⟩) hBg (.slice (some ⟨wr.heap.size, 0, none⟩) n n)
      have HM2 := Lib.hid (hM2.congr (m' := fun _ _ => false) fun x y _ _ => by split <;> rfl)
      have HB2 := Lib.hid hb2
      clear hM hM1 hV hb1 hb2 hM2 hf hbl hgl hxG hBg
      go_wp2_with fail
      go_roundw
      case rel => exact ⟨i + 1, _, by omega, by go_num, HM2.out, HB2.out⟩
      case measure => simp [intOf]; omega
    · have hge : n ≤ i := by omega
      obtain rfl : i = n := by omega
      have HM := Lib.hid (hM.congr (m' := layD bs 0 0) fun x y _ _ => (layD_zero bs x y).symm)
      have HBL := Lib.hid hb
      clear hM hb hmb
      go_wp2_with fail
      go_loopw [7, 8, 9, 25] (fun k _ _ s wx => ∃ a : Nat, a ≤ i ∧ s = .int .i64 a ∧ k = .int .u64 (tri a : Nat) ∧ Mat wx B g i i G (layD bs a 0) ∧ Below B w wx) (fun _ _ _ s _ => i - (intOf s).toNat)
      case atStart => exact ⟨0, by omega, rfl, rfl, HM.out, HBL.out⟩
      case round =>
        obtain ⟨a, ha, rfl, rfl, hM, hb⟩ := hrel
        clear HM HBL
        by_cases han : a < i
        · have hani : (a : Int) < (i : Int) := by omega
          have HM := Lib.hid hM
          have HBL := Lib.hid hb
          clear hM hb
          go_wp2_with fail
          go_loopw [7, 9] (fun k s wx => ∃ b : Nat, b ≤ a + 1 ∧ s = .int .i64 b ∧ k = .int .u64 (tri a + b : Nat) ∧ Mat wx B g i i G (layD bs a b) ∧ Below B w wx) (fun _ s _ => a + 1 - (intOf s).toNat)
          case atStart => exact ⟨0, by omega, rfl, rfl, HM.out, HBL.out⟩
          case round =>
            obtain ⟨b, hba, rfl, rfl, hM, hb⟩ := hrel
            clear HM HBL
            by_cases hbl : b < a + 1
            · have hbli : (b : Int) ≤ (a : Int) := by omega
              have hbi : b < i := by omega
              have hx := hM.at_ han (Nat.le_refl _) hbi
              obtain ⟨x, hx, _, _, _, _, k0, k1, k2, hst⟩ := hx
              have htri := tri_le a
              have hta : tri a + b < 400 := by
                have := Nat.mul_le_mul (show a ≤ 16 by omega) (show a ≤ 16 by omega)
                omega
              have HT := Lib.hid hta
              have HST := Lib.hid hst
              have HBL := Lib.hid hb
              clear hM hst hb htri hta
              generalize layD bs a b a b = v0 at k1
              by_cases hab : a = b
              · subst hab
                have habd : ((a : Int) == (a : Int)) = true := beq_self_eq_true _
                have HV : Hid (true = depF bs a a) := Lib.hid (depF_self bs a).symm
                go_wp2_with fail
                obtain ⟨hM1, hB1⟩ := HST.out true
                have hb1 := hB1 _ HBL.out
                generalize wr.setCell ⟨x, a, none⟩ (.bool true) = W1 at hM1 hb1 ⊢
                clear hB1 HST k0 k1 k2
                obtain ⟨y, hy, _, _, _, _, p0, p1, p2, hst2⟩ := hM1.at_ (i := a) (j := a) hbi (Nat.le_refl _) han
                obtain ⟨z, hz, _, _, _, _, r0, r1, r2, _⟩ := hM1.at_ (i := a) (j := a) han (Nat.le_refl _) hbi
                rw [put2_same] at r1
                rw [hx] at hz
                subst hz
                rw [hx] at hy
                subst hy
                rw [put2_same] at p1
                obtain ⟨hM2, hB2⟩ := hst2 true
                have HB2 := Lib.hid (hB2 _ hb1).drew
                have HM2 := Lib.hid ((hM2.on (w' := (W1.setCell ⟨x, a, none⟩ (.bool true)).drew) (Below.refl _ _).drew).congr (m' := layD bs a (a + 1)) fun u t _ _ => by rw [HV.out]; exact layD_put bs a a u t (by omega))
                clear hM1 hb1 hst2 hM2 hB2 hx
                have HTT := Lib.hid (show IntKind.u64.wrap ((tri a : Int) + (a : Int) + 1) = ((tri a + (a + 1) : Nat) : Int) from by have h := HT.out; rw [IntWalk.u64_in _ ⟨by omega, by omega⟩]; omega)
                go_still_tail 13, (by kernel_rfl)
                change wpList _ _ _ _ _ W1.drew
                go_wp2_with fail
                go_roundw
                case rel => exact ⟨a + 1, by omega, by go_num, by rw [HTT.out], HM2.out, HB2.out⟩
                case measure => simp [intOf] <;> omega
              · have habd : ((a : Int) == (b : Int)) = false := beq_eq_false_iff_ne.2 (by omega)
                obtain ⟨V, hV⟩ : ∃ V, V = depF bs a b := ⟨_, rfl⟩
                have hv : (bits BinOp.and IntKind.i64 (bs / 2 ^ ((tri a + b) % 20)) 1 == 1) = V := by
                  have e1 : max a b = a := by omega
                  have e2 : min a b = b := by omega
                  rw [hV]
                  simp [depF, bitB, e1, e2, hab]
                have HV := Lib.hid hV
                clear hV
                go_wp2_with fail
                clear hv
                obtain ⟨hM1, hB1⟩ := HST.out V
                have hb1 := hB1 _ HBL.out
                generalize wr.setCell ⟨x, b, none⟩ (.bool V) = W1 at hM1 hb1 ⊢
                clear hB1 HST k0 k1 k2
                obtain ⟨y, hy, _, _, _, _, p0, p1, p2, hst2⟩ := hM1.at_ (i := b) (j := a) hbi (Nat.le_refl _) han
                obtain ⟨z, hz, _, _, _, _, r0, r1, r2, _⟩ := hM1.at_ (i := a) (j := b) han (Nat.le_refl _) hbi
                rw [put2_same] at r1
                rw [hx] at hz
                subst hz
                obtain ⟨hM2, hB2⟩ := hst2 V
                have HB2 := Lib.hid (hB2 _ hb1).drew
                have HM2 := Lib.hid ((hM2.on (w' := (W1.setCell ⟨y, a, none⟩ (.bool V)).drew) (Below.refl _ _).drew).congr (m' := layD bs a (b + 1)) fun u t _ _ => by rw [HV.out]; exact layD_put bs a b u t (by omega))
                generalize put2 (layD bs a b) a b V b a = q at p1
                clear hM1 hb1 hst2 hM2 hB2 hx hy
                have HTT := Lib.hid (show IntKind.u64.wrap ((tri a : Int) + (b : Int) + 1) = ((tri a + (b + 1) : Nat) : Int) from by have h := HT.out; rw [IntWalk.u64_in _ ⟨by omega, by omega⟩]; omega)
                go_still_tail 13, (by kernel_rfl)
                change wpList _ _ _ _ _ W1.drew
                go_wp2_with fail
                go_roundw
                case rel => exact ⟨b + 1, by omega, by go_num, by rw [HTT.out], HM2.out, HB2.out⟩
                case measure => simp [intOf] <;> omega
            · have hbli : ¬ (b : Int) ≤ (a : Int) := by omega
              obtain rfl : b = a + 1 := by omega
              have HM := Lib.hid (hM.congr fun x y _ _ => layD_turn bs a x y)
              have HBL := Lib.hid hb
              clear hM hb
              go_wp2_with fail
              go_roundw
              case rel => exact ⟨a + 1, by omega, by go_num, rfl, HM.out, HBL.out⟩
              case measure => simp [intOf]; omega
        · have hani : ¬ (a : Int) < (i : Int) := by omega
          obtain rfl : i = a := by omega
          go_wp2_with fail
          go_ret
          exact ⟨g, G, rfl, by rw [← HB.out]; exact hM.congr fun x y hx hy => layD_done bs _ x y hx hy, by rw [← HB.out]; exact hb⟩
end Go.Proofs.Ytcdgofdnafbacaa
