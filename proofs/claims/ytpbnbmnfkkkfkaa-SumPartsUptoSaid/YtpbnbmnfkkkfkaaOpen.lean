/- What opens: the program's and the document's. -/
import Derived.Test.YtpbnbmnfkkkfkaaSeal
import Derived.Deep.QuietTactic
import Derived.BigQuiet
import Derived.WalkSmall
namespace Go.Proofs.Ytpbnbmnfkkkfkaa
open Go.RowKit

/-- What was sealed, in new memory, and whether it was. -/
def Opened (w : World) (l : List UInt8) (e : Ending) (w' : World) : Prop :=
  ∃ A c, e = .returned (.tuple #[.slice A (Crc.oval l).length c, .bool (Crc.ook l)]) ∧ Own w' w.heap.size A (Crc.oval l).length c (Crc.oval l) ∧ Below w.heap.size w w'
theorem opened_no (w w' : World) (l : List UInt8) (h : Crc.ook l = false) (hb : Below w.heap.size w w') : Opened w l (.returned (.tuple #[.slice none 0 0, .bool false])) w' := by
  refine ⟨none, 0, ?_, ?_, hb⟩
  · rw [Crc.oval_not l h, h]; rfl
  · rw [Crc.oval_not l h]
    exact World.ownsRow_nil _ _ _ _
theorem opened_yes (w w' : World) (l : List UInt8) (k : Nat) (A : Option Addr) (c : Nat) (hl : l.length = k + 4) (h : Crc.ook l = true) (ho : Own w' w.heap.size A k c (l.take k)) (hb : Below w.heap.size w w') :
    Opened w l (.returned (.tuple #[.slice A k c, .bool true])) w' := by
  have e : Crc.oval l = l.take k := Crc.oval_long l k hl h
  have e2 : (Crc.oval l).length = k := by rw [e, List.length_take]; omega
  refine ⟨A, c, by rw [e2, h], ?_, hb⟩
  rw [e2, e]; exact ho

section
variable {w : World} {B n : Nat} {l : List UInt8}
theorem Rd.front {A : Option Addr} (h : Rd w B A n l) (k : Nat) (hk : k ≤ n) : Rd w B A k (l.take k) := by
  refine ⟨by rw [List.length_take, h.1]; omega, fun h0 => ?_⟩
  obtain ⟨ad, e, hb, hc⟩ := h.2 (by omega)
  refine ⟨ad, e, hb, fun j hj => ?_⟩
  rw [List.length_take] at hj
  rw [List.getElem_take]
  exact hc j (by omega)
theorem Rd.back {ad : Addr} (h : Rd w B (some ad) n l) (k m : Nat) (hk : k + m = n) : Rd w B (some (ad.add k)) m (l.drop k) := by
  refine ⟨by rw [List.length_drop, h.1]; omega, fun h0 => ?_⟩
  obtain ⟨ad', e, hb, hc⟩ := h.2 (by omega)
  injection e with e
  subst e
  refine ⟨_, rfl, ?_, fun j hj => ?_⟩
  · have e1 : (ad.add k).block = ad.block := by unfold Addr.add; split <;> rfl
    rw [e1]; exact hb
  · rw [List.length_drop] at hj
    have e2 : (ad.add k).add j = ad.add (k + j) := by
      unfold Addr.add
      by_cases hi : k = 0 <;> by_cases hj : j = 0 <;> simp [hi, hj, Nat.add_assoc]
    rw [e2, List.getElem_drop]
    exact hc (k + j) (by omega)
theorem Rd.drewN {A : Option Addr} (h : Rd w B A n l) (q : Nat) : Rd (w.drewN q) B A n l := h
end
theorem of_same (A : Option Addr) (n cap : Nat) (l : List UInt8) (B : Nat) (w : World) (h : Rd w B A n l) (hn : n ≤ 9223372036854775807) :
    Calls Try.prog 14 #[.slice A n cap] w fun e w' => e = .returned (.int .u32 ((Crc.of l).toNat : Int)) ∧ w' = w :=
  (of_any A n cap l B w h hn).mono fun _ _ ⟨a, b⟩ => ⟨a, b.symm⟩
theorem read_same (A : Option Addr) (n cap : Nat) (l : List UInt8) (B : Nat) (w : World) (h : Rd w B A n l) (hn : n ≤ 9223372036854775807) :
    Calls Try.prog 19 #[.slice A n cap] w fun e w' => e = .returned (.int .u32 ((Crc.rd l).toNat : Int)) ∧ w' = w :=
  (read_any A n cap l B w h hn).mono fun _ _ ⟨a, b⟩ => ⟨a, b.symm⟩

set_option maxHeartbeats 1000000 in
theorem open_short (A : Option Addr) (n cap : Nat) (l : List UInt8) (w : World) (h : Rd w w.heap.size A n l) (hn : n < 4) :
    Calls Try.prog 13 #[.slice A n cap] w (Opened w l) := by
  have hno := Lib.hid (Crc.ook_short l (by rw [h.1]; omega))
  have hdec : decide ((n : Int) - 4 < 0) = true := decide_eq_true (by omega)
  go_enter Try.func13, Try.ntmps13
  go_wp2
  go_quiet (fail)
  go_wp2
  go_ret2
  exact opened_no _ _ _ hno.out (below_drewN (Below.refl _ _) _)

set_option maxHeartbeats 1000000 in
theorem open_long (ad : Addr) (k cap : Nat) (l : List UInt8) (w : World) (h : Rd w w.heap.size (some ad) (k + 4) l) (hn : k + 4 ≤ 140737488355328) (hcap : k + 4 ≤ cap) :
    Calls Try.prog 13 #[.slice (some ad) (k + 4) cap] w (Opened w l) := by
  have H0 := Lib.hid h.1
  have hf := h.front k (by omega)
  have hd := h.back k 4 rfl
  by_cases hq : Crc.of (l.take k) = Crc.rd (l.drop k)
  · have hyes := Lib.hid ((Crc.ook_long l k h.1).2 hq)
    go_enter Try.func13, Try.ntmps13
    go_wp2
    have hdec : decide ((k : Int) < 0) = false := decide_eq_false (by omega)
    go_quiet ((first | (go_at_call 14; exact Calls.quiet_of_same (of_same _ _ _ _ _ _ (hf.drewN _) (by omega))) | (go_at_call 19; exact Calls.quiet_of_same (read_same _ _ _ _ _ _ (hd.drewN _) (by omega)))))
    go_wp2_with (first
      | (at_make; refine wpList_mk rfl (.tmp 22) (.tmp 22) rfl w.heap.size k k _ rfl rfl rfl (Nat.le_refl _) (by omega) (Nat.le_refl _) ?_; intro w1 hw1 hb1; have hw2 : Own w1 w.heap.size (some ⟨w.heap.size, 0, none⟩) k k _ := hw1; have hb2 : Below w.heap.size w w1 := (below_drewN (Below.refl _ _) _).trans hb1)
      | (with_reducible refine wpList_cp (o := ⟨some 26, _, _, _, _, _⟩) rfl (.tmp 24) (.tmp 25) rfl w.heap.size w.heap.size k k (k + 4) cap _ rfl hw2 (some ad) l w.heap.size rfl (h.below hb2) (by omega) ?_; intro w3 hw3 hb3))
    go_ret2
    exact opened_yes _ _ _ k _ _ H0.out hyes.out hw3 (hb2.trans hb3)
  · have hno := Lib.hid (show Crc.ook l = false from Bool.eq_false_iff.2 fun h0 => hq ((Crc.ook_long l k h.1).1 h0))
    have hq2 : ¬ ((Crc.of (l.take k)).toNat : Int) = ((Crc.rd (l.drop k)).toNat : Int) := fun e => hq (BitVec.eq_of_toNat_eq (by omega))
    have hk0 : (0 : Int) ≤ (k : Int) := by omega
    have hk1 : k ≤ cap := by omega
    have hk2 : ¬ cap = k := by omega
    go_enter Try.func13, Try.ntmps13
    go_wp2
    have hdec : decide ((k : Int) < 0) = false := decide_eq_false (by omega)
    go_quiet ((first | (go_at_call 14; exact Calls.quiet_of_same (of_same _ _ _ _ _ _ (hf.drewN _) (by omega))) | (go_at_call 19; exact Calls.quiet_of_same (read_same _ _ _ _ _ _ (hd.drewN _) (by omega)))))
    go_wp2
    go_ret2
    exact opened_no _ _ _ hno.out (below_drewN (Below.refl _ _) _)

theorem open_any (A : Option Addr) (n cap : Nat) (l : List UInt8) (w : World) (h : Rd w w.heap.size A n l) (hn : n ≤ 140737488355328) (hcap : n ≤ cap) :
    Calls Try.prog 13 #[.slice A n cap] w (Opened w l) := by
  by_cases h4 : n < 4
  · exact open_short A n cap l w h h4
  · obtain ⟨k, rfl⟩ : ∃ k, n = k + 4 := ⟨n - 4, by omega⟩
    obtain ⟨ad, rfl, _⟩ := h.2 (by omega)
    exact open_long ad k cap l w h hn hcap
end Go.Proofs.Ytpbnbmnfkkkfkaa
