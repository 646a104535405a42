/- Law 8's same, over what package word is to answer. -/
import Derived.Test.YtcdgofdnafbacaaWdif
import Derived.Test.YtcdgofdnafbacaaRsum
import Derived.Test.YtcdgofdnafbacaaLow2
import Derived.Laws.StructEq
namespace Go.Proofs.Ytcdgofdnafbacaa
open Go.RowKit Tab
set_option linter.unusedSimpArgs false
set_option linter.unusedVariables false

/-- It answers a row of runs. -/
def RowW (L : List Rn) (w : World) (e : Ending) (w' : World) : Prop := ∃ A c, e = .returned (.slice A L.length c) ∧ RdR w' w'.heap.size A L.length L ∧ L.length ≤ c ∧ Below w.heap.size w w'
theorem MadeR.w {L : List Rn} {w w' : World} {e : Ending} (h : MadeR L w e w') : RowW L w e w' := by
  obtain ⟨A, c, h1, h2, h3, h4, _⟩ := h
  exact ⟨A, c, h1, h2, h3, h4⟩
/-- A row with the two at a place turned about; itself, where there are no two. -/
def swZ (L : List Rn) (k : Int) : List Rn := if 0 ≤ k ∧ k + 1 < (L.length : Int) then swapAt L k.toNat else L
/-- What package word is to answer. -/
structure WordW : Prop where
  differ : ∀ (A1 A2 A3 : Option Addr) (n1 n2 n3 c1 c2 c3 : Nat) (X Y : List Rn) (m : Nat → Nat → Bool) (w : World), RdR w w.heap.size A1 n1 X → RdR w w.heap.size A2 n2 Y → RdM w w.heap.size A3 n3 (fun _ => n3) m →
    n1 ≤ c1 → n2 ≤ c2 → n1 ≤ 1048576 → n2 ≤ 1048576 → n3 ≤ 1024 → ticks X ≤ 1099511627776 → ticks Y ≤ 1099511627776 → Calls Try.prog 21 #[.slice A1 n1 c1, .slice A2 n2 c2, .slice A3 n3 c3] w (DifA (diffF (depW n3 m) X Y) w)
  same : ∀ (A1 A2 A3 : Option Addr) (n1 n2 n3 c1 c2 c3 : Nat) (X Y : List Rn) (m : Nat → Nat → Bool) (w : World), RdR w w.heap.size A1 n1 X → RdR w w.heap.size A2 n2 Y → RdM w w.heap.size A3 n3 (fun _ => n3) m →
    n1 ≤ c1 → n2 ≤ c2 → n1 ≤ 1048576 → n2 ≤ 1048576 → n3 ≤ 1024 → ticks X ≤ 1099511627776 → ticks Y ≤ 1099511627776 → Calls Try.prog 19 #[.slice A1 n1 c1, .slice A2 n2 c2, .slice A3 n3 c3] w (Ans (.bool (!(diffF (depW n3 m) X Y).2.2)) w)
  project : ∀ (A : Option Addr) (n c : Nat) (L : List Rn) (a b : Int) (w : World), RdR w w.heap.size A n L → n ≤ c → n ≤ 1048576 → ticks L ≤ 1099511627776 → Calls Try.prog 22 #[.slice A n c, .int .i64 a, .int .i64 b] w (RowW (proj a b L) w)
  swap : ∀ (A : Option Addr) (n c : Nat) (L : List Rn) (k : Int) (w : World), RdR w w.heap.size A n L → n ≤ c → n ≤ 1048576 → -9223372036854775808 ≤ k → k ≤ 9223372036854775807 → Calls Try.prog 11 #[.slice A n c, .int .i64 k] w (RowW (swZ L k) w)
theorem proj_le (a b : Int) (L : List Rn) : (proj a b L).length ≤ L.length := Nat.le_trans (tidy_le _) (prj_le a b L)
set_option maxRecDepth 100000 in
set_option maxHeartbeats 4000000 in
theorem sam8_any (H : WordW) (A1 A2 A3 : Option Addr) (n1 n2 n3 c1 c2 c3 : Nat) (X Y : List Rn) (m : Nat → Nat → Bool) (a b : Int) (w : World) (hX : RdR w w.heap.size A1 n1 X) (hY : RdR w w.heap.size A2 n2 Y) (hM : RdM w w.heap.size A3 n3 (fun _ => n3) m)
    (q1 : n1 ≤ c1) (q2 : n2 ≤ c2) (b1 : n1 ≤ 1048576) (b2 : n2 ≤ 1048576) (b3 : n3 ≤ 1024) (t1 : ticks X ≤ 1099511627776) (t2 : ticks Y ≤ 1099511627776) :
    Calls Try.prog 13 #[.slice A1 n1 c1, .slice A2 n2 c2, .slice A3 n3 c3, .int .i64 a, .int .i64 b] w (Ans (.bool true) w) := by
  have hlen : n1 = X.length := hX.1.symm
  have hpl : (proj a b X).length ≤ 1048576 := by have := proj_le a b X; omega
  have D1 := Lib.hid fun W (hb : Below w.heap.size w W) => H.differ A1 A2 A3 n1 n2 n3 c1 c2 c3 X Y m W (hX.on hb) (hY.on hb) (hM.on hb) q1 q2 b1 b2 b3 t1 t2
  have D2 := Lib.hid fun W (hb : Below w.heap.size w W) => rdiffer_any A1 A2 A3 n1 n2 n3 c1 c2 c3 X Y m W (hX.on hb) (hY.on hb) (hM.on hb) q1 q2 b1 b2 b3 t1 t2
  have S1 := Lib.hid fun W (hb : Below w.heap.size w W) => H.same A1 A2 A3 n1 n2 n3 c1 c2 c3 X Y m W (hX.on hb) (hY.on hb) (hM.on hb) q1 q2 b1 b2 b3 t1 t2
  have S2 := Lib.hid fun W (hb : Below w.heap.size w W) => rsamew_any A1 A2 A3 n1 n2 n3 c1 c2 c3 X Y m W (hX.on hb) (hY.on hb) (hM.on hb) q1 q2 b1 b2 b3 t1 t2
  have P1 := Lib.hid fun W (hb : Below w.heap.size w W) => H.project A1 n1 c1 X a b W (hX.on hb) q1 b1 t1
  have P2 := Lib.hid fun W (hb : Below w.heap.size w W) => rproj_any A1 n1 c1 X a b W (hX.on hb) q1 b1 t1
  generalize diffF (depW n3 m) X Y = v at D1 D2 S1 S2
  obtain ⟨v0, v1, v2⟩ := v
  generalize proj a b X = P at P1 P2 hpl
  clear hX hY hM hlen t1 t2 H q1 q2
  go_enter Try.func13, Try.ntmps13
  go_wp2_with fail
  refine (D1.out w (Below.refl _ _)).mono ?_
  rintro e w1 ⟨rfl, k1⟩
  go_wp2_with fail
  refine (D2.out w1 k1).mono ?_
  rintro e w2 ⟨rfl, hb2⟩
  have k2 := k1.trans (hb2.mono k1.size)
  clear hb2 k1
  have h0 : (v0 == v0) = true := beq_self_eq_true _
  have h1 : (v1 == v1) = true := beq_self_eq_true _
  have h2 : (v2 == v2) = true := beq_self_eq_true _
  go_wp2_with fail
  refine (S1.out w2 k2).mono ?_
  rintro e w3 ⟨rfl, hb3⟩
  have k3 := k2.trans (hb3.mono k2.size)
  clear hb3 k2
  go_wp2_with fail
  refine (S2.out w3 k3).mono ?_
  rintro e w4 ⟨rfl, hb4⟩
  have k4 := k3.trans (hb4.mono k3.size)
  clear hb4 k3
  have h3 : ((!v2) == (!v2)) = true := beq_self_eq_true _
  go_wp2_with fail
  refine (P1.out w4 k4).mono ?_
  rintro e w5 ⟨A5, c5, rfl, hr5, hc5, hb5⟩
  have k5 := k4.trans (hb5.mono k4.size)
  clear hb5 k4
  go_wp2_with fail
  refine (P2.out w5 k5).mono ?_
  rintro e w6 ⟨A6, c6, rfl, hr6, hc6, hb6, _⟩
  have k6 := k5.trans (hb6.mono k5.size)
  have hr5' := hr5.on hb6
  clear hb6 k5 hr5
  go_wp2_with fail
  have hself : sameR P P = true := (sameR_iff P P).2 rfl
  refine (xsame_any A5 A6 P.length P.length c5 c6 P P w6 hr5' hr6 hpl).mono ?_
  rw [hself]
  rintro e w7 ⟨rfl, q, rfl⟩
  go_wp2_with fail
  go_ret
  exact ⟨rfl, Below.drewN k6 q⟩
end Go.Proofs.Ytcdgofdnafbacaa
