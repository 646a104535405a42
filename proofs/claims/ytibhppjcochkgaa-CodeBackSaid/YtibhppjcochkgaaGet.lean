/- Numbers as they are read: the program's. -/
import Derived.Test.YtibhppjcochkgaaWrites
namespace Go.Proofs.Ytibhppjcochkgaa
open Go.RowKit
set_option linter.unusedSimpArgs false
set_option linter.unusedVariables false

def Sgn (n : Int) (b : Bool) (w : World) (e : Ending) (w' : World) : Prop := e = .returned (.tuple #[.int .i64 n, .bool b]) ∧ w = w'
set_option maxHeartbeats 400000 in
theorem signed_pos (u : Nat) (h' : u < 9223372036854775808) (w : World) :
    Calls Try.prog 25 #[.int .u64 (u : Int), .bool false] w (Sgn u true w) := by
  have hd : decide ((u : Int) < 9223372036854775808) = true := decide_eq_true (by omega)
  have hi : (u : Int) ≤ 9223372036854775807 := by omega
  clear h'
  go_enter Try.func25, Try.ntmps25
  go_wp2
  go_ret2
  exact ⟨rfl, rfl⟩
set_option maxHeartbeats 400000 in
theorem signed_big (u : Nat) (h : 9223372036854775808 ≤ u) (h2 : u < 18446744073709551616) (w : World) :
    Calls Try.prog 25 #[.int .u64 (u : Int), .bool false] w (Sgn 0 false w) := by
  have hd : decide ((u : Int) < 9223372036854775808) = false := decide_eq_false (by omega)
  clear h h2
  go_enter Try.func25, Try.ntmps25
  go_wp2
  go_ret2
  exact ⟨rfl, rfl⟩
set_option maxHeartbeats 400000 in
theorem signed_zero (w : World) :
    Calls Try.prog 25 #[.int .u64 0, .bool true] w (Sgn 0 false w) := by
  go_enter Try.func25, Try.ntmps25
  go_wp2
  go_ret2
  exact ⟨rfl, rfl⟩
set_option maxHeartbeats 400000 in
theorem signed_less (u : Nat) (h : 9223372036854775808 < u) (h2 : u < 18446744073709551616) (w : World) :
    Calls Try.prog 25 #[.int .u64 (u : Int), .bool true] w (Sgn 0 false w) := by
  go_enter Try.func25, Try.ntmps25
  go_wp2
  go_ret2
  exact ⟨rfl, rfl⟩
theorem wrap64_eq (x : Int) : wrap64 x = (x + 9223372036854775808) % 18446744073709551616 - 9223372036854775808 := by
  unfold wrap64; omega
theorem ret_sgn {a b : Int} (h : a = b) : Ending.returned (.tuple #[.int .i64 a, .bool true]) = .returned (.tuple #[.int .i64 b, .bool true]) := by rw [h]
set_option maxHeartbeats 400000 in
theorem signed_neg (u : Nat) (h0 : 0 < u) (h : u ≤ 9223372036854775808) (w : World) :
    Calls Try.prog 25 #[.int .u64 (u : Int), .bool true] w (Sgn (-(u : Int)) true w) := by
  go_enter Try.func25, Try.ntmps25
  go_wp2
  go_ret2
  exact ⟨ret_sgn (by rw [wrap64_eq, IntKind.wrap_u64]; omega), rfl⟩

/-- The number at the front, and how long it is. -/
def Got (l : List UInt8) (w : World) (e : Ending) (w' : World) : Prop :=
  e = .returned (.tuple #[.int .i64 (Num.dec l).1, .int .i64 ((Num.dec l).2 : Int)]) ∧ Below w.heap.size w w'
theorem got_no (l : List UInt8) (w w' : World) (h : Num.dec l = (0, 0)) (hb : Below w.heap.size w w') : Got l w (.returned (.tuple #[.int .i64 0, .int .i64 0])) w' := by
  unfold Got; rw [h]; exact ⟨rfl, hb⟩
theorem got_yes (x : UInt8) (r : List UInt8) (w w' : World) (z : Int) (k : Nat) (h : Num.ok x r) (hz : z = Num.num x r) (hk : k = x.toNat % 128) (hb : Below w.heap.size w w') (K : Int) (hK : K = (k : Int) + 1) : Got (x :: r) w (.returned (.tuple #[.int .i64 z, .int .i64 K])) w' := by
  subst hz; subst hk; subst hK
  unfold Got; rw [Num.dec_yes h]; exact ⟨rfl, hb⟩

set_option maxRecDepth 100000 in
theorem low7_fin : ∀ n : Fin 256, wrap64 (bits .andNot .u8 (n.val : Int) 128) = ((n.val % 128 : Nat) : Int) ∧ (bits .and .u8 (n.val : Int) 128 != 0) = decide (128 ≤ n.val) := by decide +kernel
theorem low7 (x : UInt8) : wrap64 (bits .andNot .u8 (x.toNat : Int) 128) = ((x.toNat % 128 : Nat) : Int) := (low7_fin ⟨x.toNat, x.toBitVec.isLt⟩).1
theorem high1 (x : UInt8) : (bits .and .u8 (x.toNat : Int) 128 != 0) = decide (128 ≤ x.toNat) := (low7_fin ⟨x.toNat, x.toBitVec.isLt⟩).2
theorem add0 (ad : Addr) : ad.add 0 = ad := by simp [Addr.add]
/-- The k bytes behind the first one. -/
theorem rd_behind {w : World} {B n : Nat} {ad : Addr} {x : UInt8} {r : List UInt8} (h : Rd w B (some ad) n (x :: r)) (k : Nat) (hk : k < n) : Rd w B (some (ad.add 1)) k (r.take k) := by
  have hl := h.1
  simp at hl
  have h1 := h.back 1 (n - 1) (by omega)
  exact h1.front k (by omega)
theorem rd_none {w : World} {B k : Nat} {A : Option Addr} {r : List UInt8} (h : k = 0) : Rd w B A k (r.take k) := by
  subst h
  exact ⟨rfl, fun h => absurd h (by omega)⟩
theorem got_pos (x : UInt8) (r : List UInt8) (w w' : World) (u k : Nat) (hu : u = Num.val (r.take k)) (hw : Num.wid u = k) (hk : k = x.toNat % 128) (hm : false = decide (128 ≤ x.toNat)) (hk8 : k ≤ 8) (hkr : k ≤ r.length) (hb : u < 9223372036854775808)
    (hbel : Below w.heap.size w w') (K : Int) (hK : K = (k : Int) + 1) : Got (x :: r) w (.returned (.tuple #[.int .i64 (u : Int), .int .i64 K])) w' := by
  have hx : ¬ 128 ≤ x.toNat := of_decide_eq_false hm.symm
  have hn : Num.num x r = (u : Int) := by unfold Num.num; rw [if_neg hx, ← hk, ← hu]
  refine got_yes x r w w' _ k ?_ hn.symm hk hbel K hK
  unfold Num.ok
  rw [hn, ← hk, ← hu]
  exact ⟨hk8, hkr, hw, by omega, by omega, fun h => absurd h hx⟩
theorem got_neg (x : UInt8) (r : List UInt8) (w w' : World) (u k : Nat) (hu : u = Num.val (r.take k)) (hw : Num.wid u = k) (hk : k = x.toNat % 128) (hm : true = decide (128 ≤ x.toNat)) (hk8 : k ≤ 8) (hkr : k ≤ r.length) (h0 : 0 < u) (hb : u ≤ 9223372036854775808)
    (hbel : Below w.heap.size w w') (K : Int) (hK : K = (k : Int) + 1) : Got (x :: r) w (.returned (.tuple #[.int .i64 (-(u : Int)), .int .i64 K])) w' := by
  have hx : 128 ≤ x.toNat := of_decide_eq_true hm.symm
  have hn : Num.num x r = -(u : Int) := by unfold Num.num; rw [if_pos hx, ← hk, ← hu]
  refine got_yes x r w w' _ k ?_ hn.symm hk hbel K hK
  unfold Num.ok
  rw [hn, ← hk, ← hu]
  exact ⟨hk8, hkr, hw, by omega, by omega, fun _ => by omega⟩
theorem dec_big (x : UInt8) (r : List UInt8) (u k : Nat) (hu : u = Num.val (r.take k)) (hk : k = x.toNat % 128) (hm : false = decide (128 ≤ x.toNat)) (hb : 9223372036854775808 ≤ u) : Num.dec (x :: r) = (0, 0) := by
  have hx : ¬ 128 ≤ x.toNat := of_decide_eq_false hm.symm
  have hn : Num.num x r = (u : Int) := by unfold Num.num; rw [if_neg hx, ← hk, ← hu]
  refine Num.dec_no fun h => ?_
  have := h.2.2.2.2.1
  omega
theorem dec_less (x : UInt8) (r : List UInt8) (u k : Nat) (hu : u = Num.val (r.take k)) (hk : k = x.toNat % 128) (hm : true = decide (128 ≤ x.toNat)) (hb : u = 0 ∨ 9223372036854775808 < u) : Num.dec (x :: r) = (0, 0) := by
  have hx : 128 ≤ x.toNat := of_decide_eq_true hm.symm
  have hn : Num.num x r = -(u : Int) := by unfold Num.num; rw [if_pos hx, ← hk, ← hu]
  refine Num.dec_no fun h => ?_
  have := h.2.2.2.1
  have := h.2.2.2.2.2 hx
  omega
theorem u64_of_val (l : List UInt8) (k : Nat) (h : k ≤ 8) : Num.val (l.take k) < 18446744073709551616 := by
  have h1 := Num.val_lt (l.take k)
  have h2 : (256 : Nat) ^ (l.take k).length ≤ 256 ^ 8 := Nat.pow_le_pow_right (by omega) (by rw [List.length_take]; omega)
  have h3 : (256 : Nat) ^ 8 = 18446744073709551616 := by decide
  omega

set_option maxHeartbeats 1000000 in
theorem get_cons (ad : Addr) (n cap : Nat) (x : UInt8) (r : List UInt8) (w : World) (h : Rd w w.heap.size (some ad) n (x :: r)) (hn : n ≤ 140737488355328) (hcap : n ≤ cap) :
    Calls Try.prog 14 #[.slice (some ad) n cap] w (Got (x :: r) w) := by
  have hl : n = r.length + 1 := by have := h.1; simpa using this.symm
  have HL := Lib.hid hl
  have hn0 : 0 < n := by omega
  obtain ⟨ad', x', e1, hbk, e2, hc⟩ := h.at_ (k := 0) hn0
  injection e1 with e1
  subst e1
  simp only [List.getElem?_cons_zero, Option.some.injEq] at e2
  subst e2
  have hc0 : w.cell? ad = some (.int .u8 (x.toNat : Int)) := by rwa [add0] at hc
  clear hc hl hbk
  obtain ⟨k, hk⟩ : ∃ k, k = x.toNat % 128 := ⟨_, rfl⟩
  obtain ⟨m, hm⟩ : ∃ m, m = decide (128 ≤ x.toNat) := ⟨_, rfl⟩
  have LOW := Lib.hid (show wrap64 (bits .andNot .u8 (x.toNat : Int) 128) = (k : Int) by rw [hk]; exact low7 x)
  have HI := Lib.hid (show (bits .and .u8 (x.toNat : Int) 128 != 0) = m by rw [hm]; exact high1 x)
  have K := Lib.hid hk
  have M := Lib.hid hm
  clear hk hm
  by_cases hk8 : k ≤ 8
  · by_cases hkn : k < n
    · obtain ⟨u, hu⟩ : ∃ u, u = Num.val (r.take k) := ⟨_, rfl⟩
      have hu64 : u < 18446744073709551616 := by rw [hu]; exact u64_of_val r k hk8
      have U := Lib.hid hu
      clear hu
      by_cases hcap1 : cap = 1
      · subst hcap1
        have HR := rd_none (A := some ad) (w := w) (B := w.heap.size) (r := r) (k := k) (by omega)
        go_enter Try.func14, Try.ntmps14
        go_wp2
        go_quiet (fail)
        rw [LOW.out, HI.out]
        go_wp2_with fail
        refine (read_any _ k _ (r.take k) w.heap.size _ (HR.drewN _) hk8).mono ?_
        rw [← U.out]
        rintro e w' ⟨rfl, rfl⟩
        go_wp2_with fail
        refine (width_any u hu64 _).mono ?_
        rintro e w' ⟨rfl, rfl⟩
        by_cases hwk : Num.wid u = k
        · have NW := Lib.hid hwk
          go_wp2_with fail
          clear hwk
          cases m with
          | false =>
            by_cases hbig : u < 9223372036854775808
            · refine (signed_pos u hbig _).mono ?_
              rintro e w' ⟨rfl, rfl⟩
              have HB := Lib.hid hbig
              clear hbig
              go_wp2_with fail
              go_ret2
              exact got_pos x r w _ u k U.out NW.out K.out M.out hk8 (by have := HL.out; omega) HB.out (below_drewN (Below.refl _ _) _) _ (by omega)
            · refine (signed_big u (by omega) hu64 _).mono ?_
              rintro e w' ⟨rfl, rfl⟩
              have HB := Lib.hid hbig
              clear hbig
              go_wp2_with fail
              go_ret2
              exact got_no _ _ _ (dec_big x r u k U.out K.out M.out (by have := HB.out; omega)) (below_drewN (Below.refl _ _) _)
          | true =>
            by_cases h0 : u = 0
            · have UZ := Lib.hid h0
              rw [show ((u : Nat) : Int) = 0 by omega]
              clear h0
              refine (signed_zero _).mono ?_
              rintro e w' ⟨rfl, rfl⟩
              go_wp2_with fail
              go_ret2
              exact got_no _ _ _ (dec_less x r u k U.out K.out M.out (.inl UZ.out)) (below_drewN (Below.refl _ _) _)
            · by_cases hbig : u ≤ 9223372036854775808
              · refine (signed_neg u (by omega) hbig _).mono ?_
                rintro e w' ⟨rfl, rfl⟩
                have HB := Lib.hid hbig
                clear hbig
                go_wp2_with fail
                go_ret2
                exact got_neg x r w _ u k U.out NW.out K.out M.out hk8 (by have := HL.out; omega) (by omega) HB.out (below_drewN (Below.refl _ _) _) _ (by omega)
              · refine (signed_less u (by omega) hu64 _).mono ?_
                rintro e w' ⟨rfl, rfl⟩
                have HB := Lib.hid hbig
                clear hbig
                go_wp2_with fail
                go_ret2
                exact got_no _ _ _ (dec_less x r u k U.out K.out M.out (.inr (by have := HB.out; omega))) (below_drewN (Below.refl _ _) _)
        · have hno := Lib.hid (Num.dec_no (x := x) (r := r) fun h => hwk (by have h3 := h.2.2.1; rw [← K.out, ← U.out] at h3; exact h3))
          go_wp2_with fail
          go_ret2
          exact got_no _ _ _ hno.out (below_drewN (Below.refl _ _) _)
      · have HR := rd_behind h k hkn
        rw [show ad.add 1 = ⟨ad.block, ad.off + 1, none⟩ from by simp [Addr.add]] at HR
        go_enter Try.func14, Try.ntmps14
        go_wp2
        go_quiet (fail)
        rw [LOW.out, HI.out]
        go_wp2_with fail
        refine (read_any _ k _ (r.take k) w.heap.size _ (HR.drewN _) hk8).mono ?_
        rw [← U.out]
        rintro e w' ⟨rfl, rfl⟩
        go_wp2_with fail
        refine (width_any u hu64 _).mono ?_
        rintro e w' ⟨rfl, rfl⟩
        by_cases hwk : Num.wid u = k
        · have NW := Lib.hid hwk
          go_wp2_with fail
          clear hwk
          cases m with
          | false =>
            by_cases hbig : u < 9223372036854775808
            · refine (signed_pos u hbig _).mono ?_
              rintro e w' ⟨rfl, rfl⟩
              have HB := Lib.hid hbig
              clear hbig
              go_wp2_with fail
              go_ret2
              exact got_pos x r w _ u k U.out NW.out K.out M.out hk8 (by have := HL.out; omega) HB.out (below_drewN (Below.refl _ _) _) _ (by omega)
            · refine (signed_big u (by omega) hu64 _).mono ?_
              rintro e w' ⟨rfl, rfl⟩
              have HB := Lib.hid hbig
              clear hbig
              go_wp2_with fail
              go_ret2
              exact got_no _ _ _ (dec_big x r u k U.out K.out M.out (by have := HB.out; omega)) (below_drewN (Below.refl _ _) _)
          | true =>
            by_cases h0 : u = 0
            · have UZ := Lib.hid h0
              rw [show ((u : Nat) : Int) = 0 by omega]
              clear h0
              refine (signed_zero _).mono ?_
              rintro e w' ⟨rfl, rfl⟩
              go_wp2_with fail
              go_ret2
              exact got_no _ _ _ (dec_less x r u k U.out K.out M.out (.inl UZ.out)) (below_drewN (Below.refl _ _) _)
            · by_cases hbig : u ≤ 9223372036854775808
              · refine (signed_neg u (by omega) hbig _).mono ?_
                rintro e w' ⟨rfl, rfl⟩
                have HB := Lib.hid hbig
                clear hbig
                go_wp2_with fail
                go_ret2
                exact got_neg x r w _ u k U.out NW.out K.out M.out hk8 (by have := HL.out; omega) (by omega) HB.out (below_drewN (Below.refl _ _) _) _ (by omega)
              · refine (signed_less u (by omega) hu64 _).mono ?_
                rintro e w' ⟨rfl, rfl⟩
                have HB := Lib.hid hbig
                clear hbig
                go_wp2_with fail
                go_ret2
                exact got_no _ _ _ (dec_less x r u k U.out K.out M.out (.inr (by have := HB.out; omega))) (below_drewN (Below.refl _ _) _)
        · have hno := Lib.hid (Num.dec_no (x := x) (r := r) fun h => hwk (by have h3 := h.2.2.1; rw [← K.out, ← U.out] at h3; exact h3))
          go_wp2_with fail
          go_ret2
          exact got_no _ _ _ hno.out (below_drewN (Below.refl _ _) _)
    · have hno := Lib.hid (Num.dec_no (x := x) (r := r) fun h => by have := h.2.1; have := HL.out; have := K.out; omega)
      go_enter Try.func14, Try.ntmps14
      go_wp2
      go_quiet (fail)
      rw [LOW.out, HI.out]
      go_wp2
      go_ret2
      exact got_no _ _ _ hno.out (below_drewN (Below.refl _ _) _)
  · have hno := Lib.hid (Num.dec_no (x := x) (r := r) fun h => by have := h.1; have := K.out; omega)
    go_enter Try.func14, Try.ntmps14
    go_wp2
    go_quiet (fail)
    rw [LOW.out, HI.out]
    go_wp2
    go_ret2
    exact got_no _ _ _ hno.out (below_drewN (Below.refl _ _) _)
end Go.Proofs.Ytibhppjcochkgaa
