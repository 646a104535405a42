/- Texts as they are read: the program's and the document's. -/
import Derived.Test.YtibhppjcochkgaaRget
namespace Go.Proofs.Ytibhppjcochkgaa
open Go.RowKit
set_option linter.unusedSimpArgs false
set_option linter.unusedVariables false

theorem get_any (A : Option Addr) (n cap : Nat) (l : List UInt8) (w : World) (h : Rd w w.heap.size A n l) (hn : n ≤ 140737488355328) (hcap : n ≤ cap) :
    Calls Try.prog 14 #[.slice A n cap] w (Got l w) := by
  cases l with
  | cons x r =>
    obtain ⟨ad, _, rfl, _⟩ := h.at_ (k := 0) (by have := h.1; simp at this; omega)
    exact get_cons ad n cap x r w h hn hcap
  | nil =>
    obtain rfl : n = 0 := h.1.symm
    go_enter Try.func14, Try.ntmps14
    go_wp2
    go_ret2
    exact got_no _ _ _ rfl (Below.refl _ _)
theorem rget_any (A : Option Addr) (n cap : Nat) (l : List UInt8) (w : World) (h : Rd w w.heap.size A n l) (hn : n ≤ 140737488355328) (hcap : n ≤ cap) :
    Calls Try.prog 19 #[.slice A n cap] w (Got l w) := by
  cases l with
  | cons x r =>
    obtain ⟨ad, _, rfl, _⟩ := h.at_ (k := 0) (by have := h.1; simp at this; omega)
    exact rget_cons ad n cap x r w h hn hcap
  | nil =>
    obtain rfl : n = 0 := h.1.symm
    go_enter Try.func19, Try.ntmps19
    go_wp2
    go_ret2
    exact got_no _ _ _ rfl (Below.refl _ _)

/-- The text at the front, and how many bytes it takes. -/
def CutGot (most : Int) (l : List UInt8) (w : World) (e : Ending) (w' : World) : Prop :=
  e = .returned (.tuple #[.string (str (Num.cut most l).1), .int .i64 ((Num.cut most l).2 : Int)]) ∧ Below w.heap.size w w'
theorem cutgot_no (most : Int) (l : List UInt8) (w w' : World) (h : Num.cut most l = ([], 0)) (hb : Below w.heap.size w w') : CutGot most l w (.returned (.tuple #[.string ⟨#[]⟩, .int .i64 0])) w' := by
  unfold CutGot; rw [h]; exact ⟨rfl, hb⟩
theorem cutgot_yes (most : Int) (l : List UInt8) (w w' : World) (y z : List UInt8) {k : Nat} (h : Num.cut most l = (y, k)) (hy : z = y) (hb : Below w.heap.size w w') (K : Int) (hK : K = (k : Int)) : CutGot most l w (.returned (.tuple #[.string (str z), .int .i64 K])) w' := by
  subst hy; subst hK
  unfold CutGot; rw [h]; exact ⟨rfl, hb⟩
theorem wpList_conv {ops : Array Oper} {rest : List Oper} {o : Oper} {a : Act} {Q : Exit → Act → World → Prop} {w : World} (hgd : o.guard = none) (x : Operand)
    (ho : o.op = .convert 23 9 x) (B : Nat) (A : Option Addr) (n c : Nat) (l : List UInt8) (hx : a.eval x = .slice A n c) (hr : Rd w B A n l)
    (hK : wpList Try.prog ops Q rest (a.put o.dst (.string (str l))) w) : wpList Try.prog ops Q (o :: rest) a w := by
  refine wpList_plain hgd fun K hk => ?_
  unfold Oper.wp
  simp [execOp, ho, hx, run_conv w B A n c l hr, Result.andThen]
  exact hk _ _ hK

set_option maxHeartbeats 1000000 in
theorem cut_any (A : Option Addr) (n cap : Nat) (l : List UInt8) (most : Int) (w : World) (h : Rd w w.heap.size A n l) (hn : n ≤ 140737488355328) (hcap : n ≤ cap) :
    Calls Try.prog 16 #[.slice A n cap, .int .i64 most] w (CutGot most l w) := by
  obtain ⟨⟨hd1, hd2⟩, hd3, hd4⟩ := Num.dec_bounds l
  have hl := h.1
  obtain ⟨N, hN⟩ : ∃ N, N = (Num.dec l).1 := ⟨_, rfl⟩
  obtain ⟨K, hK⟩ : ∃ K, K = (Num.dec l).2 := ⟨_, rfl⟩
  rw [← hN] at hd1 hd2
  rw [← hK, hl] at hd3
  rw [← hK] at hd4
  have hnoF : ¬ (K ≠ 0 ∧ 0 ≤ N ∧ N ≤ most ∧ N ≤ (n : Int) - K) → Hid (Num.cut most l = ([], 0)) := fun h => Lib.hid (Num.cut_no (by unfold Num.cutok; rw [← hN, ← hK, hl]; exact h))
  have hyesF : (K ≠ 0 ∧ 0 ≤ N ∧ N ≤ most ∧ N ≤ (n : Int) - K) → Hid (Num.cut most l = ((l.drop K).take N.toNat, K + N.toNat)) := fun h => Lib.hid (by rw [Num.cut_yes (by unfold Num.cutok; rw [← hN, ← hK, hl]; exact h), ← hN, ← hK])
  have HN := Lib.hid hN
  have HK := Lib.hid hK
  have HL := Lib.hid hl
  clear hN hK hl
  by_cases hk0 : K = 0
  · have hno := hnoF (fun h => h.1 hk0)
    have HZ := Lib.hid hk0
    subst hk0
    go_enter Try.func16, Try.ntmps16
    go_wp2_with fail
    refine (get_any A n cap l w h hn hcap).mono ?_
    rintro e w1 ⟨rfl, hb1⟩
    rw [← HN.out, ← HK.out]
    go_wp2
    go_ret2
    exact cutgot_no _ _ _ _ hno.out hb1
  · have hk1 : 1 ≤ K := by omega
    have hk2 : ¬ ((K : Int) = 0) := by omega
    by_cases hn0 : N < 0
    · have hno := hnoF (fun h => by omega)
      go_enter Try.func16, Try.ntmps16
      go_wp2_with fail
      refine (get_any A n cap l w h hn hcap).mono ?_
      rintro e w1 ⟨rfl, hb1⟩
      rw [← HN.out, ← HK.out]
      go_wp2
      go_ret2
      exact cutgot_no _ _ _ _ hno.out hb1
    · by_cases hmost : most < N
      · have hno := hnoF (fun h => by omega)
        go_enter Try.func16, Try.ntmps16
        go_wp2_with fail
        refine (get_any A n cap l w h hn hcap).mono ?_
        rintro e w1 ⟨rfl, hb1⟩
        rw [← HN.out, ← HK.out]
        go_wp2
        go_ret2
        exact cutgot_no _ _ _ _ hno.out hb1
      · by_cases hlen : (n : Int) - K < N
        · have hno := hnoF (fun h => by omega)
          go_enter Try.func16, Try.ntmps16
          go_wp2_with fail
          refine (get_any A n cap l w h hn hcap).mono ?_
          rintro e w1 ⟨rfl, hb1⟩
          rw [← HN.out, ← HK.out]
          go_wp2
          go_ret2
          exact cutgot_no _ _ _ _ hno.out hb1
        · obtain ⟨m, rfl⟩ : ∃ m : Nat, N = (m : Int) := ⟨N.toNat, by omega⟩
          have hyes : Hid (Num.cut most l = ((l.drop K).take m, K + m)) := Lib.hid (by have := (hyesF ⟨hk0, by omega, by omega, by omega⟩).out; rwa [Int.toNat_natCast] at this)
          clear hnoF hyesF
          obtain ⟨ad, _, rfl, _⟩ := h.at_ (k := 0) (by omega)
          have hkm : K + m ≤ n := by omega
          have hkm2 : K + m ≤ cap := by omega
          by_cases hck : cap = K
          · obtain rfl : m = 0 := by omega
            subst hck
            have HR : ∀ w' : World, Rd w' w.heap.size (some ad) 0 [] := fun w' => ⟨rfl, fun h => absurd h (by omega)⟩
            go_enter Try.func16, Try.ntmps16
            go_wp2_with fail
            refine (get_any (some ad) n cap l w h hn hcap).mono ?_
            rintro e w1 ⟨rfl, hb1⟩
            rw [← HN.out, ← HK.out]
            have t1 : ((cap : Int) == 0) = false := by simp; omega
            have t3 : decide (most < 0) = false := decide_eq_false (by omega)
            have t4 : decide ((n : Int) - cap < 0) = false := decide_eq_false (by omega)
            go_wp2_with (with_reducible refine wpList_conv (o := ⟨some 40, _, _, _, _, _⟩) rfl (.tmp 39) rfl w.heap.size (some ad) 0 _ [] rfl (HR _) ?_)
            go_ret2
            refine cutgot_yes _ _ _ _ _ _ hyes.out (by simp) hb1 _ ?_
            omega
          · have HR : ∀ w' : World, Below w.heap.size w w' → Rd w' w.heap.size (some (ad.add K)) (K + m - K) ((l.drop K).take m) := fun w' hb => by rw [Nat.add_sub_cancel_left]; exact ((h.back K (n - K) (by omega)).front m (by omega)).below hb
            go_enter Try.func16, Try.ntmps16
            go_wp2_with fail
            refine (get_any (some ad) n cap l w h hn hcap).mono ?_
            rintro e w1 ⟨rfl, hb1⟩
            rw [← HN.out, ← HK.out]
            have t1 : ((K : Int) == 0) = false := by simp; omega
            have t3 : decide (most < (m : Int)) = false := decide_eq_false (by omega)
            have t4 : decide ((n : Int) - K < (m : Int)) = false := decide_eq_false (by omega)
            go_wp2_with (with_reducible refine wpList_conv (o := ⟨some 40, _, _, _, _, _⟩) rfl (.tmp 39) rfl w.heap.size (some (ad.add K)) (K + m - K) _ ((l.drop K).take m) rfl (HR _ hb1) ?_)
            go_ret2
            refine cutgot_yes _ _ _ _ _ _ hyes.out (by simp) hb1 _ ?_
            omega

set_option maxHeartbeats 1000000 in
theorem rcut_any (A : Option Addr) (n cap : Nat) (l : List UInt8) (most : Int) (w : World) (h : Rd w w.heap.size A n l) (hn : n ≤ 140737488355328) (hcap : n ≤ cap) :
    Calls Try.prog 20 #[.slice A n cap, .int .i64 most] w (CutGot most l w) := by
  obtain ⟨⟨hd1, hd2⟩, hd3, hd4⟩ := Num.dec_bounds l
  have hl := h.1
  obtain ⟨N, hN⟩ : ∃ N, N = (Num.dec l).1 := ⟨_, rfl⟩
  obtain ⟨K, hK⟩ : ∃ K, K = (Num.dec l).2 := ⟨_, rfl⟩
  rw [← hN] at hd1 hd2
  rw [← hK, hl] at hd3
  rw [← hK] at hd4
  have hnoF : ¬ (K ≠ 0 ∧ 0 ≤ N ∧ N ≤ most ∧ N ≤ (n : Int) - K) → Hid (Num.cut most l = ([], 0)) := fun h => Lib.hid (Num.cut_no (by unfold Num.cutok; rw [← hN, ← hK, hl]; exact h))
  have hyesF : (K ≠ 0 ∧ 0 ≤ N ∧ N ≤ most ∧ N ≤ (n : Int) - K) → Hid (Num.cut most l = ((l.drop K).take N.toNat, K + N.toNat)) := fun h => Lib.hid (by rw [Num.cut_yes (by unfold Num.cutok; rw [← hN, ← hK, hl]; exact h), ← hN, ← hK])
  have HN := Lib.hid hN
  have HK := Lib.hid hK
  have HL := Lib.hid hl
  clear hN hK hl
  by_cases hk0 : K = 0
  · have hno := hnoF (fun h => h.1 hk0)
    have HZ := Lib.hid hk0
    subst hk0
    go_enter Try.func20, Try.ntmps20
    go_wp2_with fail
    refine (rget_any A n cap l w h hn hcap).mono ?_
    rintro e w1 ⟨rfl, hb1⟩
    rw [← HN.out, ← HK.out]
    go_wp2
    go_ret2
    exact cutgot_no _ _ _ _ hno.out hb1
  · have hk1 : 1 ≤ K := by omega
    have hk2 : ¬ ((K : Int) = 0) := by omega
    by_cases hn0 : N < 0
    · have hno := hnoF (fun h => by omega)
      go_enter Try.func20, Try.ntmps20
      go_wp2_with fail
      refine (rget_any A n cap l w h hn hcap).mono ?_
      rintro e w1 ⟨rfl, hb1⟩
      rw [← HN.out, ← HK.out]
      go_wp2
      go_ret2
      exact cutgot_no _ _ _ _ hno.out hb1
    · by_cases hmost : most < N
      · have hno := hnoF (fun h => by omega)
        go_enter Try.func20, Try.ntmps20
        go_wp2_with fail
        refine (rget_any A n cap l w h hn hcap).mono ?_
        rintro e w1 ⟨rfl, hb1⟩
        rw [← HN.out, ← HK.out]
        go_wp2
        go_ret2
        exact cutgot_no _ _ _ _ hno.out hb1
      · by_cases hlen : (n : Int) - K < N
        · have hno := hnoF (fun h => by omega)
          go_enter Try.func20, Try.ntmps20
          go_wp2_with fail
          refine (rget_any A n cap l w h hn hcap).mono ?_
          rintro e w1 ⟨rfl, hb1⟩
          rw [← HN.out, ← HK.out]
          go_wp2
          go_ret2
          exact cutgot_no _ _ _ _ hno.out hb1
        · obtain ⟨m, rfl⟩ : ∃ m : Nat, N = (m : Int) := ⟨N.toNat, by omega⟩
          have hyes : Hid (Num.cut most l = ((l.drop K).take m, K + m)) := Lib.hid (by have := (hyesF ⟨hk0, by omega, by omega, by omega⟩).out; rwa [Int.toNat_natCast] at this)
          clear hnoF hyesF
          obtain ⟨ad, _, rfl, _⟩ := h.at_ (k := 0) (by omega)
          have hkm : K + m ≤ n := by omega
          have hkm2 : K + m ≤ cap := by omega
          by_cases hck : cap = K
          · obtain rfl : m = 0 := by omega
            subst hck
            have HR : ∀ w' : World, Rd w' w.heap.size (some ad) 0 [] := fun w' => ⟨rfl, fun h => absurd h (by omega)⟩
            go_enter Try.func20, Try.ntmps20
            go_wp2_with fail
            refine (rget_any (some ad) n cap l w h hn hcap).mono ?_
            rintro e w1 ⟨rfl, hb1⟩
            rw [← HN.out, ← HK.out]
            have t1 : ((cap : Int) == 0) = false := by simp; omega
            have t3 : decide (most < 0) = false := decide_eq_false (by omega)
            have t4 : decide ((n : Int) - cap < 0) = false := decide_eq_false (by omega)
            go_wp2_with (with_reducible refine wpList_conv (o := ⟨some 38, _, _, _, _, _⟩) rfl (.tmp 37) rfl w.heap.size (some ad) 0 _ [] rfl (HR _) ?_)
            go_ret2
            refine cutgot_yes _ _ _ _ _ _ hyes.out (by simp) hb1 _ ?_
            omega
          · have HR : ∀ w' : World, Below w.heap.size w w' → Rd w' w.heap.size (some (ad.add K)) (K + m - K) ((l.drop K).take m) := fun w' hb => by rw [Nat.add_sub_cancel_left]; exact ((h.back K (n - K) (by omega)).front m (by omega)).below hb
            go_enter Try.func20, Try.ntmps20
            go_wp2_with fail
            refine (rget_any (some ad) n cap l w h hn hcap).mono ?_
            rintro e w1 ⟨rfl, hb1⟩
            rw [← HN.out, ← HK.out]
            have t1 : ((K : Int) == 0) = false := by simp; omega
            have t3 : decide (most < (m : Int)) = false := decide_eq_false (by omega)
            have t4 : decide ((n : Int) - K < (m : Int)) = false := decide_eq_false (by omega)
            go_wp2_with (with_reducible refine wpList_conv (o := ⟨some 38, _, _, _, _, _⟩) rfl (.tmp 37) rfl w.heap.size (some (ad.add K)) (K + m - K) _ ((l.drop K).take m) rfl (HR _ hb1) ?_)
            go_ret2
            refine cutgot_yes _ _ _ _ _ _ hyes.out (by simp) hb1 _ ?_
            omega
end Go.Proofs.Ytibhppjcochkgaa
