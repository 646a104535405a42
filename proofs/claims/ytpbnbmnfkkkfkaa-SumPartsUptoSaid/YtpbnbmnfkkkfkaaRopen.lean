/- What opens, the document's. -/
import Derived.Test.YtpbnbmnfkkkfkaaOpen
import Derived.Test.YtpbnbmnfkkkfkaaInv
namespace Go.Proofs.Ytpbnbmnfkkkfkaa
open Go.RowKit
set_option linter.unusedSimpArgs false

theorem str_toList (l : List UInt8) : (str l).toList = l := by
  rw [ByteArray.toList_eq]; rfl
theorem str_ne {l m : List UInt8} (h : ¬ l = m) : ((str l).toList == (str m).toList) = false := by
  rw [str_toList, str_toList]
  exact beq_eq_false_iff_ne.2 h

theorem seal_is (l : List UInt8) (k : Nat) (h : l.length = k + 4) : Crc.ook l = true ↔ Crc.seal4 (l.take k) = l := by
  unfold Crc.ook
  rw [decide_eq_true_iff, h, Nat.add_sub_cancel]
  exact ⟨fun h1 => h1.2, fun h1 => ⟨by omega, h1⟩⟩

set_option maxHeartbeats 1000000 in
theorem ropen_short (A : Option Addr) (n cap : Nat) (l : List UInt8) (w : World) (h : Rd w w.heap.size A n l) (hn : n < 4) :
    Calls Try.prog 17 #[.slice A n cap] w (Opened w l) := by
  have hno := Lib.hid (Crc.ook_short l (by rw [h.1]; omega))
  go_enter Try.func17, Try.ntmps17
  go_wp2
  have hdec : decide ((n : Int) < 4) = true := decide_eq_true (by omega)
  go_quiet (fail)
  go_wp2
  go_ret2
  exact opened_no _ _ _ hno.out (below_drewN (Below.refl _ _) _)

/-- What each operation of the test yields. -/
def RoV (ad : Addr) (k cap : Nat) (l : List UInt8) (j : Nat) (v : Value) (w : World) : Prop :=
  match j with
  | 0 => v = .slice (some ad) (k + 4) cap
  | 1 => v = .int .i64 ((k : Int) + 4)
  | 2 => v = .bool false
  | 3 => v = .bool false
  | 4 => v = .slice (some ad) (k + 4) cap
  | 5 => v = .slice (some ad) (k + 4) cap
  | 6 => v = .int .i64 ((k : Int) + 4)
  | 7 => v = .int .i64 (k : Int)
  | 8 => v = .slice (some ad) k cap
  | 9 => ∃ A c, v = .slice A (k + 4) c ∧ Rd w w.heap.size A (k + 4) (Crc.seal4 (l.take k))
  | 10 => v = .string (str (Crc.seal4 (l.take k)))
  | 11 => v = .slice (some ad) (k + 4) cap
  | 12 => v = .string (str l)
  | 13 => v = .bool (!(Crc.ook l))
  | 14 => v = .bool (!(Crc.ook l))
  | _ => True
theorem RoV.keep {ad : Addr} {k cap : Nat} {l : List UInt8} {w w' : World} (hb : Below w.heap.size w w') (j : Nat) (v : Value) (h : RoV ad k cap l j v w) : RoV ad k cap l j v w' := by
  unfold RoV at h ⊢
  split at h <;> first | exact h | skip
  obtain ⟨A, c, e, hr⟩ := h
  exact ⟨A, c, e, (hr.below hb).more hb.size⟩
theorem ook_str (l : List UInt8) (k : Nat) (h : l.length = k + 4) : ((str (Crc.seal4 (l.take k))).toList == (str l).toList) = Crc.ook l := by
  rw [str_toList, str_toList, Bool.eq_iff_iff, seal_is l k h]
  exact beq_iff_eq

set_option maxRecDepth 100000 in
set_option maxHeartbeats 1000000 in
theorem ropen_long (ad : Addr) (k cap : Nat) (l : List UInt8) (w : World) (h : Rd w w.heap.size (some ad) (k + 4) l) (hn : k + 4 ≤ 140737488355000) (hcap : k + 4 ≤ cap) :
    Calls Try.prog 17 #[.slice (some ad) (k + 4) cap] w (Opened w l) := by
  have H0 := Lib.hid h.1
  have hf := h.front k (by omega)
  have hk1 : k ≤ cap := by omega
  have hk2 : ¬ cap = k := by omega
  go_enter Try.func17, Try.ntmps17
  go_wp2
  have hwr : IntKind.i64.wrap (k : Int) = (k : Int) := IntWalk.i64_in _ (by omega)
  have hdec : decide ((k : Int) + 4 < 4) = false := decide_eq_false (by omega)
  refine Reg.region (by kernel_rfl) (by kernel_rfl) (RoV ad k cap l) (fun w' => Below w.heap.size w w') ((Below.refl _ _).drew) (Reg.steps_of ?_) ?_
  · refine ⟨?_, ?_, ?_, ?_, ?_, ?_, ?_, ?_, ?_, ?_, ?_, ?_, ?_, ?_, ?_, trivial⟩
    · intro a w1 E D hW
      have e0 : a.eval (.tmp 0) = .slice (some ad) (k + 4) cap := E 0 rfl
      exact Reg.val rfl (Reg.wanted_free rfl) hW (.slice (some ad) (k + 4) cap) (by have c := Reg.consts a; generalize a.eval = ρ at *; simp [go_sem, c.1, c.2, e0]) rfl
    · intro a w1 E D hW
      have d0 : a.eval (.tmp 4) = .slice (some ad) (k + 4) cap := D 0 rfl
      exact Reg.val rfl (Reg.wanted_free rfl) hW (.int .i64 ((k : Int) + 4)) (by have c := Reg.consts a; generalize a.eval = ρ at *; simp [go_sem, c.1, c.2, d0]) rfl
    · intro a w1 E D hW
      have d1 : a.eval (.tmp 5) = .int .i64 ((k : Int) + 4) := D 1 rfl
      exact Reg.val rfl (Reg.wanted_free rfl) hW (.bool false) (by have c := Reg.consts a; generalize a.eval = ρ at *; simp [go_sem, c.1, c.2, d1, hdec]) rfl
    · intro a w1 E D hW
      have d2 : a.eval (.tmp 6) = .bool false := D 2 rfl
      exact Reg.val rfl (Reg.wanted_free rfl) hW (.bool false) (by have c := Reg.consts a; generalize a.eval = ρ at *; simp [go_sem, c.1, c.2, d2]) rfl
    · intro a w1 E D hW
      have e0 : a.eval (.tmp 0) = .slice (some ad) (k + 4) cap := E 0 rfl
      have g : a.eval (.tmp 7) = .bool false := D 3 rfl
      exact Reg.val rfl (Reg.wanted_if rfl rfl g rfl) hW (.slice (some ad) (k + 4) cap) (by have c := Reg.consts a; generalize a.eval = ρ at *; simp [go_sem, c.1, c.2, e0]) rfl
    · intro a w1 E D hW
      have e0 : a.eval (.tmp 0) = .slice (some ad) (k + 4) cap := E 0 rfl
      have g : a.eval (.tmp 7) = .bool false := D 3 rfl
      exact Reg.val rfl (Reg.wanted_if rfl rfl g rfl) hW (.slice (some ad) (k + 4) cap) (by have c := Reg.consts a; generalize a.eval = ρ at *; simp [go_sem, c.1, c.2, e0]) rfl
    · intro a w1 E D hW
      have d5 : a.eval (.tmp 9) = .slice (some ad) (k + 4) cap := D 5 rfl
      have g : a.eval (.tmp 7) = .bool false := D 3 rfl
      exact Reg.val rfl (Reg.wanted_if rfl rfl g rfl) hW (.int .i64 ((k : Int) + 4)) (by have c := Reg.consts a; generalize a.eval = ρ at *; simp [go_sem, c.1, c.2, d5]) rfl
    · intro a w1 E D hW
      have d6 : a.eval (.tmp 10) = .int .i64 ((k : Int) + 4) := D 6 rfl
      have g : a.eval (.tmp 7) = .bool false := D 3 rfl
      exact Reg.val rfl (Reg.wanted_if rfl rfl g rfl) hW (.int .i64 (k : Int)) (by have c := Reg.consts a; generalize a.eval = ρ at *; simp [go_sem, c.1, c.2, d6, hwr]) rfl
    · intro a w1 E D hW
      have d4 : a.eval (.tmp 8) = .slice (some ad) (k + 4) cap := D 4 rfl
      have d7 : a.eval (.tmp 11) = .int .i64 (k : Int) := D 7 rfl
      have g : a.eval (.tmp 7) = .bool false := D 3 rfl
      exact Reg.val rfl (Reg.wanted_if rfl rfl g rfl) hW (.slice (some ad) k cap) (by have c := Reg.consts a; generalize a.eval = ρ at *; simp [go_sem, c.1, c.2, d4, d7, hk1]) rfl
    · intro a w1 E D hW
      have d8 : a.eval (.tmp 12) = .slice (some ad) k cap := D 8 rfl
      have g : a.eval (.tmp 7) = .bool false := D 3 rfl
      refine Reg.call rfl (Reg.wanted_if rfl rfl g rfl) 8 #[.slice (some ad) k cap] (by have c := Reg.consts a; generalize a.eval = ρ at *; simp [go_sem, c.1, c.2, d8]) ?_
      refine (rseal_any (some ad) k cap (l.take k) w1 ((hf.below hW).more hW.size) (by omega)).mono ?_
      rintro e w2 ⟨A1, c1, rfl, hw2, hb2⟩
      exact ⟨_, rfl, ⟨A1, c1, rfl, hw2.rd⟩, hW.trans (hb2.mono hW.size), RoV.keep hb2⟩
    · intro a w1 E D hW
      obtain ⟨A1, c1, d9, hr⟩ : ∃ A c, a.eval (.tmp 13) = .slice A (k + 4) c ∧ Rd w1 w1.heap.size A (k + 4) (Crc.seal4 (l.take k)) := D 9 rfl
      have g : a.eval (.tmp 7) = .bool false := D 3 rfl
      have q := run_conv w1 _ _ _ c1 _ hr
      exact Reg.val rfl (Reg.wanted_if rfl rfl g rfl) hW (.string (str (Crc.seal4 (l.take k)))) (by have c := Reg.consts a; generalize a.eval = ρ at *; simp [go_sem, c.1, c.2, d9, q]) rfl
    · intro a w1 E D hW
      have e0 : a.eval (.tmp 0) = .slice (some ad) (k + 4) cap := E 0 rfl
      have g : a.eval (.tmp 7) = .bool false := D 3 rfl
      exact Reg.val rfl (Reg.wanted_if rfl rfl g rfl) hW (.slice (some ad) (k + 4) cap) (by have c := Reg.consts a; generalize a.eval = ρ at *; simp [go_sem, c.1, c.2, e0]) rfl
    · intro a w1 E D hW
      have d11 : a.eval (.tmp 15) = .slice (some ad) (k + 4) cap := D 11 rfl
      have g : a.eval (.tmp 7) = .bool false := D 3 rfl
      have q := run_conv w1 _ _ _ cap _ (h.below hW)
      exact Reg.val rfl (Reg.wanted_if rfl rfl g rfl) hW (.string (str l)) (by have c := Reg.consts a; generalize a.eval = ρ at *; simp [go_sem, c.1, c.2, d11, q]) rfl
    · intro a w1 E D hW
      have d10 : a.eval (.tmp 14) = .string (str (Crc.seal4 (l.take k))) := D 10 rfl
      have d12 : a.eval (.tmp 16) = .string (str l) := D 12 rfl
      have g : a.eval (.tmp 7) = .bool false := D 3 rfl
      have q := ook_str l k H0.out
      exact Reg.val rfl (Reg.wanted_if rfl rfl g rfl) hW (.bool (!(Crc.ook l))) (by have c := Reg.consts a; generalize a.eval = ρ at *; simp [go_sem, c.1, c.2, d10, d12, q]) rfl
    · intro a w1 E D hW
      have d3 : a.eval (.tmp 7) = .bool false := D 3 rfl
      have d13 : a.eval (.tmp 17) = .bool (!(Crc.ook l)) := D 13 rfl
      exact Reg.val rfl (Reg.wanted_free rfl) hW (.bool (!(Crc.ook l))) (by have c := Reg.consts a; generalize a.eval = ρ at *; simp [go_sem, c.1, c.2, d3, d13]) rfl
  · intro a w1 hs hd E D D2
    have e0 : a.eval (.tmp 0) = .slice (some ad) (k + 4) cap := E 0 rfl
    have e2 : a.eval (.tmp 2) = .slice none 0 0 := E 2 rfl
    have e3 : a.eval (.tmp 3) = .bool false := E 3 rfl
    have d14 : a.eval (.tmp 18) = .bool (!(Crc.ook l)) := D 14 (by decide)
    have hb2 : Below w.heap.size w w1 := D2
    rw [Reg.act_lit a 26 hs, hd]
    simp only [List.range, List.range.loop, List.map, e0, e2, e3, d14]
    clear E e0 e2 e3 d14
    generalize a.eval = ρ
    clear a hs hd D
    cases hok : Crc.ook l
    · have hno := Lib.hid hok
      clear hok
      go_wp2
      go_ret2
      exact opened_no _ _ _ hno.out hb2
    · have hyes := Lib.hid hok
      clear hok
      go_wp2_with (first
        | (at_builtin; refine wpList_app rfl (.tmp 19) (.tmp 24) rfl rfl w.heap.size (some ⟨w1.heap.size, 0, none⟩) 0 0 [] rfl (own_lit w1 w.heap.size [] #[] rfl hb2.size (by decide)) (some ad) k cap (l.take k) w.heap.size rfl ((hf.below hb2).alloc hb2.size _) k (Nat.zero_add _) (l.take k) (List.nil_append _) (by omega) (by have := hb2.size; simp; omega) ?_; intro A3 c3 w3 hw3 hb3))
      go_ret2
      exact opened_yes _ _ _ k _ _ H0.out hyes.out hw3 (hb2.trans (((Below.refl _ _).alloc hb2.size _).trans hb3))
theorem ropen_any (A : Option Addr) (n cap : Nat) (l : List UInt8) (w : World) (h : Rd w w.heap.size A n l) (hn : n ≤ 140737488355000) (hcap : n ≤ cap) :
    Calls Try.prog 17 #[.slice A n cap] w (Opened w l) := by
  by_cases h4 : n < 4
  · exact ropen_short A n cap l w h h4
  · obtain ⟨k, rfl⟩ : ∃ k, n = k + 4 := ⟨n - 4, by omega⟩
    obtain ⟨ad, rfl, _⟩ := h.2 (by omega)
    exact ropen_long ad k cap l w h hn hcap
end Go.Proofs.Ytpbnbmnfkkkfkaa
