/- What is written, and what is read: the program's is the document's; and chapter 2's runs. -/
import Derived.Test.YtibhppjcochkgaaCut
namespace Go.Proofs.Ytibhppjcochkgaa
open Go.RowKit
set_option linter.unusedSimpArgs false
set_option linter.unusedVariables false

set_option maxHeartbeats 400000 in
theorem reads_any (A : Option Addr) (n cap : Nat) (l : List UInt8) (most : Int) (w : World) (h : Rd w w.heap.size A n l) (hn : n ≤ 140737488355328) (hcap : n ≤ cap) :
    Calls Try.prog 9 #[.slice A n cap, .int .i64 most] w (Yes w) := by
  go_enter Try.func9, Try.ntmps9
  go_wp2_with fail
  refine (get_any A n cap l w h hn hcap).mono ?_
  rintro e w1 ⟨rfl, hb1⟩
  go_wp2_with fail
  refine (rget_any A n cap l w1 ((h.below hb1).more hb1.size) hn hcap).mono ?_
  rintro e w2 ⟨rfl, hb2⟩
  have h2 := hb1.trans (hb2.mono hb1.size)
  go_wp2_with fail
  refine (cut_any A n cap l most w2 ((h.below h2).more h2.size) hn hcap).mono ?_
  rintro e w3 ⟨rfl, hb3⟩
  have h3 := h2.trans (hb3.mono h2.size)
  go_wp2_with fail
  refine (rcut_any A n cap l most w3 ((h.below h3).more h3.size) hn hcap).mono ?_
  rintro e w4 ⟨rfl, hb4⟩
  have h4 := h3.trans (hb4.mono h3.size)
  go_wp2_with fail
  go_ret
  exact ⟨rfl, h4⟩

/-- What each operation of the comparison yields. -/
def PuV (A : Option Addr) (n cap : Nat) (l : List UInt8) (z : Int) (s : ByteArray) (b : Bool) (j : Nat) (v : Value) (w : World) : Prop :=
  match j with
  | 0 => v = .slice A n cap
  | 1 => v = .int .i64 z
  | 2 => ∃ A c, v = .slice A (n + 1 + Num.wid z.natAbs) c ∧ Rd w w.heap.size A (n + 1 + Num.wid z.natAbs) ((l ++ Num.enc z))
  | 3 => v = .string (str (l ++ Num.enc z))
  | 4 => v = .slice A n cap
  | 5 => v = .int .i64 z
  | 6 => ∃ A c, v = .slice A (n + 1 + Num.wid z.natAbs) c ∧ Rd w w.heap.size A (n + 1 + Num.wid z.natAbs) ((l ++ Num.enc z))
  | 7 => v = .string (str (l ++ Num.enc z))
  | 8 => v = .bool true
  | 9 => v = .bool true
  | 10 => v = .slice A n cap
  | 11 => v = .string s
  | 12 => ∃ A c, v = .slice A (n + 1 + Num.wid s.size + s.size) c ∧ Rd w w.heap.size A (n + 1 + Num.wid s.size + s.size) ((l ++ Num.enc s.size ++ s.data.toList))
  | 13 => v = .string (str (l ++ Num.enc s.size ++ s.data.toList))
  | 14 => v = .slice A n cap
  | 15 => v = .string s
  | 16 => ∃ A c, v = .slice A (n + 1 + Num.wid s.size + s.size) c ∧ Rd w w.heap.size A (n + 1 + Num.wid s.size + s.size) ((l ++ Num.enc s.size ++ s.data.toList))
  | 17 => v = .string (str (l ++ Num.enc s.size ++ s.data.toList))
  | 18 => v = .bool true
  | 19 => v = .bool true
  | 20 => v = .bool true
  | 21 => v = .slice A n cap
  | 22 => v = .int .i64 z
  | 23 => v = .bool b
  | 24 => ∃ A c, v = .slice A (n + 1 + Num.wid (fl b).natAbs) c ∧ Rd w w.heap.size A (n + 1 + Num.wid (fl b).natAbs) ((l ++ Num.enc (fl b)))
  | 25 => v = .string (str (l ++ Num.enc (fl b)))
  | 26 => v = .slice A n cap
  | 27 => v = .int .i64 z
  | 28 => v = .bool b
  | 29 => ∃ A c, v = .slice A (n + 1 + Num.wid (fl b).natAbs) c ∧ Rd w w.heap.size A (n + 1 + Num.wid (fl b).natAbs) ((l ++ Num.enc (fl b)))
  | 30 => v = .string (str (l ++ Num.enc (fl b)))
  | 31 => v = .bool true
  | 32 => v = .bool true
  | 33 => v = .bool true
  | _ => True
theorem PuV.keep {A : Option Addr} {n cap : Nat} {l : List UInt8} {z : Int} {s : ByteArray} {b : Bool} {w w' : World} (hb : Below w.heap.size w w') (j : Nat) (v : Value) (h : PuV A n cap l z s b j v w) : PuV A n cap l z s b j v w' := by
  unfold PuV at h ⊢
  split at h <;> first | exact h | skip
  all_goals
    obtain ⟨A, c, e, hr⟩ := h
    exact ⟨A, c, e, (hr.below hb).more hb.size⟩

set_option maxRecDepth 100000 in
set_option maxHeartbeats 4000000 in
theorem puts_any (A : Option Addr) (n cap : Nat) (l : List UInt8) (z : Int) (s : ByteArray) (w : World) (h0 : Rd w w.heap.size A n l) (hn : n + s.size + 9 ≤ 140737488355328) (hz1 : -9223372036854775808 ≤ z) (hz2 : z ≤ 9223372036854775807) :
    Calls Try.prog 8 #[.slice A n cap, .int .i64 z, .string s] w (Yes w) := by
  obtain ⟨b, hb⟩ : ∃ b, decide (0 < z) = b := ⟨_, rfl⟩
  have h := h0
  go_enter Try.func8, Try.ntmps8
  go_wp2_with fail
  refine Reg.region (by kernel_rfl) (by kernel_rfl) (PuV A n cap l z s b) (fun w' => Below w.heap.size w w') ((Below.refl _ _).drew) (Reg.steps_of ?_) ?_
  · refine ⟨?_, ?_, ?_, ?_, ?_, ?_, ?_, ?_, ?_, ?_, ?_, ?_, ?_, ?_, ?_, ?_, ?_, ?_, ?_, ?_, ?_, ?_, ?_, ?_, ?_, ?_, ?_, ?_, ?_, ?_, ?_, ?_, ?_, ?_, trivial⟩
    · intro a w1 E D hW
      have e0 : a.eval (.tmp 0) = .slice A n cap := E 0 rfl
      exact Reg.val rfl (Reg.wanted_free rfl) hW (.slice A n cap) (by have c := Reg.consts a; generalize a.eval = ρ at *; simp [go_sem, c.1, c.2, e0]) rfl
    · intro a w1 E D hW
      have e1 : a.eval (.tmp 1) = .int .i64 z := E 1 rfl
      exact Reg.val rfl (Reg.wanted_free rfl) hW (.int .i64 z) (by have c := Reg.consts a; generalize a.eval = ρ at *; simp [go_sem, c.1, c.2, e1]) rfl
    · intro a w1 E D hW
      have d0 : a.eval (.tmp 7) = .slice A n cap := D 0 rfl
      have d1 : a.eval (.tmp 8) = .int .i64 z := D 1 rfl
      refine Reg.call rfl (Reg.wanted_free rfl) 13 #[.slice A n cap, .int .i64 z] (by have c := Reg.consts a; generalize a.eval = ρ at *; simp [go_sem, c.1, c.2, d0, d1]) ?_
      refine (put_any A n cap l z w1 ((h.below hW).more hW.size) (by omega) hz1 hz2).mono ?_
      rintro e w2 ⟨Az, cz, rfl, hwz, hbz⟩
      exact ⟨_, rfl, ⟨Az, cz, rfl, hwz.rd⟩, hW.trans (hbz.mono hW.size), PuV.keep hbz⟩
    · intro a w1 E D hW
      obtain ⟨A2, c2, d2, r2⟩ : ∃ A c, a.eval (.tmp 9) = .slice A (n + 1 + Num.wid z.natAbs) c ∧ Rd w1 w1.heap.size A (n + 1 + Num.wid z.natAbs) ((l ++ Num.enc z)) := D 2 rfl
      have qq := run_conv w1 _ _ _ c2 _ r2
      exact Reg.val rfl (Reg.wanted_free rfl) hW (.string (str (l ++ Num.enc z))) (by have c := Reg.consts a; generalize a.eval = ρ at *; simp [go_sem, c.1, c.2, d2, qq]) rfl
    · intro a w1 E D hW
      have e0 : a.eval (.tmp 0) = .slice A n cap := E 0 rfl
      exact Reg.val rfl (Reg.wanted_free rfl) hW (.slice A n cap) (by have c := Reg.consts a; generalize a.eval = ρ at *; simp [go_sem, c.1, c.2, e0]) rfl
    · intro a w1 E D hW
      have e1 : a.eval (.tmp 1) = .int .i64 z := E 1 rfl
      exact Reg.val rfl (Reg.wanted_free rfl) hW (.int .i64 z) (by have c := Reg.consts a; generalize a.eval = ρ at *; simp [go_sem, c.1, c.2, e1]) rfl
    · intro a w1 E D hW
      have d4 : a.eval (.tmp 11) = .slice A n cap := D 4 rfl
      have d5 : a.eval (.tmp 12) = .int .i64 z := D 5 rfl
      refine Reg.call rfl (Reg.wanted_free rfl) 7 #[.slice A n cap, .int .i64 z] (by have c := Reg.consts a; generalize a.eval = ρ at *; simp [go_sem, c.1, c.2, d4, d5]) ?_
      refine (rput_any A n cap l z w1 ((h.below hW).more hW.size) (by omega) hz1 hz2).mono ?_
      rintro e w2 ⟨Az, cz, rfl, hwz, hbz⟩
      exact ⟨_, rfl, ⟨Az, cz, rfl, hwz.rd⟩, hW.trans (hbz.mono hW.size), PuV.keep hbz⟩
    · intro a w1 E D hW
      obtain ⟨A6, c6, d6, r6⟩ : ∃ A c, a.eval (.tmp 13) = .slice A (n + 1 + Num.wid z.natAbs) c ∧ Rd w1 w1.heap.size A (n + 1 + Num.wid z.natAbs) ((l ++ Num.enc z)) := D 6 rfl
      have qq := run_conv w1 _ _ _ c6 _ r6
      exact Reg.val rfl (Reg.wanted_free rfl) hW (.string (str (l ++ Num.enc z))) (by have c := Reg.consts a; generalize a.eval = ρ at *; simp [go_sem, c.1, c.2, d6, qq]) rfl
    · intro a w1 E D hW
      have d3 : a.eval (.tmp 10) = .string (str (l ++ Num.enc z)) := D 3 rfl
      have d7 : a.eval (.tmp 14) = .string (str (l ++ Num.enc z)) := D 7 rfl
      exact Reg.val rfl (Reg.wanted_free rfl) hW (.bool true) (by have c := Reg.consts a; generalize a.eval = ρ at *; simp [go_sem, c.1, c.2, d3, d7]) rfl
    · intro a w1 E D hW
      have d8 : a.eval (.tmp 15) = .bool true := D 8 rfl
      exact Reg.val rfl (Reg.wanted_free rfl) hW (.bool true) (by have c := Reg.consts a; generalize a.eval = ρ at *; simp [go_sem, c.1, c.2, d8]) rfl
    · intro a w1 E D hW
      have e0 : a.eval (.tmp 0) = .slice A n cap := E 0 rfl
      have g : a.eval (.tmp 16) = .bool true := D 9 rfl
      exact Reg.val rfl (Reg.wanted_if rfl rfl g rfl) hW (.slice A n cap) (by have c := Reg.consts a; generalize a.eval = ρ at *; simp [go_sem, c.1, c.2, e0]) rfl
    · intro a w1 E D hW
      have e2 : a.eval (.tmp 2) = .string s := E 2 rfl
      have g : a.eval (.tmp 16) = .bool true := D 9 rfl
      exact Reg.val rfl (Reg.wanted_if rfl rfl g rfl) hW (.string s) (by have c := Reg.consts a; generalize a.eval = ρ at *; simp [go_sem, c.1, c.2, e2]) rfl
    · intro a w1 E D hW
      have d10 : a.eval (.tmp 17) = .slice A n cap := D 10 rfl
      have d11 : a.eval (.tmp 18) = .string s := D 11 rfl
      have g : a.eval (.tmp 16) = .bool true := D 9 rfl
      refine Reg.call rfl (Reg.wanted_if rfl rfl g rfl) 15 #[.slice A n cap, .string s] (by have c := Reg.consts a; generalize a.eval = ρ at *; simp [go_sem, c.1, c.2, d10, d11]) ?_
      refine (text_any A n cap l s w1 ((h.below hW).more hW.size) (by omega)).mono ?_
      rintro e w2 ⟨Az, cz, rfl, hwz, hbz⟩
      exact ⟨_, rfl, ⟨Az, cz, rfl, hwz.rd⟩, hW.trans (hbz.mono hW.size), PuV.keep hbz⟩
    · intro a w1 E D hW
      obtain ⟨A12, c12, d12, r12⟩ : ∃ A c, a.eval (.tmp 19) = .slice A (n + 1 + Num.wid s.size + s.size) c ∧ Rd w1 w1.heap.size A (n + 1 + Num.wid s.size + s.size) ((l ++ Num.enc s.size ++ s.data.toList)) := D 12 rfl
      have g : a.eval (.tmp 16) = .bool true := D 9 rfl
      have qq := run_conv w1 _ _ _ c12 _ r12
      exact Reg.val rfl (Reg.wanted_if rfl rfl g rfl) hW (.string (str (l ++ Num.enc s.size ++ s.data.toList))) (by have c := Reg.consts a; generalize a.eval = ρ at *; simp [go_sem, c.1, c.2, d12, qq]) rfl
    · intro a w1 E D hW
      have e0 : a.eval (.tmp 0) = .slice A n cap := E 0 rfl
      have g : a.eval (.tmp 16) = .bool true := D 9 rfl
      exact Reg.val rfl (Reg.wanted_if rfl rfl g rfl) hW (.slice A n cap) (by have c := Reg.consts a; generalize a.eval = ρ at *; simp [go_sem, c.1, c.2, e0]) rfl
    · intro a w1 E D hW
      have e2 : a.eval (.tmp 2) = .string s := E 2 rfl
      have g : a.eval (.tmp 16) = .bool true := D 9 rfl
      exact Reg.val rfl (Reg.wanted_if rfl rfl g rfl) hW (.string s) (by have c := Reg.consts a; generalize a.eval = ρ at *; simp [go_sem, c.1, c.2, e2]) rfl
    · intro a w1 E D hW
      have d14 : a.eval (.tmp 21) = .slice A n cap := D 14 rfl
      have d15 : a.eval (.tmp 22) = .string s := D 15 rfl
      have g : a.eval (.tmp 16) = .bool true := D 9 rfl
      refine Reg.call rfl (Reg.wanted_if rfl rfl g rfl) 10 #[.slice A n cap, .string s] (by have c := Reg.consts a; generalize a.eval = ρ at *; simp [go_sem, c.1, c.2, d14, d15]) ?_
      refine (rtext_any A n cap l s w1 ((h.below hW).more hW.size) (by omega)).mono ?_
      rintro e w2 ⟨Az, cz, rfl, hwz, hbz⟩
      exact ⟨_, rfl, ⟨Az, cz, rfl, hwz.rd⟩, hW.trans (hbz.mono hW.size), PuV.keep hbz⟩
    · intro a w1 E D hW
      obtain ⟨A16, c16, d16, r16⟩ : ∃ A c, a.eval (.tmp 23) = .slice A (n + 1 + Num.wid s.size + s.size) c ∧ Rd w1 w1.heap.size A (n + 1 + Num.wid s.size + s.size) ((l ++ Num.enc s.size ++ s.data.toList)) := D 16 rfl
      have g : a.eval (.tmp 16) = .bool true := D 9 rfl
      have qq := run_conv w1 _ _ _ c16 _ r16
      exact Reg.val rfl (Reg.wanted_if rfl rfl g rfl) hW (.string (str (l ++ Num.enc s.size ++ s.data.toList))) (by have c := Reg.consts a; generalize a.eval = ρ at *; simp [go_sem, c.1, c.2, d16, qq]) rfl
    · intro a w1 E D hW
      have d13 : a.eval (.tmp 20) = .string (str (l ++ Num.enc s.size ++ s.data.toList)) := D 13 rfl
      have d17 : a.eval (.tmp 24) = .string (str (l ++ Num.enc s.size ++ s.data.toList)) := D 17 rfl
      have g : a.eval (.tmp 16) = .bool true := D 9 rfl
      exact Reg.val rfl (Reg.wanted_if rfl rfl g rfl) hW (.bool true) (by have c := Reg.consts a; generalize a.eval = ρ at *; simp [go_sem, c.1, c.2, d13, d17]) rfl
    · intro a w1 E D hW
      have d9 : a.eval (.tmp 16) = .bool true := D 9 rfl
      have d18 : a.eval (.tmp 25) = .bool true := D 18 rfl
      exact Reg.val rfl (Reg.wanted_free rfl) hW (.bool true) (by have c := Reg.consts a; generalize a.eval = ρ at *; simp [go_sem, c.1, c.2, d9, d18]) rfl
    · intro a w1 E D hW
      have d19 : a.eval (.tmp 26) = .bool true := D 19 rfl
      exact Reg.val rfl (Reg.wanted_free rfl) hW (.bool true) (by have c := Reg.consts a; generalize a.eval = ρ at *; simp [go_sem, c.1, c.2, d19]) rfl
    · intro a w1 E D hW
      have e0 : a.eval (.tmp 0) = .slice A n cap := E 0 rfl
      have g : a.eval (.tmp 27) = .bool true := D 20 rfl
      exact Reg.val rfl (Reg.wanted_if rfl rfl g rfl) hW (.slice A n cap) (by have c := Reg.consts a; generalize a.eval = ρ at *; simp [go_sem, c.1, c.2, e0]) rfl
    · intro a w1 E D hW
      have e1 : a.eval (.tmp 1) = .int .i64 z := E 1 rfl
      have g : a.eval (.tmp 27) = .bool true := D 20 rfl
      exact Reg.val rfl (Reg.wanted_if rfl rfl g rfl) hW (.int .i64 z) (by have c := Reg.consts a; generalize a.eval = ρ at *; simp [go_sem, c.1, c.2, e1]) rfl
    · intro a w1 E D hW
      have d22 : a.eval (.tmp 29) = .int .i64 z := D 22 rfl
      have g : a.eval (.tmp 27) = .bool true := D 20 rfl
      exact Reg.val rfl (Reg.wanted_if rfl rfl g rfl) hW (.bool b) (by have c := Reg.consts a; generalize a.eval = ρ at *; simp [go_sem, c.1, c.2, d22, hb]) rfl
    · intro a w1 E D hW
      have d21 : a.eval (.tmp 28) = .slice A n cap := D 21 rfl
      have d23 : a.eval (.tmp 30) = .bool b := D 23 rfl
      have g : a.eval (.tmp 27) = .bool true := D 20 rfl
      refine Reg.call rfl (Reg.wanted_if rfl rfl g rfl) 17 #[.slice A n cap, .bool b] (by have c := Reg.consts a; generalize a.eval = ρ at *; simp [go_sem, c.1, c.2, d21, d23]) ?_
      refine (flag_any A n cap l b w1 ((h.below hW).more hW.size) (by omega)).mono ?_
      rintro e w2 ⟨Az, cz, rfl, hwz, hbz⟩
      exact ⟨_, rfl, ⟨Az, cz, rfl, hwz.rd⟩, hW.trans (hbz.mono hW.size), PuV.keep hbz⟩
    · intro a w1 E D hW
      obtain ⟨A24, c24, d24, r24⟩ : ∃ A c, a.eval (.tmp 31) = .slice A (n + 1 + Num.wid (fl b).natAbs) c ∧ Rd w1 w1.heap.size A (n + 1 + Num.wid (fl b).natAbs) ((l ++ Num.enc (fl b))) := D 24 rfl
      have g : a.eval (.tmp 27) = .bool true := D 20 rfl
      have qq := run_conv w1 _ _ _ c24 _ r24
      exact Reg.val rfl (Reg.wanted_if rfl rfl g rfl) hW (.string (str (l ++ Num.enc (fl b)))) (by have c := Reg.consts a; generalize a.eval = ρ at *; simp [go_sem, c.1, c.2, d24, qq]) rfl
    · intro a w1 E D hW
      have e0 : a.eval (.tmp 0) = .slice A n cap := E 0 rfl
      have g : a.eval (.tmp 27) = .bool true := D 20 rfl
      exact Reg.val rfl (Reg.wanted_if rfl rfl g rfl) hW (.slice A n cap) (by have c := Reg.consts a; generalize a.eval = ρ at *; simp [go_sem, c.1, c.2, e0]) rfl
    · intro a w1 E D hW
      have e1 : a.eval (.tmp 1) = .int .i64 z := E 1 rfl
      have g : a.eval (.tmp 27) = .bool true := D 20 rfl
      exact Reg.val rfl (Reg.wanted_if rfl rfl g rfl) hW (.int .i64 z) (by have c := Reg.consts a; generalize a.eval = ρ at *; simp [go_sem, c.1, c.2, e1]) rfl
    · intro a w1 E D hW
      have d27 : a.eval (.tmp 34) = .int .i64 z := D 27 rfl
      have g : a.eval (.tmp 27) = .bool true := D 20 rfl
      exact Reg.val rfl (Reg.wanted_if rfl rfl g rfl) hW (.bool b) (by have c := Reg.consts a; generalize a.eval = ρ at *; simp [go_sem, c.1, c.2, d27, hb]) rfl
    · intro a w1 E D hW
      have d26 : a.eval (.tmp 33) = .slice A n cap := D 26 rfl
      have d28 : a.eval (.tmp 35) = .bool b := D 28 rfl
      have g : a.eval (.tmp 27) = .bool true := D 20 rfl
      refine Reg.call rfl (Reg.wanted_if rfl rfl g rfl) 18 #[.slice A n cap, .bool b] (by have c := Reg.consts a; generalize a.eval = ρ at *; simp [go_sem, c.1, c.2, d26, d28]) ?_
      refine (rflag_any A n cap l b w1 ((h.below hW).more hW.size) (by omega)).mono ?_
      rintro e w2 ⟨Az, cz, rfl, hwz, hbz⟩
      exact ⟨_, rfl, ⟨Az, cz, rfl, hwz.rd⟩, hW.trans (hbz.mono hW.size), PuV.keep hbz⟩
    · intro a w1 E D hW
      obtain ⟨A29, c29, d29, r29⟩ : ∃ A c, a.eval (.tmp 36) = .slice A (n + 1 + Num.wid (fl b).natAbs) c ∧ Rd w1 w1.heap.size A (n + 1 + Num.wid (fl b).natAbs) ((l ++ Num.enc (fl b))) := D 29 rfl
      have g : a.eval (.tmp 27) = .bool true := D 20 rfl
      have qq := run_conv w1 _ _ _ c29 _ r29
      exact Reg.val rfl (Reg.wanted_if rfl rfl g rfl) hW (.string (str (l ++ Num.enc (fl b)))) (by have c := Reg.consts a; generalize a.eval = ρ at *; simp [go_sem, c.1, c.2, d29, qq]) rfl
    · intro a w1 E D hW
      have d25 : a.eval (.tmp 32) = .string (str (l ++ Num.enc (fl b))) := D 25 rfl
      have d30 : a.eval (.tmp 37) = .string (str (l ++ Num.enc (fl b))) := D 30 rfl
      have g : a.eval (.tmp 27) = .bool true := D 20 rfl
      exact Reg.val rfl (Reg.wanted_if rfl rfl g rfl) hW (.bool true) (by have c := Reg.consts a; generalize a.eval = ρ at *; simp [go_sem, c.1, c.2, d25, d30]) rfl
    · intro a w1 E D hW
      have d20 : a.eval (.tmp 27) = .bool true := D 20 rfl
      have d31 : a.eval (.tmp 38) = .bool true := D 31 rfl
      exact Reg.val rfl (Reg.wanted_free rfl) hW (.bool true) (by have c := Reg.consts a; generalize a.eval = ρ at *; simp [go_sem, c.1, c.2, d20, d31]) rfl
    · intro a w1 E D hW
      have d32 : a.eval (.tmp 39) = .bool true := D 32 rfl
      exact Reg.val rfl (Reg.wanted_free rfl) hW (.bool true) (by have c := Reg.consts a; generalize a.eval = ρ at *; simp [go_sem, c.1, c.2, d32]) rfl
  · intro a w3 hs hd E D hb3
    have dz : a.eval (.tmp 6) = .bool true := D 33 (by decide)
    rw [Reg.act_lit a 40 hs, hd]
    simp only [List.range, List.range.loop, List.map, dz]
    clear E D dz
    generalize a.eval = ρ
    clear a hs hd
    go_wp2
    go_ret
    exact ⟨rfl, hb3⟩

theorem wpList_convS {ops : Array Oper} {rest : List Oper} {o : Oper} {a : Act} {Q : Exit → Act → World → Prop} {w : World} (hgd : o.guard = none) (x : Operand)
    (ho : o.op = .convert 23 9 x) (B : Nat) (A : Option Addr) (n c : Nat) (l : List UInt8) (hx : a.eval x = .slice A n c) (hr : Rd w B A n l) (S : ByteArray) (hS : str l = S)
    (hK : wpList Try.prog ops Q rest (a.put o.dst (.string S)) w) : wpList Try.prog ops Q (o :: rest) a w := by
  subst hS
  exact wpList_conv hgd x ho B A n c l hx hr hK
theorem get_at (A : Option Addr) (n cap : Nat) (l : List UInt8) (z : Int) (k : Nat) (w : World) (h : Rd w w.heap.size A n l) (hn : n ≤ 4096) (hcap : n ≤ cap) (hd : Num.dec l = (z, k)) :
    Calls Try.prog 14 #[.slice A n cap] w fun e w' => e = .returned (.tuple #[.int .i64 z, .int .i64 (k : Int)]) ∧ Below w.heap.size w w' := by
  refine (get_any A n cap l w h (by omega) hcap).mono ?_
  rintro e w' ⟨he, hb⟩
  rw [hd] at he
  exact ⟨he, hb⟩
theorem cut_at (A : Option Addr) (n cap : Nat) (l : List UInt8) (most : Int) (y : List UInt8) (S : ByteArray) (k : Nat) (w : World) (h : Rd w w.heap.size A n l) (hn : n ≤ 4096) (hcap : n ≤ cap) (hd : Num.cut most l = (y, k)) (hS : str y = S) :
    Calls Try.prog 16 #[.slice A n cap, .int .i64 most] w fun e w' => e = .returned (.tuple #[.string S, .int .i64 (k : Int)]) ∧ Below w.heap.size w w' := by
  refine (cut_any A n cap l most w h (by omega) hcap).mono ?_
  rintro e w' ⟨he, hb⟩
  rw [hd] at he
  subst hS
  exact ⟨he, hb⟩
theorem be_300 : Num.be 300 = [1, 44] := by
  rw [Num.be_pos 300 (by decide)]; show Num.be 1 ++ _ = _
  rw [Num.be_pos 1 (by decide)]; show (Num.be 0 ++ _) ++ _ = _
  rw [Num.be_zero]; rfl
theorem be_1 : Num.be 1 = [1] := by
  rw [Num.be_pos 1 (by decide)]; show Num.be 0 ++ _ = _
  rw [Num.be_zero]; rfl
theorem be_2 : Num.be 2 = [2] := by
  rw [Num.be_pos 2 (by decide)]; show Num.be 0 ++ _ = _
  rw [Num.be_zero]; rfl
theorem enc_300 : Num.enc (-300) = [130, 1, 44] := by
  unfold Num.enc Num.wid; rw [show (-300 : Int).natAbs = 300 from rfl, be_300]; rfl
theorem enc_0 : Num.enc 0 = [0] := by
  unfold Num.enc Num.wid; rw [show (0 : Int).natAbs = 0 from rfl, Num.be_zero]; rfl
theorem enc_1 : Num.enc 1 = [1, 1] := by
  unfold Num.enc Num.wid; rw [show (1 : Int).natAbs = 1 from rfl, be_1]; rfl
theorem enc_2 : Num.enc 2 = [1, 2] := by
  unfold Num.enc Num.wid; rw [show (2 : Int).natAbs = 2 from rfl, be_2]; rfl
theorem dec_a : Num.dec [1, 0] = (0, 0) := Num.dec_no fun h => by
  have := h.2.2.1
  rw [show Num.val (([0] : List UInt8).take ((1 : UInt8).toNat % 128)) = 0 from rfl, Num.wid_zero] at this
  exact absurd this (by decide)
theorem dec_b : Num.dec [130, 1, 44, 9] = (-300, 3) := by
  have := Num.enc_dec (-300) (by decide) (by decide) [9]
  rw [enc_300] at this
  rw [show ([130, 1, 44, 9] : List UInt8) = [130, 1, 44] ++ [9] from rfl, this, show (-300 : Int).natAbs = 300 from rfl]
  unfold Num.wid; rw [be_300]; rfl
theorem dec_c : Num.dec [128] = (0, 0) := Num.dec_no fun h => absurd (h.2.2.2.2.2 (by decide)) (by decide)
theorem dec_d : Num.dec [1, 2, 97, 98, 99] = (2, 2) := by
  have := Num.enc_dec 2 (by decide) (by decide) [97, 98, 99]
  rw [enc_2] at this
  rw [show ([1, 2, 97, 98, 99] : List UInt8) = [1, 2] ++ [97, 98, 99] from rfl, this, show (2 : Int).natAbs = 2 from rfl]
  unfold Num.wid; rw [be_2]; rfl
theorem cut_a : Num.cut 2 [1, 2, 97, 98, 99] = ([97, 98], 4) := by
  rw [Num.cut_yes (by unfold Num.cutok; rw [dec_d]; decide), dec_d]; rfl
theorem cut_b : Num.cut 1 [1, 2, 97, 98, 99] = ([], 0) := Num.cut_no (by unfold Num.cutok; rw [dec_d]; decide)
theorem put_at' (z Z : Int) (m : Nat) (L : List UInt8) (w : World) (hZ : Z = z) (h1 : -9223372036854775808 ≤ z) (h2 : z ≤ 9223372036854775807) (hL : Num.enc z = L) (hm : 0 + 1 + Num.wid z.natAbs = m) :
    Calls Try.prog 13 #[.slice none 0 0, .int .i64 Z] w (Made w m L) := by
  subst hZ
  have := put_any none 0 0 [] Z w (rd_nil _ _) (by omega) h1 h2
  rw [hm, List.nil_append, hL] at this
  exact this
theorem flag_at' (w : World) : Calls Try.prog 17 #[.slice none 0 0, .bool true] w (Made w 2 [1, 1]) := by
  have := flag_any none 0 0 [] true w (rd_nil _ _) (by omega)
  rw [List.nil_append, show fl true = 1 from rfl, enc_1, show (1 : Int).natAbs = 1 from rfl] at this
  unfold Num.wid at this
  rw [be_1] at this
  exact this
theorem wid_300 : 0 + 1 + Num.wid (-300 : Int).natAbs = 3 := by rw [show (-300 : Int).natAbs = 300 from rfl]; unfold Num.wid; rw [be_300]; rfl
theorem wid_0 : 0 + 1 + Num.wid (0 : Int).natAbs = 1 := by rw [show (0 : Int).natAbs = 0 from rfl, Num.wid_zero]
theorem lit_rd (w : World) (l : List UInt8) (n : Nat) (C : Array Value) (hn : l.length = n) (hC : C.toList = bs l) (hl : n ≤ 4096) :
    Rd (w.alloc (.cells C 5)) (w.alloc (.cells C 5)).heap.size (some ⟨w.heap.size, 0, none⟩) n l := by
  subst hn
  exact (own_lit w w.heap.size l C hC (Nat.le_refl _) hl).rd

set_option maxRecDepth 100000 in
set_option maxHeartbeats 2000000 in
theorem known_any (w : World) : Calls Try.prog 11 #[] w (Yes w) := by
  have DA := Lib.hid dec_a
  have DB := Lib.hid dec_b
  have DC := Lib.hid dec_c
  have CA := Lib.hid cut_a
  have CB := Lib.hid cut_b
  go_enter Try.func11, Try.ntmps11
  go_wp2_with fail
  refine (get_at _ 2 2 [1, 0] 0 0 _ (lit_rd w [1, 0] 2 _ rfl rfl (by omega)) (by omega) (by omega) DA.out).mono ?_
  rintro e w1 ⟨rfl, hb1⟩
  have k1 : Below w.heap.size w w1 := ((Below.refl _ _).alloc (Nat.le_refl _) _).trans (hb1.mono (by simp))
  have s1 := k1.size
  go_wp2_with fail
  refine (get_at _ 4 4 [130, 1, 44, 9] (-300) 3 _ (lit_rd w1 [130, 1, 44, 9] 4 _ rfl rfl (by omega)) (by omega) (by omega) DB.out).mono ?_
  rintro e w2 ⟨rfl, hb2⟩
  have k2 : Below w.heap.size w w2 := (k1.alloc s1 _).trans (hb2.mono (by simp; omega))
  have s2 := k2.size
  go_wp2_with fail
  refine (get_at _ 1 1 [128] 0 0 _ (lit_rd w2 [128] 1 _ rfl rfl (by omega)) (by omega) (by omega) DC.out).mono ?_
  rintro e w3 ⟨rfl, hb3⟩
  have k3 : Below w.heap.size w w3 := (k2.alloc s2 _).trans (hb3.mono (by simp; omega))
  have s3 := k3.size
  go_wp2_with fail
  refine (cut_at _ 5 5 [1, 2, 97, 98, 99] 2 _ ⟨#[97, 98]⟩ 4 _ (lit_rd w3 [1, 2, 97, 98, 99] 5 _ rfl rfl (by omega)) (by omega) (by omega) CA.out rfl).mono ?_
  rintro e w4 ⟨rfl, hb4⟩
  have k4 : Below w.heap.size w w4 := (k3.alloc s3 _).trans (hb4.mono (by simp; omega))
  have s4 := k4.size
  go_wp2_with fail
  refine (cut_at _ 5 5 [1, 2, 97, 98, 99] 1 _ ⟨#[]⟩ 0 _ (lit_rd w4 [1, 2, 97, 98, 99] 5 _ rfl rfl (by omega)) (by omega) (by omega) CB.out rfl).mono ?_
  rintro e w5 ⟨rfl, hb5⟩
  have k5 : Below w.heap.size w w5 := (k4.alloc s4 _).trans (hb5.mono (by simp; omega))
  have s5 := k5.size
  go_wp2_with fail
  refine (put_at' (-300) _ 3 [130, 1, 44] w5 rfl (by omega) (by omega) enc_300 wid_300).mono ?_
  rintro e w6 ⟨A6, c6, rfl, hw6, hb6⟩
  have k6 : Below w.heap.size w w6 := k5.trans (hb6.mono s5)
  have s6 := k6.size
  have q6 : (convert 23 9 (.slice A6 3 c6)).run Try.prog w6 = .ok (.string ⟨#[130, 1, 44]⟩) w6 := run_conv w6 _ A6 3 c6 [130, 1, 44] hw6.rd
  go_wp2_with fail
  refine (put_at' 0 _ 1 [0] w6 rfl (by omega) (by omega) enc_0 wid_0).mono ?_
  rintro e w7 ⟨A7, c7, rfl, hw7, hb7⟩
  have k7 : Below w.heap.size w w7 := k6.trans (hb7.mono s6)
  have s7 := k7.size
  have q7 : (convert 23 9 (.slice A7 1 c7)).run Try.prog w7 = .ok (.string ⟨#[0]⟩) w7 := run_conv w7 _ A7 1 c7 [0] hw7.rd
  go_wp2_with fail
  refine (flag_at' w7).mono ?_
  rintro e w8 ⟨A8, c8, rfl, hw8, hb8⟩
  have k8 : Below w.heap.size w w8 := k7.trans (hb8.mono s7)
  have q8 : (convert 23 9 (.slice A8 2 c8)).run Try.prog w8 = .ok (.string ⟨#[1, 1]⟩) w8 := run_conv w8 _ A8 2 c8 [1, 1] hw8.rd
  go_wp2_with fail
  go_ret
  exact ⟨rfl, k8⟩
end Go.Proofs.Ytibhppjcochkgaa
