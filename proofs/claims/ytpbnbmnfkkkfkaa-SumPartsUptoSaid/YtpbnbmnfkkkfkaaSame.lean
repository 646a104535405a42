/- The program's sums against the document's: alike for any bytes, whatever the memory. -/
import Derived.Test.YtpbnbmnfkkkfkaaKnown
namespace Go.Proofs.Ytpbnbmnfkkkfkaa
open Go.RowKit
set_option linter.unusedSimpArgs false
set_option linter.unusedVariables false

/-- What each operation of the comparison yields. -/
def SameV (A : Option Addr) (n cap : Nat) (l : List UInt8) (c : BitVec 32) (x : UInt8) (A1 : Option Addr) (c1 : Nat) (A2 : Option Addr) (c2 : Nat) (j : Nat) (v : Value) (w : World) : Prop :=
  match j with
  | 0 => v = .slice A n cap
  | 1 => v = .int .u32 ((Crc.of l).toNat : Int)
  | 2 => v = .slice A n cap
  | 3 => v = .int .u32 ((Crc.of l).toNat : Int)
  | 4 => v = .bool true
  | 5 => v = .bool true
  | 6 => v = .int .u32 (c.toNat : Int)
  | 7 => v = .int .u8 (x.toNat : Int)
  | 8 => v = .int .u32 ((Crc.nxt c x).toNat : Int)
  | 9 => v = .int .u32 (c.toNat : Int)
  | 10 => v = .int .u8 (x.toNat : Int)
  | 11 => v = .int .u32 ((Crc.nxt c x).toNat : Int)
  | 12 => v = .bool true
  | 13 => v = .bool true
  | 14 => v = .bool true
  | 15 => v = .slice A n cap
  | 16 => ∃ A c, v = .slice A (n + 4) c ∧ Rd w w.heap.size A (n + 4) (Crc.seal4 l)
  | 17 => v = .string (str (Crc.seal4 l))
  | 18 => v = .slice A n cap
  | 19 => ∃ A c, v = .slice A (n + 4) c ∧ Rd w w.heap.size A (n + 4) (Crc.seal4 l)
  | 20 => v = .string (str (Crc.seal4 l))
  | 21 => v = .bool true
  | 22 => v = .bool true
  | 23 => v = .bool true
  | 24 => v = .slice A1 (Crc.oval l).length c1
  | 25 => v = .string (str (Crc.oval l))
  | 26 => v = .slice A2 (Crc.oval l).length c2
  | 27 => v = .string (str (Crc.oval l))
  | 28 => v = .bool true
  | 29 => v = .bool true
  | 30 => v = .bool true
  | 31 => v = .bool (Crc.ook l)
  | 32 => v = .bool (Crc.ook l)
  | 33 => v = .bool true
  | 34 => v = .bool true
  | 35 => v = .bool true
  | _ => True
theorem SameV.keep {A : Option Addr} {n cap : Nat} {l : List UInt8} {c : BitVec 32} {x : UInt8} {A1 : Option Addr} {c1 : Nat} {A2 : Option Addr} {c2 : Nat} {w w' : World} (hb : Below w.heap.size w w') (j : Nat) (v : Value) (h : SameV A n cap l c x A1 c1 A2 c2 j v w) : SameV A n cap l c x A1 c1 A2 c2 j v w' := by
  unfold SameV at h ⊢
  split at h <;> first | exact h | skip
  all_goals
    obtain ⟨A3, c3, e, hr⟩ := h
    exact ⟨A3, c3, e, (hr.below hb).more hb.size⟩

set_option maxRecDepth 100000 in
set_option maxHeartbeats 4000000 in
theorem same_any (A : Option Addr) (n cap : Nat) (l : List UInt8) (c : BitVec 32) (x : UInt8) (w : World) (h0 : Rd w w.heap.size A n l) (hn : n ≤ 140737488355000) (hcap : n ≤ cap) :
    Calls Try.prog 9 #[.slice A n cap, .int .u32 (c.toNat : Int), .int .u8 (x.toNat : Int)] w (Yes w) := by
  go_enter Try.func9, Try.ntmps9
  go_wp2_with fail
  refine (open_any A n cap l w h0 (by omega) hcap).mono ?_
  rintro e w1 ⟨A1, c1, rfl, hw1, hb1⟩
  go_wp2_with fail
  refine (ropen_any A n cap l w1 ((h0.below hb1).more hb1.size) hn hcap).mono ?_
  rintro e w2 ⟨A2, c2, rfl, hw2, hb2⟩
  go_wp2_with fail
  have h : Rd w2 w2.heap.size A n l := (((h0.below hb1).more hb1.size).below hb2).more hb2.size
  have hp : Rd w2 w2.heap.size A1 (Crc.oval l).length (Crc.oval l) := (hw1.rd.below hb2).more hb2.size
  have hq : Rd w2 w2.heap.size A2 (Crc.oval l).length (Crc.oval l) := hw2.rd
  refine Reg.region (by kernel_rfl) (by kernel_rfl) (SameV A n cap l c x A1 c1 A2 c2) (fun w' => Below w2.heap.size w2 w') ((Below.refl _ _).drew) (Reg.steps_of ?_) ?_
  · refine ⟨?_, ?_, ?_, ?_, ?_, ?_, ?_, ?_, ?_, ?_, ?_, ?_, ?_, ?_, ?_, ?_, ?_, ?_, ?_, ?_, ?_, ?_, ?_, ?_, ?_, ?_, ?_, ?_, ?_, ?_, ?_, ?_, ?_, ?_, ?_, ?_, trivial⟩
    · intro a w1 E D hW
      have e0 : a.eval (.tmp 0) = .slice A n cap := E 0 rfl
      exact Reg.val rfl (Reg.wanted_free rfl) hW (.slice A n cap) (by have c := Reg.consts a; generalize a.eval = ρ at *; simp [go_sem, c.1, c.2, e0]) rfl
    · intro a w1 E D hW
      have d0 : a.eval (.tmp 21) = .slice A n cap := D 0 rfl
      refine Reg.call rfl (Reg.wanted_free rfl) 14 #[.slice A n cap] (by have c := Reg.consts a; generalize a.eval = ρ at *; simp [go_sem, c.1, c.2, d0]) ?_
      refine (of_any _ _ _ _ _ _ (h.below hW) (by omega)).mono ?_
      rintro e w2 ⟨rfl, rfl⟩
      exact ⟨_, rfl, rfl, hW, fun _ _ h => h⟩
    · intro a w1 E D hW
      have e0 : a.eval (.tmp 0) = .slice A n cap := E 0 rfl
      exact Reg.val rfl (Reg.wanted_free rfl) hW (.slice A n cap) (by have c := Reg.consts a; generalize a.eval = ρ at *; simp [go_sem, c.1, c.2, e0]) rfl
    · intro a w1 E D hW
      have d2 : a.eval (.tmp 23) = .slice A n cap := D 2 rfl
      refine Reg.call rfl (Reg.wanted_free rfl) 16 #[.slice A n cap] (by have c := Reg.consts a; generalize a.eval = ρ at *; simp [go_sem, c.1, c.2, d2]) ?_
      refine (rsum_any _ _ _ _ _ _ (h.below hW) (by omega)).mono ?_
      rintro e w2 ⟨rfl, rfl⟩
      exact ⟨_, rfl, rfl, hW, fun _ _ h => h⟩
    · intro a w1 E D hW
      have d1 : a.eval (.tmp 22) = .int .u32 ((Crc.of l).toNat : Int) := D 1 rfl
      have d3 : a.eval (.tmp 24) = .int .u32 ((Crc.of l).toNat : Int) := D 3 rfl
      exact Reg.val rfl (Reg.wanted_free rfl) hW (.bool true) (by have c := Reg.consts a; generalize a.eval = ρ at *; simp [go_sem, c.1, c.2, d1, d3]) rfl
    · intro a w1 E D hW
      have d4 : a.eval (.tmp 25) = .bool true := D 4 rfl
      exact Reg.val rfl (Reg.wanted_free rfl) hW (.bool true) (by have c := Reg.consts a; generalize a.eval = ρ at *; simp [go_sem, c.1, c.2, d4]) rfl
    · intro a w1 E D hW
      have e1 : a.eval (.tmp 1) = .int .u32 (c.toNat : Int) := E 1 rfl
      have g : a.eval (.tmp 26) = .bool true := D 5 rfl
      exact Reg.val rfl (Reg.wanted_if rfl rfl g rfl) hW (.int .u32 (c.toNat : Int)) (by have c := Reg.consts a; generalize a.eval = ρ at *; simp [go_sem, c.1, c.2, e1]) rfl
    · intro a w1 E D hW
      have e2 : a.eval (.tmp 2) = .int .u8 (x.toNat : Int) := E 2 rfl
      have g : a.eval (.tmp 26) = .bool true := D 5 rfl
      exact Reg.val rfl (Reg.wanted_if rfl rfl g rfl) hW (.int .u8 (x.toNat : Int)) (by have c := Reg.consts a; generalize a.eval = ρ at *; simp [go_sem, c.1, c.2, e2]) rfl
    · intro a w1 E D hW
      have d6 : a.eval (.tmp 27) = .int .u32 (c.toNat : Int) := D 6 rfl
      have d7 : a.eval (.tmp 28) = .int .u8 (x.toNat : Int) := D 7 rfl
      have g : a.eval (.tmp 26) = .bool true := D 5 rfl
      refine Reg.call rfl (Reg.wanted_if rfl rfl g rfl) 15 #[.int .u32 (c.toNat : Int), .int .u8 (x.toNat : Int)] (by have c := Reg.consts a; generalize a.eval = ρ at *; simp [go_sem, c.1, c.2, d6, d7]) ?_
      refine (next_any _ _ _).mono ?_
      rintro e w2 ⟨rfl, rfl⟩
      exact ⟨_, rfl, rfl, hW, fun _ _ h => h⟩
    · intro a w1 E D hW
      have e1 : a.eval (.tmp 1) = .int .u32 (c.toNat : Int) := E 1 rfl
      have g : a.eval (.tmp 26) = .bool true := D 5 rfl
      exact Reg.val rfl (Reg.wanted_if rfl rfl g rfl) hW (.int .u32 (c.toNat : Int)) (by have c := Reg.consts a; generalize a.eval = ρ at *; simp [go_sem, c.1, c.2, e1]) rfl
    · intro a w1 E D hW
      have e2 : a.eval (.tmp 2) = .int .u8 (x.toNat : Int) := E 2 rfl
      have g : a.eval (.tmp 26) = .bool true := D 5 rfl
      exact Reg.val rfl (Reg.wanted_if rfl rfl g rfl) hW (.int .u8 (x.toNat : Int)) (by have c := Reg.consts a; generalize a.eval = ρ at *; simp [go_sem, c.1, c.2, e2]) rfl
    · intro a w1 E D hW
      have d9 : a.eval (.tmp 30) = .int .u32 (c.toNat : Int) := D 9 rfl
      have d10 : a.eval (.tmp 31) = .int .u8 (x.toNat : Int) := D 10 rfl
      have g : a.eval (.tmp 26) = .bool true := D 5 rfl
      refine Reg.call rfl (Reg.wanted_if rfl rfl g rfl) 18 #[.int .u32 (c.toNat : Int), .int .u8 (x.toNat : Int)] (by have c := Reg.consts a; generalize a.eval = ρ at *; simp [go_sem, c.1, c.2, d9, d10]) ?_
      refine (rnext_any _ _ _).mono ?_
      rintro e w2 ⟨rfl, rfl⟩
      exact ⟨_, rfl, rfl, hW, fun _ _ h => h⟩
    · intro a w1 E D hW
      have d8 : a.eval (.tmp 29) = .int .u32 ((Crc.nxt c x).toNat : Int) := D 8 rfl
      have d11 : a.eval (.tmp 32) = .int .u32 ((Crc.nxt c x).toNat : Int) := D 11 rfl
      have g : a.eval (.tmp 26) = .bool true := D 5 rfl
      exact Reg.val rfl (Reg.wanted_if rfl rfl g rfl) hW (.bool true) (by have c := Reg.consts a; generalize a.eval = ρ at *; simp [go_sem, c.1, c.2, d8, d11]) rfl
    · intro a w1 E D hW
      have d5 : a.eval (.tmp 26) = .bool true := D 5 rfl
      have d12 : a.eval (.tmp 33) = .bool true := D 12 rfl
      exact Reg.val rfl (Reg.wanted_free rfl) hW (.bool true) (by have c := Reg.consts a; generalize a.eval = ρ at *; simp [go_sem, c.1, c.2, d5, d12]) rfl
    · intro a w1 E D hW
      have d13 : a.eval (.tmp 34) = .bool true := D 13 rfl
      exact Reg.val rfl (Reg.wanted_free rfl) hW (.bool true) (by have c := Reg.consts a; generalize a.eval = ρ at *; simp [go_sem, c.1, c.2, d13]) rfl
    · intro a w1 E D hW
      have e0 : a.eval (.tmp 0) = .slice A n cap := E 0 rfl
      have g : a.eval (.tmp 35) = .bool true := D 14 rfl
      exact Reg.val rfl (Reg.wanted_if rfl rfl g rfl) hW (.slice A n cap) (by have c := Reg.consts a; generalize a.eval = ρ at *; simp [go_sem, c.1, c.2, e0]) rfl
    · intro a w1 E D hW
      have d15 : a.eval (.tmp 36) = .slice A n cap := D 15 rfl
      have g : a.eval (.tmp 35) = .bool true := D 14 rfl
      refine Reg.call rfl (Reg.wanted_if rfl rfl g rfl) 12 #[.slice A n cap] (by have c := Reg.consts a; generalize a.eval = ρ at *; simp [go_sem, c.1, c.2, d15]) ?_
      refine (seal_any A n cap l w1 ((h.below hW).more hW.size) hn).mono ?_
      rintro e w2 ⟨A3, c3, rfl, hw2, hb2⟩
      exact ⟨_, rfl, ⟨A3, c3, rfl, hw2.rd⟩, hW.trans (hb2.mono hW.size), SameV.keep hb2⟩
    · intro a w1 E D hW
      obtain ⟨A3, c3, d, hr⟩ : ∃ A c, a.eval (.tmp 37) = .slice A (n + 4) c ∧ Rd w1 w1.heap.size A (n + 4) (Crc.seal4 l) := D 16 rfl
      have q := run_conv w1 _ _ _ c3 _ hr
      have g : a.eval (.tmp 35) = .bool true := D 14 rfl
      exact Reg.val rfl (Reg.wanted_if rfl rfl g rfl) hW (.string (str (Crc.seal4 l))) (by have c := Reg.consts a; generalize a.eval = ρ at *; simp [go_sem, c.1, c.2, d, q]) rfl
    · intro a w1 E D hW
      have e0 : a.eval (.tmp 0) = .slice A n cap := E 0 rfl
      have g : a.eval (.tmp 35) = .bool true := D 14 rfl
      exact Reg.val rfl (Reg.wanted_if rfl rfl g rfl) hW (.slice A n cap) (by have c := Reg.consts a; generalize a.eval = ρ at *; simp [go_sem, c.1, c.2, e0]) rfl
    · intro a w1 E D hW
      have d18 : a.eval (.tmp 39) = .slice A n cap := D 18 rfl
      have g : a.eval (.tmp 35) = .bool true := D 14 rfl
      refine Reg.call rfl (Reg.wanted_if rfl rfl g rfl) 8 #[.slice A n cap] (by have c := Reg.consts a; generalize a.eval = ρ at *; simp [go_sem, c.1, c.2, d18]) ?_
      refine (rseal_any A n cap l w1 ((h.below hW).more hW.size) hn).mono ?_
      rintro e w2 ⟨A3, c3, rfl, hw2, hb2⟩
      exact ⟨_, rfl, ⟨A3, c3, rfl, hw2.rd⟩, hW.trans (hb2.mono hW.size), SameV.keep hb2⟩
    · intro a w1 E D hW
      obtain ⟨A3, c3, d, hr⟩ : ∃ A c, a.eval (.tmp 40) = .slice A (n + 4) c ∧ Rd w1 w1.heap.size A (n + 4) (Crc.seal4 l) := D 19 rfl
      have q := run_conv w1 _ _ _ c3 _ hr
      have g : a.eval (.tmp 35) = .bool true := D 14 rfl
      exact Reg.val rfl (Reg.wanted_if rfl rfl g rfl) hW (.string (str (Crc.seal4 l))) (by have c := Reg.consts a; generalize a.eval = ρ at *; simp [go_sem, c.1, c.2, d, q]) rfl
    · intro a w1 E D hW
      have d17 : a.eval (.tmp 38) = .string (str (Crc.seal4 l)) := D 17 rfl
      have d20 : a.eval (.tmp 41) = .string (str (Crc.seal4 l)) := D 20 rfl
      have g : a.eval (.tmp 35) = .bool true := D 14 rfl
      exact Reg.val rfl (Reg.wanted_if rfl rfl g rfl) hW (.bool true) (by have c := Reg.consts a; generalize a.eval = ρ at *; simp [go_sem, c.1, c.2, d17, d20]) rfl
    · intro a w1 E D hW
      have d14 : a.eval (.tmp 35) = .bool true := D 14 rfl
      have d21 : a.eval (.tmp 42) = .bool true := D 21 rfl
      exact Reg.val rfl (Reg.wanted_free rfl) hW (.bool true) (by have c := Reg.consts a; generalize a.eval = ρ at *; simp [go_sem, c.1, c.2, d14, d21]) rfl
    · intro a w1 E D hW
      have d22 : a.eval (.tmp 43) = .bool true := D 22 rfl
      exact Reg.val rfl (Reg.wanted_free rfl) hW (.bool true) (by have c := Reg.consts a; generalize a.eval = ρ at *; simp [go_sem, c.1, c.2, d22]) rfl
    · intro a w1 E D hW
      have e7 : a.eval (.tmp 7) = .slice A1 (Crc.oval l).length c1 := E 7 rfl
      have g : a.eval (.tmp 44) = .bool true := D 23 rfl
      exact Reg.val rfl (Reg.wanted_if rfl rfl g rfl) hW (.slice A1 (Crc.oval l).length c1) (by have c := Reg.consts a; generalize a.eval = ρ at *; simp [go_sem, c.1, c.2, e7]) rfl
    · intro a w1 E D hW
      have d24 : a.eval (.tmp 45) = .slice A1 (Crc.oval l).length c1 := D 24 rfl
      have q := run_conv w1 _ _ _ c1 _ (hp.below hW)
      have g : a.eval (.tmp 44) = .bool true := D 23 rfl
      exact Reg.val rfl (Reg.wanted_if rfl rfl g rfl) hW (.string (str (Crc.oval l))) (by have c := Reg.consts a; generalize a.eval = ρ at *; simp [go_sem, c.1, c.2, d24, q]) rfl
    · intro a w1 E D hW
      have e9 : a.eval (.tmp 9) = .slice A2 (Crc.oval l).length c2 := E 9 rfl
      have g : a.eval (.tmp 44) = .bool true := D 23 rfl
      exact Reg.val rfl (Reg.wanted_if rfl rfl g rfl) hW (.slice A2 (Crc.oval l).length c2) (by have c := Reg.consts a; generalize a.eval = ρ at *; simp [go_sem, c.1, c.2, e9]) rfl
    · intro a w1 E D hW
      have d26 : a.eval (.tmp 47) = .slice A2 (Crc.oval l).length c2 := D 26 rfl
      have q := run_conv w1 _ _ _ c2 _ (hq.below hW)
      have g : a.eval (.tmp 44) = .bool true := D 23 rfl
      exact Reg.val rfl (Reg.wanted_if rfl rfl g rfl) hW (.string (str (Crc.oval l))) (by have c := Reg.consts a; generalize a.eval = ρ at *; simp [go_sem, c.1, c.2, d26, q]) rfl
    · intro a w1 E D hW
      have d25 : a.eval (.tmp 46) = .string (str (Crc.oval l)) := D 25 rfl
      have d27 : a.eval (.tmp 48) = .string (str (Crc.oval l)) := D 27 rfl
      have g : a.eval (.tmp 44) = .bool true := D 23 rfl
      exact Reg.val rfl (Reg.wanted_if rfl rfl g rfl) hW (.bool true) (by have c := Reg.consts a; generalize a.eval = ρ at *; simp [go_sem, c.1, c.2, d25, d27]) rfl
    · intro a w1 E D hW
      have d23 : a.eval (.tmp 44) = .bool true := D 23 rfl
      have d28 : a.eval (.tmp 49) = .bool true := D 28 rfl
      exact Reg.val rfl (Reg.wanted_free rfl) hW (.bool true) (by have c := Reg.consts a; generalize a.eval = ρ at *; simp [go_sem, c.1, c.2, d23, d28]) rfl
    · intro a w1 E D hW
      have d29 : a.eval (.tmp 50) = .bool true := D 29 rfl
      exact Reg.val rfl (Reg.wanted_free rfl) hW (.bool true) (by have c := Reg.consts a; generalize a.eval = ρ at *; simp [go_sem, c.1, c.2, d29]) rfl
    · intro a w1 E D hW
      have e8 : a.eval (.tmp 8) = .bool (Crc.ook l) := E 8 rfl
      have g : a.eval (.tmp 51) = .bool true := D 30 rfl
      exact Reg.val rfl (Reg.wanted_if rfl rfl g rfl) hW (.bool (Crc.ook l)) (by have c := Reg.consts a; generalize a.eval = ρ at *; simp [go_sem, c.1, c.2, e8]) rfl
    · intro a w1 E D hW
      have e10 : a.eval (.tmp 10) = .bool (Crc.ook l) := E 10 rfl
      have g : a.eval (.tmp 51) = .bool true := D 30 rfl
      exact Reg.val rfl (Reg.wanted_if rfl rfl g rfl) hW (.bool (Crc.ook l)) (by have c := Reg.consts a; generalize a.eval = ρ at *; simp [go_sem, c.1, c.2, e10]) rfl
    · intro a w1 E D hW
      have d31 : a.eval (.tmp 52) = .bool (Crc.ook l) := D 31 rfl
      have d32 : a.eval (.tmp 53) = .bool (Crc.ook l) := D 32 rfl
      have g : a.eval (.tmp 51) = .bool true := D 30 rfl
      exact Reg.val rfl (Reg.wanted_if rfl rfl g rfl) hW (.bool true) (by have c := Reg.consts a; generalize a.eval = ρ at *; simp [go_sem, c.1, c.2, d31, d32]) rfl
    · intro a w1 E D hW
      have d30 : a.eval (.tmp 51) = .bool true := D 30 rfl
      have d33 : a.eval (.tmp 54) = .bool true := D 33 rfl
      exact Reg.val rfl (Reg.wanted_free rfl) hW (.bool true) (by have c := Reg.consts a; generalize a.eval = ρ at *; simp [go_sem, c.1, c.2, d30, d33]) rfl
    · intro a w1 E D hW
      have d34 : a.eval (.tmp 55) = .bool true := D 34 rfl
      exact Reg.val rfl (Reg.wanted_free rfl) hW (.bool true) (by have c := Reg.consts a; generalize a.eval = ρ at *; simp [go_sem, c.1, c.2, d34]) rfl
  · intro a w3 hs hd E D hb3
    have d35 : a.eval (.tmp 6) = .bool true := D 35 (by decide)
    rw [Reg.act_lit a 56 hs, hd]
    simp only [List.range, List.range.loop, List.map, d35]
    clear E d35
    generalize a.eval = ρ
    clear a hs hd D
    go_wp2
    go_ret
    exact ⟨rfl, (hb1.trans (hb2.mono hb1.size)).trans (hb3.mono (hb1.trans (hb2.mono hb1.size)).size)⟩
end Go.Proofs.Ytpbnbmnfkkkfkaa
