/- Refusals of tables, by the program and by the document's own answer; rows that are the same. -/
import Derived.Test.YtknlhhbkahollaaLen
import Derived.Test.YtknlhhbkahollaaRdeep
namespace Go.Proofs.Ytknlhhbkahollaa
open Go.RowKit Tab
set_option linter.unusedSimpArgs false
set_option linter.unusedVariables false

theorem whole_size {l : List Nd} (h : wholeB l = true) : 0 < l.length ∧ size l 0 = l.length := by
  unfold wholeB at h
  simp only [Bool.and_eq_true, decide_eq_true_eq] at h
  exact h
theorem not_whole {l : List Nd} (h : wholeB l = false) (h0 : 0 < l.length) : ¬ size l 0 = l.length := fun h1 => by
  unfold wholeB at h
  rw [decide_eq_true h0, decide_eq_true h1] at h
  cases h
set_option maxHeartbeats 400000 in
theorem rDepth_none (A : Option Addr) (n cap : Nat) (l : List Nd) (w : World) (h : RdN w w.heap.size A n l) (hc : n ≤ cap) (hn : n ≤ 1048576) (hw : wholeB l = false) :
    Calls Try.prog 52 #[.slice A n cap] w (Ans (.int .i64 (0 : Nat)) w) := by
  by_cases h0 : 0 < n
  · have hs := not_whole hw (by rw [h.len]; exact h0)
    rw [h.len] at hs
    generalize hS : size l 0 = S at hs
    have HS := Lib.hid hS
    have hs' : ((S : Int) == (n : Int)) = false := beq_eq_false_iff_ne.2 (by omega)
    have hn0 : ((n : Int) == 0) = false := beq_eq_false_iff_ne.2 (by omega)
    clear hS hs hw
    go_enter Try.func52, Try.ntmps52
    go_wp2_with fail
    refine (rsize_any A n cap l 0 w h hc (by omega)).mono ?_
    rw [HS.out]
    rintro e w1 ⟨rfl, hb1⟩
    go_wp2_with fail
    all_goals
      go_ret
      exact Ans.mk rfl hb1
  · have hn0 : ((n : Int) == 0) = true := beq_iff_eq.2 (by omega)
    clear hw
    go_enter Try.func52, Try.ntmps52
    go_wp2_with fail
    go_ret
    exact Ans.mk rfl (Below.refl _ _)
set_option maxHeartbeats 400000 in
theorem rDepth_tree (A : Option Addr) (n cap : Nat) (l : List Nd) (x0 : Nd) (k0 : F) (w : World) (h : RdN w w.heap.size A n l) (hc : n ≤ cap) (hn : n ≤ 1048576) (hok : (F.cons x0 k0 .nil).ok) (hl : l = x0 :: k0.flat) :
    Calls Try.prog 52 #[.slice A n cap] w (Ans (.int .i64 (k0.dep + 1 : Nat)) w) := by
  have hw : wholeB l = true := by rw [hl]; exact tree_whole hok
  obtain ⟨h0, hs⟩ := whole_size hw
  rw [h.len] at h0 hs
  have HS := Lib.hid hs
  have hd : l.drop 0 = (F.cons x0 k0 .nil).flat ++ [] := by rw [hl]; simp [F.flat]
  have hR := fun w (h : RdN w w.heap.size A n l) => rdepth_any A n cap l hc (by omega) (k0.sz + 1) 0 x0 k0 .nil [] w (by omega) h hok hd
  have HR := Lib.hid hR
  have hn0 : ((n : Int) == 0) = false := beq_eq_false_iff_ne.2 (by omega)
  clear hs hw hR hd hl hok
  go_enter Try.func52, Try.ntmps52
  go_wp2_with fail
  refine (rsize_any A n cap l 0 w h hc (by omega)).mono ?_
  rw [HS.out]
  rintro e w1 ⟨rfl, hb1⟩
  go_wp2_with fail
  refine (HR.out w1 (h.on hb1)).mono ?_
  rintro e w2 ⟨rfl, hb2⟩
  go_wp2_with fail
  go_ret
  exact Ans.mk rfl (hb1.trans (hb2.mono hb1.size))
set_option maxHeartbeats 400000 in
theorem rLength_none (A : Option Addr) (n cap : Nat) (l : List Nd) (w : World) (h : RdN w w.heap.size A n l) (hc : n ≤ cap) (hn : n ≤ 1048576) (hw : wholeB l = false) :
    Calls Try.prog 53 #[.slice A n cap] w (Len 4097 w) := by
  have HW := Lib.hid hw
  clear hw
  go_enter Try.func53, Try.ntmps53
  go_wp2_with fail
  refine (rDepth_none A n cap l w h hc hn HW.out).mono ?_
  rintro e w1 ⟨rfl, hb1⟩
  go_wp2_with fail
  go_ret2
  exact Len.mk rfl rfl hb1
set_option maxHeartbeats 400000 in
theorem rLength_tree (A : Option Addr) (n cap : Nat) (l : List Nd) (x0 : Nd) (k0 : F) (w : World) (h : RdN w w.heap.size A n l) (hc : n ≤ cap) (hn : n ≤ 1048576) (hok : (F.cons x0 k0 .nil).ok) (hl : l = x0 :: k0.flat) :
    Calls Try.prog 53 #[.slice A n cap] w (Len (F.tick x0 k0.len) w) := by
  have hD := fun w (h : RdN w w.heap.size A n l) => rDepth_tree A n cap l x0 k0 w h hc hn hok hl
  have hd : l.drop 0 = (F.cons x0 k0 .nil).flat ++ [] := by rw [hl]; simp [F.flat]
  have hR := fun w (h : RdN w w.heap.size A n l) => rlength_any A n cap l hc (by omega) (k0.sz + 1) 0 x0 k0 .nil [] w (by omega) h hok hd
  have HD := Lib.hid hD
  have HR := Lib.hid hR
  clear hD hR hd hl hok
  have hd0 : (((k0.dep + 1 : Nat) : Int) == 0) = false := beq_eq_false_iff_ne.2 (by omega)
  generalize k0.dep + 1 = D at HD hd0
  generalize F.tick x0 k0.len = T at HR ⊢
  generalize hHd : hl4 T = H at HR
  have hh : H = min T 4097 := by rw [← hHd]; rfl
  clear hHd
  by_cases hT : T ≤ 4096
  · obtain rfl : H = T := by omega
    clear hh
    go_enter Try.func53, Try.ntmps53
    go_wp2_with fail
    refine (HD.out w h).mono ?_
    rintro e w1 ⟨rfl, hb1⟩
    go_wp2_with fail
    refine (HR.out w1 (h.on hb1)).mono ?_
    rintro e w2 ⟨rfl, hb2⟩
    go_wp2_with fail
    go_ret2
    exact Len.mk (by unfold lv; rw [if_pos hT]) (by unfold lb; exact decide_eq_true hT) (hb1.trans (hb2.mono hb1.size))
  · obtain rfl : H = 4097 := by omega
    clear hh
    go_enter Try.func53, Try.ntmps53
    go_wp2_with fail
    refine (HD.out w h).mono ?_
    rintro e w1 ⟨rfl, hb1⟩
    go_wp2_with fail
    refine (HR.out w1 (h.on hb1)).mono ?_
    rintro e w2 ⟨rfl, hb2⟩
    go_wp2_with fail
    go_ret2
    exact Len.mk (by unfold lv; rw [if_neg hT]) (by unfold lb; exact decide_eq_false hT) (hb1.trans (hb2.mono hb1.size))
/-- The refusal of a table of n nodes, so deep, with so many ticks. -/
def rt (n D T : Nat) : Int := if 128 < n then 3 else if 16 < D then 14 else if 4096 < T then 18 else 0
/-- Of what is none. -/
def rn (n : Nat) : Int := if 128 < n then 3 else 12
set_option maxHeartbeats 400000 in
theorem rright_none (A : Option Addr) (n cap : Nat) (l : List Nd) (w : World) (h : RdN w w.heap.size A n l) (hc : n ≤ cap) (hn : n ≤ 1048576) (hw : wholeB l = false) :
    Calls Try.prog 46 #[.slice A n cap] w (Ans (.int .i64 (rn n)) w) := by
  have HW := Lib.hid hw
  clear hw
  by_cases h1 : 128 < n
  · have HE : Hid (rn n = 3) := Lib.hid (if_pos h1)
    have h1' : (128 : Int) < (n : Int) := by omega
    go_enter Try.func46, Try.ntmps46
    go_wp2_with fail
    go_ret
    exact Ans.mk (by rw [HE.out]; rfl) (Below.refl _ _)
  · have HE : Hid (rn n = 12) := Lib.hid (if_neg h1)
    have h1' : ¬ (128 : Int) < (n : Int) := by omega
    go_enter Try.func46, Try.ntmps46
    go_wp2_with fail
    refine (rDepth_none A n cap l w h hc hn HW.out).mono ?_
    rintro e w1 ⟨rfl, hb1⟩
    go_wp2_with fail
    go_ret
    exact Ans.mk (by rw [HE.out]; rfl) hb1
set_option maxHeartbeats 800000 in
theorem rright_tree (A : Option Addr) (n cap : Nat) (l : List Nd) (x0 : Nd) (k0 : F) (w : World) (h : RdN w w.heap.size A n l) (hc : n ≤ cap) (hn : n ≤ 1048576) (hok : (F.cons x0 k0 .nil).ok) (hl : l = x0 :: k0.flat) :
    Calls Try.prog 46 #[.slice A n cap] w (Ans (.int .i64 (rt n (k0.dep + 1) (F.tick x0 k0.len))) w) := by
  have hwh : wholeB l = true := by rw [hl]; exact tree_whole hok
  have HWH := Lib.hid hwh
  have HD := Lib.hid fun w (h : RdN w w.heap.size A n l) => rDepth_tree A n cap l x0 k0 w h hc hn hok hl
  have HL := Lib.hid fun w (h : RdN w w.heap.size A n l) => rLength_tree A n cap l x0 k0 w h hc hn hok hl
  clear hwh hok hl
  have hd0 : (((k0.dep + 1 : Nat) : Int) == 0) = false := beq_eq_false_iff_ne.2 (by omega)
  generalize k0.dep + 1 = D at HD hd0 ⊢
  generalize F.tick x0 k0.len = T at HL ⊢
  by_cases h1 : 128 < n
  · have HE : Hid (rt n D T = 3) := Lib.hid (if_pos h1)
    have h1' : (128 : Int) < (n : Int) := by omega
    go_enter Try.func46, Try.ntmps46
    go_wp2_with fail
    go_ret
    exact Ans.mk (by rw [HE.out]; rfl) (Below.refl _ _)
  have h1' : ¬ (128 : Int) < (n : Int) := by omega
  by_cases h2 : 16 < D
  · have HE : Hid (rt n D T = 14) := Lib.hid (by unfold rt; rw [if_neg h1, if_pos h2])
    have h2' : (16 : Int) < (D : Int) := by omega
    go_enter Try.func46, Try.ntmps46
    go_wp2_with fail
    refine (HD.out w h).mono ?_
    rintro e w1 ⟨rfl, hb1⟩
    go_wp2_with fail
    refine (HD.out w1 (h.on hb1)).mono ?_
    rintro e w2 ⟨rfl, hb2⟩
    have k2 := hb1.trans (hb2.mono hb1.size)
    go_wp2_with fail
    go_ret
    exact Ans.mk (by rw [HE.out]; rfl) k2
  have h2' : ¬ (16 : Int) < (D : Int) := by omega
  by_cases h3 : 4096 < T
  · have HE : Hid (rt n D T = 18) := Lib.hid (by unfold rt; rw [if_neg h1, if_neg h2, if_pos h3])
    have hB : lb T = false := by unfold lb; exact decide_eq_false (by omega)
    have HB := Lib.hid hB
    clear hB
    go_enter Try.func46, Try.ntmps46
    go_wp2_with fail
    refine (HD.out w h).mono ?_
    rintro e w1 ⟨rfl, hb1⟩
    go_wp2_with fail
    refine (HD.out w1 (h.on hb1)).mono ?_
    rintro e w2 ⟨rfl, hb2⟩
    have k2 := hb1.trans (hb2.mono hb1.size)
    go_wp2_with fail
    refine (HL.out w2 (h.on k2)).mono ?_
    unfold Len
    rw [HB.out]
    rintro e w3 ⟨rfl, hb3⟩
    have k3 := k2.trans (hb3.mono k2.size)
    go_wp2_with fail
    go_ret
    exact Ans.mk (by rw [HE.out]; rfl) k3
  · have HE : Hid (rt n D T = 0) := Lib.hid (by unfold rt; rw [if_neg h1, if_neg h2, if_neg h3])
    have hB : lb T = true := by unfold lb; exact decide_eq_true (by omega)
    have HB := Lib.hid hB
    clear hB
    go_enter Try.func46, Try.ntmps46
    go_wp2_with fail
    refine (HD.out w h).mono ?_
    rintro e w1 ⟨rfl, hb1⟩
    go_wp2_with fail
    refine (HD.out w1 (h.on hb1)).mono ?_
    rintro e w2 ⟨rfl, hb2⟩
    have k2 := hb1.trans (hb2.mono hb1.size)
    go_wp2_with fail
    refine (HL.out w2 (h.on k2)).mono ?_
    unfold Len
    rw [HB.out]
    rintro e w3 ⟨rfl, hb3⟩
    have k3 := k2.trans (hb3.mono k2.size)
    go_wp2_with fail
    go_ret
    exact Ans.mk (by rw [HE.out]; rfl) k3
end Go.Proofs.Ytknlhhbkahollaa
