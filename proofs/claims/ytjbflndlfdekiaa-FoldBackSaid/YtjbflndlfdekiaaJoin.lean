/- Items as one table; so many times a table. -/
import Derived.Test.YtjbflndlfdekiaaCat
namespace Go.Proofs.Ytjbflndlfdekiaa
open Go.RowKit Tab
set_option linter.unusedSimpArgs false
set_option linter.unusedVariables false

set_option maxRecDepth 100000 in
set_option maxHeartbeats 1600000 in
theorem times1_any (k : Nat) (A : Option Addr) (n cap : Nat) (l : List Nd) (w : World) (hk : k ≤ 1048576) (h : RdN w w.heap.size A n l) (hc : n ≤ cap) (hn : n ≤ 1048576) :
    Calls Try.prog 24 #[.int .i64 (k : Int), .slice A n cap] w (Nods (⟨4, 0, (k : Int)⟩ :: l) w) := by
  have hbl := bl1 w (.cells #[.int .i64 4, .int .i64 0, .int .i64 (k : Int)] 53)
  have hin : NdIn ⟨4, 0, (k : Int)⟩ := ndIn_mk (by omega) (by omega) (by omega)
  have ql := OwnN.lit w w.heap.size #[.int .i64 4, .int .i64 0, .int .i64 (k : Int)] [⟨4, 0, (k : Int)⟩] 1 rfl rfl (Nat.le_refl _) (by omega) (by intro x hx; simp at hx; subst hx; exact hin)
  have qo := ql.own
  have hrd := h.on hbl
  have hrv := hrd.rd
  have HL := Lib.hid h.len
  have HB := Lib.hid h.bd
  have HIN := Lib.hid hin
  clear hin ql hrd
  go_enter Try.func24, Try.ntmps24
  go_wp2_with (at_builtin; go_loud (refine wpList_appV elN rfl (.tmp 9) (.tmp 10) rfl rfl w.heap.size _ 1 1 _ rfl qo A n cap _ _ rfl hrv (by rw [ns_length, HL.out]) (ns_one _) (by omega) (by unfold maxLen; omega) hbl.size (1 + n) rfl (ns (⟨4, 0, (k : Int)⟩ :: l)) rfl ?_; intro A3 c3 w3 hw3 hb3 _))
  go_ret
  refine ⟨A3, 1 + n, c3, rfl, ⟨by rw [List.length_cons, HL.out]; omega, hw3, fun y hy => ?_⟩, hbl.trans hb3⟩
  rcases List.mem_cons.1 hy with rfl | hy
  · exact HIN.out
  · exact HB.out y hy
set_option maxRecDepth 100000 in
set_option maxHeartbeats 1600000 in
theorem joined_any (A : Option Addr) (n cap g : Nat) (I : Itr) (w : World) (h : RdL w w.heap.size g A n I) (hc : n ≤ cap) (h1 : 1 ≤ n) (hn : n ≤ 1048576) (hsz : szI I ≤ 1048576) :
    Calls Try.prog 22 #[.slice A n cap] w (RdNs (joinI I) w) := by
  by_cases h1' : n = 1
  · subst h1'
    obtain ⟨ad, x, A', c', rfl, had, hx, c0, hl, hr⟩ := h.at_ (show 0 < 1 by omega)
    have hI : I = [x] := by
      cases I with
      | nil => simp at hx
      | cons y J =>
        have hl := h.len
        simp only [List.length_cons] at hl
        have : J = [] := List.eq_nil_of_length_eq_zero (by omega)
        subst this
        simp at hx
        rw [hx]
    subst hI
    have c0' : w.cell? ad = some (.slice A' x.length c') := c0
    have HR := Lib.hid hr
    clear hx c0 hr h hsz
    generalize hm : x.length = m at c0' hl HR
    clear hm
    go_enter Try.func22, Try.ntmps22
    go_wp2_with fail
    go_ret
    exact ⟨A', m, c', rfl, HR.out, hl, Below.refl _ _⟩
  · rw [joinI_more (by rw [h.len]; exact h1'), h.len]
    have hne : ((n : Int) == 1) = false := beq_eq_false_iff_ne.2 (by omega)
    have hbl := bl1 w (.cells #[.int .i64 3, .int .i64 0, .int .i64 (n : Int)] 53)
    have hin : NdIn ⟨3, 0, (n : Int)⟩ := ndIn_mk (by omega) (by omega) (by omega)
    have ql := OwnN.lit w w.heap.size #[.int .i64 3, .int .i64 0, .int .i64 (n : Int)] [⟨3, 0, (n : Int)⟩] 1 rfl rfl (Nat.le_refl _) (by omega) (by intro x hx; simp at hx; subst hx; exact hin)
    have hrd := h.on hbl
    have HF := Lib.hid (flat_len I)
    have HIN := Lib.hid hin
    clear hin
    go_enter Try.func22, Try.ntmps22
    go_wp2_with fail
    refine (concat_any A n cap g I _ hrd hc hn hsz).mono ?_
    rintro e w1 ⟨A1, m1, c1, rfl, ho1, hb1⟩
    have qo := ql.own.below rfl hb1
    have hrv := ho1.rdn.rd
    have HL := Lib.hid ho1.len
    have HB := Lib.hid ho1.bd
    have hm1 : m1 ≤ 1048576 := by have := ho1.len; rw [flat_len] at this; omega
    have hb2 := hbl.trans (hb1.mono hbl.size)
    clear ho1 ql hrd
    go_wp2_with (at_builtin; go_loud (refine wpList_appV elN rfl (.tmp 14) (.tmp 16) rfl rfl w.heap.size _ 1 1 _ rfl qo A1 m1 c1 _ _ rfl hrv (by rw [ns_length, HL.out]) (ns_one _) (by omega) (by unfold maxLen; omega) hb2.size (1 + m1) rfl (ns (⟨3, 0, (n : Int)⟩ :: I.flatten)) rfl ?_; intro A3 c3 w3 hw3 hb3 _))
    go_ret
    refine ⟨A3, 1 + m1, c3, rfl, ⟨by rw [List.length_cons, HL.out]; omega, hw3.rd, fun y hy => ?_⟩, hw3.cap, hb2.trans hb3⟩
    rcases List.mem_cons.1 hy with rfl | hy
    · exact HIN.out
    · exact HB.out y hy
end Go.Proofs.Ytjbflndlfdekiaa
