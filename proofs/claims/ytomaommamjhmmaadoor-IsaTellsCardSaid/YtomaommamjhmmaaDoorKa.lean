/- Package isa: which numbers an instruction may have, by its op; Right, Imm, Name, Fetch. -/
import Derived.Test.YtomaommamjhmmaaDoorJd
namespace Go.Proofs.YtomaommamjhmmaaDoor
open Go.RowKit
set_option linter.unusedSimpArgs false
set_option linter.unusedVariables false

/-- Below what A, B, C must be: 8 of a register, 256 of another number, 0 of no op. -/
def enF (r : Bool) (o : Int) : Int := if r then 8 else if 0 ≤ o ∧ o ≤ 17 then 256 else 0
set_option maxRecDepth 100000 in
set_option maxHeartbeats 4000000 in
theorem ends_any (o : Int) (w : World) : Calls Tryd.prog 19 #[.int .i64 o] w (PurI (.tuple #[.int .i64 (enF (raF o) o), .int .i64 (enF (rbF o) o), .int .i64 (enF (rcF o) o)]) w) := by
  by_cases h : o = 1 ∨ o = 9 ∨ o = 10 ∨ o = 13 ∨ o = 14 ∨ o = 15 ∨ o = 2 ∨ o = 3 ∨ o = 4 ∨ o = 5 ∨ o = 6 ∨ o = 7 ∨ o = 11 ∨ o = 12 ∨ o = 0 ∨ o = 8 ∨ o = 16 ∨ o = 17
  · rcases h with rfl | rfl | rfl | rfl | rfl | rfl | rfl | rfl | rfl | rfl | rfl | rfl | rfl | rfl | rfl | rfl | rfl | rfl <;>
      (go_enter Tryd.func19, Tryd.ntmps19
       go_wp2_with fail
       refine bodyPost_ret (results_tmp3 rfl _ _ _) rfl ?_
       exact ⟨rfl, rfl⟩)
  · have n1 : (o == 1) = false := by simp; omega
    have n9 : (o == 9) = false := by simp; omega
    have n10 : (o == 10) = false := by simp; omega
    have n13 : (o == 13) = false := by simp; omega
    have n14 : (o == 14) = false := by simp; omega
    have n15 : (o == 15) = false := by simp; omega
    have n2 : (o == 2) = false := by simp; omega
    have n3 : (o == 3) = false := by simp; omega
    have n4 : (o == 4) = false := by simp; omega
    have n5 : (o == 5) = false := by simp; omega
    have n6 : (o == 6) = false := by simp; omega
    have n7 : (o == 7) = false := by simp; omega
    have n11 : (o == 11) = false := by simp; omega
    have n12 : (o == 12) = false := by simp; omega
    have n0 : (o == 0) = false := by simp; omega
    have n8 : (o == 8) = false := by simp; omega
    have n16 : (o == 16) = false := by simp; omega
    have n17 : (o == 17) = false := by simp; omega
    have E1 : Hid (enF (raF o) o = 0 ∧ enF (rbF o) o = 0 ∧ enF (rcF o) o = 0) := Lib.hid (by
      have hr : ¬ (0 ≤ o ∧ o ≤ 17) := by omega
      have e1 : raF o = false := by unfold raF; simp [n1, n9, n10, n13, n14, n15, n2, n3, n4, n5, n6, n7, n11, n12, n0, n8, n16, n17]
      have e2 : rbF o = false := by unfold rbF; simp [n1, n9, n10, n13, n14, n15, n2, n3, n4, n5, n6, n7, n11, n12, n0, n8, n16, n17]
      have e3 : rcF o = false := by unfold rcF; simp [n1, n9, n10, n13, n14, n15, n2, n3, n4, n5, n6, n7, n11, n12, n0, n8, n16, n17]
      rw [e1, e2, e3]
      unfold enF
      simp only [Bool.false_eq_true, if_false, if_neg hr, and_self])
    clear h
    go_enter Tryd.func19, Tryd.ntmps19
    go_wp2_with fail
    refine bodyPost_ret (results_tmp3 rfl _ _ _) rfl ?_
    exact ⟨by rw [E1.out.1, E1.out.2.1, E1.out.2.2]; rfl, rfl⟩
/-- Is n from 0 on, and below e? -/
def inF (n e : Int) : Bool := decide (0 ≤ n) && decide (n < e)
theorem within_any (n e : Int) (w : World) : Calls Tryd.prog 20 #[.int .i64 n, .int .i64 e] w (PurI (.bool (inF n e)) w) := by
  have H1 : Hid (0 ≤ n → n < e → inF n e = true) := Lib.hid fun h1 h2 => by unfold inF; rw [decide_eq_true h1, decide_eq_true h2]; rfl
  have H2 : Hid (n < 0 → inF n e = false) := Lib.hid fun h1 => by unfold inF; rw [decide_eq_false (by omega)]; rfl
  have H3 : Hid (¬ n < e → inF n e = false) := Lib.hid fun h1 => by unfold inF; rw [decide_eq_false h1, Bool.and_false]
  by_cases h1 : 0 ≤ n
  · by_cases h2 : n < e
    · have V := Lib.hid (H1.out h1 h2)
      clear H1 H2 H3
      go_enter Tryd.func20, Tryd.ntmps20
      go_wp2_with fail
      go_ret
      exact ⟨by rw [V.out]; rfl, rfl⟩
    · have V := Lib.hid (H3.out h2)
      clear H1 H2 H3
      go_enter Tryd.func20, Tryd.ntmps20
      go_wp2_with fail
      go_ret
      exact ⟨by rw [V.out]; rfl, rfl⟩
  · have V := Lib.hid (H2.out (by omega))
    clear H1 H2 H3
    go_enter Tryd.func20, Tryd.ntmps20
    go_wp2_with fail
    go_ret
    exact ⟨by rw [V.out]; rfl, rfl⟩
theorem right_inF (x : InsV) : rightF x = (inF x.a (enF (raF x.o) x.o) && (inF x.b (enF (rbF x.o) x.o) && inF x.c (enF (rcF x.o) x.o))) := by
  obtain ⟨o, a, b, c⟩ := x
  unfold rightF byF inF enF
  dsimp only
  by_cases h : 0 ≤ o ∧ o ≤ 17
  · rw [if_pos h]
    simp only [decide_eq_true h.1, decide_eq_true h.2, Bool.true_and]
    have key : ∀ (z : Int) (r : Bool), ((decide (0 ≤ z) && decide (z ≤ 255)) && (!r || decide (z < 8))) = (decide (0 ≤ z) && decide (z < (if r = true then 8 else 256))) := fun z r => by
      cases r
      · simp only [Bool.not_false, Bool.true_or, Bool.and_true, Bool.false_eq_true, if_false]
        congr 1
        exact decide_eq_decide.2 (by omega)
      · simp only [Bool.not_true, Bool.false_or, if_true]
        by_cases h0 : 0 ≤ z
        · by_cases h8 : z < 8
          · rw [decide_eq_true h0, decide_eq_true h8, decide_eq_true (p := z ≤ 255) (by omega)]; rfl
          · rw [decide_eq_false h8, Bool.and_false, Bool.and_false]
        · rw [decide_eq_false h0]; rfl
    rw [← key a (raF o), ← key b (rbF o), ← key c (rcF o)]
    generalize (decide (0 ≤ a) && decide (a ≤ 255)) = p1
    generalize (decide (0 ≤ b) && decide (b ≤ 255)) = p2
    generalize (decide (0 ≤ c) && decide (c ≤ 255)) = p3
    generalize (!raF o || decide (a < 8)) = q1
    generalize (!rbF o || decide (b < 8)) = q2
    generalize (!rcF o || decide (c < 8)) = q3
    cases p1 <;> cases p2 <;> cases p3 <;> cases q1 <;> cases q2 <;> cases q3 <;> rfl
  · rw [if_neg h]
    have e : (decide (0 ≤ o) && decide (o ≤ 17)) = false := by
      rw [← Bool.decide_and]
      exact decide_eq_false h
    have hz : ∀ (z : Int) (r : Bool), r = false → (decide (0 ≤ z) && decide (z < (if r = true then 8 else (0 : Int)))) = false := fun z r hr => by
      rw [hr, if_neg (by simp)]
      by_cases h0 : 0 ≤ z
      · rw [decide_eq_false (p := z < 0) (by omega), Bool.and_false]
      · rw [decide_eq_false h0]; rfl
    have ea : raF o = false := by unfold raF; simp only [Bool.or_eq_false_iff, beq_eq_false_iff_ne]; omega
    rw [hz a _ ea, e]
    simp
set_option maxRecDepth 100000 in
set_option maxHeartbeats 4000000 in
theorem iright_any (x : InsV) (w : World) : Calls Tryd.prog 13 #[iv x] w (Ans (.bool (rightF x)) w) := by
  rw [right_inF x]
  obtain ⟨o, a, b, c⟩ := x
  dsimp only
  unfold iv
  dsimp only
  have CE := Lib.hid fun W => ends_any o W
  generalize enF (raF o) o = e1 at CE ⊢
  generalize enF (rbF o) o = e2 at CE ⊢
  generalize enF (rcF o) o = e3 at CE ⊢
  have CA := Lib.hid fun W => within_any a e1 W
  have CB := Lib.hid fun W => within_any b e2 W
  have CC := Lib.hid fun W => within_any c e3 W
  generalize inF a e1 = p1 at CA ⊢
  generalize inF b e2 = p2 at CB ⊢
  generalize inF c e3 = p3 at CC ⊢
  have HR : Hid (∀ q, q = (p1 && (p2 && p3)) → (Value.bool (p1 && (p2 && p3))) = .bool q) := Lib.hid fun q h => by rw [h]
  generalize (Value.bool (p1 && (p2 && p3))) = v at HR ⊢
  have hb0 := bl1 w (.cells #[.int .i64 o, .int .i64 a, .int .i64 b, .int .i64 c] 26)
  have n0 : (w.alloc (.cells #[.int .i64 o, .int .i64 a, .int .i64 b, .int .i64 c] 26)).cell? ⟨w.heap.size, 0, none⟩ = some (.int .i64 o) := World.cell?_alloc_mark _ _ _ _ _
  have n1 : (w.alloc (.cells #[.int .i64 o, .int .i64 a, .int .i64 b, .int .i64 c] 26)).cell? ⟨w.heap.size, 1, none⟩ = some (.int .i64 a) := World.cell?_alloc_mark _ _ _ _ _
  have n2 : (w.alloc (.cells #[.int .i64 o, .int .i64 a, .int .i64 b, .int .i64 c] 26)).cell? ⟨w.heap.size, 2, none⟩ = some (.int .i64 b) := World.cell?_alloc_mark _ _ _ _ _
  have n3 : (w.alloc (.cells #[.int .i64 o, .int .i64 a, .int .i64 b, .int .i64 c] 26)).cell? ⟨w.heap.size, 3, none⟩ = some (.int .i64 c) := World.cell?_alloc_mark _ _ _ _ _
  go_enter Tryd.func13, Tryd.ntmps13
  go_upto_region 1 with fail
  generalize w.alloc (.cells #[.int .i64 o, .int .i64 a, .int .i64 b, .int .i64 c] 26) = w1 at hb0 n0 n1 n2 n3 ⊢
  have HB0 := Lib.hid hb0
  clear hb0
  obtain ⟨g, hg⟩ : ∃ g, g = w.heap.size := ⟨_, rfl⟩
  rw [← hg] at n0 n1 n2 n3 ⊢
  clear hg
  go_wp2_with fail
  refine (CE.out w1).mono ?_
  rintro e w2 ⟨rfl, rfl⟩
  go_wp2_with fail
  refine (CA.out w1).mono ?_
  rintro e w2 ⟨rfl, rfl⟩
  cases p1 with
  | false =>
    go_wp2_with fail
    go_ret
    exact Ans.mk (HR.out _ rfl) HB0.out
  | true =>
    go_wp2_with fail
    refine (CB.out w1).mono ?_
    rintro e w2 ⟨rfl, rfl⟩
    cases p2 with
    | false =>
      go_wp2_with fail
      go_ret
      exact Ans.mk (HR.out _ rfl) HB0.out
    | true =>
      go_wp2_with fail
      refine (CC.out w1).mono ?_
      rintro e w2 ⟨rfl, rfl⟩
      cases p3 <;>
        (go_wp2_with fail
         go_ret
         exact Ans.mk (HR.out _ rfl) HB0.out)
theorem imm_wrap2 (b c : Int) : (256 * (b % 4294967296) % 4294967296 + c % 4294967296) % 4294967296 = (256 * b + c) % 4294967296 := by omega
set_option maxRecDepth 100000 in
set_option maxHeartbeats 4000000 in
theorem iimm_any (x : InsV) (w : World) : Calls Tryd.prog 15 #[iv x] w (Ans (.int .u32 (immF x)) w) := by
  obtain ⟨o, a, b, c⟩ := x
  have HI : Hid ((256 * (b % 4294967296) % 4294967296 + c % 4294967296) % 4294967296 = immF ⟨o, a, b, c⟩) := Lib.hid (imm_wrap2 b c)
  generalize immF ⟨o, a, b, c⟩ = v at HI ⊢
  unfold iv
  dsimp only
  have hb0 := bl1 w (.cells #[.int .i64 o, .int .i64 a, .int .i64 b, .int .i64 c] 26)
  have n2 : (w.alloc (.cells #[.int .i64 o, .int .i64 a, .int .i64 b, .int .i64 c] 26)).cell? ⟨w.heap.size, 2, none⟩ = some (.int .i64 b) := World.cell?_alloc_mark _ _ _ _ _
  have n3 : (w.alloc (.cells #[.int .i64 o, .int .i64 a, .int .i64 b, .int .i64 c] 26)).cell? ⟨w.heap.size, 3, none⟩ = some (.int .i64 c) := World.cell?_alloc_mark _ _ _ _ _
  go_enter Tryd.func15, Tryd.ntmps15
  go_upto_region 1 with fail
  generalize w.alloc (.cells #[.int .i64 o, .int .i64 a, .int .i64 b, .int .i64 c] 26) = w1 at hb0 n2 n3 ⊢
  have HB0 := Lib.hid hb0
  clear hb0
  obtain ⟨g, hg⟩ : ∃ g, g = w.heap.size := ⟨_, rfl⟩
  rw [← hg] at n2 n3 ⊢
  clear hg
  go_wp2_with fail
  go_ret
  exact Ans.mk (by rw [← HI.out]; rfl) HB0.out
set_option maxRecDepth 100000 in
set_option maxHeartbeats 4000000 in
theorem iname_any (o : Int) (w : World) (h : NamW w) : Calls Tryd.prog 14 #[.int .i64 o] w (Ans (.string (nameO o)) w) := by
  have CW := Lib.hid fun W => within_any o 18 W
  by_cases ho : 0 ≤ o ∧ o < 18
  · have e : inF o 18 = true := by unfold inF; rw [decide_eq_true ho.1, decide_eq_true ho.2]; rfl
    obtain ⟨p, rfl⟩ := Int.eq_ofNat_of_zero_le ho.1
    have hp : p < 18 := by omega
    obtain ⟨s, hs⟩ : ∃ s, opL[p]? = some s := ⟨_, List.getElem?_eq_getElem (by show p < 18; exact hp)⟩
    have hn : nameO (p : Int) = s := by
      unfold nameO
      rw [if_pos (by omega), Int.toNat_natCast, hs]
      rfl
    have hc := h p s hs
    rw [hn]
    rw [e] at CW
    have i0 : (p : Int) < 18 := by omega
    clear e ho hs hn h
    go_enter Tryd.func14, Tryd.ntmps14
    go_wp2_with fail
    refine (CW.out w).mono ?_
    rintro e w2 ⟨rfl, rfl⟩
    go_wp2_with fail
    go_ret
    exact ⟨rfl, Below.refl _ _⟩
  · have e : inF o 18 = false := by
      unfold inF
      rw [← Bool.decide_and]
      exact decide_eq_false ho
    have hn : nameO o = ⟨#[]⟩ := by
      unfold nameO
      by_cases h0 : 0 ≤ o
      · rw [if_pos h0, List.getElem?_eq_none (by show 18 ≤ o.toNat; omega)]; rfl
      · rw [if_neg h0]
    rw [hn]
    rw [e] at CW
    clear e ho hn h
    go_enter Tryd.func14, Tryd.ntmps14
    go_wp2_with fail
    refine (CW.out w).mono ?_
    rintro e w2 ⟨rfl, rfl⟩
    go_wp2_with fail
    go_ret
    exact ⟨rfl, Below.refl _ _⟩
set_option maxRecDepth 100000 in
set_option maxHeartbeats 8000000 in
theorem ifetch_any (A : Option Addr) (n k : Nat) (l : List UInt8) (pc : Int) (w : World) (h : Rd w w.heap.size A n l) (hn : n ≤ 140737488355328) (hk : n ≤ k) (hp : -9223372036854775808 ≤ pc ∧ pc ≤ 9223372036854775807) :
    Calls Tryd.prog 12 #[.slice A n k, .int .i64 pc] w (Ans (.tuple #[iv (fetF l pc), .bool (fetB l pc)]) w) := by
  have hl := h.1
  have hb0 := bl1 w (.cells #[.int .i64 0, .int .i64 0, .int .i64 0, .int .i64 0] 26)
  have HRS0 := Lib.hid (ownV_lit w 26 4 w.heap.size #[.int .i64 0, .int .i64 0, .int .i64 0, .int .i64 0] 1 rfl (Nat.le_refl _) (by unfold maxLen; omega))
  have HRD := Lib.hid (h.below hb0)
  have HB0 := Lib.hid hb0
  clear hb0 h
  cases hf : fetB l pc with
  | false =>
    have hF : fetF l pc = ⟨0, 0, 0, 0⟩ := by unfold fetF; rw [hf]; rfl
    rw [hF]
    unfold fetB at hf
    have hnot : pc < 0 ∨ (0 ≤ pc ∧ ¬ pc % 4 = 0) ∨ (0 ≤ pc ∧ pc % 4 = 0 ∧ (n : Int) - 4 < pc) := by
      rcases (by omega : pc < 0 ∨ 0 ≤ pc) with h1 | h1
      · exact .inl h1
      · rw [decide_eq_true h1, Bool.true_and] at hf
        by_cases h2 : pc % 4 = 0
        · rw [decide_eq_true h2, Bool.true_and, decide_eq_false_iff_not] at hf
          exact .inr (.inr ⟨h1, by omega, by omega⟩)
        · exact .inr (.inl ⟨h1, by omega⟩)
    clear hf hF hl
    go_enter Tryd.func12, Tryd.ntmps12
    go_upto_region 1 with fail
    generalize w.alloc (.cells #[.int .i64 0, .int .i64 0, .int .i64 0, .int .i64 0] 26) = W0 at HRS0 HRD HB0 ⊢
    obtain ⟨g, hg⟩ : ∃ g, g = w.heap.size := ⟨_, rfl⟩
    have HG := Lib.hid hg
    have HRS : Hid (OwnV 26 4 W0 w.heap.size (some ⟨g, 0, none⟩) 1 1 [.int .i64 0, .int .i64 0, .int .i64 0, .int .i64 0]) := Lib.hid (by rw [hg]; exact HRS0.out)
    rw [← hg]
    clear hg HRS0
    obtain ⟨⟨c0a, c0b⟩, ⟨c1a, c1b⟩, ⟨c2a, c2b⟩, ⟨c3a, c3b⟩, ho, hb⟩ := set4 HRS.out HB0.out (Nat.le_of_eq HG.out.symm) (.int .i64 0) (.int .i64 0) (.int .i64 0) (.int .i64 0)
    have HO := Lib.hid ho
    have HB := Lib.hid hb
    clear ho hb
    rcases hnot with h1 | ⟨h1, h2⟩ | ⟨h1, h2, h3⟩
    · go_wp2_with fail
      refine bodyPost_ret (results_twoX rfl (agIn _) (szIn _) rfl HO.out) rfl ?_
      exact Ans.mk rfl HB.out
    · have h1' : ¬ pc < 0 := by omega
      go_wp2_with fail
      refine bodyPost_ret (results_twoX rfl (agIn _) (szIn _) rfl HO.out) rfl ?_
      exact Ans.mk rfl HB.out
    · have h1' : ¬ pc < 0 := by omega
      have hw : wrap64 ((n : Int) - 4) = (n : Int) - 4 := by unfold wrap64; omega
      go_wp2_with fail
      refine bodyPost_ret (results_twoX rfl (agIn _) (szIn _) rfl HO.out) rfl ?_
      exact Ans.mk rfl HB.out
  | true =>
    have hF : fetF l pc = ⟨byteZ l pc.toNat, byteZ l (pc.toNat + 1), byteZ l (pc.toNat + 2), byteZ l (pc.toNat + 3)⟩ := by unfold fetF; rw [if_pos hf]
    rw [hF]
    unfold fetB at hf
    simp only [Bool.and_eq_true, decide_eq_true_eq] at hf
    obtain ⟨h0, h4, hlen⟩ := hf
    obtain ⟨p, rfl⟩ := Int.eq_ofNat_of_zero_le h0
    have hpn : p + 4 ≤ n := by omega
    obtain ⟨ad, x0, rfl, had, e0, c0⟩ := HRD.out.at_ (k := p) (by omega)
    obtain ⟨ad1, x1, ea1, _, e1, c1⟩ := HRD.out.at_ (k := p + 1) (by omega)
    obtain ⟨ad2, x2, ea2, _, e2, c2⟩ := HRD.out.at_ (k := p + 2) (by omega)
    obtain ⟨ad3, x3, ea3, _, e3, c3⟩ := HRD.out.at_ (k := p + 3) (by omega)
    obtain rfl : ad = ad1 := by injection ea1
    obtain rfl : ad = ad2 := by injection ea2
    obtain rfl : ad = ad3 := by injection ea3
    have hB0 : byteZ l p = (x0.toNat : Int) := by unfold byteZ; rw [e0]; rfl
    have hB1 : byteZ l (p + 1) = (x1.toNat : Int) := by unfold byteZ; rw [e1]; rfl
    have hB2 : byteZ l (p + 2) = (x2.toNat : Int) := by unfold byteZ; rw [e2]; rfl
    have hB3 : byteZ l (p + 3) = (x3.toNat : Int) := by unfold byteZ; rw [e3]; rfl
    rw [Int.toNat_natCast, hB0, hB1, hB2, hB3]
    have b0 : x0.toNat < 256 := x0.toBitVec.isLt
    have b1 : x1.toNat < 256 := x1.toBitVec.isLt
    have b2 : x2.toNat < 256 := x2.toBitVec.isLt
    have b3 : x3.toNat < 256 := x3.toBitVec.isLt
    generalize x0.toNat = y0 at c0 b0 ⊢
    generalize x1.toNat = y1 at c1 b1 ⊢
    generalize x2.toNat = y2 at c2 b2 ⊢
    generalize x3.toNat = y3 at c3 b3 ⊢
    have w0 : wrap64 ((n : Int) - 4) = (n : Int) - 4 := by unfold wrap64; omega
    have i0 : ¬ (p : Int) < 0 := by omega
    have i1 : (p : Int) % 4 = 0 := h4
    have i2 : ¬ (n : Int) - 4 < (p : Int) := by omega
    have PN := Lib.hid hpn
    have BD := Lib.hid (And.intro b0 (And.intro b1 (And.intro b2 b3)))
    clear hF h0 h4 hlen had ea1 ea2 ea3 e0 e1 e2 e3 hB0 hB1 hB2 hB3 hl hpn b0 b1 b2 b3 HRD hp
    go_enter Tryd.func12, Tryd.ntmps12
    go_upto_region 1 with fail
    generalize w.alloc (.cells #[.int .i64 0, .int .i64 0, .int .i64 0, .int .i64 0] 26) = W0 at HRS0 HB0 c0 c1 c2 c3 ⊢
    obtain ⟨g, hg⟩ : ∃ g, g = w.heap.size := ⟨_, rfl⟩
    have HG := Lib.hid hg
    have HRS : Hid (OwnV 26 4 W0 w.heap.size (some ⟨g, 0, none⟩) 1 1 [.int .i64 0, .int .i64 0, .int .i64 0, .int .i64 0]) := Lib.hid (by rw [hg]; exact HRS0.out)
    rw [← hg]
    clear hg HRS0
    go_upto_region 3 with fail
    clear i0 i1 i2 w0
    have hpn := PN.out
    obtain ⟨b0, b1, b2, b3⟩ := BD.out
    have u1 : IntKind.i64.wrap ((p : Int) + 1) = (p : Int) + 1 := wrapI (by omega)
    have u2 : IntKind.i64.wrap ((p : Int) + 2) = (p : Int) + 2 := wrapI (by omega)
    have u3 : IntKind.i64.wrap ((p : Int) + 3) = (p : Int) + 3 := wrapI (by omega)
    have t0 : IntKind.i64.wrap (y0 : Int) = (y0 : Int) := wrapI (by omega)
    have t1 : IntKind.i64.wrap (y1 : Int) = (y1 : Int) := wrapI (by omega)
    have t2 : IntKind.i64.wrap (y2 : Int) = (y2 : Int) := wrapI (by omega)
    have t3 : IntKind.i64.wrap (y3 : Int) = (y3 : Int) := wrapI (by omega)
    have j0 : (p : Int) < (n : Int) := by omega
    have j1 : (p : Int) + 1 < (n : Int) := by omega
    have j2 : (p : Int) + 2 < (n : Int) := by omega
    have j3 : (p : Int) + 3 < (n : Int) := by omega
    have k1 : ((p : Int) + 1).toNat = p + 1 := by omega
    have k2 : ((p : Int) + 2).toNat = p + 2 := by omega
    have k3 : ((p : Int) + 3).toNat = p + 3 := by omega
    have g1 : (0 : Int) ≤ (p : Int) + 1 := by omega
    have g2 : (0 : Int) ≤ (p : Int) + 2 := by omega
    have g3 : (0 : Int) ≤ (p : Int) + 3 := by omega
    have a1 : ad.add (p + 1) = (⟨ad.block, ad.off + (p + 1), none⟩ : Addr) := by simp [Addr.add]
    have a2 : ad.add (p + 2) = (⟨ad.block, ad.off + (p + 2), none⟩ : Addr) := by simp [Addr.add]
    have a3 : ad.add (p + 3) = (⟨ad.block, ad.off + (p + 3), none⟩ : Addr) := by simp [Addr.add]
    rw [a1] at c1
    rw [a2] at c2
    rw [a3] at c3
    clear hpn b0 b1 b2 b3 PN BD a1 a2 a3
    obtain ⟨⟨c0a, c0b⟩, ⟨c1a, c1b⟩, ⟨c2a, c2b⟩, ⟨c3a, c3b⟩, ho, hb⟩ := set4 (OwnV.below HRS.out rfl (Below.refl _ _).drew) HB0.out.drew (Nat.le_of_eq HG.out.symm) (.int .i64 (y0 : Int)) (.int .i64 (y1 : Int)) (.int .i64 (y2 : Int)) (.int .i64 (y3 : Int))
    have HO := Lib.hid ho
    have HB := Lib.hid hb
    clear ho hb
    go_still_tail 24, (by kernel_rfl)
    change wpList _ _ _ _ _ W0.drew
    clear c0 c1 c2 c3
    generalize W0.drew = W9 at c0a c0b c1a c1b c2a c2b c3a c3b HO HB ⊢
    go_wp2_with fail
    refine bodyPost_ret (results_twoX rfl (agIn _) (szIn _) rfl HO.out) rfl ?_
    exact Ans.mk rfl HB.out
end Go.Proofs.YtomaommamjhmmaaDoor
