import Derived.Test.YtfmndmhjjbeokaaGreatDoorLow4
import Derived.Test.YtfmndmhjjbeokaaGreatDoorLow30
import Derived.LaidMore
import Derived.Stop.LaidErr
import Derived.Test.YtfmndmhjjbeokaaGreatDoorLow6
import Derived.Test.YtfmndmhjjbeokaaGreatDoorLow8
namespace Go.Proofs.YtfmndmhjjbeokaaGreatDoor
open Go.ChangeShapes Go.WideShapes Go.ChangeAt Go.RowKit
def laid13 : List (String × DataW Unit) := Rows.textTablesRow.laid
theorem door_met (os : Os) (args : Array Value) : laidMetH Tryz.prog laid13 ((World.doorLaid Tryz.prog 24 os).forCall (fun _ _ => 0) ⟨#[], args, []⟩).memory :=
  laidMetH_of_parts3 (fuel := 8) (laidMet_of_run' 8 (by kernel_rfl) (by kernel_rfl)) (by kernel_rfl) (by kernel_rfl)
theorem tabW_of_laid {W : World} (h : laidMetH Tryz.prog laid13 W) : TabW W := by
  rw [MakeChecks.laidMetH_plain _ _ _ (by kernel_rfl)] at h
  have h2 : laidMet Tryz.prog [(tabN, Lib.tabData .u64 Lib.pow10Tab)] W := by
    have h1 := laidMet.tail (laidMet.tail (x := (Rows.textTablesRow.laid.headD ("", .nil))) (r := Rows.textTablesRow.laid.tail) h)
    have e : Rows.textTablesRow.laid.tail.tail = [(tabN, Lib.tabData .u64 Lib.pow10Tab)] := by rfl
    rw [← e]
    exact h1
  exact Lib.tabIs_of_head (g := 0) (t := 186) (e := 176) (n := 20) tab_num (by kernel_rfl) Tryz.underlying186 Tryz.underlying176 (by kernel_rfl) (by kernel_rfl) h2
end Go.Proofs.YtfmndmhjjbeokaaGreatDoor
namespace Go.Proofs.YtfmndmhjjbeokaaGreatDoor
open Go.RowKit Tab
set_option linter.unusedSimpArgs false
set_option linter.unusedVariables false
def TabsN (B b : Nat) (A : Option Addr) (m c : Nat) (f : Nat → Int) (Q X D : Nat) (w : World) (e : Ending) (w' : World) : Prop :=
  ∃ (x : Nd) (k : F) (A' : Option Addr) (n' c' at' : Nat), e = .returned (.slice A' n' c') ∧ (F.cons x k .nil).ok ∧ OwnN w' w.heap.size A' n' c' (x :: k.flat) ∧ k.sz + 1 ≤ X ∧ k.dep ≤ D ∧ (∀ y ∈ x :: k.flat, 0 ≤ y.p ∧ y.p < (Q : Int) ∧ y.n ≤ 4) ∧ TapeW w' B b A m c f at' ∧ w.grownBy w' (some b)
set_option maxRecDepth 100000 in
set_option maxHeartbeats 4000000 in
theorem table_anyn (B b : Nat) (A : Option Addr) (m c : Nat) (f : Nat → Int) (hm : m ≤ 140737488351232) (parts : Nat) (hp1 : 1 ≤ parts) (hp2 : parts ≤ 6) (d : Nat) : ∀ (at_ : Nat) (w : World), d ≤ 6 → TapeW w B b A m c f at_ →
    Calls Tryz.prog 10 #[.pointer (some ⟨b, 0, none⟩), .int .i64 (parts : Int), .int .i64 (d : Int)] w (TabsN B b A m c f parts (5 ^ (d + 1)) d w) := by
  induction d with
  | zero =>
    intro at_ w hd T
    have hX : 5 ^ (0 + 1) = 5 := rfl
    rw [hX]
    clear hX
    go_enter Tryz.func10, Tryz.ntmps10
    go_wp2_with fail
    refine (next_at B b A m c f at_ 7 _ w T rfl (by omega) (by omega) hm).mono ?_
    rintro e w1 ⟨k, at1, hk, rfl, T1, G1⟩
    by_cases hk0 : k = 0
    · subst hk0
      go_wp2_with fail
      refine (next_at B b A m c f at1 4 _ w1 T1 rfl (by omega) (by omega) hm).mono ?_
      rintro e w2 ⟨j, at2, hj, rfl, T2, G2⟩
      go_wp2_with fail
      go_ret
      exact ⟨⟨2, 0, 1 + (j : Int)⟩, .nil, _, 1, 1, at2, rfl, ⟨(fine_iff _ _ _).2 (by omega), by simp [F.cnt, kn], trivial, trivial⟩, OwnN.lit w2 w.heap.size #[.int .i64 2, .int .i64 0, .int .i64 (1 + (j : Int))] [⟨2, 0, 1 + (j : Int)⟩] 1 rfl rfl (Nat.le_trans G1.size G2.size) (by omega) (by intro x hx; simp at hx; subst hx; exact ndIn_mk (by omega) (by omega) (by omega)), by simp only [F.sz]; omega, by simp only [F.dep]; omega, (by intro y hy; simp [F.flat] at hy; subst hy; dsimp only; omega), T2.below (bl1 w2 _) T2.lt, gb_alloc (gb_trans G1 G2) _⟩
    · have hk0' : ((k : Int) == 0) = false := beq_eq_false_iff_ne.2 (by omega)
      go_wp2_with fail
      refine (next_at B b A m c f at1 parts _ w1 T1 rfl hp1 (by omega) hm).mono ?_
      rintro e w2 ⟨p, at2, hp, rfl, T2, G2⟩
      go_wp2_with fail
      refine (next_at B b A m c f at2 4 _ w2 T2 rfl (by omega) (by omega) hm).mono ?_
      rintro e w3 ⟨j, at3, hj, rfl, T3, G3⟩
      go_wp2_with fail
      go_ret
      exact ⟨⟨1, (p : Int), 1 + (j : Int)⟩, .nil, _, 1, 1, at3, rfl, ⟨(fine_iff _ _ _).2 (by omega), by simp [F.cnt, kn], trivial, trivial⟩, OwnN.lit w3 w.heap.size #[.int .i64 1, .int .i64 (p : Int), .int .i64 (1 + (j : Int))] [⟨1, (p : Int), 1 + (j : Int)⟩] 1 rfl rfl (Nat.le_trans G1.size (Nat.le_trans G2.size G3.size)) (by omega) (by intro x hx; simp at hx; subst hx; exact ndIn_mk (by omega) (by omega) (by omega)), by simp only [F.sz]; omega, by simp only [F.dep]; omega, (by intro y hy; simp [F.flat] at hy; subst hy; dsimp only; omega), T3.below (bl1 w3 _) T3.lt, gb_alloc (gb_trans G1 (gb_trans G2 G3)) _⟩
  | succ d ih =>
    intro at_ w hd T
    have HIH := Lib.hid ih
    clear ih
    have hX : 5 ^ (d + 1) ≤ 78125 := Nat.le_trans (Nat.pow_le_pow_right (by omega) (show d + 1 ≤ 7 by omega)) (by decide)
    have hX2 : 5 ^ (d + 1 + 1) = 5 * 5 ^ (d + 1) := by rw [Nat.pow_succ, Nat.mul_comm]
    have hX1 : 1 ≤ 5 ^ (d + 1) := Nat.pow_pos (by omega)
    rw [hX2]
    generalize 5 ^ (d + 1) = X at hX hX1 HIH ⊢
    clear hX2
    have hd1 : decide (((d + 1 : Nat) : Int) < 1) = false := decide_eq_false (by omega)
    go_enter Tryz.func10, Tryz.ntmps10
    go_wp2_with fail
    refine (next_at B b A m c f at_ 7 _ w T rfl (by omega) (by omega) hm).mono ?_
    rintro e w1 ⟨k, at1, hk, rfl, T1, G1⟩
    by_cases hk2 : k < 2
    · by_cases hk0 : k = 0
      · subst hk0
        go_wp2_with fail
        refine (next_at B b A m c f at1 4 _ w1 T1 rfl (by omega) (by omega) hm).mono ?_
        rintro e w2 ⟨j, at2, hj, rfl, T2, G2⟩
        go_wp2_with fail
        go_ret
        exact ⟨⟨2, 0, 1 + (j : Int)⟩, .nil, _, 1, 1, at2, rfl, ⟨(fine_iff _ _ _).2 (by omega), by simp [F.cnt, kn], trivial, trivial⟩, OwnN.lit w2 w.heap.size #[.int .i64 2, .int .i64 0, .int .i64 (1 + (j : Int))] [⟨2, 0, 1 + (j : Int)⟩] 1 rfl rfl (Nat.le_trans G1.size G2.size) (by omega) (by intro x hx; simp at hx; subst hx; exact ndIn_mk (by omega) (by omega) (by omega)), by simp only [F.sz]; omega, by simp only [F.dep]; omega, (by intro y hy; simp [F.flat] at hy; subst hy; dsimp only; omega), T2.below (bl1 w2 _) T2.lt, gb_alloc (gb_trans G1 G2) _⟩
      · have hk0' : ((k : Int) == 0) = false := beq_eq_false_iff_ne.2 (by omega)
        go_wp2_with fail
        refine (next_at B b A m c f at1 parts _ w1 T1 rfl hp1 (by omega) hm).mono ?_
        rintro e w2 ⟨p, at2, hp, rfl, T2, G2⟩
        go_wp2_with fail
        refine (next_at B b A m c f at2 4 _ w2 T2 rfl (by omega) (by omega) hm).mono ?_
        rintro e w3 ⟨j, at3, hj, rfl, T3, G3⟩
        go_wp2_with fail
        go_ret
        exact ⟨⟨1, (p : Int), 1 + (j : Int)⟩, .nil, _, 1, 1, at3, rfl, ⟨(fine_iff _ _ _).2 (by omega), by simp [F.cnt, kn], trivial, trivial⟩, OwnN.lit w3 w.heap.size #[.int .i64 1, .int .i64 (p : Int), .int .i64 (1 + (j : Int))] [⟨1, (p : Int), 1 + (j : Int)⟩] 1 rfl rfl (Nat.le_trans G1.size (Nat.le_trans G2.size G3.size)) (by omega) (by intro x hx; simp at hx; subst hx; exact ndIn_mk (by omega) (by omega) (by omega)), by simp only [F.sz]; omega, by simp only [F.dep]; omega, (by intro y hy; simp [F.flat] at hy; subst hy; dsimp only; omega), T3.below (bl1 w3 _) T3.lt, gb_alloc (gb_trans G1 (gb_trans G2 G3)) _⟩
    · by_cases hk3 : k = 2
      · subst hk3
        go_wp2_with fail
        refine (next_at B b A m c f at1 3 _ w1 T1 rfl (by omega) (by omega) hm).mono ?_
        rintro e w2 ⟨j, at2, hj, rfl, T2, G2⟩
        go_wp2_with fail
        have ql := OwnN.lit w2 w.heap.size #[.int .i64 4, .int .i64 0, .int .i64 (1 + (j : Int))] [⟨4, 0, 1 + (j : Int)⟩] 1 rfl rfl (Nat.le_trans G1.size G2.size) (by omega) (by intro x hx; simp at hx; subst hx; exact ndIn_mk (by omega) (by omega) (by omega))
        have T3 := T2.below (bl1 w2 (.cells #[.int .i64 4, .int .i64 0, .int .i64 (1 + (j : Int))] 54)) T2.lt
        have G3 := gb_alloc (gb_trans G1 G2) (.cells #[.int .i64 4, .int .i64 0, .int .i64 (1 + (j : Int))] 54)
        refine (HIH.out at2 _ (by omega) T3).mono ?_
        rintro e w4 ⟨x, k, A4, n4, c4, at4, rfl, hok, hown, hsz, hdp, hqq, T4, G4⟩
        have hb0 : b < w.heap.size := T.lt
        have ql4 := ql.gb G4 hb0
        have G5 := gb_trans G3 G4
        have hlen4 := hown.len
        simp only [List.length_cons, F.flat_length] at hlen4
        go_wp2_with (at_builtin; go_loud (refine wpList_appV elN rfl (.tmp 40) (.tmp 45) rfl rfl w.heap.size _ 1 1 _ rfl ql4.own A4 n4 c4 _ _ rfl hown.own.rd (by rw [ns_length, hown.len]) (ns_one _) (by omega) (by unfold maxLen; omega) G5.size (1 + n4) rfl _ rfl ?_; intro A5 c5 w5 hw5 hb5 _))
        go_ret
        refine ⟨⟨4, 0, 1 + (j : Int)⟩, .cons x k .nil, A5, 1 + n4, c5, at4, rfl, ⟨(fine_iff _ _ _).2 (by omega), by simp [F.cnt, kn], hok, trivial⟩, ⟨?_, ?_, ?_⟩, ?_, ?_, ?_, T4.below hb5 hb0, gb_below G5 hb5 (Nat.le_refl _)⟩
        · simp only [List.length_cons, F.flat, List.append_nil, F.flat_length]; omega
        · have e : (F.cons x k .nil).flat = x :: k.flat := by simp [F.flat]
          rw [e]
          exact hw5
        · intro y hy
          have e : (F.cons x k .nil).flat = x :: k.flat := by simp [F.flat]
          rw [e] at hy
          rcases List.mem_cons.1 hy with rfl | hy
          · exact ndIn_mk (by omega) (by omega) (by omega)
          · exact hown.bd y hy
        · simp only [F.sz]; omega
        · simp only [F.dep]; omega
        · intro y hy
          have e : (F.cons x k .nil).flat = x :: k.flat := by simp [F.flat]
          rw [e] at hy
          rcases List.mem_cons.1 hy with rfl | hy
          · dsimp only; omega
          · exact hqq y hy
      · have hk3' : ((k : Int) == 2) = false := beq_eq_false_iff_ne.2 (by omega)
        go_wp2_with fail
        refine (next_at B b A m c f at1 4 _ w1 T1 rfl (by omega) (by omega) hm).mono ?_
        rintro e w2 ⟨j, at2, hj, rfl, T2, G2⟩
        have hb0 : b < w.heap.size := T.lt
        have ql := OwnN.lit w2 w.heap.size #[.int .i64 3, .int .i64 0, .int .i64 (1 + (j : Int))] [⟨3, 0, 1 + (j : Int)⟩] 1 rfl rfl (Nat.le_trans G1.size G2.size) (by omega) (by intro x hx; simp at hx; subst hx; exact ndIn_mk (by omega) (by omega) (by omega))
        have T3 := T2.below (bl1 w2 (.cells #[.int .i64 3, .int .i64 0, .int .i64 (1 + (j : Int))] 54)) T2.lt
        have G3 := gb_alloc (gb_trans G1 G2) (.cells #[.int .i64 3, .int .i64 0, .int .i64 (1 + (j : Int))] 54)
        go_wp2_with fail
        generalize w2.alloc (.cells #[.int .i64 3, .int .i64 0, .int .i64 (1 + (j : Int))] 54) = w3 at ql T3 G3 ⊢
        go_loopw [9, 10] (fun q s wr => ∃ (i : Nat) (g : F) (A1 : Option Addr) (n1 c1 at' : Nat), i ≤ 1 + j ∧ s = .int .i64 i ∧ q = .slice A1 n1 c1 ∧ g.ok ∧ g.cnt = i ∧ OwnN wr w.heap.size A1 n1 c1 (⟨3, 0, 1 + (j : Int)⟩ :: g.flat) ∧ g.sz ≤ i * X ∧ g.dep ≤ d + 1 ∧ (∀ y ∈ g.flat, 0 ≤ y.p ∧ y.p < (parts : Int) ∧ y.n ≤ 4) ∧ TapeW wr B b A m c f at' ∧ w.grownBy wr (some b)) (fun _ s _ => 1 + j - (intOf s).toNat)
        case atStart => exact ⟨0, .nil, _, 1, 1, at2, by omega, rfl, rfl, trivial, rfl, ql, by simp [F.sz], by simp [F.dep], (fun y hy => by simp [F.flat] at hy), T3, G3⟩
        case round =>
          obtain ⟨i, g, A1, n1, c1, at3, hi, rfl, rfl, hgok, hgc, hown, hgs, hgd, hgq, T4, G4⟩ := hrel
          have HOK := Lib.hid hgok
          have HGC := Lib.hid hgc
          have HLEN := Lib.hid hown.len
          have hiX : (i + 1) * X = i * X + X := Nat.succ_mul i X
          have hiX4 : i * X ≤ 4 * X := Nat.mul_le_mul_right _ (by omega)
          clear hgok hgc T1 T2 T3 G1 G2 G3 ql
          by_cases hlt : i < 1 + j
          · have hlt' : decide ((i : Int) < 1 + (j : Int)) = true := decide_eq_true (by omega)
            go_wp2_with fail
            refine (HIH.out at3 _ (by omega) T4).mono ?_
            rintro e w5 ⟨x, kk, A5, n5, c5, at5, rfl, hok, hown5, hsz, hdp, hqq5, T5, G5⟩
            have q5 := hown.gb G5 hb0
            have G6 := gb_trans G4 G5
            have hlen5 := hown5.len
            have hlen := HLEN.out
            simp only [List.length_cons, F.flat_length] at hlen5 hlen
            go_wp2_with (at_builtin; go_loud (refine wpList_appV elN rfl (.tmp 58) (.tmp 63) rfl rfl w.heap.size _ n1 c1 _ rfl q5.own A5 n5 c5 _ _ rfl hown5.own.rd (by rw [ns_length, hown5.len]) (ns_one _) (by omega) (by unfold maxLen; omega) G6.size (n1 + n5) rfl _ rfl ?_; intro A6 c6 w6 hw6 hb6 _))
            go_roundw
            case rel =>
              have e : (g.app (.cons x kk .nil)).flat = g.flat ++ x :: kk.flat := by rw [F.app_flat]; simp [F.flat]
              refine ⟨i + 1, g.app (.cons x kk .nil), A6, n1 + n5, c6, at5, by omega, by go_num, rfl, F.app_ok HOK.out hok, by rw [F.app_cnt, HGC.out]; rfl, ⟨?_, ?_, ?_⟩, ?_, ?_, ?_, T5.below hb6 hb0, gb_below G6 hb6 (Nat.le_refl _)⟩
              · rw [e]; simp only [List.length_cons, List.length_append, F.flat_length]; omega
              · rw [e, ← List.cons_append, ns_append]; exact hw6
              · intro y hy
                rw [e, ← List.cons_append] at hy
                rcases List.mem_append.1 hy with hy | hy
                · exact hown.bd y hy
                · exact hown5.bd y hy
              · rw [F.app_sz, hiX]; simp only [F.sz]; omega
              · rw [F.app_dep]; simp only [F.dep]; omega
              · intro y hy
                rw [e] at hy
                rcases List.mem_append.1 hy with hy | hy
                · exact hgq y hy
                · exact hqq5 y hy
            case measure => simp [intOf]; omega
          · have hlt' : decide ((i : Int) < 1 + (j : Int)) = false := decide_eq_false (by omega)
            go_wp2_with fail
            go_ret
            refine ⟨⟨3, 0, 1 + (j : Int)⟩, g, A1, n1, c1, at3, rfl, ⟨(fine_iff _ _ _).2 (by omega), ?_, HOK.out, trivial⟩, hown, by omega, hgd, ?_, T4, G4⟩
            rotate_left
            · intro y hy
              rcases List.mem_cons.1 hy with rfl | hy
              · dsimp only; omega
              · exact hgq y hy
            have := HGC.out
            simp only [kn]
            rw [if_pos trivial]
            omega
def TabN (Q X D : Nat) (w : World) (e : Ending) (w' : World) : Prop :=
  ∃ (x : Nd) (k : F) (A' : Option Addr) (n' c' : Nat), e = .returned (.slice A' n' c') ∧ (F.cons x k .nil).ok ∧ RdN w' w'.heap.size A' n' (x :: k.flat) ∧ n' ≤ c' ∧ k.sz + 1 ≤ X ∧ k.dep ≤ D ∧ (∀ y ∈ x :: k.flat, 0 ≤ y.p ∧ y.p < (Q : Int) ∧ y.n ≤ 4) ∧ Below w.heap.size w w'
theorem table_boxn (A : Option Addr) (n cap : Nat) (f : Nat → Int) (w : World) (P D : Int) (parts d : Nat) (hP : P = (parts : Int)) (hD : D = (d : Int)) (hp1 : 1 ≤ parts) (hp2 : parts ≤ 6) (hd : d ≤ 6) (h : RdC w w.heap.size A n fun j => .int .i64 (f j)) (hn : n ≤ 140737488351232) :
    Calls Tryz.prog 10 #[.pointer (some ⟨w.heap.size, 0, none⟩), .int .i64 P, .int .i64 D] (w.alloc (.cells #[.slice A n cap, .int .i64 0] 26)) (TabN parts (5 ^ (d + 1)) d w) := by
  subst hP; subst hD
  refine (table_anyn w.heap.size w.heap.size A n cap f hn parts hp1 hp2 d 0 _ hd (tape_boxed A n cap f w h)).mono ?_
  rintro e w1 ⟨x, k, A', n', c', at', rfl, hok, hown, hsz, hdp, hq, T1, G1⟩
  exact ⟨x, k, A', n', c', rfl, hok, hown.rdn, hown.cap, hsz, hdp, hq, gb_boxed G1⟩
end Go.Proofs.YtfmndmhjjbeokaaGreatDoor
namespace Go.Proofs.YtfmndmhjjbeokaaGreatDoor
namespace Txt
open Tab
set_option linter.unusedSimpArgs false
set_option linter.unusedVariables false
def Rds (f : Nat → List UInt8 → Option (List Nd × List UInt8)) : Prop := ∀ rm s x, f rm s = some x → x.2.length < s.length ∧ x.1.length ≤ rm ∧ 0 < x.1.length
theorem kidsR_len {f : Nat → List UInt8 → Option (List Nd × List UInt8)} (hf : Rds f) : ∀ (k rm : Nat) (s : List UInt8) (y : List Nd × Nat × List UInt8), kidsR f k rm s = some y → y.2.2.length ≤ s.length ∧ y.1.length ≤ rm
  | 0, rm, s, y, h => by cases h
  | k + 1, rm, s, y, h => by
    rw [kidsR_succ] at h
    cases ht : takeB 44 s with
    | none =>
      rw [ht] at h
      injection h with h
      subst h
      exact ⟨Nat.le_refl _, Nat.zero_le _⟩
    | some s1 =>
      rw [ht] at h
      have es := takeB_some ht
      have h : (match f rm s1 with | none => none | some x => match kidsR f k (rm - x.1.length) x.2 with | none => none | some y => some (x.1 ++ y.1, y.2.1 + 1, y.2.2)) = some y := h
      cases hx : f rm s1 with
      | none => rw [hx] at h; cases h
      | some x =>
        rw [hx] at h
        have h1 := hf rm s1 x hx
        have h : (match kidsR f k (rm - x.1.length) x.2 with | none => none | some y => some (x.1 ++ y.1, y.2.1 + 1, y.2.2)) = some y := h
        cases hy : kidsR f k (rm - x.1.length) x.2 with
        | none => rw [hy] at h; cases h
        | some z =>
          rw [hy] at h
          have h2 := kidsR_len hf k _ _ z hy
          injection h with h
          subst h
          rw [es]
          simp only [List.length_cons, List.length_append]
          omega
theorem kidsR_fuel {f : Nat → List UInt8 → Option (List Nd × List UInt8)} (hf : Rds f) : ∀ (k k' rm : Nat) (s : List UInt8), s.length < k → s.length < k' → kidsR f k rm s = kidsR f k' rm s
  | 0, _, _, _, h, _ => absurd h (Nat.not_lt_zero _)
  | _, 0, _, _, _, h => absurd h (Nat.not_lt_zero _)
  | k + 1, k' + 1, rm, s, h, h' => by
    rw [kidsR_succ, kidsR_succ]
    cases ht : takeB 44 s with
    | none => rfl
    | some s1 =>
      have es := takeB_some ht
      show (match f rm s1 with | none => none | some x => match kidsR f k (rm - x.1.length) x.2 with | none => none | some y => some (x.1 ++ y.1, y.2.1 + 1, y.2.2)) = (match f rm s1 with | none => none | some x => match kidsR f k' (rm - x.1.length) x.2 with | none => none | some y => some (x.1 ++ y.1, y.2.1 + 1, y.2.2))
      cases hx : f rm s1 with
      | none => rfl
      | some x =>
        have h1 := hf rm s1 x hx
        rw [es, List.length_cons] at h h'
        show (match kidsR f k (rm - x.1.length) x.2 with | none => none | some y => some (x.1 ++ y.1, y.2.1 + 1, y.2.2)) = (match kidsR f k' (rm - x.1.length) x.2 with | none => none | some y => some (x.1 ++ y.1, y.2.1 + 1, y.2.2))
        rw [kidsR_fuel hf k k' (rm - x.1.length) x.2 (by omega) (by omega)]
theorem seqT_len {f : Nat → List UInt8 → Option (List Nd × List UInt8)} (hf : Rds f) {rm : Nat} {s : List UInt8} {x : List Nd × List UInt8} (h : seqT f rm s = some x) : x.2.length < s.length ∧ x.1.length ≤ rm + 1 ∧ 0 < x.1.length := by
  unfold seqT at h
  cases ht : takeB 40 s with
  | none => rw [ht] at h; cases h
  | some s1 =>
    rw [ht] at h
    have es := takeB_some ht
    have h : (match f rm s1 with | none => none | some x => match kidsR f (x.2.length + 1) (rm - x.1.length) x.2 with | none => none | some y => (takeB 41 y.2.2).map fun s4 => ((⟨3, 0, ((y.2.1 + 1 : Nat) : Int)⟩ : Nd) :: (x.1 ++ y.1), s4)) = some x := h
    cases hx : f rm s1 with
    | none => rw [hx] at h; cases h
    | some z =>
      rw [hx] at h
      have h1 := hf rm s1 z hx
      have h : (match kidsR f (z.2.length + 1) (rm - z.1.length) z.2 with | none => none | some y => (takeB 41 y.2.2).map fun s4 => ((⟨3, 0, ((y.2.1 + 1 : Nat) : Int)⟩ : Nd) :: (z.1 ++ y.1), s4)) = some x := h
      cases hy : kidsR f (z.2.length + 1) (rm - z.1.length) z.2 with
      | none => rw [hy] at h; cases h
      | some y =>
        rw [hy] at h
        have h2 := kidsR_len hf _ _ _ y hy
        have h : (takeB 41 y.2.2).map (fun s4 => ((⟨3, 0, ((y.2.1 + 1 : Nat) : Int)⟩ : Nd) :: (z.1 ++ y.1), s4)) = some x := h
        obtain ⟨s4, h4, rfl⟩ := Option.map_eq_some_iff.1 h
        have e4 := congrArg List.length (takeB_some h4)
        rw [es]
        simp only [List.length_cons, List.length_append] at e4 ⊢
        omega
end Txt
end Go.Proofs.YtfmndmhjjbeokaaGreatDoor
