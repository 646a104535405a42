/- Contracts and mathematics that the texts behind it stand on: Table, Curm, Enter, Cur, Rlv, Take, Reset, Step, New. -/
import Derived.Test.YtebcfiifaclniaaGreatLow3
import Derived.Test.YtebcfiifaclniaaGreatLow1
import Derived.Test.YtebcfiifaclniaaGreatLow2
import Derived.StillTailTactics
import Derived.IntWalk
import Derived.BigQuiet
import Derived.Deep.QuietTactic
import Derived.Laws.ResultCell
import Derived.Deep.RegionWith
import Derived.Great.BuildSlice
/- A table that is made of a tape of numbers is one. -/
namespace Go.Proofs.YtebcfiifaclniaaGreat
open Go.RowKit Tab
set_option linter.unusedSimpArgs false
set_option linter.unusedVariables false

theorem next_at (B b : Nat) (A : Option Addr) (m c : Nat) (f : Nat → Int) (at_ n : Nat) (N : Int) (w : World) (h : TapeW w B b A m c f at_) (hN : N = (n : Int)) (hn : 1 ≤ n) (hn2 : n ≤ 64) (hm : m ≤ 140737488351232) :
    Calls Tryz.prog 9 #[.pointer (some ⟨b, 0, none⟩), .int .i64 N] w (Nexts B b A m c f n w) := by
  subst hN
  exact next_any B b A m c f at_ n w h hn hn2 hm
theorem TapeW.lt {w : World} {B b : Nat} {A : Option Addr} {m c : Nat} {f : Nat → Int} {at_ : Nat} (h : TapeW w B b A m c f at_) : b < w.heap.size := World.block_lt_of_cell? w _ h.c0
theorem TapeW.below {w w' : World} {B b : Nat} {A : Option Addr} {m c : Nat} {f : Nat → Int} {at_ : Nat} (h : TapeW w B b A m c f at_) {Bs : Nat} (hb : Below Bs w w') (hlt : b < Bs) : TapeW w' B b A m c f at_ :=
  ⟨h.rd.keep fun p hp => hb.cell (by have := h.low; omega), h.low, (hb.cell (p := ⟨b, 0, none⟩) hlt).trans h.c0, (hb.cell (p := ⟨b, 1, none⟩) hlt).trans h.c1, (hb.frozen (p := ⟨b, 1, none⟩) hlt).trans h.fr, h.le⟩
theorem gb_trans {a w w' : World} {x : Option Nat} (h : a.grownBy w x) (k : w.grownBy w' x) : a.grownBy w' x :=
  ⟨k.os.trans h.os, k.tape.trans h.tape, k.output.trans h.output, Nat.le_trans h.size k.size, fun i hi hne => (k.block i (Nat.lt_of_lt_of_le hi h.size) hne).trans (h.block i hi hne)⟩
theorem gb_below {a w w' : World} {x : Option Nat} {B : Nat} (h : a.grownBy w x) (k : Below B w w') (hB : a.heap.size ≤ B) : a.grownBy w' x :=
  ⟨k.os.trans h.os, k.tape.trans h.tape, k.output.trans h.output, Nat.le_trans h.size k.size, fun i hi hne => (k.block i (by omega)).trans (h.block i hi hne)⟩
theorem gb_alloc {a w : World} {x : Option Nat} (h : a.grownBy w x) (o : Obj) : a.grownBy (w.alloc o) x := gb_below h (bl1 w o) h.size
/-- A row of nodes of the call's own. -/
structure OwnN (w : World) (B : Nat) (A : Option Addr) (n c : Nat) (l : List Nd) : Prop where
  len : l.length = n
  own : OwnV 43 3 w B A n c (ns l)
  bd : ∀ x ∈ l, NdIn x
theorem OwnN.rdn {w : World} {B n c : Nat} {A : Option Addr} {l : List Nd} (h : OwnN w B A n c l) : RdN w w.heap.size A n l := ⟨h.len, h.own.rd, h.bd⟩
theorem OwnN.keep {w w' : World} {B n c : Nat} {A : Option Addr} {l : List Nd} (h : OwnN w B A n c l) (hk : ∀ b, B ≤ b → b < w.heap.size → w'.heap[b]? = w.heap[b]?) : OwnN w' B A n c l := ⟨h.len, h.own.keep hk, h.bd⟩
theorem OwnN.gb {w w' : World} {B n c b : Nat} {A : Option Addr} {l : List Nd} (h : OwnN w B A n c l) (hg : w.grownBy w' (some b)) (hb : b < B) : OwnN w' B A n c l :=
  h.keep fun k hk hlt => hg.block k hlt (fun e => by injection e with e; omega)
theorem OwnN.lit (w : World) (B : Nat) (C : Array Value) (l : List Nd) (m : Nat) (hl : l.length = m) (hC : C.toList = ns l) (hB : B ≤ w.heap.size) (hm : m ≤ 4096) (hb : ∀ x ∈ l, NdIn x) : OwnN (w.alloc (.cells C 43)) B (some ⟨w.heap.size, 0, none⟩) m m l := by
  refine ⟨hl, ?_, hb⟩
  have := ownV_lit w 43 3 B C m (by rw [← Array.length_toList, hC, ns_length, hl]) hB (by unfold maxLen; omega)
  rwa [hC] at this
/-- A table, new, of no more than X nodes, no deeper than D, of so many partitions; of what was there the tape alone has turned. -/
def TabsP (B b : Nat) (A : Option Addr) (m c : Nat) (f : Nat → Int) (Q X D : Nat) (w : World) (e : Ending) (w' : World) : Prop :=
  ∃ (x : Nd) (k : F) (A' : Option Addr) (n' c' at' : Nat), e = .returned (.slice A' n' c') ∧ (F.cons x k .nil).ok ∧ OwnN w' w.heap.size A' n' c' (x :: k.flat) ∧ k.sz + 1 ≤ X ∧ k.dep ≤ D ∧ (∀ y ∈ x :: k.flat, 0 ≤ y.p ∧ y.p < (Q : Int)) ∧ TapeW w' B b A m c f at' ∧ w.grownBy w' (some b)
/-- A table, new, of no more than X nodes, no deeper than D; of what was there the tape alone has turned. -/
def Tabs (B b : Nat) (A : Option Addr) (m c : Nat) (f : Nat → Int) (X D : Nat) (w : World) (e : Ending) (w' : World) : Prop :=
  ∃ (x : Nd) (k : F) (A' : Option Addr) (n' c' at' : Nat), e = .returned (.slice A' n' c') ∧ (F.cons x k .nil).ok ∧ OwnN w' w.heap.size A' n' c' (x :: k.flat) ∧ k.sz + 1 ≤ X ∧ k.dep ≤ D ∧ TapeW w' B b A m c f at' ∧ w.grownBy w' (some b)
theorem ndIn_mk {k p n : Int} (hk : 0 ≤ k ∧ k ≤ 9) (hp : 0 ≤ p ∧ p ≤ 9) (hn : 0 ≤ n ∧ n ≤ 1048576) : NdIn ⟨k, p, n⟩ := by
  unfold NdIn In64
  dsimp only
  omega
set_option maxRecDepth 100000 in
set_option maxHeartbeats 4000000 in
theorem table_anyp (B b : Nat) (A : Option Addr) (m c : Nat) (f : Nat → Int) (hm : m ≤ 140737488351232) (parts : Nat) (hp1 : 1 ≤ parts) (hp2 : parts ≤ 6) (d : Nat) : ∀ (at_ : Nat) (w : World), d ≤ 6 → TapeW w B b A m c f at_ →
    Calls Tryz.prog 31 #[.pointer (some ⟨b, 0, none⟩), .int .i64 (parts : Int), .int .i64 (d : Int)] w (TabsP B b A m c f parts (5 ^ (d + 1)) d w) := by
  induction d with
  | zero =>
    intro at_ w hd T
    have hX : 5 ^ (0 + 1) = 5 := rfl
    rw [hX]
    clear hX
    go_enter Tryz.func31, Tryz.ntmps31
    go_wp2_with fail
    refine (next_at B b A m c f at_ 7 _ w T rfl (by omega) (by omega) hm).mono ?_
    rintro e w1 ⟨k, at1, hk, rfl, T1, G1⟩
    by_cases hk0 : k = 0
    · subst hk0
      go_wp2_with fail
      refine (next_at B b A m c f at1 4 _ w1 T1 rfl (by omega) (by omega) hm).mono ?_
      rintro e w2 ⟨j, at2, hj, rfl, T2, G2⟩
      go_wp2_with fail
      go_ret
      exact ⟨⟨2, 0, 1 + (j : Int)⟩, .nil, _, 1, 1, at2, rfl, ⟨(fine_iff _ _ _).2 (by omega), by simp [F.cnt, kn], trivial, trivial⟩, OwnN.lit w2 w.heap.size #[.int .i64 2, .int .i64 0, .int .i64 (1 + (j : Int))] [⟨2, 0, 1 + (j : Int)⟩] 1 rfl rfl (Nat.le_trans G1.size G2.size) (by omega) (by intro x hx; simp at hx; subst hx; exact ndIn_mk (by omega) (by omega) (by omega)), by simp only [F.sz]; omega, by simp only [F.dep]; omega, (by intro y hy; simp [F.flat] at hy; subst hy; dsimp only; omega), T2.below (bl1 w2 _) T2.lt, gb_alloc (gb_trans G1 G2) _⟩
    · have hk0' : ((k : Int) == 0) = false := beq_eq_false_iff_ne.2 (by omega)
      go_wp2_with fail
      refine (next_at B b A m c f at1 parts _ w1 T1 rfl hp1 (by omega) hm).mono ?_
      rintro e w2 ⟨p, at2, hp, rfl, T2, G2⟩
      go_wp2_with fail
      refine (next_at B b A m c f at2 4 _ w2 T2 rfl (by omega) (by omega) hm).mono ?_
      rintro e w3 ⟨j, at3, hj, rfl, T3, G3⟩
      go_wp2_with fail
      go_ret
      exact ⟨⟨1, (p : Int), 1 + (j : Int)⟩, .nil, _, 1, 1, at3, rfl, ⟨(fine_iff _ _ _).2 (by omega), by simp [F.cnt, kn], trivial, trivial⟩, OwnN.lit w3 w.heap.size #[.int .i64 1, .int .i64 (p : Int), .int .i64 (1 + (j : Int))] [⟨1, (p : Int), 1 + (j : Int)⟩] 1 rfl rfl (Nat.le_trans G1.size (Nat.le_trans G2.size G3.size)) (by omega) (by intro x hx; simp at hx; subst hx; exact ndIn_mk (by omega) (by omega) (by omega)), by simp only [F.sz]; omega, by simp only [F.dep]; omega, (by intro y hy; simp [F.flat] at hy; subst hy; dsimp only; omega), T3.below (bl1 w3 _) T3.lt, gb_alloc (gb_trans G1 (gb_trans G2 G3)) _⟩
  | succ d ih =>
    intro at_ w hd T
    have HIH := Lib.hid ih
    clear ih
    have hX : 5 ^ (d + 1) ≤ 78125 := Nat.le_trans (Nat.pow_le_pow_right (by omega) (show d + 1 ≤ 7 by omega)) (by decide)
    have hX2 : 5 ^ (d + 1 + 1) = 5 * 5 ^ (d + 1) := by rw [Nat.pow_succ, Nat.mul_comm]
    have hX1 : 1 ≤ 5 ^ (d + 1) := Nat.pow_pos (by omega)
    rw [hX2]
    generalize 5 ^ (d + 1) = X at hX hX1 HIH ⊢
    clear hX2
    have hd1 : decide (((d + 1 : Nat) : Int) < 1) = false := decide_eq_false (by omega)
    go_enter Tryz.func31, Tryz.ntmps31
    go_wp2_with fail
    refine (next_at B b A m c f at_ 7 _ w T rfl (by omega) (by omega) hm).mono ?_
    rintro e w1 ⟨k, at1, hk, rfl, T1, G1⟩
    by_cases hk2 : k < 2
    · by_cases hk0 : k = 0
      · subst hk0
        go_wp2_with fail
        refine (next_at B b A m c f at1 4 _ w1 T1 rfl (by omega) (by omega) hm).mono ?_
        rintro e w2 ⟨j, at2, hj, rfl, T2, G2⟩
        go_wp2_with fail
        go_ret
        exact ⟨⟨2, 0, 1 + (j : Int)⟩, .nil, _, 1, 1, at2, rfl, ⟨(fine_iff _ _ _).2 (by omega), by simp [F.cnt, kn], trivial, trivial⟩, OwnN.lit w2 w.heap.size #[.int .i64 2, .int .i64 0, .int .i64 (1 + (j : Int))] [⟨2, 0, 1 + (j : Int)⟩] 1 rfl rfl (Nat.le_trans G1.size G2.size) (by omega) (by intro x hx; simp at hx; subst hx; exact ndIn_mk (by omega) (by omega) (by omega)), by simp only [F.sz]; omega, by simp only [F.dep]; omega, (by intro y hy; simp [F.flat] at hy; subst hy; dsimp only; omega), T2.below (bl1 w2 _) T2.lt, gb_alloc (gb_trans G1 G2) _⟩
      · have hk0' : ((k : Int) == 0) = false := beq_eq_false_iff_ne.2 (by omega)
        go_wp2_with fail
        refine (next_at B b A m c f at1 parts _ w1 T1 rfl hp1 (by omega) hm).mono ?_
        rintro e w2 ⟨p, at2, hp, rfl, T2, G2⟩
        go_wp2_with fail
        refine (next_at B b A m c f at2 4 _ w2 T2 rfl (by omega) (by omega) hm).mono ?_
        rintro e w3 ⟨j, at3, hj, rfl, T3, G3⟩
        go_wp2_with fail
        go_ret
        exact ⟨⟨1, (p : Int), 1 + (j : Int)⟩, .nil, _, 1, 1, at3, rfl, ⟨(fine_iff _ _ _).2 (by omega), by simp [F.cnt, kn], trivial, trivial⟩, OwnN.lit w3 w.heap.size #[.int .i64 1, .int .i64 (p : Int), .int .i64 (1 + (j : Int))] [⟨1, (p : Int), 1 + (j : Int)⟩] 1 rfl rfl (Nat.le_trans G1.size (Nat.le_trans G2.size G3.size)) (by omega) (by intro x hx; simp at hx; subst hx; exact ndIn_mk (by omega) (by omega) (by omega)), by simp only [F.sz]; omega, by simp only [F.dep]; omega, (by intro y hy; simp [F.flat] at hy; subst hy; dsimp only; omega), T3.below (bl1 w3 _) T3.lt, gb_alloc (gb_trans G1 (gb_trans G2 G3)) _⟩
    · by_cases hk3 : k = 2
      · subst hk3
        go_wp2_with fail
        refine (next_at B b A m c f at1 3 _ w1 T1 rfl (by omega) (by omega) hm).mono ?_
        rintro e w2 ⟨j, at2, hj, rfl, T2, G2⟩
        go_wp2_with fail
        have ql := OwnN.lit w2 w.heap.size #[.int .i64 4, .int .i64 0, .int .i64 (1 + (j : Int))] [⟨4, 0, 1 + (j : Int)⟩] 1 rfl rfl (Nat.le_trans G1.size G2.size) (by omega) (by intro x hx; simp at hx; subst hx; exact ndIn_mk (by omega) (by omega) (by omega))
        have T3 := T2.below (bl1 w2 (.cells #[.int .i64 4, .int .i64 0, .int .i64 (1 + (j : Int))] 43)) T2.lt
        have G3 := gb_alloc (gb_trans G1 G2) (.cells #[.int .i64 4, .int .i64 0, .int .i64 (1 + (j : Int))] 43)
        refine (HIH.out at2 _ (by omega) T3).mono ?_
        rintro e w4 ⟨x, k, A4, n4, c4, at4, rfl, hok, hown, hsz, hdp, hqq, T4, G4⟩
        have hb0 : b < w.heap.size := T.lt
        have ql4 := ql.gb G4 hb0
        have G5 := gb_trans G3 G4
        have hlen4 := hown.len
        simp only [List.length_cons, F.flat_length] at hlen4
        go_wp2_with (at_builtin; go_loud (refine wpList_appV elN rfl (.tmp 40) (.tmp 45) rfl rfl w.heap.size _ 1 1 _ rfl ql4.own A4 n4 c4 _ _ rfl hown.own.rd (by rw [ns_length, hown.len]) (ns_one _) (by omega) (by unfold maxLen; omega) G5.size (1 + n4) rfl _ rfl ?_; intro A5 c5 w5 hw5 hb5 _))
        go_ret
        refine ⟨⟨4, 0, 1 + (j : Int)⟩, .cons x k .nil, A5, 1 + n4, c5, at4, rfl, ⟨(fine_iff _ _ _).2 (by omega), by simp [F.cnt, kn], hok, trivial⟩, ⟨?_, ?_, ?_⟩, ?_, ?_, ?_, T4.below hb5 hb0, gb_below G5 hb5 (Nat.le_refl _)⟩
        · simp only [List.length_cons, F.flat, List.append_nil, F.flat_length]; omega
        · have e : (F.cons x k .nil).flat = x :: k.flat := by simp [F.flat]
          rw [e]
          exact hw5
        · intro y hy
          have e : (F.cons x k .nil).flat = x :: k.flat := by simp [F.flat]
          rw [e] at hy
          rcases List.mem_cons.1 hy with rfl | hy
          · exact ndIn_mk (by omega) (by omega) (by omega)
          · exact hown.bd y hy
        · simp only [F.sz]; omega
        · simp only [F.dep]; omega
        · intro y hy
          have e : (F.cons x k .nil).flat = x :: k.flat := by simp [F.flat]
          rw [e] at hy
          rcases List.mem_cons.1 hy with rfl | hy
          · dsimp only; omega
          · exact hqq y hy
      · have hk3' : ((k : Int) == 2) = false := beq_eq_false_iff_ne.2 (by omega)
        go_wp2_with fail
        refine (next_at B b A m c f at1 4 _ w1 T1 rfl (by omega) (by omega) hm).mono ?_
        rintro e w2 ⟨j, at2, hj, rfl, T2, G2⟩
        have hb0 : b < w.heap.size := T.lt
        have ql := OwnN.lit w2 w.heap.size #[.int .i64 3, .int .i64 0, .int .i64 (1 + (j : Int))] [⟨3, 0, 1 + (j : Int)⟩] 1 rfl rfl (Nat.le_trans G1.size G2.size) (by omega) (by intro x hx; simp at hx; subst hx; exact ndIn_mk (by omega) (by omega) (by omega))
        have T3 := T2.below (bl1 w2 (.cells #[.int .i64 3, .int .i64 0, .int .i64 (1 + (j : Int))] 43)) T2.lt
        have G3 := gb_alloc (gb_trans G1 G2) (.cells #[.int .i64 3, .int .i64 0, .int .i64 (1 + (j : Int))] 43)
        go_wp2_with fail
        generalize w2.alloc (.cells #[.int .i64 3, .int .i64 0, .int .i64 (1 + (j : Int))] 43) = w3 at ql T3 G3 ⊢
        go_loopw [9, 10] (fun q s wr => ∃ (i : Nat) (g : F) (A1 : Option Addr) (n1 c1 at' : Nat), i ≤ 1 + j ∧ s = .int .i64 i ∧ q = .slice A1 n1 c1 ∧ g.ok ∧ g.cnt = i ∧ OwnN wr w.heap.size A1 n1 c1 (⟨3, 0, 1 + (j : Int)⟩ :: g.flat) ∧ g.sz ≤ i * X ∧ g.dep ≤ d + 1 ∧ (∀ y ∈ g.flat, 0 ≤ y.p ∧ y.p < (parts : Int)) ∧ TapeW wr B b A m c f at' ∧ w.grownBy wr (some b)) (fun _ s _ => 1 + j - (intOf s).toNat)
        case atStart => exact ⟨0, .nil, _, 1, 1, at2, by omega, rfl, rfl, trivial, rfl, ql, by simp [F.sz], by simp [F.dep], (fun y hy => by simp [F.flat] at hy), T3, G3⟩
        case round =>
          obtain ⟨i, g, A1, n1, c1, at3, hi, rfl, rfl, hgok, hgc, hown, hgs, hgd, hgq, T4, G4⟩ := hrel
          have HOK := Lib.hid hgok
          have HGC := Lib.hid hgc
          have HLEN := Lib.hid hown.len
          have hiX : (i + 1) * X = i * X + X := Nat.succ_mul i X
          have hiX4 : i * X ≤ 4 * X := Nat.mul_le_mul_right _ (by omega)
          clear hgok hgc T1 T2 T3 G1 G2 G3 ql
          by_cases hlt : i < 1 + j
          · have hlt' : decide ((i : Int) < 1 + (j : Int)) = true := decide_eq_true (by omega)
            go_wp2_with fail
            refine (HIH.out at3 _ (by omega) T4).mono ?_
            rintro e w5 ⟨x, kk, A5, n5, c5, at5, rfl, hok, hown5, hsz, hdp, hqq5, T5, G5⟩
            have q5 := hown.gb G5 hb0
            have G6 := gb_trans G4 G5
            have hlen5 := hown5.len
            have hlen := HLEN.out
            simp only [List.length_cons, F.flat_length] at hlen5 hlen
            go_wp2_with (at_builtin; go_loud (refine wpList_appV elN rfl (.tmp 58) (.tmp 63) rfl rfl w.heap.size _ n1 c1 _ rfl q5.own A5 n5 c5 _ _ rfl hown5.own.rd (by rw [ns_length, hown5.len]) (ns_one _) (by omega) (by unfold maxLen; omega) G6.size (n1 + n5) rfl _ rfl ?_; intro A6 c6 w6 hw6 hb6 _))
            go_roundw
            case rel =>
              have e : (g.app (.cons x kk .nil)).flat = g.flat ++ x :: kk.flat := by rw [F.app_flat]; simp [F.flat]
              refine ⟨i + 1, g.app (.cons x kk .nil), A6, n1 + n5, c6, at5, by omega, by go_num, rfl, F.app_ok HOK.out hok, by rw [F.app_cnt, HGC.out]; rfl, ⟨?_, ?_, ?_⟩, ?_, ?_, ?_, T5.below hb6 hb0, gb_below G6 hb6 (Nat.le_refl _)⟩
              · rw [e]; simp only [List.length_cons, List.length_append, F.flat_length]; omega
              · rw [e, ← List.cons_append, ns_append]; exact hw6
              · intro y hy
                rw [e, ← List.cons_append] at hy
                rcases List.mem_append.1 hy with hy | hy
                · exact hown.bd y hy
                · exact hown5.bd y hy
              · rw [F.app_sz, hiX]; simp only [F.sz]; omega
              · rw [F.app_dep]; simp only [F.dep]; omega
              · intro y hy
                rw [e] at hy
                rcases List.mem_append.1 hy with hy | hy
                · exact hgq y hy
                · exact hqq5 y hy
            case measure => simp [intOf]; omega
          · have hlt' : decide ((i : Int) < 1 + (j : Int)) = false := decide_eq_false (by omega)
            go_wp2_with fail
            go_ret
            refine ⟨⟨3, 0, 1 + (j : Int)⟩, g, A1, n1, c1, at3, rfl, ⟨(fine_iff _ _ _).2 (by omega), ?_, HOK.out, trivial⟩, hown, by omega, hgd, ?_, T4, G4⟩
            rotate_left
            · intro y hy
              rcases List.mem_cons.1 hy with rfl | hy
              · dsimp only; omega
              · exact hgq y hy
            have := HGC.out
            simp only [kn]
            rw [if_pos trivial]
            omega
theorem table_any (B b : Nat) (A : Option Addr) (m c : Nat) (f : Nat → Int) (hm : m ≤ 140737488351232) (parts : Nat) (hp1 : 1 ≤ parts) (hp2 : parts ≤ 6) (d : Nat) (at_ : Nat) (w : World) (hd : d ≤ 6) (T : TapeW w B b A m c f at_) :
    Calls Tryz.prog 31 #[.pointer (some ⟨b, 0, none⟩), .int .i64 (parts : Int), .int .i64 (d : Int)] w (Tabs B b A m c f (5 ^ (d + 1)) d w) :=
  (table_anyp B b A m c f hm parts hp1 hp2 d at_ w hd T).mono fun e w1 ⟨x, k, A', n', c', at', h1, h2, h3, h4, h5, _, h7, h8⟩ => ⟨x, k, A', n', c', at', h1, h2, h3, h4, h5, h7, h8⟩
/-- A table, new, of no more than X nodes, no deeper than D; what was there is as it was. -/
def TabD (X D : Nat) (w : World) (e : Ending) (w' : World) : Prop :=
  ∃ (x : Nd) (k : F) (A' : Option Addr) (n' c' : Nat), e = .returned (.slice A' n' c') ∧ (F.cons x k .nil).ok ∧ RdN w' w'.heap.size A' n' (x :: k.flat) ∧ n' ≤ c' ∧ k.sz + 1 ≤ X ∧ k.dep ≤ D ∧ Below w.heap.size w w'
/-- A table, new, of no more than X nodes; what was there is as it was. -/
def TabB (X : Nat) (w : World) (e : Ending) (w' : World) : Prop :=
  ∃ (x : Nd) (k : F) (A' : Option Addr) (n' c' : Nat), e = .returned (.slice A' n' c') ∧ (F.cons x k .nil).ok ∧ RdN w' w'.heap.size A' n' (x :: k.flat) ∧ n' ≤ c' ∧ k.sz + 1 ≤ X ∧ Below w.heap.size w w'
theorem OwnN.cap {w : World} {B n c : Nat} {A : Option Addr} {l : List Nd} (h : OwnN w B A n c l) : n ≤ c := OwnV.cap h.own
theorem tape_boxed (A : Option Addr) (n cap : Nat) (f : Nat → Int) (w : World) (h : RdC w w.heap.size A n fun j => .int .i64 (f j)) : TapeW (w.alloc (.cells #[.slice A n cap, .int .i64 0] 30)) w.heap.size w.heap.size A n cap f 0 :=
  ⟨h.keep fun p hp => World.cell?_alloc_lt w _ p hp, Nat.le_refl _, by simp [World.cell?_alloc_mark], by simp [World.cell?_alloc_mark], by simp, Nat.zero_le _⟩
theorem gb_boxed {w w1 : World} {o : Obj} (h : (w.alloc o).grownBy w1 (some w.heap.size)) : Below w.heap.size w w1 :=
  (bl1 w o).trans ⟨h.os, h.tape, h.output, h.size, fun i hi => h.block i (by simp; omega) (fun e => by injection e with e; omega)⟩
/-- Out of a tape that was just boxed. -/
theorem table_boxd (A : Option Addr) (n cap : Nat) (f : Nat → Int) (w : World) (P D : Int) (parts d : Nat) (hP : P = (parts : Int)) (hD : D = (d : Int)) (hp1 : 1 ≤ parts) (hp2 : parts ≤ 6) (hd : d ≤ 6) (h : RdC w w.heap.size A n fun j => .int .i64 (f j)) (hn : n ≤ 140737488351232) :
    Calls Tryz.prog 31 #[.pointer (some ⟨w.heap.size, 0, none⟩), .int .i64 P, .int .i64 D] (w.alloc (.cells #[.slice A n cap, .int .i64 0] 30)) (TabD (5 ^ (d + 1)) d w) := by
  subst hP; subst hD
  refine (table_any w.heap.size w.heap.size A n cap f hn parts hp1 hp2 d 0 _ hd (tape_boxed A n cap f w h)).mono ?_
  rintro e w1 ⟨x, k, A', n', c', at', rfl, hok, hown, hsz, hdp, T1, G1⟩
  exact ⟨x, k, A', n', c', rfl, hok, hown.rdn, hown.cap, hsz, hdp, gb_boxed G1⟩
theorem table_box (A : Option Addr) (n cap : Nat) (f : Nat → Int) (w : World) (P D : Int) (parts d : Nat) (hP : P = (parts : Int)) (hD : D = (d : Int)) (hp1 : 1 ≤ parts) (hp2 : parts ≤ 6) (hd : d ≤ 6) (h : RdC w w.heap.size A n fun j => .int .i64 (f j)) (hn : n ≤ 140737488351232) :
    Calls Tryz.prog 31 #[.pointer (some ⟨w.heap.size, 0, none⟩), .int .i64 P, .int .i64 D] (w.alloc (.cells #[.slice A n cap, .int .i64 0] 30)) (TabB (5 ^ (d + 1)) w) :=
  (table_boxd A n cap f w P D parts d hP hD hp1 hp2 hd h hn).mono fun e w1 ⟨x, k, A', n', c', he, hok, hr, hc, hsz, _, hb⟩ => ⟨x, k, A', n', c', he, hok, hr, hc, hsz, hb⟩
/-- Bits held by a mask. -/
theorem and_mask (a : Int) (m : Nat) (hm : m < 9223372036854775808) : ∃ M : Nat, bits .and .i64 a (m : Int) = (M : Int) ∧ M ≤ m := by
  refine ⟨(BitVec.ofInt 64 a &&& BitVec.ofInt 64 (m : Int)).toNat, ?_, ?_⟩
  · have h : (BitVec.ofInt 64 a &&& BitVec.ofInt 64 (m : Int)).toNat ≤ m := by
      rw [BitVec.toNat_and]
      refine Nat.le_trans Nat.and_le_right ?_
      rw [BitVec.ofInt_natCast, BitVec.toNat_ofNat]
      exact Nat.mod_le _ _
    show IntKind.i64.wrap ((BitVec.ofInt 64 a &&& BitVec.ofInt 64 (m : Int)).toNat : Int) = _
    rw [IntKind.wrap_i64]
    omega
  · rw [BitVec.toNat_and]
    refine Nat.le_trans Nat.and_le_right ?_
    rw [BitVec.ofInt_natCast, BitVec.toNat_ofNat]
    exact Nat.mod_le _ _
end Go.Proofs.YtebcfiifaclniaaGreat

/- A cursor in memory: its cells; the levels above a leaf. -/
namespace Go.Proofs.YtebcfiifaclniaaGreat
open Go.RowKit Tab
set_option linter.unusedSimpArgs false
set_option linter.unusedVariables false

/-- The 37 cells of block b. -/
def Blk (w : World) (b : Nat) (c : Nat → Value) : Prop := ∀ o, o < 37 → w.cell? ⟨b, o, none⟩ = some (c o) ∧ w.frozen? ⟨b, o, none⟩ = false
def upd (c : Nat → Value) (i : Nat) (v : Value) : Nat → Value := fun j => if j = i then v else c j
theorem upd_same (c : Nat → Value) (i : Nat) (v : Value) : upd c i v i = v := if_pos rfl
theorem upd_other {c : Nat → Value} {i j : Nat} {v : Value} (h : j ≠ i) : upd c i v j = c j := if_neg h
section
variable {w w' : World} {b : Nat} {c : Nat → Value}
theorem Blk.set (h : Blk w b c) {i : Nat} (hi : i < 37) (v : Value) : Blk (w.setCell ⟨b, i, none⟩ v) b (upd c i v) := fun o ho => by
  refine ⟨?_, by simpa using (h o ho).2⟩
  by_cases e : o = i
  · subst e
    rw [upd_same]
    exact World.cell?_setCell_same _ _ _ (h o ho).1
  · rw [upd_other e, World.cell?_setCell_other _ _ _ _ (by simp [e])]
    exact (h o ho).1
theorem Blk.drewN (h : Blk w b c) (q : Nat) : Blk (w.drewN q) b c := h
theorem Blk.lt (h : Blk w b c) : b < w.heap.size := World.block_lt_of_cell? w _ (h 0 (by omega)).1
theorem Blk.keep (h : Blk w b c) (hk : w'.heap[b]? = w.heap[b]?) : Blk w' b c := fun o ho => by
  exact ⟨(World.cell?_of_block hk).trans (h o ho).1, (World.frozen?_of_block hk).trans (h o ho).2⟩
theorem gb_set {a : World} {x : Nat} (h : a.grownBy w (some x)) (o : Nat) (v : Value) : a.grownBy (w.setCell ⟨x, o, none⟩ v) (some x) :=
  ⟨h.os, h.tape, h.output, by have := h.size; simpa [World.setCell] using this, fun k hk hne => (Below.heap_setCell w ⟨x, o, none⟩ v k (fun e => hne (by rw [e]))).trans (h.block k hk hne)⟩
theorem gb_refl (w : World) (x : Option Nat) : w.grownBy w x := ⟨rfl, rfl, rfl, Nat.le_refl _, fun _ _ _ => rfl⟩
theorem gb_drew {a : World} {x : Option Nat} (h : a.grownBy w x) : a.grownBy w.drew x := ⟨h.os, h.tape, h.output, h.size, h.block⟩
theorem gb_drewN {a : World} {x : Option Nat} (h : a.grownBy w x) (q : Nat) : a.grownBy (w.drewN q) x := ⟨h.os, h.tape, h.output, h.size, h.block⟩
end
/-- One level more, d being how many there are. -/
def pushC (c : Nat → Value) (d : Nat) (a b : Int) : Nat → Value := upd (upd (upd c (1 + d * 2) (.int .i64 a)) (1 + d * 2 + 1) (.int .i64 b)) 33 (.int .i64 ((d : Int) + 1))
set_option maxRecDepth 100000 in
set_option maxHeartbeats 1600000 in
theorem push_any (b : Nat) (c : Nat → Value) (d : Nat) (x y : Int) (w : World) (h : Blk w b c) (hd : d ≤ 15) (hc : c 33 = .int .i64 (d : Int)) :
    Calls Tryz.prog 104 #[.pointer (some ⟨b, 1, none⟩), .agg #[.int .i64 x, .int .i64 y]] w fun e w' => e = .returned (.tuple #[]) ∧ Blk w' b (pushC c d x y) ∧ w.grownBy w' (some b) := by
  obtain ⟨W, hW⟩ : ∃ W, W = w.alloc (.cells #[.int .i64 x, .int .i64 y] 128) := ⟨_, rfl⟩
  have hG : w.grownBy W (some b) := by rw [hW]; exact gb_alloc (gb_refl _ _) _
  have hB : Blk W b c := h.keep (by rw [hW]; exact Below.heap_alloc w _ b h.lt)
  have n0 : W.cell? ⟨w.heap.size, 0, none⟩ = some (.int .i64 x) := by rw [hW]; simp [World.cell?_alloc_mark]
  have n1 : W.cell? ⟨w.heap.size, 1, none⟩ = some (.int .i64 y) := by rw [hW]; simp [World.cell?_alloc_mark]
  have HW := Lib.hid hW
  clear hW
  have c33 := (hB 33 (by omega)).1
  rw [hc] at c33
  have f33 := (hB 33 (by omega)).2
  have c1 := (hB (1 + d * 2) (by omega)).1
  have c2 := (hB (1 + d * 2 + 1) (by omega)).1
  have f1 := (hB (1 + d * 2) (by omega)).2
  have f2 := (hB (1 + d * 2 + 1) (by omega)).2
  go_enter Tryz.func104, Tryz.ntmps104
  go_wp2_with fail
  rw [← HW.out]
  generalize w.heap.size = g at n0 n1 ⊢
  have hd0 : 0 ≤ (d : Int) := by omega
  have hd1 : (d : Int) < 16 := by omega
  have hd2 : d < 16 := by omega
  go_still_tail 9, (by kernel_rfl)
  change wpList _ _ _ _ _ W.drew
  have q1 : ¬ 33 = 1 + d * 2 := by omega
  have q2 : ¬ 33 = 1 + d * 2 + 1 := by omega
  have q3 : ¬ 1 + d * 2 = 33 := by omega
  have q4 : ¬ 1 + d * 2 + 1 = 33 := by omega
  go_wp2_with fail
  go_end0
  exact ⟨rfl, ((hB.set (i := 1 + d * 2) (by omega) _).set (i := 1 + d * 2 + 1) (by omega) _).set (i := 33) (by omega) _, gb_drew (gb_set (gb_set (gb_set hG _ _) _ _) _ _)⟩
/-- The levels, the innermost first. -/
def StC (c : Nat → Value) : List (Nat × Nat) → Prop
  | [] => True
  | (a, b) :: o => c (1 + o.length * 2) = .int .i64 (a : Int) ∧ c (1 + o.length * 2 + 1) = .int .i64 (b : Int) ∧ StC c o
theorem StC.put {c : Nat → Value} {st : List (Nat × Nat)} (h : StC c st) {i : Nat} (hi : 1 + st.length * 2 ≤ i) (v : Value) : StC (upd c i v) st := by
  induction st with
  | nil => trivial
  | cons e o ih =>
    obtain ⟨a, b⟩ := e
    simp only [List.length_cons] at hi
    exact ⟨by rw [upd_other (by omega)]; exact h.1, by rw [upd_other (by omega)]; exact h.2.1, ih h.2.2 (by omega)⟩
/-- The path's cells: the levels, how many. -/
def PathC (c : Nat → Value) (st : List (Nat × Nat)) : Prop := StC c st ∧ c 33 = .int .i64 (st.length : Int) ∧ st.length ≤ 16
theorem PathC.push {c : Nat → Value} {st : List (Nat × Nat)} (h : PathC c st) (hl : st.length ≤ 15) (a b : Nat) : PathC (pushC c st.length (a : Int) (b : Int)) ((a, b) :: st) := by
  unfold pushC
  refine ⟨⟨?_, ?_, ?_⟩, ?_, by simp only [List.length_cons]; omega⟩
  · rw [upd_other (by omega), upd_other (by omega), upd_same]
  · rw [upd_other (by omega), show 1 + st.length * 2 + 1 = 1 + st.length * 2 + 1 from rfl, upd_same]
  · exact ((h.1.put (by omega) _).put (by omega) _).put (by omega) _
  · rw [upd_same]; simp
theorem pushC_other (c : Nat → Value) (d : Nat) (a b : Int) (hd : d ≤ 15) {j : Nat} (hj : j = 0 ∨ 33 < j) : pushC c d a b j = c j := by
  unfold pushC
  rw [upd_other (by omega), upd_other (by omega), upd_other (by omega)]
/-- But for the path's cells c and c' are the same. -/
def Rest (c c' : Nat → Value) : Prop := c' 0 = c 0 ∧ ∀ j, 33 < j → c' j = c j
theorem Rest.refl (c : Nat → Value) : Rest c c := ⟨rfl, fun _ _ => rfl⟩
theorem Rest.put {c c' : Nat → Value} (h : Rest c c') {i : Nat} (hi : 1 ≤ i) (hi2 : i ≤ 33) (v : Value) : Rest c (upd c' i v) :=
  ⟨by rw [upd_other (by omega)]; exact h.1, fun j hj => by rw [upd_other (by omega)]; exact h.2 j hj⟩
theorem StC.dec {c : Nat → Value} {a b : Nat} {o : List (Nat × Nat)} (h : StC c ((a, b) :: o)) (x : Nat) : StC (upd c (1 + o.length * 2) (.int .i64 (x : Int))) ((x, b) :: o) :=
  ⟨upd_same _ _ _, by rw [upd_other (by omega)]; exact h.2.1, h.2.2.put (by omega) _⟩
/-- How many levels a cell says. -/
def deepOf (w : World) (b : Nat) : Nat := match w.cell? ⟨b, 33, none⟩ with
  | some (.int _ z) => z.toNat
  | _ => 0
theorem deepOf_eq {w : World} {b : Nat} {c : Nat → Value} {d : Nat} (h : Blk w b c) (e : c 33 = .int .i64 (d : Int)) : deepOf w b = d := by
  unfold deepOf
  rw [(h 33 (by omega)).1, e]
  simp
/-- What behind leaves. -/
def Went (b : Nat) (c : Nat → Value) (st : List (Nat × Nat)) (p : Nat) (w : World) (e : Ending) (w' : World) : Prop :=
  e = .returned (.int .i64 ((popm st p).2 : Nat)) ∧ ∃ c', Blk w' b c' ∧ PathC c' (popm st p).1 ∧ Rest c c' ∧ w.grownBy w' (some b)
theorem Went.mk {b : Nat} {c c' : Nat → Value} {st st' : List (Nat × Nat)} {p p' : Nat} {w w' : World} {z : Int} (h : popm st p = (st', p')) (hz : z = (p' : Int)) (hB : Blk w' b c') (hP : PathC c' st') (hR : Rest c c') (hG : w.grownBy w' (some b)) : Went b c st p w (.returned (.int .i64 z)) w' := by
  unfold Went
  rw [h, hz]
  exact ⟨rfl, c', hB, hP, hR, hG⟩
set_option maxRecDepth 100000 in
set_option maxHeartbeats 3200000 in
theorem behind1_any (b : Nat) (c : Nat → Value) (st : List (Nat × Nat)) (p : Nat) (w : World) (h : Blk w b c) (hp : PathC c st) (hb : ∀ e ∈ st, 1 ≤ e.1 ∧ e.1 ≤ 9223372036854775807 ∧ e.2 ≤ 1048576) (hpl : p ≤ 1048576) :
    Calls Tryz.prog 103 #[.pointer (some ⟨b, 1, none⟩), .int .i64 (p : Int)] w (Went b c st (p + 1) w) := by
  have H := Lib.hid h
  have HP := Lib.hid hp
  have HB := Lib.hid hb
  clear h hp hb
  go_enter Tryz.func103, Tryz.ntmps103
  go_wp2_with fail
  go_loopw [] (fun wr => ∃ (c' : Nat → Value) (st' : List (Nat × Nat)), Blk wr b c' ∧ PathC c' st' ∧ popm st' (p + 1) = popm st (p + 1) ∧ (∀ e ∈ st', 1 ≤ e.1 ∧ e.1 ≤ 9223372036854775807 ∧ e.2 ≤ 1048576) ∧ Rest c c' ∧ w.grownBy wr (some b)) (fun wr => deepOf wr b)
  case atStart => exact ⟨c, st, H.out, HP.out, rfl, HB.out, Rest.refl _, gb_refl _ _⟩
  case round =>
    obtain ⟨c', st', hB, hP, hpop, hbd, hR, hG⟩ := hrel
    have HPOP := Lib.hid hpop
    have HBD := Lib.hid hbd
    clear hpop hbd
    obtain ⟨hs, hd, hl⟩ := hP
    have HD := Lib.hid hd
    have c33 := (hB 33 (by omega)).1
    rw [hd] at c33
    have f33 := (hB 33 (by omega)).2
    cases st' with
    | nil =>
      go_wp2_with fail
      go_ret
      exact Went.mk (HPOP.out.symm.trans rfl) (by omega) hB ⟨hs, HD.out, by simp⟩ hR hG
    | cons e o =>
      obtain ⟨a, q⟩ := e
      obtain ⟨b1, b2, b3⟩ := HBD.out (a, q) (by simp)
      dsimp only at b1 b2 b3
      have c1 := (hB (1 + o.length * 2) (by simp at hl; omega)).1
      have c2 := (hB (1 + o.length * 2 + 1) (by simp at hl; omega)).1
      have f1 := (hB (1 + o.length * 2) (by simp at hl; omega)).2
      rw [hs.1] at c1
      rw [hs.2.1] at c2
      simp only [List.length_cons] at c33 hl
      have hs2 := hs.dec (a - 1)
      have HS := Lib.hid hs2
      have HS3 : Hid (StC c' o) := Lib.hid hs.2.2
      clear hs hd hs2
      generalize hod : o.length = d at c33 hl c1 c2 f1 HS
      have HOD := Lib.hid hod
      have q1 : ¬ 33 = 1 + d * 2 := by omega
      have q2 : ¬ 33 = 1 + d * 2 + 1 := by omega
      have q3 : ¬ 1 + d * 2 = 33 := by omega
      have q4 : ¬ 1 + d * 2 + 1 = 33 := by omega
      have hd0 : 0 ≤ (d : Int) := by omega
      have hd1 : (d : Int) < 16 := by omega
      have hd2 : d < 16 := by omega
      have hB1 : ∀ nq, Blk ((wr.drewN nq).setCell ⟨b, 1 + d * 2, none⟩ (.int .i64 ((a : Int) - 1))) b (upd c' (1 + d * 2) (.int .i64 ((a : Int) - 1))) := fun nq => (hB.drewN nq).set (by omega) _
      have hG1 : ∀ nq, w.grownBy ((wr.drewN nq).setCell ⟨b, 1 + d * 2, none⟩ (.int .i64 ((a : Int) - 1))) (some b) := fun nq => gb_set (gb_drewN hG nq) _ _
      have hR1 := hR.put (i := 1 + d * 2) (by omega) (by omega) (.int .i64 ((a : Int) - 1))
      have ea : (a : Int) - 1 = ((a - 1 : Nat) : Int) := by omega
      have HEA := Lib.hid ea
      have HB1 := Lib.hid hB1
      have HBo := Lib.hid hB
      clear hod ea hB1
      by_cases h1 : 1 < a
      · have hc1 : PathC (upd c' (1 + d * 2) (.int .i64 ((a : Int) - 1))) ((a - 1, q) :: o) := ⟨by rw [HEA.out]; exact HS.out, by rw [upd_other (by omega)]; exact HD.out, by simp only [List.length_cons, HOD.out]; omega⟩
        have HC1 := Lib.hid hc1
        clear hc1
        have hd3 : IntKind.i64.wrap ((d : Int) + 1 - 1) = (d : Int) := by rw [IntWalk.i64_in _ (by omega)]; omega
        by_cases hq : 0 < q
        · go_wp2_with fail
          go_quiet (fail)
          go_wp2_with fail
          go_ret
          exact Went.mk (st' := (a - 1, q) :: o) (p' := q) (by rw [← HPOP.out, popm_more _ _ h1, if_pos hq]) rfl (HB1.out _) HC1.out hR1 (hG1 _)
        · go_wp2_with fail
          go_quiet (fail)
          go_wp2_with fail
          go_ret
          exact Went.mk (st' := (a - 1, q) :: o) (p' := p + 1) (by rw [← HPOP.out, popm_more _ _ h1, if_neg hq]) (by omega) (HB1.out _) HC1.out hR1 (hG1 _)
      · have h1' : ¬ 1 < (a : Int) := by omega
        have hd3 : IntKind.i64.wrap ((d : Int) + 1 - 1) = (d : Int) := by rw [IntWalk.i64_in _ (by omega)]; omega
        go_wp2_with fail
        go_quiet (fail)
        go_wp2_with fail
        go_roundw
        case rel =>
          refine ⟨upd (upd c' (1 + d * 2) (.int .i64 ((a : Int) - 1))) 33 (.int .i64 (d : Int)), o, (HB1.out _).set (by omega) _, ⟨?_, by rw [upd_same, HOD.out], by rw [HOD.out]; omega⟩, by rw [← HPOP.out, popm_less _ _ h1], fun e he => HBD.out e (by simp [he]), hR1.put (by omega) (by omega) _, gb_set (hG1 _) _ _⟩
          have h3 := HS3.out
          exact (h3.put (by rw [HOD.out]; omega) _).put (by rw [HOD.out]; omega) _
        case measure =>
          show deepOf _ b < deepOf _ b
          rw [deepOf_eq ((HB1.out _).set (i := 33) (by omega) (.int .i64 (d : Int))) (upd_same _ _ _), deepOf_eq HBo.out HD.out]
          simp only [List.length_cons, HOD.out]
          omega
end Go.Proofs.YtebcfiifaclniaaGreat

/- A cursor in memory: from a node down to its first leaf. -/
namespace Go.Proofs.YtebcfiifaclniaaGreat
open Go.RowKit Tab
set_option linter.unusedSimpArgs false
set_option linter.unusedVariables false

/-- The cursor's table, below its block. -/
structure Tb (w : World) (b : Nat) (A : Option Addr) (n cap : Nat) (l : List Nd) : Prop where
  rd : RdN w b A n l
  cap : n ≤ cap
  hn : n ≤ 128
theorem RdN.gb {w w' : World} {b n : Nat} {A : Option Addr} {l : List Nd} (h : RdN w b A n l) (hb : b ≤ w.heap.size) (hg : w.grownBy w' (some b)) : RdN w' b A n l :=
  ⟨h.len, h.rd.keep fun p hp => World.cell?_of_block (hg.block p.block (by omega) (fun e => by injection e with e; omega)), h.bd⟩
theorem Tb.gb {w w' : World} {b n cap : Nat} {A : Option Addr} {l : List Nd} (h : Tb w b A n cap l) (hb : b ≤ w.heap.size) (hg : w.grownBy w' (some b)) : Tb w' b A n cap l := ⟨h.rd.gb hb hg, h.cap, h.hn⟩
theorem Tb.drewN {w : World} {b n cap : Nat} {A : Option Addr} {l : List Nd} (h : Tb w b A n cap l) (q : Nat) : Tb (w.drewN q) b A n cap l := ⟨⟨h.rd.len, h.rd.rd, h.rd.bd⟩, h.cap, h.hn⟩
def atOf (w : World) (b : Nat) : Nat := match w.cell? ⟨b, 34, none⟩ with
  | some (.int _ z) => z.toNat
  | _ => 0
theorem atOf_eq {w : World} {b : Nat} {c : Nat → Value} {d : Nat} (h : Blk w b c) (e : c 34 = .int .i64 (d : Int)) : atOf w b = d := by
  unfold atOf
  rw [(h 34 (by omega)).1, e]
  simp
/-- What enter leaves. -/
def Entd (b : Nat) (A : Option Addr) (n cap : Nat) (l : List Nd) (c : Nat → Value) (td : List Rn) (w : World) (e : Ending) (w' : World) : Prop :=
  e = .returned (.tuple #[]) ∧ ∃ (c' : Nat → Value) (st : List (Nat × Nat)) (p : Nat), Blk w' b c' ∧ PathC c' st ∧ c' 34 = .int .i64 (p : Int) ∧ c' 0 = c 0 ∧ c' 35 = c 35 ∧ c' 36 = c 36 ∧ AtL l st p td ∧ w.grownBy w' (some b)
set_option maxRecDepth 100000 in
set_option maxHeartbeats 3200000 in
theorem enter_any (b : Nat) (A : Option Addr) (n cap : Nat) (l : List Nd) (c : Nat → Value) (st : List (Nat × Nat)) (p : Nat) (td : List Rn) (w : World) (h : Blk w b c) (hT : Tb w b A n cap l) (hP : PathC c st) (h0 : c 0 = .slice A n cap) (h34 : c 34 = .int .i64 (p : Int)) (hA : Ats l st p td) :
    Calls Tryz.prog 102 #[.pointer (some ⟨b, 0, none⟩)] w (Entd b A n cap l c td w) := by
  have H := Lib.hid h
  have HT := Lib.hid hT
  have HP := Lib.hid hP
  have H34 := Lib.hid h34
  have HA := Lib.hid hA
  have hlen := hT.rd.len
  have HLEN := Lib.hid hlen
  have hn := hT.hn
  have hcap := hT.cap
  clear h hT hP h34 hA hlen
  go_enter Tryz.func102, Tryz.ntmps102
  go_wp2_with fail
  go_loopw [] (fun wr => ∃ (c' : Nat → Value) (st' : List (Nat × Nat)) (p' : Nat), Blk wr b c' ∧ PathC c' st' ∧ c' 34 = .int .i64 (p' : Int) ∧ c' 0 = c 0 ∧ c' 35 = c 35 ∧ c' 36 = c 36 ∧ Ats l st' p' td ∧ w.grownBy wr (some b)) (fun wr => n - atOf wr b)
  case atStart => exact ⟨c, st, p, H.out, HP.out, H34.out, rfl, rfl, rfl, HA.out, gb_refl _ _⟩
  case round =>
    obtain ⟨c', st', p', hB, hP, e34, e0, e35, e36, hA, hG⟩ := hrel
    have c0 := (hB 0 (by omega)).1
    rw [e0, h0] at c0
    have c34 := (hB 34 (by omega)).1
    rw [e34] at c34
    have f34 := (hB 34 (by omega)).2
    have HB := Lib.hid hB
    have HPp := Lib.hid hP
    have HE := Lib.hid (And.intro e34 (And.intro e0 (And.intro e35 e36)))
    have HAA := Lib.hid hA
    have hle := hA.le
    rw [HLEN.out] at hle
    have hTr := HT.out.gb (Nat.le_of_lt H.out.lt) hG
    clear hB hP e34 e0 e35 e36 hA
    by_cases hlt : p' < n
    · obtain ⟨ad, x, rfl, hab, hx, hin, d0, d1, d2⟩ := hTr.rd.at_ hlt
      obtain ⟨xk, xp, xn⟩ := x
      have hlt0 : (p' : Int) < (n : Int) := by omega
      have hlt1 : 0 ≤ (p' : Int) := by omega
      have hfine := HAA.out.fine hx
      have hn1 : 1 ≤ xn := fine_one hfine
      have hn2 : xn ≤ 9223372036854775807 := hin.2.2.2
      have hshort := HAA.out.short (by rw [HLEN.out]; exact hlt)
      have HX := Lib.hid hx
      have hdec : decide (p' < n) = true := decide_eq_true hlt
      clear hfine hx hin
      go_wp2_with fail
      go_quiet (fail)
      go_wp2_with fail
      have hbl := HB.out.lt
      have hal : ad.block < wr.heap.size := by omega
      have hal2 : (ad.add (p' * 3)).block < wr.heap.size := by rw [add_block]; exact hal
      obtain ⟨W, hWe⟩ : ∃ W, W = wr.drewN nq := ⟨_, rfl⟩
      have E0 : W.cell? ⟨b, 0, none⟩ = some (.slice (some ad) n cap) := by rw [hWe]; exact c0
      have E34 : W.cell? ⟨b, 34, none⟩ = some (.int .i64 (p' : Int)) := by rw [hWe]; exact c34
      have F0 : W.cell? (ad.add (p' * 3)) = some (.int .i64 xk) := by rw [hWe]; exact d0
      have F1 : W.cell? ⟨(ad.add (p' * 3)).block, (ad.add (p' * 3)).off + 1, none⟩ = some (.int .i64 xp) := by rw [hWe]; exact d1
      have F2 : W.cell? ⟨(ad.add (p' * 3)).block, (ad.add (p' * 3)).off + 2, none⟩ = some (.int .i64 xn) := by rw [hWe]; exact d2
      have hbl' : b < W.heap.size := by rw [hWe]; exact hbl
      have hal' : (ad.add (p' * 3)).block < W.heap.size := by rw [hWe]; exact hal2
      rw [← hWe]
      have HWE := Lib.hid hWe
      clear c0 c34 d0 d1 d2 hWe
      go_region
      obtain ⟨W2, hW2⟩ : ∃ W2, W2 = (W.alloc (.cells #[.int .i64 xk, .int .i64 xp, .int .i64 xn] 43)).drew := ⟨_, rfl⟩
      have hGW : w.grownBy W (some b) := by rw [HWE.out]; exact gb_drewN hG nq
      have hB2 : Blk W2 b c' := by
        rw [hW2]
        have h1 : Blk W b c' := by rw [HWE.out]; exact HB.out.drewN nq
        exact Blk.keep h1 (Below.heap_alloc W _ b hbl')
      have hG2 : w.grownBy W2 (some b) := by rw [hW2]; exact gb_drew (gb_alloc hGW _)
      have n0 : W2.cell? ⟨W.heap.size, 0, none⟩ = some (.int .i64 xk) := by rw [hW2]; exact World.cell?_alloc_mark _ _ _ _ _
      have n1 : W2.cell? ⟨W.heap.size, 1, none⟩ = some (.int .i64 xp) := by rw [hW2]; exact World.cell?_alloc_mark _ _ _ _ _
      have n2 : W2.cell? ⟨W.heap.size, 2, none⟩ = some (.int .i64 xn) := by rw [hW2]; exact World.cell?_alloc_mark _ _ _ _ _
      rw [← hW2]
      clear hW2 E0 E34 F0 F1 F2 hal' hal2 hGW
      have hne : b ≠ W.heap.size := by omega
      generalize W.heap.size = g at n0 n1 n2 hne ⊢
      have k34 := (hB2 34 (by omega)).1
      rw [HE.out.1] at k34
      have fk34 := (hB2 34 (by omega)).2
      have hl2 := HPp.out.2.2
      generalize hdd : st'.length = d at hshort hl2
      have HDD := Lib.hid hdd
      have HB2 := Lib.hid hB2
      have HG2 := Lib.hid hG2
      clear hB2 hG2 hdd
      by_cases h3 : xk = 3
      · subst h3
        obtain ⟨N, rfl⟩ := Int.eq_ofNat_of_zero_le (show 0 ≤ xn by omega)
        go_wp2_with fail
        go_still_tail 6, (by kernel_rfl)
        change wpList _ _ _ _ _ W2.drew
        go_wp2_with fail
        refine (push_any b c' d (N : Int) 0 W2.drew HB2.out (by omega) (by rw [HPp.out.2.1, HDD.out])).mono ?_
        rintro e w3 ⟨rfl, hB3, hG3⟩
        have k34' := (hB3 34 (by omega)).1
        rw [pushC_other _ _ _ _ hshort (by omega), HE.out.1] at k34'
        have fk34' := (hB3 34 (by omega)).2
        clear n0 n1 n2 k34 fk34
        go_wp2_with fail
        go_roundw
        case rel =>
          have hp := HPp.out.push (by rw [HDD.out]; exact hshort) N 0
          rw [HDD.out] at hp
          refine ⟨upd (pushC c' d (N : Int) 0) 34 (.int .i64 ((p' : Int) + 1)), (N, 0) :: st', p' + 1, hB3.set (by omega) _, ⟨?_, ?_, hp.2.2⟩, by rw [upd_same]; rfl, ?_, ?_, ?_, ?_, gb_set (gb_trans (gb_drew HG2.out) hG3) _ _⟩
          · exact hp.1.put (by simp only [List.length_cons, HDD.out]; omega) _
          · rw [upd_other (by omega)]; exact hp.2.1
          · rw [upd_other (by omega), pushC_other _ _ _ _ hshort (by omega)]; exact HE.out.2.1
          · rw [upd_other (by omega), pushC_other _ _ _ _ hshort (by omega)]; exact HE.out.2.2.1
          · rw [upd_other (by omega), pushC_other _ _ _ _ hshort (by omega)]; exact HE.out.2.2.2
          · exact HAA.out.seq HX.out rfl
        case measure =>
          show n - atOf _ b < n - atOf _ b
          rw [atOf_eq (d := p' + 1) (hB3.set (i := 34) (by omega) (.int .i64 ((p' : Int) + 1))) (by rw [upd_same]; rfl), atOf_eq HB.out HE.out.1]
          omega
      · by_cases h4 : xk = 4
        · subst h4
          obtain ⟨N, rfl⟩ := Int.eq_ofNat_of_zero_le (show 0 ≤ xn by omega)
          go_wp2_with fail
          have hw1 : IntKind.i64.wrap ((p' : Int) + 1) = (p' : Int) + 1 := IntWalk.i64_in _ (by omega)
          go_still_tail 11, (by kernel_rfl)
          change wpList _ _ _ _ _ W2.drew
          go_wp2_with fail
          refine (push_any b c' d (N : Int) ((p' + 1 : Nat) : Int) W2.drew HB2.out (by omega) (by rw [HPp.out.2.1, HDD.out])).mono ?_
          rintro e w3 ⟨rfl, hB3, hG3⟩
          have k34' := (hB3 34 (by omega)).1
          rw [pushC_other _ _ _ _ hshort (by omega), HE.out.1] at k34'
          have fk34' := (hB3 34 (by omega)).2
          clear n0 n1 n2 k34 fk34
          go_wp2_with fail
          go_roundw
          case rel =>
            have hp := HPp.out.push (by rw [HDD.out]; exact hshort) N (p' + 1)
            rw [HDD.out] at hp
            refine ⟨upd (pushC c' d (N : Int) ((p' + 1 : Nat) : Int)) 34 (.int .i64 ((p' : Int) + 1)), (N, p' + 1) :: st', p' + 1, hB3.set (by omega) _, ⟨?_, ?_, hp.2.2⟩, by rw [upd_same]; rfl, ?_, ?_, ?_, ?_, gb_set (gb_trans (gb_drew HG2.out) hG3) _ _⟩
            · exact hp.1.put (by simp only [List.length_cons, HDD.out]; omega) _
            · rw [upd_other (by omega)]; exact hp.2.1
            · rw [upd_other (by omega), pushC_other _ _ _ _ hshort (by omega)]; exact HE.out.2.1
            · rw [upd_other (by omega), pushC_other _ _ _ _ hshort (by omega)]; exact HE.out.2.2.1
            · rw [upd_other (by omega), pushC_other _ _ _ _ hshort (by omega)]; exact HE.out.2.2.2
            · exact HAA.out.rep HX.out rfl hn2
          case measure =>
            show n - atOf _ b < n - atOf _ b
            rw [atOf_eq (d := p' + 1) (hB3.set (i := 34) (by omega) (.int .i64 ((p' : Int) + 1))) (by rw [upd_same]; rfl), atOf_eq HB.out HE.out.1]
            omega
        · have h3' : (xk == 3) = false := beq_eq_false_iff_ne.2 h3
          have h4' : (xk == 4) = false := beq_eq_false_iff_ne.2 h4
          have hL := HAA.out.leaf HX.out h3 h4
          have HL := Lib.hid hL
          clear h3 h4 hL
          go_wp2_with fail
          refine bodyPost_ret (results_none rfl _ _ _) rfl ?_
          exact ⟨rfl, c', st', p', HB2.out, HPp.out, HE.out.1, HE.out.2.1, HE.out.2.2.1, HE.out.2.2.2, HL.out, HG2.out⟩
    · have hge : n ≤ p' := by omega
      have hdec : decide (p' < n) = false := decide_eq_false hlt
      go_wp2_with fail
      go_quiet (fail)
      go_wp2_with fail
      go_end0
      exact ⟨rfl, c', st', p', HB.out.drewN _, HPp.out, HE.out.1, HE.out.2.1, HE.out.2.2.1, HE.out.2.2.2, HAA.out.out (by rw [HLEN.out]; exact hge), gb_drewN hG _⟩
end Go.Proofs.YtebcfiifaclniaaGreat

/- A cursor in memory: what is left of its leaf, taking of it, the next leaf, the next tick. -/
namespace Go.Proofs.YtebcfiifaclniaaGreat
open Go.RowKit Tab
set_option linter.unusedSimpArgs false
set_option linter.unusedVariables false

/-- A cursor over the table l at block b: the leaves td are to come, of the first tk ticks are taken; gn are gone. -/
structure Cur (w : World) (b : Nat) (A : Option Addr) (n cap : Nat) (l : List Nd) (td : List Rn) (tk gn : Nat) : Prop where
  tb : Tb w b A n cap l
  ex : ∃ (c : Nat → Value) (st : List (Nat × Nat)) (p : Nat), Blk w b c ∧ PathC c st ∧ c 0 = .slice A n cap ∧ c 34 = .int .i64 (p : Int) ∧ c 35 = .int .i64 (tk : Int) ∧ c 36 = .int .i64 (gn : Int) ∧ AtL l st p td
  low : ∀ r s, td = r :: s → tk < r.n
  low0 : td = [] → tk = 0
  sum : gn + ticks td ≤ 1048576 + tk
  pos : ∀ r ∈ td, 1 ≤ r.n
theorem Cur.lt {w : World} {b : Nat} {A : Option Addr} {n cap : Nat} {l : List Nd} {td : List Rn} {tk gn : Nat} (h : Cur w b A n cap l td tk gn) : b < w.heap.size := by
  obtain ⟨c, st, p, hB, _⟩ := h.ex
  exact hB.lt
theorem Cur.below {w w' : World} {b : Nat} {A : Option Addr} {n cap : Nat} {l : List Nd} {td : List Rn} {tk gn : Nat} (h : Cur w b A n cap l td tk gn) (hb : Below w.heap.size w w') : Cur w' b A n cap l td tk gn := by
  obtain ⟨c, st, p, hB, r⟩ := h.ex
  have hlt := hB.lt
  exact ⟨⟨⟨h.tb.rd.len, h.tb.rd.rd.keep fun q hq => World.cell?_of_block (hb.block q.block (by omega)), h.tb.rd.bd⟩, h.tb.cap, h.tb.hn⟩, ⟨c, st, p, hB.keep (hb.block b hlt), r⟩, h.low, h.low0, h.sum, h.pos⟩
theorem Below.drewN {B : Nat} {w w' : World} (h : Below B w w') (q : Nat) : Below B w (w'.drewN q) := ⟨h.os, h.tape, h.output, h.size, h.block⟩
/-- The run that is left: of none -1, 0. -/
def leftR : List Rn → Nat → Rn
  | [], _ => ⟨-1, 0⟩
  | r :: _, tk => ⟨r.p, r.n - tk⟩
abbrev rv (p n : Int) : Value := .agg #[.int .i64 p, .int .i64 n]
theorem loadVar_run {w : World} {g : Nat} {x y : Int} (h0 : w.cell? ⟨g, 0, none⟩ = some (.int .i64 x)) (h1 : w.cell? ⟨g, 1, none⟩ = some (.int .i64 y)) : (loadVar 95 ⟨g, 0, none⟩).run Tryz.prog w = .ok (rv x y) w := by
  have e : (isAgg 95).run Tryz.prog w = .ok true w := by go_simp
  have e2 : (sizeOf 95).run Tryz.prog w = .ok 2 w := by go_simp
  unfold loadVar
  rw [Sem.run_bind, e, Result.andThen_ok]
  simp only [if_true]
  rw [Sem.run_bind, e2, Result.andThen_ok, Sem.run_bind]
  have := run_loadCells_list (P := Tryz.prog) (w := w) ⟨g, 0, none⟩ [.int .i64 x, .int .i64 y] (fun j v hj => by
    match j with
    | 0 => simp at hj; subst hj; simpa [Addr.add] using h0
    | 1 => simp at hj; subst hj; simpa [Addr.add] using h1
    | j + 2 => simp at hj)
  simp only [List.length_cons, List.length_nil] at this
  rw [this, Result.andThen_ok]
  rfl
theorem results_cell1 {fn : Func} {p : Tmp} {ty : TypeId} (h : fn.results = #[.cell p ty]) (tmps : Array Value) (P : Program) (w : World) :
    (results fn tmps).run P w = ((asAddr (tmps.getD p undef)).run P w).andThen fun a w₁ => (loadVar ty a).run P w₁ := by
  simp only [results, h]
  simp [Sem.run_bind, Result.andThen]
theorem results_run {fn : Func} {p : Tmp} (h : fn.results = #[.cell p 95]) {tmps : Array Value} {w : World} {g : Nat} {x y : Int} (hp : tmps.getD p undef = .pointer (some ⟨g, 0, none⟩)) (h0 : w.cell? ⟨g, 0, none⟩ = some (.int .i64 x)) (h1 : w.cell? ⟨g, 1, none⟩ = some (.int .i64 y)) :
    (results fn tmps).run Tryz.prog w = .ok (rv x y) w := by
  have e : (asAddr (.pointer (some ⟨g, 0, none⟩))).run Tryz.prog w = .ok ⟨g, 0, none⟩ w := rfl
  rw [results_cell1 h, hp, e, Result.andThen_ok, loadVar_run h0 h1]
theorem results_run2 {fn : Func} {p q : Tmp} (h : fn.results = #[.cell p 95, .tmp q]) {tmps : Array Value} {w : World} {g : Nat} {x y : Int} (hp : tmps.getD p undef = .pointer (some ⟨g, 0, none⟩)) (h0 : w.cell? ⟨g, 0, none⟩ = some (.int .i64 x)) (h1 : w.cell? ⟨g, 1, none⟩ = some (.int .i64 y)) :
    (results fn tmps).run Tryz.prog w = .ok (.tuple #[rv x y, tmps.getD q undef]) w := by
  have e : (asAddr (.pointer (some ⟨g, 0, none⟩))).run Tryz.prog w = .ok ⟨g, 0, none⟩ w := rfl
  rw [results_cell_tmp h, hp, e, Result.andThen_ok, loadVar_run h0 h1, Result.andThen_ok]
set_option maxRecDepth 100000 in
set_option maxHeartbeats 3200000 in
theorem left_any (b : Nat) (A : Option Addr) (n cap : Nat) (l : List Nd) (td : List Rn) (tk gn : Nat) (w : World) (h : Cur w b A n cap l td tk gn) :
    Calls Tryz.prog 95 #[.pointer (some ⟨b, 0, none⟩)] w (Ans (rv (leftR td tk).p ((leftR td tk).n : Int)) w) := by
  obtain ⟨c, st, p, hB, hP, e0, e34, e35, e36, hA⟩ := h.ex
  have hlt := hB.lt
  obtain ⟨W, hW⟩ : ∃ W, W = w.alloc (.cells #[.int .i64 0, .int .i64 0] 95) := ⟨_, rfl⟩
  have hBW : Blk W b c := hB.keep (by rw [hW]; exact Below.heap_alloc w _ b hlt)
  have hTW : Tb W b A n cap l := ⟨⟨h.tb.rd.len, h.tb.rd.rd.keep fun q hq => by rw [hW]; exact World.cell?_alloc_lt w _ q (by omega), h.tb.rd.bd⟩, h.tb.cap, h.tb.hn⟩
  have n0 : W.cell? ⟨w.heap.size, 0, none⟩ = some (.int .i64 0) := by rw [hW]; exact World.cell?_alloc_mark _ _ _ _ _
  have n1 : W.cell? ⟨w.heap.size, 1, none⟩ = some (.int .i64 0) := by rw [hW]; exact World.cell?_alloc_mark _ _ _ _ _
  have g0 : W.frozen? ⟨w.heap.size, 0, none⟩ = false := by rw [hW]; simp
  have g1 : W.frozen? ⟨w.heap.size, 1, none⟩ = false := by rw [hW]; simp
  have hbW : Below w.heap.size w W := by rw [hW]; exact bl1 _ _
  have hgs : w.heap.size < W.heap.size := by rw [hW]; simp
  have c0 := (hBW 0 (by omega)).1
  have c34 := (hBW 34 (by omega)).1
  have c35 := (hBW 35 (by omega)).1
  rw [e0] at c0
  rw [e34] at c34
  rw [e35] at c35
  have HW := Lib.hid hW
  have hlen := h.tb.rd.len
  have hn := h.tb.hn
  have hcap := h.tb.cap
  rcases hA with ⟨_, hp, rfl⟩ | ⟨x, u, hf, h3, h4, hx, _, _, rfl⟩
  · rw [hlen] at hp
    subst hp
    clear h hB hBW hTW hP e0 e34 e35 e36 hlen hW
    go_enter Tryz.func95, Tryz.ntmps95
    go_wp2_with fail
    rw [← HW.out]
    clear HW
    generalize hg : w.heap.size = g at n0 n1 g0 g1 hbW hgs ⊢
    have HGS := Lib.hid hg
    clear hg
    go_quiet (fail)
    go_wp2_with fail
    refine bodyPost_ret (results_run rfl rfl (x := -1) (y := 0) ?_ ?_) rfl ⟨rfl, ?_⟩
    · rw [World.cell?_setCell_other _ _ _ _ (by simp)]
      exact World.cell?_setCell_same _ _ _ (u := .int .i64 0) n0
    · exact World.cell?_setCell_same _ _ _ (u := .int .i64 0) ((World.cell?_setCell_other _ _ _ _ (by simp)).trans n1)
    · rw [HGS.out]
      exact ((Below.drewN hbW nq).setCell (p := ⟨g, 0, none⟩) (Nat.le_refl _) _).setCell (p := ⟨g, 1, none⟩) (Nat.le_refl _) _
  · obtain ⟨xk, xp, xn⟩ := x
    have hpl : p < n := by rw [← hlen]; exact (List.getElem?_eq_some_iff.1 hx).1
    obtain ⟨ad, y, rfl, hab, hy, hin, d0, d1, d2⟩ := hTW.rd.at_ hpl
    rw [hx] at hy
    injection hy with hy
    subst hy
    have hn1 := fine_one hf
    obtain ⟨N, rfl⟩ := Int.eq_ofNat_of_zero_le (show 0 ≤ xn by dsimp only at hn1; omega)
    have hn2 : (N : Int) ≤ 9223372036854775807 := hin.2.2.2
    have htk : tk < N := by have := h.low _ _ rfl; simpa using this
    have hw1 : IntKind.i64.wrap ((N : Int) - (tk : Int)) = (N : Int) - (tk : Int) := IntWalk.i64_in _ (by omega)
    have HW1 := Lib.hid hw1
    have hdne : ((p : Int) == (n : Int)) = false := beq_eq_false_iff_ne.2 (by omega)
    have hlt0 : (p : Int) < (n : Int) := by omega
    have hlt1 : 0 ≤ (p : Int) := by omega
    have hal : (ad.add (p * 3)).block < W.heap.size := by rw [add_block]; omega
    have hbl : b < W.heap.size := by omega
    have hwho : (leftR (⟨whose ⟨xk, xp, (N : Int)⟩, (N : Int).toNat⟩ :: u) tk) = ⟨if xk = 2 then -1 else xp, N - tk⟩ := by
      simp only [leftR, whose, Int.toNat_natCast]
    generalize leftR (⟨whose ⟨xk, xp, (N : Int)⟩, (N : Int).toNat⟩ :: u) tk = R at hwho ⊢
    have HR := Lib.hid hwho
    clear h hB hBW hTW hP e0 e34 e35 e36 hlen hW hf hx hin hwho hw1 h3 h4
    go_enter Tryz.func95, Tryz.ntmps95
    go_wp2_with fail
    rw [← HW.out]
    clear HW
    generalize hg : w.heap.size = g at n0 n1 g0 g1 hbW hgs ⊢
    have HGS := Lib.hid hg
    clear hg
    go_quiet (fail)
    go_wp2_with fail
    obtain ⟨W1, hW1⟩ : ∃ W1, W1 = W.drewN nq := ⟨_, rfl⟩
    have E0 : W1.cell? ⟨b, 0, none⟩ = some (.slice (some ad) n cap) := by rw [hW1]; exact c0
    have E34 : W1.cell? ⟨b, 34, none⟩ = some (.int .i64 (p : Int)) := by rw [hW1]; exact c34
    have E35 : W1.cell? ⟨b, 35, none⟩ = some (.int .i64 (tk : Int)) := by rw [hW1]; exact c35
    have F0 : W1.cell? (ad.add (p * 3)) = some (.int .i64 xk) := by rw [hW1]; exact d0
    have F1 : W1.cell? ⟨(ad.add (p * 3)).block, (ad.add (p * 3)).off + 1, none⟩ = some (.int .i64 xp) := by rw [hW1]; exact d1
    have F2 : W1.cell? ⟨(ad.add (p * 3)).block, (ad.add (p * 3)).off + 2, none⟩ = some (.int .i64 (N : Int)) := by rw [hW1]; exact d2
    have N0 : W1.cell? ⟨g, 0, none⟩ = some (.int .i64 0) := by rw [hW1]; exact n0
    have N1 : W1.cell? ⟨g, 1, none⟩ = some (.int .i64 0) := by rw [hW1]; exact n1
    have G0 : W1.frozen? ⟨g, 0, none⟩ = false := by rw [hW1]; exact g0
    have G1 : W1.frozen? ⟨g, 1, none⟩ = false := by rw [hW1]; exact g1
    have hbl' : b < W1.heap.size := by rw [hW1]; exact hbl
    have hal' : (ad.add (p * 3)).block < W1.heap.size := by rw [hW1]; exact hal
    have hgs' : g < W1.heap.size := by rw [hW1]; exact hgs
    have hbW1 : Below g w W1 := by rw [hW1]; exact Below.drewN hbW nq
    rw [← hW1]
    clear c0 c34 c35 d0 d1 d2 hW1 n0 n1 g0 g1 hbl hal hgs hbW
    go_region
    obtain ⟨W2, hW2⟩ : ∃ W2, W2 = (W1.alloc (.cells #[.int .i64 xk, .int .i64 xp, .int .i64 (N : Int)] 43)).drew := ⟨_, rfl⟩
    have K35 : W2.cell? ⟨b, 35, none⟩ = some (.int .i64 (tk : Int)) := by rw [hW2]; exact (World.cell?_alloc_lt W1 _ ⟨b, 35, none⟩ hbl').trans E35
    have Q0 : W2.cell? ⟨W1.heap.size, 0, none⟩ = some (.int .i64 xk) := by rw [hW2]; exact World.cell?_alloc_mark _ _ _ _ _
    have Q1 : W2.cell? ⟨W1.heap.size, 1, none⟩ = some (.int .i64 xp) := by rw [hW2]; exact World.cell?_alloc_mark _ _ _ _ _
    have Q2 : W2.cell? ⟨W1.heap.size, 2, none⟩ = some (.int .i64 (N : Int)) := by rw [hW2]; exact World.cell?_alloc_mark _ _ _ _ _
    have M0 : W2.cell? ⟨g, 0, none⟩ = some (.int .i64 0) := by rw [hW2]; exact (World.cell?_alloc_lt W1 _ ⟨g, 0, none⟩ hgs').trans N0
    have M1 : W2.cell? ⟨g, 1, none⟩ = some (.int .i64 0) := by rw [hW2]; exact (World.cell?_alloc_lt W1 _ ⟨g, 1, none⟩ hgs').trans N1
    have P0 : W2.frozen? ⟨g, 0, none⟩ = false := by rw [hW2]; exact (World.frozen?_of_block (a := ⟨g, 0, none⟩) (Below.heap_alloc W1 _ g hgs')).trans G0
    have P1 : W2.frozen? ⟨g, 1, none⟩ = false := by rw [hW2]; exact (World.frozen?_of_block (a := ⟨g, 1, none⟩) (Below.heap_alloc W1 _ g hgs')).trans G1
    have hbW2 : Below g w W2 := by rw [hW2]; exact (hbW1.alloc (Nat.le_of_lt hgs') _).drew
    rw [← hW2]
    clear hW2 E0 E34 E35 F0 F1 F2 N0 N1 G0 G1 hal' hbW1 hgs'
    generalize W1.heap.size = g2 at Q0 Q1 Q2 ⊢
    have hfin : ∀ v : Int, v = R.p → Ans (rv R.p (R.n : Int)) w (.returned (rv v ((N : Int) - (tk : Int)))) ((W2.drew.setCell ⟨g, 0, none⟩ (.int .i64 v)).setCell ⟨g, 1, none⟩ (.int .i64 ((N : Int) - (tk : Int)))) := fun v hv => by
      refine ⟨?_, ?_⟩
      · rw [hv, HR.out]
        dsimp only
        rw [show ((N - tk : Nat) : Int) = (N : Int) - (tk : Int) by omega]
      · rw [HGS.out]
        exact ((hbW2.drew).setCell (p := ⟨g, 0, none⟩) (Nat.le_refl _) _).setCell (p := ⟨g, 1, none⟩) (Nat.le_refl _) _
    have HF := Lib.hid hfin
    clear hfin
    go_wp2_with fail
    all_goals
      have hw1 := HW1.out
      go_still_tail 9, (by kernel_rfl)
      change wpList _ _ _ _ _ W2.drew
      go_wp2_with fail
      refine bodyPost_ret (results_run rfl rfl ?_ ?_) rfl (HF.out _ ?_)
      · rw [World.cell?_drew, World.cell?_setCell_other _ _ _ _ (by simp)]
        exact World.cell?_setCell_same _ _ _ (u := .int .i64 0) M0
      · rw [World.cell?_drew]
        exact World.cell?_setCell_same _ _ _ (u := .int .i64 0) ((World.cell?_setCell_other _ _ _ _ (by simp)).trans M1)
      · rw [HR.out]
        simp only [beq_iff_eq, beq_eq_false_iff_ne, ne_eq] at *
        simp [*]
end Go.Proofs.YtebcfiifaclniaaGreat

/- The leaves of a table that is right, by the document's own answer. -/
namespace Go.Proofs.YtebcfiifaclniaaGreat
open Go.RowKit Tab
set_option linter.unusedSimpArgs false
set_option linter.unusedVariables false

/-- It answers a row of runs, new. -/
def MadeR (L : List Rn) (w : World) (e : Ending) (w' : World) : Prop := ∃ A c, e = .returned (.slice A L.length c) ∧ RdR w' w'.heap.size A L.length L ∧ L.length ≤ c ∧ Below w.heap.size w w' ∧ ∀ ad, A = some ad → w.heap.size ≤ ad.block
theorem OwnV.rdr {w : World} {B n c : Nat} {A : Option Addr} {L : List Rn} (h : OwnV 95 2 w B A n c (rs L)) : RdR w w.heap.size A n L := ⟨by have := h.len; rw [rs_length] at this; omega, h.rd⟩
set_option maxHeartbeats 400000 in
theorem rLeaves_right (A : Option Addr) (n cap : Nat) (x : Nd) (k : F) (w : World) (h : RdN w w.heap.size A n (x :: k.flat)) (hc : n ≤ cap) (hok : (F.cons x k .nil).ok) (hn : n ≤ 128) (hl : F.tick x k.len ≤ 4096) :
    Calls Tryz.prog 49 #[.slice A n cap] w (MadeR (one x k.lvs) w) := by
  have hpos : ∀ r ∈ one x k.lvs, 1 ≤ r.n := fun r hr => lvs_pos hok r (by simpa [F.lvs] using hr)
  have hlen := length_le_ticks hpos
  rw [one_ticks, lvs_ticks] at hlen
  have hdr : (x :: k.flat).drop 0 = (F.cons x k .nil).flat ++ [] := by simp [F.flat]
  have hL : Calls Tryz.prog 64 #[.slice A n cap, .int .i64 0, .slice none 0 0] w (MoreR w.heap.size none (one x k.lvs) w) := by
    have := rleaves_any w.heap.size A n cap _ hc (by omega) (k.sz + 1) 0 x k .nil [] w none 0 0 [] (by omega) h hok hdr (Nat.le_refl _) rfl (OwnV.nil _ _ _ _) (by omega)
    simpa using this
  have HL := Lib.hid hL
  clear hL hpos hlen hdr hok
  generalize one x k.lvs = L at HL ⊢
  go_enter Tryz.func49, Tryz.ntmps49
  go_wp2_with fail
  refine HL.out.mono ?_
  rintro e w1 ⟨A1, c1, rfl, ho, hb, _⟩
  have HO := Lib.hid ho
  clear ho
  generalize hq : L.length = q
  have HQ := Lib.hid hq
  clear hq
  go_wp2_with fail
  go_ret
  refine ⟨A1, c1, by rw [HQ.out]; rfl, HO.out.rdr, HO.out.cap, hb, HO.out.newer⟩
end Go.Proofs.YtebcfiifaclniaaGreat

/- A cursor in memory: ticks are taken of its leaf. -/
namespace Go.Proofs.YtebcfiifaclniaaGreat
open Go.RowKit Tab
set_option linter.unusedSimpArgs false
set_option linter.unusedVariables false

/-- The leaves and the ticks of them that are taken, so many further on. -/
def nextTd : List Rn → Nat → Nat → List Rn × Nat
  | [], tk, _ => ([], tk)
  | r :: s, tk, m => if tk + m < r.n then (r :: s, tk + m) else (s, 0)
/-- A cursor that has gone on; no other block that was there has turned. -/
def CurN (b : Nat) (A : Option Addr) (n cap : Nat) (l : List Nd) (td : List Rn) (tk gn : Nat) (v : Value) (w : World) (e : Ending) (w' : World) : Prop :=
  e = .returned v ∧ Cur w' b A n cap l td tk gn ∧ w.grownBy w' (some b)
theorem beh_small {l : List Nd} {st : List (Nat × Nat)} {p : Nat} {td : List Rn} (h : Beh l st p td) (hl : l.length ≤ 128) : ∀ e ∈ st, 1 ≤ e.1 ∧ e.1 ≤ 9223372036854775807 ∧ e.2 ≤ 1048576 := fun e he => by
  have := h.bound e he
  omega
set_option maxRecDepth 100000 in
set_option maxHeartbeats 3200000 in
theorem take_any (b : Nat) (A : Option Addr) (n cap : Nat) (l : List Nd) (r : Rn) (s : List Rn) (tk gn m : Nat) (w : World) (h : Cur w b A n cap l (r :: s) tk gn) (hm : 1 ≤ m) (hm2 : tk + m ≤ r.n) :
    Calls Tryz.prog 96 #[.pointer (some ⟨b, 0, none⟩), .int .i64 (m : Int)] w (CurN b A n cap l (nextTd (r :: s) tk m).1 (nextTd (r :: s) tk m).2 (gn + m) (.tuple #[]) w) := by
  obtain ⟨c, st, p, hB, hP, e0, e34, e35, e36, hA⟩ := h.ex
  have hlt := hB.lt
  have c0 := (hB 0 (by omega)).1
  have c34 := (hB 34 (by omega)).1
  have c35 := (hB 35 (by omega)).1
  have c36 := (hB 36 (by omega)).1
  have f34 := (hB 34 (by omega)).2
  have f35 := (hB 35 (by omega)).2
  have f36 := (hB 36 (by omega)).2
  rw [e0] at c0
  rw [e34] at c34
  rw [e35] at c35
  rw [e36] at c36
  have hlen := h.tb.rd.len
  have hn := h.tb.hn
  have hcap := h.tb.cap
  have hsum := h.sum
  simp only [ticks] at hsum
  rcases hA with ⟨_, _, h0⟩ | ⟨x, u, hf, h3, h4, hx, hst, hbeh, hxe⟩
  · cases h0
  · obtain ⟨xk, xp, xn⟩ := x
    have hpl : p < n := by rw [← hlen]; exact (List.getElem?_eq_some_iff.1 hx).1
    obtain ⟨ad, y, rfl, hab, hy, hin, d0, d1, d2⟩ := h.tb.rd.at_ hpl
    rw [hx] at hy
    injection hy with hy
    subst hy
    have hn1 := fine_one hf
    obtain ⟨N, rfl⟩ := Int.eq_ofNat_of_zero_le (show 0 ≤ xn by dsimp only at hn1; omega)
    injection hxe with hr hs
    subst hs
    have hN : r.n = N := by rw [hr]; simp
    have hN2 : (N : Int) ≤ 9223372036854775807 := hin.2.2.2
    rw [hN] at hm2 hsum
    have hgn : gn + m ≤ 1048576 := by omega
    have hlt0 : (p : Int) < (n : Int) := by omega
    have hlt1 : 0 ≤ (p : Int) := by omega
    have hne : ¬ ad.block = b := by omega
    have HB := Lib.hid hB
    have HH := Lib.hid h
    have HP := Lib.hid hP
    have HN := Lib.hid hN
    have HE := Lib.hid (And.intro e0 (And.intro e34 (And.intro e35 e36)))
    have HA : Hid (AtL l st p (r :: s)) := Lib.hid (.inr ⟨_, s, hf, h3, h4, hx, hst, hbeh, by rw [hr]⟩)
    have HBE := Lib.hid hbeh
    have hne2 : ¬ (ad.add (p * 3)).block = b := by rw [add_block]; exact hne
    have hB1 : Blk ((w.setCell ⟨b, 35, none⟩ (.int .i64 ((tk : Int) + (m : Int)))).setCell ⟨b, 36, none⟩ (.int .i64 ((gn : Int) + (m : Int)))) b (upd (upd c 35 (.int .i64 ((tk : Int) + (m : Int)))) 36 (.int .i64 ((gn : Int) + (m : Int)))) := (hB.set (by omega) _).set (by omega) _
    have hG1 : w.grownBy ((w.setCell ⟨b, 35, none⟩ (.int .i64 ((tk : Int) + (m : Int)))).setCell ⟨b, 36, none⟩ (.int .i64 ((gn : Int) + (m : Int)))) (some b) := gb_set (gb_set (gb_refl _ _) _ _) _ _
    obtain ⟨W, hW⟩ : ∃ W, W = (w.setCell ⟨b, 35, none⟩ (.int .i64 ((tk : Int) + (m : Int)))).setCell ⟨b, 36, none⟩ (.int .i64 ((gn : Int) + (m : Int))) := ⟨_, rfl⟩
    rw [← hW] at hB1 hG1
    have k0 := (hB1 0 (by omega)).1
    have k34 := (hB1 34 (by omega)).1
    have k35 := (hB1 35 (by omega)).1
    have g34 := (hB1 34 (by omega)).2
    have g35 := (hB1 35 (by omega)).2
    rw [upd_other (by omega), upd_other (by omega), e0] at k0
    rw [upd_other (by omega), upd_other (by omega), e34] at k34
    rw [upd_other (by omega), upd_same] at k35
    have hTW := h.tb.gb (Nat.le_of_lt hlt) hG1
    obtain ⟨ad', y', e, _, hy', _, _, _, k2⟩ := hTW.rd.at_ hpl
    injection e with e
    subst e
    rw [hx] at hy'
    injection hy' with hy'
    subst hy'
    have HB1 := Lib.hid hB1
    have HG1 := Lib.hid hG1
    have HT := Lib.hid hTW
    have HW := Lib.hid hW
    clear h hB hP e0 e34 e35 e36 hf h3 h4 hx hst hbeh hr hB1 hG1 hTW hW d0 d1 d2 hin hlen hN hn1
    by_cases hlt2 : tk + m < N
    · have hlt3 : (tk : Int) + (m : Int) < (N : Int) := by omega
      have hnx : nextTd (r :: s) tk m = (r :: s, tk + m) := by simp only [nextTd]; rw [HN.out, if_pos hlt2]
      rw [hnx]
      have HL := Lib.hid hlt2
      clear hnx
      go_enter Tryz.func96, Tryz.ntmps96
      go_wp2_with fail
      rw [← HW.out]
      go_quiet (fail)
      go_wp2_with fail
      refine bodyPost_ret (results_none rfl _ _ _) rfl ⟨rfl, ⟨HT.out.drewN _, ⟨_, st, p, HB1.out.drewN _, ⟨(HP.out.1.put (by have := HP.out.2.2; omega) _).put (by have := HP.out.2.2; omega) _, ?_, HP.out.2.2⟩, ?_, ?_, ?_, ?_, HA.out⟩, ?_, fun h => by (cases h), ?_, HH.out.pos⟩, gb_drewN HG1.out _⟩
      · rw [upd_other (by omega), upd_other (by omega)]; exact HP.out.2.1
      · rw [upd_other (by omega), upd_other (by omega)]; exact HE.out.1
      · rw [upd_other (by omega), upd_other (by omega)]; exact HE.out.2.1
      · rw [upd_other (by omega), upd_same]; rfl
      · rw [upd_same]; rfl
      · rintro r' s' e
        injection e with e1 e2
        subst e1
        rw [HN.out]
        exact HL.out
      · simp only [ticks]
        rw [HN.out]
        omega
    · have hlt3 : ¬ (tk : Int) + (m : Int) < (N : Int) := by omega
      have hnx : nextTd (r :: s) tk m = (s, 0) := by simp only [nextTd]; rw [HN.out, if_neg hlt2]
      rw [hnx]
      have hc2 : ∀ q, Blk ((W.drewN q).setCell ⟨b, 35, none⟩ (.int .i64 0)) b (upd (upd (upd c 35 (.int .i64 ((tk : Int) + (m : Int)))) 36 (.int .i64 ((gn : Int) + (m : Int)))) 35 (.int .i64 0)) := fun q => (HB1.out.drewN q).set (by omega) _
      have hg2 : ∀ q, w.grownBy ((W.drewN q).setCell ⟨b, 35, none⟩ (.int .i64 0)) (some b) := fun q => gb_set (gb_drewN HG1.out q) _ _
      have hp2 : PathC (upd (upd (upd c 35 (.int .i64 ((tk : Int) + (m : Int)))) 36 (.int .i64 ((gn : Int) + (m : Int)))) 35 (.int .i64 0)) st := by
        have h16 := HP.out.2.2
        refine ⟨((HP.out.1.put (by omega) _).put (by omega) _).put (by omega) _, ?_, h16⟩
        rw [upd_other (by omega), upd_other (by omega), upd_other (by omega)]
        exact HP.out.2.1
      have h234 : (upd (upd (upd c 35 (.int .i64 ((tk : Int) + (m : Int)))) 36 (.int .i64 ((gn : Int) + (m : Int)))) 35 (.int .i64 0)) 34 = .int .i64 (p : Int) := by
        rw [upd_other (by omega), upd_other (by omega), upd_other (by omega)]; exact HE.out.2.1
      have h20 : (upd (upd (upd c 35 (.int .i64 ((tk : Int) + (m : Int)))) 36 (.int .i64 ((gn : Int) + (m : Int)))) 35 (.int .i64 0)) 0 = .slice (some ad) n cap := by
        rw [upd_other (by omega), upd_other (by omega), upd_other (by omega)]; exact HE.out.1
      have h235 : (upd (upd (upd c 35 (.int .i64 ((tk : Int) + (m : Int)))) 36 (.int .i64 ((gn : Int) + (m : Int)))) 35 (.int .i64 0)) 35 = .int .i64 ((0 : Nat) : Int) := by
        rw [upd_same]; rfl
      have h236 : (upd (upd (upd c 35 (.int .i64 ((tk : Int) + (m : Int)))) 36 (.int .i64 ((gn : Int) + (m : Int)))) 35 (.int .i64 0)) 36 = .int .i64 ((gn + m : Nat) : Int) := by
        rw [upd_other (by omega), upd_same]; rfl
      have HC2 := Lib.hid hc2
      have HG2 := Lib.hid hg2
      clear hnx hc2 hg2
      generalize upd (upd (upd c 35 (.int .i64 ((tk : Int) + (m : Int)))) 36 (.int .i64 ((gn : Int) + (m : Int)))) 35 (.int .i64 0) = c2 at HC2 hp2 h234 h20 h235 h236
      have H2 := Lib.hid (And.intro h20 (And.intro h234 (And.intro h235 h236)))
      have HP2 := Lib.hid hp2
      have HL := Lib.hid hlt2
      clear hp2 h234 h20 h235 h236 hlt2
      go_enter Tryz.func96, Tryz.ntmps96
      go_wp2_with fail
      rw [← HW.out]
      go_quiet (fail)
      go_wp2_with fail
      have hB2 := HC2.out nq
      have hG2 := HG2.out nq
      generalize (W.drewN nq).setCell ⟨b, 35, none⟩ (.int .i64 0) = W2 at hB2 hG2 ⊢
      have q34 := (hB2 34 (by omega)).1
      rw [H2.out.2.1] at q34
      have r34 := (hB2 34 (by omega)).2
      have HB2 := Lib.hid hB2
      have HGG := Lib.hid hG2
      clear hB2 hG2 k0 k34 k35 g34 g35 k2
      have hbh : Calls Tryz.prog 103 #[.pointer (some ⟨b, 1, none⟩), .int .i64 (p : Int)] W2.drew fun e w3 => e = .returned (.int .i64 ((popm st (p + 1)).2 : Nat)) ∧ w3.cell? ⟨b, 34, none⟩ = some (.int .i64 (p : Int)) ∧ w3.frozen? ⟨b, 34, none⟩ = false ∧ ∃ c3, Blk w3 b c3 ∧ PathC c3 (popm st (p + 1)).1 ∧ Rest c2 c3 ∧ W2.drew.grownBy w3 (some b) := by
        refine (behind1_any b c2 st p W2.drew HB2.out HP2.out (beh_small HBE.out (by rw [HH.out.tb.rd.len]; omega)) (by omega)).mono ?_
        rintro e w3 ⟨rfl, c3, hB3, hP3, hR3, hG3⟩
        exact ⟨rfl, by rw [(hB3 34 (by omega)).1, hR3.2 34 (by omega), H2.out.2.1], (hB3 34 (by omega)).2, c3, hB3, hP3, hR3, hG3⟩
      generalize hpq : (popm st (p + 1)).2 = p2 at hbh
      have HPQ := Lib.hid hpq
      clear hpq
      have HBH := Lib.hid hbh
      clear hbh
      go_region_with (go_at_call 103; refine HBH.out.mono ?_; rintro e w3 ⟨rfl, q3, r3, hex⟩)
      go_wp2_with fail
      obtain ⟨c3, hB3, hP3, hR3, hG3⟩ := hex
      have hpop := HBE.out.pop
      rw [HPQ.out] at hpop
      have hG4 := gb_trans (gb_drew HGG.out) hG3
      have hB4 := hB3.set (i := 34) (by omega) (.int .i64 (p2 : Int))
      have hG5 := gb_set hG4 34 (.int .i64 (p2 : Int))
      have hT5 := HH.out.tb.gb (Nat.le_of_lt hlt) hG5
      have hP4 : PathC (upd c3 34 (.int .i64 (p2 : Int))) (popm st (p + 1)).1 := ⟨hP3.1.put (by have := hP3.2.2; omega) _, by rw [upd_other (by omega)]; exact hP3.2.1, hP3.2.2⟩
      refine (enter_any b (some ad) n cap l _ (popm st (p + 1)).1 p2 s _ hB4 hT5 hP4 (by rw [upd_other (by omega), hR3.1, H2.out.1]) (upd_same _ _ _) hpop).mono ?_
      rintro e w5 ⟨rfl, c5, st5, p5, hB5, hP5, e34, e0, e35, e36, hA5, hG6⟩
      go_wp2_with fail
      go_end0
      refine ⟨rfl, ⟨hT5.gb (Nat.le_of_lt hB4.lt) hG6, ⟨c5, st5, p5, hB5, hP5, ?_, e34, ?_, ?_, hA5⟩, fun r' s' e => ?_, fun _ => rfl, ?_, fun q hq => HH.out.pos q (List.mem_cons_of_mem _ hq)⟩, gb_trans hG5 hG6⟩
      · rw [e0, upd_other (by omega), hR3.1, H2.out.1]
      · rw [e35, upd_other (by omega), hR3.2 35 (by omega), H2.out.2.2.1]
      · rw [e36, upd_other (by omega), hR3.2 36 (by omega), H2.out.2.2.2]
      · exact HH.out.pos r' (List.mem_cons_of_mem _ (by rw [e]; exact List.mem_cons_self))
      · have := HL.out
        omega
end Go.Proofs.YtebcfiifaclniaaGreat

/- A cursor in memory: back to the beginning. -/
namespace Go.Proofs.YtebcfiifaclniaaGreat
open Go.RowKit Tab
set_option linter.unusedSimpArgs false
set_option linter.unusedVariables false

/-- Noughts from cell o on, so many. -/
def zr (c : Nat → Value) (o m : Nat) : Nat → Value := fun j => if o ≤ j ∧ j < o + m then .int .i64 0 else c j
theorem zr_in {c : Nat → Value} {o m j : Nat} (h : o ≤ j ∧ j < o + m) : zr c o m j = .int .i64 0 := if_pos h
theorem zr_out {c : Nat → Value} {o m j : Nat} (h : ¬ (o ≤ j ∧ j < o + m)) : zr c o m j = c j := if_neg h
theorem zr_step (c : Nat → Value) (o m : Nat) : zr (upd c o (.int .i64 0)) (o + 1) m = zr c o (m + 1) := by
  funext j
  by_cases h1 : o + 1 ≤ j ∧ j < o + 1 + m
  · rw [zr_in h1, zr_in (by omega)]
  · rw [zr_out h1]
    by_cases h2 : j = o
    · subst h2
      rw [upd_same, zr_in (by omega)]
    · rw [upd_other h2, zr_out (by omega)]
theorem run_zeros (b m : Nat) : ∀ (i : Nat) (c : Nat → Value) (a w : World), Blk w b c → 1 + i + m ≤ 37 → a.grownBy w (some b) → ∃ w', (storeCells ⟨b, 1, none⟩ (List.replicate m (.int .i64 0)) i).run Tryz.prog w = .ok () w' ∧ Blk w' b (zr c (1 + i) m) ∧ a.grownBy w' (some b) := by
  induction m with
  | zero =>
    intro i c a w h hi hg
    refine ⟨w, rfl, ?_, hg⟩
    have : zr c (1 + i) 0 = c := by
      funext j
      exact zr_out (by omega)
    rw [this]
    exact h
  | succ m ih =>
    intro i c a w h hi hg
    have hadd : (⟨b, 1, none⟩ : Addr).add i = ⟨b, 1 + i, none⟩ := by unfold Addr.add; split <;> simp_all
    obtain ⟨w', h1, h2, h3⟩ := ih (i + 1) _ a _ (h.set (i := 1 + i) (by omega) (.int .i64 0)) (by omega) (gb_set hg _ _)
    refine ⟨w', ?_, ?_, h3⟩
    · rw [List.replicate_succ]
      have hst : (store ((⟨b, 1, none⟩ : Addr).add i) (.int .i64 0)).run Tryz.prog w = .ok () (w.setCell ⟨b, 1 + i, none⟩ (.int .i64 0)) := by
        rw [hadd, run_store Tryz.prog w _ _ _ rfl, (h (1 + i) (by omega)).1, (h (1 + i) (by omega)).2]
        rfl
      simp only [storeCells, Sem.run_bind, hst, Result.andThen_ok]
      exact h1
    · rw [← zr_step, show 1 + i + 1 = 1 + (i + 1) by omega]
      exact h2
theorem run_path0 (b : Nat) (c : Nat → Value) (a w : World) (h : Blk w b c) (hg : a.grownBy w (some b)) : ∃ w', (storeVar 131 ⟨b, 1, none⟩ (.agg (List.replicate 33 (.int .i64 0)).toArray)).run Tryz.prog w = .ok () w' ∧ Blk w' b (zr c 1 33) ∧ a.grownBy w' (some b) := by
  obtain ⟨w', h1, h2, h3⟩ := run_zeros b 33 0 c a w h (by omega) hg
  refine ⟨w', ?_, h2, h3⟩
  have e2 : (sizeOf 131).run Tryz.prog w = .ok 33 w := by go_simp
  unfold storeVar
  rw [Sem.run_bind, e2, Result.andThen_ok]
  simp only [Value.cells]
  exact h1
theorem wpList_path0 {ops : Array Oper} {rest : List Oper} {o : Oper} {a : Act} {Q : Exit → Act → World → Prop} {w w0 : World} (hgd : o.guard = none) (x y : Operand)
    (ho : o.op = .store 131 x y) (b : Nat) (c : Nat → Value) (hx : a.eval x = .pointer (some ⟨b, 1, none⟩)) (hy : a.eval y = .agg (List.replicate 33 (.int .i64 0)).toArray) (h : Blk w b c) (hg : w0.grownBy w (some b))
    (hK : ∀ w', Blk w' b (zr c 1 33) → w0.grownBy w' (some b) → wpList Tryz.prog ops Q rest (a.put o.dst undef) w') : wpList Tryz.prog ops Q (o :: rest) a w := by
  refine wpList_plain hgd fun K hk => ?_
  obtain ⟨w', hrun, h1, h2⟩ := run_path0 b c w0 w h hg
  unfold Oper.wp execOp
  simp only [ho, Instr.storeAt, Instr.sureAddr, Sem.run_bind, Sem.run_pure, Result.andThen_ok, hx, hy, hrun]
  exact hk _ _ (hK w' h1 h2)
set_option maxRecDepth 100000 in
set_option maxHeartbeats 3200000 in
theorem reset_any (b : Nat) (A : Option Addr) (n cap : Nat) (x : Nd) (k : F) (c : Nat → Value) (w : World) (h : Blk w b c) (hT : Tb w b A n cap (x :: k.flat)) (h0 : c 0 = .slice A n cap) (hok : (F.cons x k .nil).ok) (hd : k.dep + 1 ≤ 16) (hl : ticks (one x k.lvs) ≤ 1048576) :
    Calls Tryz.prog 94 #[.pointer (some ⟨b, 0, none⟩)] w (CurN b A n cap (x :: k.flat) (one x k.lvs) 0 0 (.tuple #[]) w) := by
  have H := Lib.hid h
  have HT := Lib.hid hT
  have H0 := Lib.hid h0
  clear h hT h0
  go_enter Tryz.func94, Tryz.ntmps94
  go_wp2_with (refine wpList_path0 (w0 := w) rfl (.tmp 8) (.tmp 6) rfl b c rfl rfl H.out (gb_refl _ _) ?_; intro w1 hB1 hG1; have z34 := (hB1 34 (by omega)).1; have z35 := (hB1 35 (by omega)).1; have z36 := (hB1 36 (by omega)).1; have y34 := (hB1 34 (by omega)).2; have y35 := (hB1 35 (by omega)).2; have y36 := (hB1 36 (by omega)).2)
  have hB2 := ((hB1.set (i := 34) (by omega) (.int .i64 0)).set (i := 35) (by omega) (.int .i64 0)).set (i := 36) (by omega) (.int .i64 0)
  have hG2 := gb_set (gb_set (gb_set hG1 34 (.int .i64 0)) 35 (.int .i64 0)) 36 (.int .i64 0)
  have hT2 := HT.out.gb (Nat.le_of_lt H.out.lt) hG2
  have hA : Ats (x :: k.flat) [] 0 (one x k.lvs) := Ats.start hok hd
  have hpos : ∀ r ∈ one x k.lvs, 1 ≤ r.n := fun r hr => lvs_pos hok r (by simpa [F.lvs] using hr)
  have h00 : (upd (upd (upd (zr c 1 33) 34 (.int .i64 0)) 35 (.int .i64 0)) 36 (.int .i64 0)) 0 = .slice A n cap := by
    rw [upd_other (by omega), upd_other (by omega), upd_other (by omega), zr_out (by omega)]; exact H0.out
  refine (enter_any b A n cap _ _ [] 0 _ _ hB2 hT2 ⟨trivial, by rw [upd_other (by omega), upd_other (by omega), upd_other (by omega), zr_in (by omega)]; rfl, by simp⟩ h00 (by rw [upd_other (by omega), upd_other (by omega), upd_same]; rfl) hA).mono ?_
  rintro e w5 ⟨rfl, c5, st5, p5, hB5, hP5, e34, e0, e35, e36, hA5, hG6⟩
  clear z34 z35 z36 y34 y35 y36
  go_wp2_with fail
  go_end0
  refine ⟨rfl, ⟨hT2.gb (Nat.le_of_lt hB2.lt) hG6, ⟨c5, st5, p5, hB5, hP5, by rw [e0]; exact h00, e34, ?_, ?_, hA5⟩, fun r' s' e => ?_, fun _ => rfl, by omega, hpos⟩, gb_trans hG2 hG6⟩
  · rw [e35, upd_other (by omega), upd_same]; rfl
  · rw [e36, upd_same]; rfl
  · exact hpos r' (by rw [e]; exact List.mem_cons_self)
theorem reset_cur (b : Nat) (A : Option Addr) (n cap : Nat) (x : Nd) (k : F) (td : List Rn) (tk gn : Nat) (w : World) (h : Cur w b A n cap (x :: k.flat) td tk gn) (hok : (F.cons x k .nil).ok) (hd : k.dep + 1 ≤ 16) (hl : ticks (one x k.lvs) ≤ 1048576) :
    Calls Tryz.prog 94 #[.pointer (some ⟨b, 0, none⟩)] w (CurN b A n cap (x :: k.flat) (one x k.lvs) 0 0 (.tuple #[]) w) := by
  obtain ⟨c, st, p, hB, hP, e0, _⟩ := h.ex
  exact reset_any b A n cap x k c w hB h.tb e0 hok hd hl
/-- A cursor goes on in block b alone, of those that were there. -/
theorem Cur.gb {w w' : World} {b b' : Nat} {A : Option Addr} {n cap : Nat} {l : List Nd} {td : List Rn} {tk gn : Nat} (h : Cur w b A n cap l td tk gn) (hg : w.grownBy w' (some b')) (hb : b < b') : Cur w' b A n cap l td tk gn := by
  obtain ⟨c, st, p, hB, r⟩ := h.ex
  have hlt := hB.lt
  exact ⟨⟨⟨h.tb.rd.len, h.tb.rd.rd.keep fun q hq => World.cell?_of_block (hg.block q.block (by omega) (fun e => by injection e with e; omega)), h.tb.rd.bd⟩, h.tb.cap, h.tb.hn⟩, ⟨c, st, p, hB.keep (hg.block b hlt (fun e => by injection e with e; omega)), r⟩, h.low, h.low0, h.sum, h.pos⟩
theorem gb_bl {a w w' : World} {x : Option Nat} (h : a.grownBy w x) (k : Below w.heap.size w w') : a.grownBy w' x := gb_below h k h.size
end Go.Proofs.YtebcfiifaclniaaGreat

/- A cursor in memory: the next leaf, the next tick. -/
namespace Go.Proofs.YtebcfiifaclniaaGreat
open Go.RowKit Tab
set_option linter.unusedSimpArgs false
set_option linter.unusedVariables false

/-- What stands in a variable of two cells that was just written, below a newer block. -/
theorem two_cells {w : World} {g : Nat} {x y u v : Value} {o : Obj} (h0 : w.cell? ⟨g, 0, none⟩ = some u) (h1 : w.cell? ⟨g, 1, none⟩ = some v) (hg : g < w.heap.size) :
    (((w.setCell ⟨g, 0, none⟩ x).setCell ⟨g, 1, none⟩ y).alloc o).cell? ⟨g, 0, none⟩ = some x ∧ (((w.setCell ⟨g, 0, none⟩ x).setCell ⟨g, 1, none⟩ y).alloc o).cell? ⟨g, 1, none⟩ = some y := by
  have hs : g < ((w.setCell ⟨g, 0, none⟩ x).setCell ⟨g, 1, none⟩ y).heap.size := by simpa [World.setCell] using hg
  constructor
  · rw [World.cell?_alloc_lt _ _ _ hs, World.cell?_setCell_other _ _ _ _ (by simp)]
    exact World.cell?_setCell_same _ _ _ h0
  · rw [World.cell?_alloc_lt _ _ _ hs]
    exact World.cell?_setCell_same _ _ _ ((World.cell?_setCell_other _ _ _ _ (by simp)).trans h1)
theorem two_cells0 {w : World} {g : Nat} {x y u v : Value} (h0 : w.cell? ⟨g, 0, none⟩ = some u) (h1 : w.cell? ⟨g, 1, none⟩ = some v) :
    ((w.setCell ⟨g, 0, none⟩ x).setCell ⟨g, 1, none⟩ y).cell? ⟨g, 0, none⟩ = some x ∧ ((w.setCell ⟨g, 0, none⟩ x).setCell ⟨g, 1, none⟩ y).cell? ⟨g, 1, none⟩ = some y := by
  constructor
  · rw [World.cell?_setCell_other _ _ _ _ (by simp)]
    exact World.cell?_setCell_same _ _ _ h0
  · exact World.cell?_setCell_same _ _ _ ((World.cell?_setCell_other _ _ _ _ (by simp)).trans h1)
/-- A new variable's cells, in a later world. -/
theorem new_two {w w1 : World} {x y : Int} {t : TypeId} (hb : Below (w.alloc (.cells #[.int .i64 x, .int .i64 y] t)).heap.size (w.alloc (.cells #[.int .i64 x, .int .i64 y] t)) w1) :
    w1.cell? ⟨w.heap.size, 0, none⟩ = some (.int .i64 x) ∧ w1.cell? ⟨w.heap.size, 1, none⟩ = some (.int .i64 y) ∧ w1.frozen? ⟨w.heap.size, 0, none⟩ = false ∧ w1.frozen? ⟨w.heap.size, 1, none⟩ = false ∧ w.heap.size < w1.heap.size := by
  have lt0 : w.heap.size < (w.alloc (.cells #[.int .i64 x, .int .i64 y] t)).heap.size := by simp
  exact ⟨(hb.cell (p := ⟨w.heap.size, 0, none⟩) lt0).trans (World.cell?_alloc_mark _ _ _ _ _), (hb.cell (p := ⟨w.heap.size, 1, none⟩) lt0).trans (World.cell?_alloc_mark _ _ _ _ _),
    (World.frozen?_of_block (a := ⟨w.heap.size, 0, none⟩) (hb.block _ lt0)).trans (by simp), (World.frozen?_of_block (a := ⟨w.heap.size, 1, none⟩) (hb.block _ lt0)).trans (by simp), Nat.lt_of_lt_of_le lt0 hb.size⟩
theorem new_two_gb {w w1 : World} {x y : Int} {t : TypeId} {b : Nat} (hg : (w.alloc (.cells #[.int .i64 x, .int .i64 y] t)).grownBy w1 (some b)) (hb : b < w.heap.size) :
    w1.cell? ⟨w.heap.size, 0, none⟩ = some (.int .i64 x) ∧ w1.cell? ⟨w.heap.size, 1, none⟩ = some (.int .i64 y) ∧ w1.frozen? ⟨w.heap.size, 0, none⟩ = false ∧ w1.frozen? ⟨w.heap.size, 1, none⟩ = false ∧ w.heap.size < w1.heap.size := by
  have lt0 : w.heap.size < (w.alloc (.cells #[.int .i64 x, .int .i64 y] t)).heap.size := by simp
  have hk := hg.block w.heap.size lt0 (fun e => by injection e with e; omega)
  exact ⟨(World.cell?_of_block (a := ⟨w.heap.size, 0, none⟩) hk).trans (World.cell?_alloc_mark _ _ _ _ _), (World.cell?_of_block (a := ⟨w.heap.size, 1, none⟩) hk).trans (World.cell?_alloc_mark _ _ _ _ _),
    (World.frozen?_of_block (a := ⟨w.heap.size, 0, none⟩) hk).trans (by simp), (World.frozen?_of_block (a := ⟨w.heap.size, 1, none⟩) hk).trans (by simp), Nat.lt_of_lt_of_le lt0 hg.size⟩
set_option maxRecDepth 100000 in
set_option maxHeartbeats 3200000 in
theorem next_end (b : Nat) (A : Option Addr) (n cap : Nat) (l : List Nd) (tk gn : Nat) (w : World) (h : Cur w b A n cap l [] tk gn) :
    Calls Tryz.prog 83 #[.pointer (some ⟨b, 0, none⟩)] w (Ans (.tuple #[rv 0 0, .bool false]) w) := by
  have hb1 := bl1 w (.cells #[.int .i64 0, .int .i64 0] 95)
  have hL : Calls Tryz.prog 95 #[.pointer (some ⟨b, 0, none⟩)] (w.alloc (.cells #[.int .i64 0, .int .i64 0] 95)) (Ans (rv (-1) 0) (w.alloc (.cells #[.int .i64 0, .int .i64 0] 95))) := left_any b A n cap l [] tk gn _ (h.below hb1)
  have HL := Lib.hid hL
  clear hL h
  go_enter Tryz.func83, Tryz.ntmps83
  go_wp2_with fail
  refine HL.out.mono ?_
  rintro e w1 ⟨rfl, hb2⟩
  have hk := hb1.trans (hb2.mono hb1.size)
  obtain ⟨m0, m1, f0, f1, hgl⟩ := new_two hb2
  clear hb1 hb2 HL
  generalize hg : w.heap.size = g at m0 m1 f0 f1 hgl hk ⊢
  have HG := Lib.hid hg
  clear hg
  go_wp2_with fail
  refine bodyPost_ret (results_run2 rfl rfl (two_cells m0 m1 hgl).1 (two_cells m0 m1 hgl).2) rfl ⟨rfl, ?_⟩
  rw [HG.out]
  exact ((hk.setCell (p := ⟨g, 0, none⟩) (Nat.le_refl _) _).setCell (p := ⟨g, 1, none⟩) (Nat.le_refl _) _).alloc (by have := hk.size; rw [HG.out] at this; simpa [World.setCell] using this) _
theorem nextTd_all (r : Rn) (s : List Rn) (tk : Nat) (h : tk < r.n) : nextTd (r :: s) tk (r.n - tk) = (s, 0) := by simp only [nextTd]; rw [if_neg (by omega)]
theorem gb_old {w w1 : World} {b : Nat} {o : Obj} (hg : (w.alloc o).grownBy w1 (some b)) : w.grownBy w1 (some b) := gb_trans (gb_alloc (gb_refl _ _) o) hg
theorem gb_set_new {a w : World} {g b : Nat} {x : Value} {i : Nat} (h : a.grownBy w (some b)) (hg : a.heap.size ≤ g) : a.grownBy (w.setCell ⟨g, i, none⟩ x) (some b) :=
  ⟨h.os, h.tape, h.output, by have := h.size; simpa [World.setCell] using this, fun k hk hne => (Below.heap_setCell w ⟨g, i, none⟩ x k (fun e => by dsimp only at e; omega)).trans (h.block k hk hne)⟩
set_option maxRecDepth 100000 in
set_option maxHeartbeats 3200000 in
theorem next_some (b : Nat) (A : Option Addr) (n cap : Nat) (l : List Nd) (r : Rn) (s : List Rn) (tk gn : Nat) (w : World) (h : Cur w b A n cap l (r :: s) tk gn) :
    Calls Tryz.prog 83 #[.pointer (some ⟨b, 0, none⟩)] w (CurN b A n cap l s 0 (gn + (r.n - tk)) (.tuple #[rv r.p ((r.n - tk : Nat) : Int), .bool true]) w) := by
  have hlt := h.lt
  have htk := h.low r s rfl
  have hb1 := bl1 w (.cells #[.int .i64 0, .int .i64 0] 95)
  have hL : Calls Tryz.prog 95 #[.pointer (some ⟨b, 0, none⟩)] (w.alloc (.cells #[.int .i64 0, .int .i64 0] 95)) (Ans (rv r.p ((r.n - tk : Nat) : Int)) (w.alloc (.cells #[.int .i64 0, .int .i64 0] 95))) := left_any b A n cap l (r :: s) tk gn _ (h.below hb1)
  have hK := fun w' (hc : Cur w' b A n cap l (r :: s) tk gn) => take_any b A n cap l r s tk gn (r.n - tk) w' hc (by omega) (by omega)
  rw [nextTd_all r s tk htk] at hK
  have HL := Lib.hid hL
  have HK := Lib.hid hK
  have HC := Lib.hid h
  have hm0 : 0 < r.n - tk := by omega
  clear hL h hK htk
  generalize r.n - tk = m at HL HK hm0 ⊢
  generalize r.p = q at HL ⊢
  have hne : ((m : Int) == 0) = false := beq_eq_false_iff_ne.2 (by omega)
  go_enter Tryz.func83, Tryz.ntmps83
  go_wp2_with fail
  refine HL.out.mono ?_
  rintro e w1 ⟨rfl, hb2⟩
  have hk := hb1.trans (hb2.mono hb1.size)
  obtain ⟨m0, m1, f0, f1, hgl⟩ := new_two hb2
  have hC1 := HC.out.below hk
  have HC1 := Lib.hid hC1
  clear hb1 hb2 HL hC1
  generalize hg : w.heap.size = g at m0 m1 f0 f1 hgl hk hlt ⊢
  have HG := Lib.hid hg
  clear hg
  go_wp2_with fail
  have hb3 := bl1 w1 (.cells #[.int .i64 q, .int .i64 (m : Int)] 95)
  refine (HK.out _ (HC1.out.below hb3)).mono ?_
  rintro e w2 ⟨rfl, hC2, hG2⟩
  have hbl : b < w1.heap.size := by omega
  obtain ⟨p0, p1, _, _, hgl2⟩ := new_two_gb hG2 hbl
  have hk2 := hG2.block g (by simp; omega) (fun e => by injection e with e; omega)
  have hk3 : (w1.alloc (.cells #[.int .i64 q, .int .i64 (m : Int)] 95)).heap[g]? = w1.heap[g]? := Below.heap_alloc w1 _ g hgl
  have n0 : w2.cell? ⟨g, 0, none⟩ = some (.int .i64 0) := (World.cell?_of_block (a := ⟨g, 0, none⟩) (hk2.trans hk3)).trans m0
  have n1 : w2.cell? ⟨g, 1, none⟩ = some (.int .i64 0) := (World.cell?_of_block (a := ⟨g, 1, none⟩) (hk2.trans hk3)).trans m1
  have e0 : w2.frozen? ⟨g, 0, none⟩ = false := (World.frozen?_of_block (a := ⟨g, 0, none⟩) (hk2.trans hk3)).trans f0
  have e1 : w2.frozen? ⟨g, 1, none⟩ = false := (World.frozen?_of_block (a := ⟨g, 1, none⟩) (hk2.trans hk3)).trans f1
  have HC2 := Lib.hid hC2
  have HG2 := Lib.hid hG2
  clear m0 m1 f0 f1 hC2 hG2
  generalize w1.heap.size = g2 at p0 p1 ⊢
  go_wp2_with fail
  have hgw : w.grownBy w2 (some b) := gb_trans (gb_alloc (gb_below (gb_refl w _) hk (by rw [HG.out]; exact Nat.le_refl _)) _) HG2.out
  refine bodyPost_ret (results_run2 rfl rfl (two_cells0 n0 n1).1 (two_cells0 n0 n1).2) rfl ⟨rfl, HC2.out.gb (gb_set (gb_set (gb_refl _ _) 0 _) 1 _) hlt, gb_set_new (gb_set_new hgw (by rw [HG.out]; exact Nat.le_refl _)) (by rw [HG.out]; exact Nat.le_refl _)⟩
end Go.Proofs.YtebcfiifaclniaaGreat

/- A cursor at the beginning of a table. -/
namespace Go.Proofs.YtebcfiifaclniaaGreat
open Go.RowKit Tab
set_option linter.unusedSimpArgs false
set_option linter.unusedVariables false

/-- It answers a row of nodes, new. -/
def MadeN (l : List Nd) (w : World) (e : Ending) (w' : World) : Prop := ∃ A n c, e = .returned (.slice A n c) ∧ OwnN w' w.heap.size A n c l ∧ Below w.heap.size w w'
set_option maxRecDepth 100000 in
set_option maxHeartbeats 800000 in
theorem clone_any (ad : Addr) (n cap : Nat) (l : List Nd) (w : World) (h : RdN w w.heap.size (some ad) n l) (hn : n ≤ 1048576) :
    Calls Tryz.prog 93 #[.slice (some ad) n cap] w (MadeN l w) := by
  have he : ∀ w : World, (binOp .eql 44 (.slice (some ad) n cap) (.slice none 0 0)).run Tryz.prog w = .ok (.bool false) w := fun _ => rfl
  have hs : ∀ w : World, (Instr.buildSlice 44 0 #[]).run Tryz.prog w = .ok (.slice (some ⟨w.heap.size, 0, none⟩) 0 0) (w.alloc (.cells #[] 43)) := fun _ => by
    obtain ⟨i, hi, _⟩ := info_parts elN.hi
    simp [Instr.buildSlice, run_underlying elN.ht, sizeOf, typeInfo, hi, newRow, Instr.fill]
    congr 2
    apply Array.ext <;> simp
  have hbl := bl1 w (.cells #[] 43)
  have ho := ownV_lit w 43 3 w.heap.size #[] 0 rfl (Nat.le_refl _) (by unfold maxLen; omega)
  have hr := h.on hbl
  go_enter Tryz.func93, Tryz.ntmps93
  go_wp2_with (at_builtin; go_loud (refine wpList_appV elN rfl (.tmp 5) (.tmp 6) rfl rfl w.heap.size (some ⟨w.heap.size, 0, none⟩) 0 0 _ rfl ho (some ad) n cap _ _ rfl hr.rd (by rw [ns_length, h.len]) (ns_one _) (by omega) (by unfold maxLen; omega) hbl.size n (by omega) (ns l) (by simp) ?_; intro A2 c2 w2 hw2 hb2 _))
  go_ret
  exact ⟨A2, n, c2, rfl, ⟨h.len, hw2, h.bd⟩, hbl.trans hb2⟩
def newC (A : Option Addr) (n cap : Nat) : Nat → Value := fun j => if j = 0 then .slice A n cap else .int .i64 0
theorem blk_new (w : World) (A : Option Addr) (n cap : Nat) : Blk (w.alloc (.cells (Value.slice A n cap :: List.replicate 36 (.int .i64 0)).toArray 133)) w.heap.size (newC A n cap) := fun o ho => by
  refine ⟨?_, by simp⟩
  rw [World.cell?_alloc_mark, List.getElem?_toArray]
  cases o with
  | zero => rfl
  | succ j => rw [List.getElem?_cons_succ, List.getElem?_replicate, if_pos (by omega)]; rfl
/-- A cursor at the beginning of a table. -/
def Born (x : Nd) (k : F) (w : World) (e : Ending) (w' : World) : Prop :=
  ∃ (b : Nat) (A : Option Addr) (n cap : Nat), e = .returned (.pointer (some ⟨b, 0, none⟩)) ∧ Cur w' b A n cap (x :: k.flat) (one x k.lvs) 0 0 ∧ w.heap.size ≤ b ∧ Below w.heap.size w w'
set_option maxRecDepth 100000 in
set_option maxHeartbeats 3200000 in
theorem new_right (A : Option Addr) (n cap : Nat) (x : Nd) (k : F) (w : World) (h : RdN w w.heap.size A n (x :: k.flat)) (hc : n ≤ cap) (hok : (F.cons x k .nil).ok) (hn : n ≤ 128) (hd : k.dep + 1 ≤ 16) (hl : F.tick x k.len ≤ 4096) :
    Calls Tryz.prog 82 #[.slice A n cap] w (Born x k w) := by
  have hR := right_tree A n cap _ x k w h hc (by omega) hok rfl
  have e0 : rt n (k.dep + 1) (F.tick x k.len) = 0 := by unfold rt; rw [if_neg (by omega), if_neg (by omega), if_neg (by omega)]
  rw [e0] at hR
  have htk : ticks (one x k.lvs) ≤ 1048576 := by rw [one_ticks, lvs_ticks]; omega
  have hn1 : 0 < n := by rw [← h.len]; simp
  obtain ⟨ad, _, rfl, _⟩ := h.at_ hn1
  have HR := Lib.hid hR
  have HO := Lib.hid hok
  clear hR e0 hok
  go_enter Tryz.func82, Tryz.ntmps82
  go_wp2_with fail
  refine HR.out.mono ?_
  rintro e w1 ⟨rfl, hb1⟩
  go_wp2_with fail
  refine (clone_any ad n cap _ w1 (h.on hb1) (by omega)).mono ?_
  rintro e w2 ⟨A2, n2, c2, rfl, ho, hb2⟩
  have e2 : n2 = n := by rw [← ho.len, h.len]
  subst e2
  go_wp2_with fail
  have hlt2 : ∀ ad', A2 = some ad' → ad'.block < w2.heap.size := fun ad' e => by
    obtain ⟨g, hg, _, hlt⟩ := ho.own.block hn1
    rw [e] at hg
    injection hg with hg
    rw [hg]
    exact hlt
  have hT : Tb (w2.alloc (.cells (Value.slice A2 n2 c2 :: List.replicate 36 (.int .i64 0)).toArray 133)) w2.heap.size A2 n2 c2 (x :: k.flat) := ⟨⟨ho.len, (ho.rdn).rd.keep fun p hp => World.cell?_alloc_lt w2 _ p hp, ho.bd⟩, ho.cap, hn⟩
  have hB := blk_new w2 A2 n2 c2
  have hk2 := hb1.trans (hb2.mono hb1.size)
  refine (reset_any w2.heap.size A2 n2 c2 x k _ _ hB hT rfl HO.out hd htk).mono ?_
  rintro e w3 ⟨rfl, hC, hG⟩
  have hs : w2.heap.size < (w2.alloc (.cells (Value.slice A2 n2 c2 :: List.replicate 36 (.int .i64 0)).toArray 133)).heap.size := by simp
  have hbl : Below w2.heap.size w2 w3 := by
    have h1 := bl1 w2 (.cells (Value.slice A2 n2 c2 :: List.replicate 36 (.int .i64 0)).toArray 133)
    exact ⟨hG.os.trans h1.os, hG.tape.trans h1.tape, hG.output.trans h1.output, Nat.le_trans h1.size hG.size, fun j hj => (hG.block j (by omega) (fun e => by injection e with e; omega)).trans (h1.block j hj)⟩
  have HC := Lib.hid hC
  have HBL := Lib.hid (hk2.trans (hbl.mono hk2.size))
  have hge := hk2.size
  clear hC hG hbl hB hT hlt2 ho
  generalize w2.heap.size = b at HC hge ⊢
  go_wp2_with fail
  go_ret
  exact ⟨b, A2, n2, c2, rfl, HC.out, hge, HBL.out⟩
set_option maxHeartbeats 800000 in
theorem new_wrong (A : Option Addr) (n cap : Nat) (w : World) (R : Int) (hR : Calls Tryz.prog 69 #[.slice A n cap] w (Ans (.int .i64 R) w)) (h : ¬ R = 0) :
    Calls Tryz.prog 82 #[.slice A n cap] w (Ans (.pointer none) w) := by
  have HR := Lib.hid hR
  have hne : (R != 0) = true := bne_iff_ne.2 h
  have hne2 : (R == 0) = false := beq_eq_false_iff_ne.2 h
  clear hR
  go_enter Tryz.func82, Tryz.ntmps82
  go_wp2_with fail
  refine HR.out.mono ?_
  rintro e w1 ⟨rfl, hb1⟩
  go_wp2_with fail
  go_ret
  exact ⟨rfl, hb1⟩
end Go.Proofs.YtebcfiifaclniaaGreat
