/- A table that is made of a tape of numbers is one. -/
import Derived.Test.YtpjppglaieohlaaNext
import Derived.Test.YtpjppglaieohlaaKids
namespace Go.Proofs.Ytpjppglaieohlaa
open Go.RowKit Tab
set_option linter.unusedSimpArgs false
set_option linter.unusedVariables false

theorem next_at (B b : Nat) (A : Option Addr) (m c : Nat) (f : Nat → Int) (at_ n : Nat) (N : Int) (w : World) (h : TapeW w B b A m c f at_) (hN : N = (n : Int)) (hn : 1 ≤ n) (hn2 : n ≤ 64) (hm : m ≤ 140737488351232) :
    Calls Try.prog 17 #[.pointer (some ⟨b, 0, none⟩), .int .i64 N] w (Nexts B b A m c f n w) := by
  subst hN
  exact next_any B b A m c f at_ n w h hn hn2 hm
theorem TapeW.lt {w : World} {B b : Nat} {A : Option Addr} {m c : Nat} {f : Nat → Int} {at_ : Nat} (h : TapeW w B b A m c f at_) : b < w.heap.size := World.block_lt_of_cell? w _ h.c0
theorem TapeW.below {w w' : World} {B b : Nat} {A : Option Addr} {m c : Nat} {f : Nat → Int} {at_ : Nat} (h : TapeW w B b A m c f at_) {Bs : Nat} (hb : Below Bs w w') (hlt : b < Bs) : TapeW w' B b A m c f at_ :=
  ⟨h.rd.keep fun p hp => hb.cell (by have := h.low; omega), h.low, (hb.cell (p := ⟨b, 0, none⟩) hlt).trans h.c0, (hb.cell (p := ⟨b, 1, none⟩) hlt).trans h.c1, (hb.frozen (p := ⟨b, 1, none⟩) hlt).trans h.fr, h.le⟩
theorem gb_trans {a w w' : World} {x : Option Nat} (h : a.grownBy w x) (k : w.grownBy w' x) : a.grownBy w' x :=
  ⟨k.os.trans h.os, k.tape.trans h.tape, k.output.trans h.output, Nat.le_trans h.size k.size, fun i hi hne => (k.block i (Nat.lt_of_lt_of_le hi h.size) hne).trans (h.block i hi hne)⟩
theorem gb_below {a w w' : World} {x : Option Nat} {B : Nat} (h : a.grownBy w x) (k : Below B w w') (hB : a.heap.size ≤ B) : a.grownBy w' x :=
  ⟨k.os.trans h.os, k.tape.trans h.tape, k.output.trans h.output, Nat.le_trans h.size k.size, fun i hi hne => (k.block i (by omega)).trans (h.block i hi hne)⟩
theorem gb_alloc {a w : World} {x : Option Nat} (h : a.grownBy w x) (o : Obj) : a.grownBy (w.alloc o) x := gb_below h (bl1 w o) h.size
/-- A row of nodes of the call's own. -/
structure OwnN (w : World) (B : Nat) (A : Option Addr) (n c : Nat) (l : List Nd) : Prop where
  len : l.length = n
  own : OwnV 44 3 w B A n c (ns l)
  bd : ∀ x ∈ l, NdIn x
theorem OwnN.rdn {w : World} {B n c : Nat} {A : Option Addr} {l : List Nd} (h : OwnN w B A n c l) : RdN w w.heap.size A n l := ⟨h.len, h.own.rd, h.bd⟩
theorem OwnN.keep {w w' : World} {B n c : Nat} {A : Option Addr} {l : List Nd} (h : OwnN w B A n c l) (hk : ∀ b, B ≤ b → b < w.heap.size → w'.heap[b]? = w.heap[b]?) : OwnN w' B A n c l := ⟨h.len, h.own.keep hk, h.bd⟩
theorem OwnN.gb {w w' : World} {B n c b : Nat} {A : Option Addr} {l : List Nd} (h : OwnN w B A n c l) (hg : w.grownBy w' (some b)) (hb : b < B) : OwnN w' B A n c l :=
  h.keep fun k hk hlt => hg.block k hlt (fun e => by injection e with e; omega)
theorem OwnN.lit (w : World) (B : Nat) (C : Array Value) (l : List Nd) (m : Nat) (hl : l.length = m) (hC : C.toList = ns l) (hB : B ≤ w.heap.size) (hm : m ≤ 4096) (hb : ∀ x ∈ l, NdIn x) : OwnN (w.alloc (.cells C 44)) B (some ⟨w.heap.size, 0, none⟩) m m l := by
  refine ⟨hl, ?_, hb⟩
  have := ownV_lit w 44 3 B C m (by rw [← Array.length_toList, hC, ns_length, hl]) hB (by unfold maxLen; omega)
  rwa [hC] at this
/-- A table, new, of no more than X nodes, no deeper than D; of what was there the tape alone has turned. -/
def Tabs (B b : Nat) (A : Option Addr) (m c : Nat) (f : Nat → Int) (X D : Nat) (w : World) (e : Ending) (w' : World) : Prop :=
  ∃ (x : Nd) (k : F) (A' : Option Addr) (n' c' at' : Nat), e = .returned (.slice A' n' c') ∧ (F.cons x k .nil).ok ∧ OwnN w' w.heap.size A' n' c' (x :: k.flat) ∧ k.sz + 1 ≤ X ∧ k.dep ≤ D ∧ TapeW w' B b A m c f at' ∧ w.grownBy w' (some b)
theorem ndIn_mk {k p n : Int} (hk : 0 ≤ k ∧ k ≤ 9) (hp : 0 ≤ p ∧ p ≤ 9) (hn : 0 ≤ n ∧ n ≤ 1048576) : NdIn ⟨k, p, n⟩ := by
  unfold NdIn In64
  dsimp only
  omega
set_option maxRecDepth 100000 in
set_option maxHeartbeats 4000000 in
theorem table_any (B b : Nat) (A : Option Addr) (m c : Nat) (f : Nat → Int) (hm : m ≤ 140737488351232) (parts : Nat) (hp1 : 1 ≤ parts) (hp2 : parts ≤ 6) (d : Nat) : ∀ (at_ : Nat) (w : World), d ≤ 6 → TapeW w B b A m c f at_ →
    Calls Try.prog 13 #[.pointer (some ⟨b, 0, none⟩), .int .i64 (parts : Int), .int .i64 (d : Int)] w (Tabs B b A m c f (5 ^ (d + 1)) d w) := by
  induction d with
  | zero =>
    intro at_ w hd T
    have hX : 5 ^ (0 + 1) = 5 := rfl
    rw [hX]
    clear hX
    go_enter Try.func13, Try.ntmps13
    go_wp2_with fail
    refine (next_at B b A m c f at_ 7 _ w T rfl (by omega) (by omega) hm).mono ?_
    rintro e w1 ⟨k, at1, hk, rfl, T1, G1⟩
    by_cases hk0 : k = 0
    · subst hk0
      go_wp2_with fail
      refine (next_at B b A m c f at1 4 _ w1 T1 rfl (by omega) (by omega) hm).mono ?_
      rintro e w2 ⟨j, at2, hj, rfl, T2, G2⟩
      go_wp2_with fail
      go_ret
      exact ⟨⟨2, 0, 1 + (j : Int)⟩, .nil, _, 1, 1, at2, rfl, ⟨(fine_iff _ _ _).2 (by omega), by simp [F.cnt, kn], trivial, trivial⟩, OwnN.lit w2 w.heap.size #[.int .i64 2, .int .i64 0, .int .i64 (1 + (j : Int))] [⟨2, 0, 1 + (j : Int)⟩] 1 rfl rfl (Nat.le_trans G1.size G2.size) (by omega) (by intro x hx; simp at hx; subst hx; exact ndIn_mk (by omega) (by omega) (by omega)), by simp only [F.sz]; omega, by simp only [F.dep]; omega, T2.below (bl1 w2 _) T2.lt, gb_alloc (gb_trans G1 G2) _⟩
    · have hk0' : ((k : Int) == 0) = false := beq_eq_false_iff_ne.2 (by omega)
      go_wp2_with fail
      refine (next_at B b A m c f at1 parts _ w1 T1 rfl hp1 (by omega) hm).mono ?_
      rintro e w2 ⟨p, at2, hp, rfl, T2, G2⟩
      go_wp2_with fail
      refine (next_at B b A m c f at2 4 _ w2 T2 rfl (by omega) (by omega) hm).mono ?_
      rintro e w3 ⟨j, at3, hj, rfl, T3, G3⟩
      go_wp2_with fail
      go_ret
      exact ⟨⟨1, (p : Int), 1 + (j : Int)⟩, .nil, _, 1, 1, at3, rfl, ⟨(fine_iff _ _ _).2 (by omega), by simp [F.cnt, kn], trivial, trivial⟩, OwnN.lit w3 w.heap.size #[.int .i64 1, .int .i64 (p : Int), .int .i64 (1 + (j : Int))] [⟨1, (p : Int), 1 + (j : Int)⟩] 1 rfl rfl (Nat.le_trans G1.size (Nat.le_trans G2.size G3.size)) (by omega) (by intro x hx; simp at hx; subst hx; exact ndIn_mk (by omega) (by omega) (by omega)), by simp only [F.sz]; omega, by simp only [F.dep]; omega, T3.below (bl1 w3 _) T3.lt, gb_alloc (gb_trans G1 (gb_trans G2 G3)) _⟩
  | succ d ih =>
    intro at_ w hd T
    have HIH := Lib.hid ih
    clear ih
    have hX : 5 ^ (d + 1) ≤ 78125 := Nat.le_trans (Nat.pow_le_pow_right (by omega) (show d + 1 ≤ 7 by omega)) (by decide)
    have hX2 : 5 ^ (d + 1 + 1) = 5 * 5 ^ (d + 1) := by rw [Nat.pow_succ, Nat.mul_comm]
    have hX1 : 1 ≤ 5 ^ (d + 1) := Nat.pow_pos (by omega)
    rw [hX2]
    generalize 5 ^ (d + 1) = X at hX hX1 HIH ⊢
    clear hX2
    have hd1 : decide (((d + 1 : Nat) : Int) < 1) = false := decide_eq_false (by omega)
    go_enter Try.func13, Try.ntmps13
    go_wp2_with fail
    refine (next_at B b A m c f at_ 7 _ w T rfl (by omega) (by omega) hm).mono ?_
    rintro e w1 ⟨k, at1, hk, rfl, T1, G1⟩
    by_cases hk2 : k < 2
    · by_cases hk0 : k = 0
      · subst hk0
        go_wp2_with fail
        refine (next_at B b A m c f at1 4 _ w1 T1 rfl (by omega) (by omega) hm).mono ?_
        rintro e w2 ⟨j, at2, hj, rfl, T2, G2⟩
        go_wp2_with fail
        go_ret
        exact ⟨⟨2, 0, 1 + (j : Int)⟩, .nil, _, 1, 1, at2, rfl, ⟨(fine_iff _ _ _).2 (by omega), by simp [F.cnt, kn], trivial, trivial⟩, OwnN.lit w2 w.heap.size #[.int .i64 2, .int .i64 0, .int .i64 (1 + (j : Int))] [⟨2, 0, 1 + (j : Int)⟩] 1 rfl rfl (Nat.le_trans G1.size G2.size) (by omega) (by intro x hx; simp at hx; subst hx; exact ndIn_mk (by omega) (by omega) (by omega)), by simp only [F.sz]; omega, by simp only [F.dep]; omega, T2.below (bl1 w2 _) T2.lt, gb_alloc (gb_trans G1 G2) _⟩
      · have hk0' : ((k : Int) == 0) = false := beq_eq_false_iff_ne.2 (by omega)
        go_wp2_with fail
        refine (next_at B b A m c f at1 parts _ w1 T1 rfl hp1 (by omega) hm).mono ?_
        rintro e w2 ⟨p, at2, hp, rfl, T2, G2⟩
        go_wp2_with fail
        refine (next_at B b A m c f at2 4 _ w2 T2 rfl (by omega) (by omega) hm).mono ?_
        rintro e w3 ⟨j, at3, hj, rfl, T3, G3⟩
        go_wp2_with fail
        go_ret
        exact ⟨⟨1, (p : Int), 1 + (j : Int)⟩, .nil, _, 1, 1, at3, rfl, ⟨(fine_iff _ _ _).2 (by omega), by simp [F.cnt, kn], trivial, trivial⟩, OwnN.lit w3 w.heap.size #[.int .i64 1, .int .i64 (p : Int), .int .i64 (1 + (j : Int))] [⟨1, (p : Int), 1 + (j : Int)⟩] 1 rfl rfl (Nat.le_trans G1.size (Nat.le_trans G2.size G3.size)) (by omega) (by intro x hx; simp at hx; subst hx; exact ndIn_mk (by omega) (by omega) (by omega)), by simp only [F.sz]; omega, by simp only [F.dep]; omega, T3.below (bl1 w3 _) T3.lt, gb_alloc (gb_trans G1 (gb_trans G2 G3)) _⟩
    · by_cases hk3 : k = 2
      · subst hk3
        go_wp2_with fail
        refine (next_at B b A m c f at1 3 _ w1 T1 rfl (by omega) (by omega) hm).mono ?_
        rintro e w2 ⟨j, at2, hj, rfl, T2, G2⟩
        go_wp2_with fail
        have ql := OwnN.lit w2 w.heap.size #[.int .i64 4, .int .i64 0, .int .i64 (1 + (j : Int))] [⟨4, 0, 1 + (j : Int)⟩] 1 rfl rfl (Nat.le_trans G1.size G2.size) (by omega) (by intro x hx; simp at hx; subst hx; exact ndIn_mk (by omega) (by omega) (by omega))
        have T3 := T2.below (bl1 w2 (.cells #[.int .i64 4, .int .i64 0, .int .i64 (1 + (j : Int))] 44)) T2.lt
        have G3 := gb_alloc (gb_trans G1 G2) (.cells #[.int .i64 4, .int .i64 0, .int .i64 (1 + (j : Int))] 44)
        refine (HIH.out at2 _ (by omega) T3).mono ?_
        rintro e w4 ⟨x, k, A4, n4, c4, at4, rfl, hok, hown, hsz, hdp, T4, G4⟩
        have hb0 : b < w.heap.size := T.lt
        have ql4 := ql.gb G4 hb0
        have G5 := gb_trans G3 G4
        have hlen4 := hown.len
        simp only [List.length_cons, F.flat_length] at hlen4
        go_wp2_with (at_builtin; go_loud (refine wpList_appV elN rfl (.tmp 40) (.tmp 45) rfl rfl w.heap.size _ 1 1 _ rfl ql4.own A4 n4 c4 _ _ rfl hown.own.rd (by rw [ns_length, hown.len]) (ns_one _) (by omega) (by unfold maxLen; omega) G5.size (1 + n4) rfl _ rfl ?_; intro A5 c5 w5 hw5 hb5 _))
        go_ret
        refine ⟨⟨4, 0, 1 + (j : Int)⟩, .cons x k .nil, A5, 1 + n4, c5, at4, rfl, ⟨(fine_iff _ _ _).2 (by omega), by simp [F.cnt, kn], hok, trivial⟩, ⟨?_, ?_, ?_⟩, ?_, ?_, T4.below hb5 hb0, gb_below G5 hb5 (Nat.le_refl _)⟩
        · simp only [List.length_cons, F.flat, List.append_nil, F.flat_length]; omega
        · have e : (F.cons x k .nil).flat = x :: k.flat := by simp [F.flat]
          rw [e]
          exact hw5
        · intro y hy
          have e : (F.cons x k .nil).flat = x :: k.flat := by simp [F.flat]
          rw [e] at hy
          rcases List.mem_cons.1 hy with rfl | hy
          · exact ndIn_mk (by omega) (by omega) (by omega)
          · exact hown.bd y hy
        · simp only [F.sz]; omega
        · simp only [F.dep]; omega
      · have hk3' : ((k : Int) == 2) = false := beq_eq_false_iff_ne.2 (by omega)
        go_wp2_with fail
        refine (next_at B b A m c f at1 4 _ w1 T1 rfl (by omega) (by omega) hm).mono ?_
        rintro e w2 ⟨j, at2, hj, rfl, T2, G2⟩
        have hb0 : b < w.heap.size := T.lt
        have ql := OwnN.lit w2 w.heap.size #[.int .i64 3, .int .i64 0, .int .i64 (1 + (j : Int))] [⟨3, 0, 1 + (j : Int)⟩] 1 rfl rfl (Nat.le_trans G1.size G2.size) (by omega) (by intro x hx; simp at hx; subst hx; exact ndIn_mk (by omega) (by omega) (by omega))
        have T3 := T2.below (bl1 w2 (.cells #[.int .i64 3, .int .i64 0, .int .i64 (1 + (j : Int))] 44)) T2.lt
        have G3 := gb_alloc (gb_trans G1 G2) (.cells #[.int .i64 3, .int .i64 0, .int .i64 (1 + (j : Int))] 44)
        go_wp2_with fail
        generalize w2.alloc (.cells #[.int .i64 3, .int .i64 0, .int .i64 (1 + (j : Int))] 44) = w3 at ql T3 G3 ⊢
        go_loopw [9, 10] (fun q s wr => ∃ (i : Nat) (g : F) (A1 : Option Addr) (n1 c1 at' : Nat), i ≤ 1 + j ∧ s = .int .i64 i ∧ q = .slice A1 n1 c1 ∧ g.ok ∧ g.cnt = i ∧ OwnN wr w.heap.size A1 n1 c1 (⟨3, 0, 1 + (j : Int)⟩ :: g.flat) ∧ g.sz ≤ i * X ∧ g.dep ≤ d + 1 ∧ TapeW wr B b A m c f at' ∧ w.grownBy wr (some b)) (fun _ s _ => 1 + j - (intOf s).toNat)
        case atStart => exact ⟨0, .nil, _, 1, 1, at2, by omega, rfl, rfl, trivial, rfl, ql, by simp [F.sz], by simp [F.dep], T3, G3⟩
        case round =>
          obtain ⟨i, g, A1, n1, c1, at3, hi, rfl, rfl, hgok, hgc, hown, hgs, hgd, T4, G4⟩ := hrel
          have HOK := Lib.hid hgok
          have HGC := Lib.hid hgc
          have HLEN := Lib.hid hown.len
          have hiX : (i + 1) * X = i * X + X := Nat.succ_mul i X
          have hiX4 : i * X ≤ 4 * X := Nat.mul_le_mul_right _ (by omega)
          clear hgok hgc T1 T2 T3 G1 G2 G3 ql
          by_cases hlt : i < 1 + j
          · have hlt' : decide ((i : Int) < 1 + (j : Int)) = true := decide_eq_true (by omega)
            go_wp2_with fail
            refine (HIH.out at3 _ (by omega) T4).mono ?_
            rintro e w5 ⟨x, kk, A5, n5, c5, at5, rfl, hok, hown5, hsz, hdp, T5, G5⟩
            have q5 := hown.gb G5 hb0
            have G6 := gb_trans G4 G5
            have hlen5 := hown5.len
            have hlen := HLEN.out
            simp only [List.length_cons, F.flat_length] at hlen5 hlen
            go_wp2_with (at_builtin; go_loud (refine wpList_appV elN rfl (.tmp 58) (.tmp 63) rfl rfl w.heap.size _ n1 c1 _ rfl q5.own A5 n5 c5 _ _ rfl hown5.own.rd (by rw [ns_length, hown5.len]) (ns_one _) (by omega) (by unfold maxLen; omega) G6.size (n1 + n5) rfl _ rfl ?_; intro A6 c6 w6 hw6 hb6 _))
            go_roundw
            case rel =>
              have e : (g.app (.cons x kk .nil)).flat = g.flat ++ x :: kk.flat := by rw [F.app_flat]; simp [F.flat]
              refine ⟨i + 1, g.app (.cons x kk .nil), A6, n1 + n5, c6, at5, by omega, by go_num, rfl, F.app_ok HOK.out hok, by rw [F.app_cnt, HGC.out]; rfl, ⟨?_, ?_, ?_⟩, ?_, ?_, T5.below hb6 hb0, gb_below G6 hb6 (Nat.le_refl _)⟩
              · rw [e]; simp only [List.length_cons, List.length_append, F.flat_length]; omega
              · rw [e, ← List.cons_append, ns_append]; exact hw6
              · intro y hy
                rw [e, ← List.cons_append] at hy
                rcases List.mem_append.1 hy with hy | hy
                · exact hown.bd y hy
                · exact hown5.bd y hy
              · rw [F.app_sz, hiX]; simp only [F.sz]; omega
              · rw [F.app_dep]; simp only [F.dep]; omega
            case measure => simp [intOf]; omega
          · have hlt' : decide ((i : Int) < 1 + (j : Int)) = false := decide_eq_false (by omega)
            go_wp2_with fail
            go_ret
            refine ⟨⟨3, 0, 1 + (j : Int)⟩, g, A1, n1, c1, at3, rfl, ⟨(fine_iff _ _ _).2 (by omega), ?_, HOK.out, trivial⟩, hown, by omega, hgd, T4, G4⟩
            have := HGC.out
            simp only [kn]
            rw [if_pos trivial]
            omega
/-- A table, new, of no more than X nodes, no deeper than D; what was there is as it was. -/
def TabD (X D : Nat) (w : World) (e : Ending) (w' : World) : Prop :=
  ∃ (x : Nd) (k : F) (A' : Option Addr) (n' c' : Nat), e = .returned (.slice A' n' c') ∧ (F.cons x k .nil).ok ∧ RdN w' w'.heap.size A' n' (x :: k.flat) ∧ n' ≤ c' ∧ k.sz + 1 ≤ X ∧ k.dep ≤ D ∧ Below w.heap.size w w'
/-- A table, new, of no more than X nodes; what was there is as it was. -/
def TabB (X : Nat) (w : World) (e : Ending) (w' : World) : Prop :=
  ∃ (x : Nd) (k : F) (A' : Option Addr) (n' c' : Nat), e = .returned (.slice A' n' c') ∧ (F.cons x k .nil).ok ∧ RdN w' w'.heap.size A' n' (x :: k.flat) ∧ n' ≤ c' ∧ k.sz + 1 ≤ X ∧ Below w.heap.size w w'
theorem OwnN.cap {w : World} {B n c : Nat} {A : Option Addr} {l : List Nd} (h : OwnN w B A n c l) : n ≤ c := OwnV.cap h.own
theorem tape_boxed (A : Option Addr) (n cap : Nat) (f : Nat → Int) (w : World) (h : RdC w w.heap.size A n fun j => .int .i64 (f j)) : TapeW (w.alloc (.cells #[.slice A n cap, .int .i64 0] 26)) w.heap.size w.heap.size A n cap f 0 :=
  ⟨h.keep fun p hp => World.cell?_alloc_lt w _ p hp, Nat.le_refl _, by simp [World.cell?_alloc_mark], by simp [World.cell?_alloc_mark], by simp, Nat.zero_le _⟩
theorem gb_boxed {w w1 : World} {o : Obj} (h : (w.alloc o).grownBy w1 (some w.heap.size)) : Below w.heap.size w w1 :=
  (bl1 w o).trans ⟨h.os, h.tape, h.output, h.size, fun i hi => h.block i (by simp; omega) (fun e => by injection e with e; omega)⟩
/-- Out of a tape that was just boxed. -/
theorem table_boxd (A : Option Addr) (n cap : Nat) (f : Nat → Int) (w : World) (P D : Int) (parts d : Nat) (hP : P = (parts : Int)) (hD : D = (d : Int)) (hp1 : 1 ≤ parts) (hp2 : parts ≤ 6) (hd : d ≤ 6) (h : RdC w w.heap.size A n fun j => .int .i64 (f j)) (hn : n ≤ 140737488351232) :
    Calls Try.prog 13 #[.pointer (some ⟨w.heap.size, 0, none⟩), .int .i64 P, .int .i64 D] (w.alloc (.cells #[.slice A n cap, .int .i64 0] 26)) (TabD (5 ^ (d + 1)) d w) := by
  subst hP; subst hD
  refine (table_any w.heap.size w.heap.size A n cap f hn parts hp1 hp2 d 0 _ hd (tape_boxed A n cap f w h)).mono ?_
  rintro e w1 ⟨x, k, A', n', c', at', rfl, hok, hown, hsz, hdp, T1, G1⟩
  exact ⟨x, k, A', n', c', rfl, hok, hown.rdn, hown.cap, hsz, hdp, gb_boxed G1⟩
theorem table_box (A : Option Addr) (n cap : Nat) (f : Nat → Int) (w : World) (P D : Int) (parts d : Nat) (hP : P = (parts : Int)) (hD : D = (d : Int)) (hp1 : 1 ≤ parts) (hp2 : parts ≤ 6) (hd : d ≤ 6) (h : RdC w w.heap.size A n fun j => .int .i64 (f j)) (hn : n ≤ 140737488351232) :
    Calls Try.prog 13 #[.pointer (some ⟨w.heap.size, 0, none⟩), .int .i64 P, .int .i64 D] (w.alloc (.cells #[.slice A n cap, .int .i64 0] 26)) (TabB (5 ^ (d + 1)) w) :=
  (table_boxd A n cap f w P D parts d hP hD hp1 hp2 hd h hn).mono fun e w1 ⟨x, k, A', n', c', he, hok, hr, hc, hsz, _, hb⟩ => ⟨x, k, A', n', c', he, hok, hr, hc, hsz, hb⟩
/-- Bits held by a mask. -/
theorem and_mask (a : Int) (m : Nat) (hm : m < 9223372036854775808) : ∃ M : Nat, bits .and .i64 a (m : Int) = (M : Int) ∧ M ≤ m := by
  refine ⟨(BitVec.ofInt 64 a &&& BitVec.ofInt 64 (m : Int)).toNat, ?_, ?_⟩
  · have h : (BitVec.ofInt 64 a &&& BitVec.ofInt 64 (m : Int)).toNat ≤ m := by
      rw [BitVec.toNat_and]
      refine Nat.le_trans Nat.and_le_right ?_
      rw [BitVec.ofInt_natCast, BitVec.toNat_ofNat]
      exact Nat.mod_le _ _
    show IntKind.i64.wrap ((BitVec.ofInt 64 a &&& BitVec.ofInt 64 (m : Int)).toNat : Int) = _
    rw [IntKind.wrap_i64]
    omega
  · rw [BitVec.toNat_and]
    refine Nat.le_trans Nat.and_le_right ?_
    rw [BitVec.ofInt_natCast, BitVec.toNat_ofNat]
    exact Nat.mod_le _ _
end Go.Proofs.Ytpjppglaieohlaa
