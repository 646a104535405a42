/- A row of runs that is made of a tape of numbers. -/
import Derived.Test.YtcdgofdnafbacaaLow3
import Derived.Test.YtcdgofdnafbacaaLow2
namespace Go.Proofs.Ytcdgofdnafbacaa
open Go.RowKit Tab
set_option linter.unusedSimpArgs false
set_option linter.unusedVariables false

/-- A run of the kind that a tape makes. -/
def Fair (parts : Nat) (r : Rn) : Prop := 1 ≤ r.n ∧ r.n ≤ 4 ∧ -1 ≤ r.p ∧ r.p < parts
theorem fair_ticks {parts : Nat} {L : List Rn} (h : ∀ r ∈ L, Fair parts r) : ticks L ≤ 4 * L.length := by
  induction L with
  | nil => simp [ticks]
  | cons x L ih =>
    have h1 := h x (by simp)
    have h2 := ih fun r hr => h r (by simp [hr])
    unfold Fair at h1
    simp only [ticks, List.length_cons]
    omega
/-- A row of runs, new; of what was there the tape alone has turned. -/
def RowT (B b : Nat) (A : Option Addr) (m c : Nat) (f : Nat → Int) (parts most : Nat) (w : World) (e : Ending) (w' : World) : Prop :=
  ∃ (L : List Rn) (A' : Option Addr) (n' c' at' : Nat), e = .returned (.slice A' n' c') ∧ (∀ r ∈ L, Fair parts r) ∧ OwnV 31 2 w' w.heap.size A' n' c' (rs L) ∧ 1 ≤ n' ∧ n' ≤ most ∧ TapeW w' B b A m c f at' ∧ w.grownBy w' (some b)
theorem OwnV.gb {E s : Nat} {w w' : World} {B n c b : Nat} {A : Option Addr} {l : List Value} (h : OwnV E s w B A n c l) (hg : w.grownBy w' (some b)) (hb : b < B) : OwnV E s w' B A n c l :=
  h.keep fun k hk hlt => hg.block k hlt (fun e => by injection e with e; omega)
set_option maxRecDepth 100000 in
set_option maxHeartbeats 4000000 in
theorem row_any (B b : Nat) (A : Option Addr) (m c : Nat) (f : Nat → Int) (hm : m ≤ 140737488351232) (parts most : Nat) (hp1 : 1 ≤ parts) (hp2 : parts ≤ 6) (hm1 : 1 ≤ most) (hm2 : most ≤ 64) (at_ : Nat) (w : World) (T : TapeW w B b A m c f at_) :
    Calls Try.prog 10 #[.pointer (some ⟨b, 0, none⟩), .int .i64 (parts : Int), .int .i64 (most : Int)] w (RowT B b A m c f parts most w) := by
  have hb0 : b < w.heap.size := T.lt
  go_enter Try.func10, Try.ntmps10
  go_wp2_with fail
  refine (next_at B b A m c f at_ most _ w T rfl hm1 (by omega) hm).mono ?_
  rintro e w1 ⟨k, at1, hk, rfl, T1, G1⟩
  go_wp2_with fail
  go_loopw [7, 8] (fun q s wr => ∃ (i : Nat) (L : List Rn) (A1 : Option Addr) (c1 at' : Nat), i ≤ 1 + k ∧ s = .int .i64 ((1 + k - i : Nat) : Int) ∧ q = .slice A1 i c1 ∧ (∀ r ∈ L, Fair parts r) ∧ OwnV 31 2 wr w.heap.size A1 i c1 (rs L) ∧ TapeW wr B b A m c f at' ∧ w.grownBy wr (some b)) (fun _ s _ => (intOf s).toNat)
  case atStart => exact ⟨0, [], none, 0, at1, by omega, by simp, rfl, by simp, OwnV.nil _ _ _ _, T1, G1⟩
  case round =>
    obtain ⟨i, L, A1, c1, at3, hi, rfl, rfl, hL, hown, T4, G4⟩ := hrel
    have HLL := Lib.hid hL
    clear hL
    by_cases hlt : i < 1 + k
    · obtain ⟨j, hj⟩ : ∃ j : Nat, 1 + k - i = j + 1 := ⟨k - i, by omega⟩
      rw [hj]
      have hj0 : 0 < (j : Int) + 1 := by omega
      go_wp2_with fail
      refine (next_at B b A m c f at3 (parts + 1) _ _ T4 (by omega) (by omega) (by omega) hm).mono ?_
      rintro e w5 ⟨p, at5, hp, rfl, T5, G5⟩
      go_wp2_with fail
      refine (next_at B b A m c f at5 4 _ w5 T5 rfl (by omega) (by omega) hm).mono ?_
      rintro e w6 ⟨z, at6, hz, rfl, T6, G6⟩
      have q6 := (hown.gb G5 hb0).gb G6 hb0
      have G7 := gb_trans G4 (gb_trans G5 G6)
      have hown7 := q6.below rfl (bl1 w6 (.cells #[.int .i64 ((p : Int) - 1), .int .i64 (1 + (z : Int))] 31))
      have T7 := T6.below (bl1 w6 (.cells #[.int .i64 ((p : Int) - 1), .int .i64 (1 + (z : Int))] 31)) T6.lt
      have G8 := gb_alloc G7 (.cells #[.int .i64 ((p : Int) - 1), .int .i64 (1 + (z : Int))] 31)
      have hrd := rdV_new w6 #[.int .i64 ((p : Int) - 1), .int .i64 (1 + (z : Int))] 31 (rs [⟨(p : Int) - 1, 1 + z⟩]) rfl
      clear T1 T4 T5 T6 G1 G4 G5 G6 G7 hown q6
      go_wp2_with (at_builtin; go_loud (refine wpList_appV elR rfl (.tmp 17) (.tmp 27) rfl rfl w.heap.size A1 i c1 _ rfl hown7 _ 1 1 _ _ rfl hrd rfl (rs_one _) (by omega) (by unfold maxLen; omega) G8.size (i + 1) rfl (rs (L ++ [⟨(p : Int) - 1, 1 + z⟩])) (rs_append _ _).symm ?_; intro A2 c2 w2 hw2 hb2 _))
      go_roundw
      case rel =>
        refine ⟨i + 1, _, A2, c2, at6, by omega, ?_, rfl, ?_, hw2, T7.below hb2 hb0, gb_below G8 hb2 (Nat.le_refl _)⟩
        · rw [show 1 + k - (i + 1) = j by omega]
        · intro r hr
          rcases List.mem_append.1 hr with hr | hr
          · exact HLL.out r hr
          · simp at hr
            subst hr
            unfold Fair
            dsimp only
            omega
      case measure => simp [intOf]
    · have e : 1 + k - i = 0 := by omega
      rw [e]
      go_wp2_with fail
      go_ret
      exact ⟨L, A1, i, c1, at3, rfl, HLL.out, hown, by omega, by omega, T4, G4⟩
/-- A row of runs, new; what was there is as it was. -/
def RowB (parts most : Nat) (w : World) (e : Ending) (w' : World) : Prop :=
  ∃ (L : List Rn) (A' : Option Addr) (n' c' : Nat), e = .returned (.slice A' n' c') ∧ (∀ r ∈ L, Fair parts r) ∧ RdR w' w'.heap.size A' n' L ∧ n' ≤ c' ∧ 1 ≤ n' ∧ n' ≤ most ∧ Below w.heap.size w w'
/-- Out of a tape that was just boxed. -/
theorem row_box (A : Option Addr) (n cap : Nat) (f : Nat → Int) (w : World) (P D : Int) (parts most : Nat) (hP : P = (parts : Int)) (hD : D = (most : Int)) (hp1 : 1 ≤ parts) (hp2 : parts ≤ 6) (hm1 : 1 ≤ most) (hm2 : most ≤ 64) (h : RdC w w.heap.size A n fun j => .int .i64 (f j)) (hn : n ≤ 140737488351232) :
    Calls Try.prog 10 #[.pointer (some ⟨w.heap.size, 0, none⟩), .int .i64 P, .int .i64 D] (w.alloc (.cells #[.slice A n cap, .int .i64 0] 27)) (RowB parts most w) := by
  subst hP; subst hD
  refine (row_any w.heap.size w.heap.size A n cap f hn parts most hp1 hp2 hm1 hm2 0 _ (tape_boxed A n cap f w h)).mono ?_
  rintro e w1 ⟨L, A', n', c', at', rfl, hL, hown, h1, h2, T1, G1⟩
  exact ⟨L, A', n', c', rfl, hL, hown.rdr, hown.cap, h1, h2, gb_boxed G1⟩
end Go.Proofs.Ytcdgofdnafbacaa
