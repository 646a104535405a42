/- A copy of bools into a row of a call's own; a square out of a matrix. -/
import Derived.Test.YtknlhhbkahollaaLow2
import Derived.Test.YtknlhhbkahollaaLow4
import Derived.Laws.IdiomCopy
namespace Go.Proofs.Ytknlhhbkahollaa
open Go.RowKit Tab
set_option linter.unusedSimpArgs false
set_option linter.unusedVariables false

def putL (f : Nat → Value) : Nat → List Value → Nat → Value
  | _, [] => f
  | o, v :: r => putL (put1 f o v) (o + 1) r
theorem putL_low (r : List Value) : ∀ (f : Nat → Value) (o j : Nat), j < o → putL f o r j = f j := by
  induction r with
  | nil => intro f o j _; rfl
  | cons v r ih =>
    intro f o j h
    simp only [putL]
    rw [ih _ _ _ (by omega), put1_other (by omega)]
theorem putL_get (r : List Value) : ∀ (f : Nat → Value) (o j : Nat), putL f o r (o + j) = (r[j]?).getD (f (o + j)) := by
  induction r with
  | nil => intro f o j; rfl
  | cons v r ih =>
    intro f o j
    simp only [putL]
    cases j with
    | zero =>
      rw [putL_low _ _ _ _ (by omega)]
      exact put1_same f o v
    | succ j =>
      have := ih (put1 f o v) (o + 1) j
      rw [show o + (j + 1) = o + 1 + j by omega, this, put1_other (by omega)]
      simp
theorem Vec.setCells {g n : Nat} (vs : List Value) : ∀ (w : World) (f : Nat → Value) (o : Nat), Vec w g n f → Vec (w.setCells g o vs) g n (putL f o vs) ∧ w.grownBy (w.setCells g o vs) (some g) := by
  induction vs with
  | nil => intro w f o h; exact ⟨h, gb_refl _ _⟩
  | cons v r ih =>
    intro w f o h
    obtain ⟨h1, h2⟩ := ih _ _ (o + 1) (h.set o v)
    refine ⟨h1, ?_⟩
    have h3 := gb_set (gb_refl w (some g)) o v
    exact ⟨h2.os.trans h3.os, h2.tape.trans h3.tape, h2.output.trans h3.output, Nat.le_trans h3.size h2.size, fun k hk hne => (h2.block k (Nat.lt_of_lt_of_le hk h3.size) hne).trans (h3.block k hk hne)⟩
/-- What a copy leaves. -/
def cpB (f m : Nat → Bool) (li : Nat) (j : Nat) : Bool := if j < li then m j else f j
theorem copy_bools {w : World} {g n : Nat} {f : Nat → Bool} (h : Vec w g n fun j => .bool (f j)) {A : Option Addr} {li c B : Nat} {m : Nat → Bool} (hs : RdC w B A li fun j => .bool (m j)) (hB : B ≤ w.heap.size) :
    ∃ (N : Int) (w' : World), (∀ ty, (Builtin.copy_ #[40, 40] ty #[.slice (some ⟨g, 0, none⟩) n n, .slice A li c]).run Try.prog w = .ok (.int .i64 N) w') ∧ Vec w' g n (fun j => .bool (cpB f m li j)) ∧ w.grownBy w' (some g) := by
  have hu := Try.underlying40
  obtain ⟨i, hi, hz, hsz, hby⟩ := info_parts elB.hi
  have hsize : (Try.prog.info? 4).map (·.size) = some 1 := by rw [hi]; simp [hsz]
  by_cases h0 : Nat.min li n = 0
  · refine ⟨_, w, fun ty => run_copy_none w 40 40 ty 4 (some ⟨g, 0, none⟩) A n n li c hu hsize h0, h.congr fun j hj => ?_, gb_refl _ _⟩
    have : li = 0 := by
      have h1 : min li n = 0 := h0
      omega
    simp [cpB, this]
  · have h1 : 0 < min li n := Nat.pos_of_ne_zero h0
    have hl0 : 0 < li := by omega
    obtain ⟨ad, rfl, _, hc⟩ := hs hl0
    have hlen : ((List.range (min li n)).map fun j => Value.bool (m j)).length = Nat.min li n := by rw [List.length_map, List.length_range]; try rfl
    have hrun := fun ty => run_copy_cells (P := Try.prog) w 40 40 ty 4 g 0 n n ad li c ((List.range (min li n)).map fun j => Value.bool (m j)) hu hsize hlen
      (fun j v hj => by
        obtain ⟨hj1, rfl⟩ := List.getElem?_eq_some_iff.1 hj
        rw [List.length_map, List.length_range] at hj1
        rw [List.getElem_map, List.getElem_range]
        exact hc j (by omega))
      (fun j hj => by
        rw [List.length_map, List.length_range] at hj
        rw [Nat.zero_add, h.cell j (by omega)]; try rfl)
      (fun j hj => h.thaw _)
      (fun v hv => by
        obtain ⟨j, _, rfl⟩ := List.mem_map.1 hv
        rfl)
    obtain ⟨h2, h3⟩ := Vec.setCells ((List.range (min li n)).map fun j => Value.bool (m j)) w _ 0 h
    refine ⟨_, _, hrun, h2.congr fun j hj => ?_, h3⟩
    have := putL_get ((List.range (min li n)).map fun j => Value.bool (m j)) (fun j => .bool (f j)) 0 j
    rw [Nat.zero_add] at this
    rw [this]
    unfold cpB
    by_cases hjl : j < li
    · rw [if_pos hjl, List.getElem?_map, List.getElem?_range (by omega)]; try rfl
    · rw [if_neg hjl, List.getElem?_eq_none (by rw [List.length_map, List.length_range]; omega)]; try rfl
/-- A row of a matrix is turned, nothing else. -/
theorem Mat.turn {w w' : World} {B g n k x : Nat} {G : Nat → Nat} {m : Nat → Nat → Bool} (h : Mat w B g n k G m) {i : Nat} (hi : i < k) (hx : G i = x) (hg : w.grownBy w' (some x)) {b : Nat → Bool} (hv : Vec w' x n fun j => .bool (b j)) :
    Mat w' B g n k G (fun a j => if a = i then b j else m a j) := by
  obtain ⟨f, h1, h2⟩ := h.outer
  have hne : some g ≠ some x := fun e => by injection e with e; exact h.ne i hi (by rw [hx, e])
  refine ⟨⟨f, h1.keep (hg.block g h1.lt hne) hg.size, h2⟩, fun a ha => ?_, h.low, h.ge, h.ne, h.inj⟩
  by_cases e : a = i
  · subst e
    rw [hx]
    simpa using hv
  · have hr := h.rows a ha
    have := hr.keep (hg.block (G a) hr.lt (fun e2 => by injection e2 with e2; exact e (h.inj a i ha hi (by rw [e2, hx])))) hg.size
    simpa [e] using this
end Go.Proofs.Ytknlhhbkahollaa
