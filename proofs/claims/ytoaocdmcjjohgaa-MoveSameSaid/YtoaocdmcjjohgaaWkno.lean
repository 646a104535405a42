/- Law 8's known, over what package word is to answer. -/
import Derived.Test.YtoaocdmcjjohgaaLow10
import Derived.Test.YtoaocdmcjjohgaaLow6
namespace Go.Proofs.Ytoaocdmcjjohgaa
open Go.RowKit Tab
set_option linter.unusedSimpArgs false
set_option linter.unusedVariables false

def MtW (n : Nat) (m : Nat → Nat → Bool) (v : Value) (w : World) : Prop := ∃ A c, v = .slice A n c ∧ n ≤ c ∧ RdM w w.heap.size A n (fun _ => n) m
theorem MtW.on {n : Nat} {m : Nat → Nat → Bool} {v : Value} {w w' : World} (h : MtW n m v w) (hb : Below w.heap.size w w') : MtW n m v w' := by
  obtain ⟨A, c, h1, h2, h3⟩ := h
  exact ⟨A, c, h1, h2, h3.on hb⟩
def BoxW (v : Value) (w : World) : Prop := ∃ g, v = .slice (some ⟨g, 0, none⟩) 2 2 ∧ Vec w g 2 fun _ => .bool true
theorem BoxW.on {v : Value} {w w' : World} (h : BoxW v w) (hb : Below w.heap.size w w') : BoxW v w' := by
  obtain ⟨g, h1, h2⟩ := h
  exact ⟨g, h1, h2.on hb⟩
def RowL (n : Nat) (v : Value) : Prop := ∃ A c, v = .slice A n c
/-- It answers a row of so many. -/
def RowN (n : Nat) (w : World) (e : Ending) (w' : World) : Prop := ∃ A c, e = .returned (.slice A n c) ∧ Below w.heap.size w w'
theorem RowW.n {L : List Rn} {n : Nat} {w w' : World} {e : Ending} (hn : L.length = n) (h : RowW L w e w') : RowN n w e w' := by
  obtain ⟨A, c, h1, _, _, h4⟩ := h
  exact ⟨A, c, by rw [← hn]; exact h1, h4⟩
theorem two_vec (w : World) (t : TypeId) : Vec (w.alloc (.cells #[.bool true, .bool true] t)) w.heap.size 2 fun _ => .bool true := Vec.lit w _ _ 2 _ fun j hj => by
  rcases (by omega : j = 0 ∨ j = 1) with h | h <;> subst h <;> rfl
theorem two_mat (w : World) (t : TypeId) {x y : Nat} (hx : Vec w x 2 fun _ => .bool true) (hy : Vec w y 2 fun _ => .bool true) : MtW 2 (fun _ _ => true) (.slice (some ⟨w.heap.size, 0, none⟩) 2 2) (w.alloc (.cells #[.slice (some ⟨x, 0, none⟩) 2 2, .slice (some ⟨y, 0, none⟩) 2 2] t)) := by
  refine ⟨_, _, rfl, Nat.le_refl _, fun i => (some ⟨if i = 0 then x else y, 0, none⟩, 2), Vec.rdc (Vec.lit w _ _ 2 _ fun j hj => ?_), fun i hi => ⟨Nat.le_refl _, ?_⟩⟩
  · rcases (by omega : j = 0 ∨ j = 1) with h | h <;> subst h <;> rfl
  · rcases (by omega : i = 0 ∨ i = 1) with h | h <;> subst h
    · exact (hx.on (bl1 w _)).rdc
    · exact (hy.on (bl1 w _)).rdc
def L8 : List Rn := [⟨0, 1⟩, ⟨1, 2⟩, ⟨-1, 3⟩]
def X8 : List Rn := [⟨1, 2⟩, ⟨0, 1⟩, ⟨-1, 3⟩]
theorem k8_1 : swZ L8 0 = X8 := by kernel_rfl
theorem k8_2 : diffF (depW 0 fun _ _ => false) L8 L8 = (-1, -1, false) := by kernel_rfl
theorem k8_3 : (diffF (depW 0 fun _ _ => false) L8 X8).2.2 = false := by kernel_rfl
theorem k8_4 : (diffF (depW 2 fun _ _ => true) L8 X8).2.2 = true := by kernel_rfl
theorem k8_5 : (proj 0 1 L8).length = 2 := by kernel_rfl
theorem k8_6 : swZ L8 5 = L8 := by kernel_rfl
def KnoV (g1 : Nat) (c2 : Nat) (aX : Addr) (j : Nat) (v : Value) (w : World) : Prop :=
  match j with
  | 0 => v = .slice (some ⟨g1, 0, none⟩) 3 3
  | 1 => v = .slice (some ⟨g1, 0, none⟩) 3 3
  | 2 => v = .bool true
  | 3 => v = .bool true
  | 4 => v = .slice (some ⟨g1, 0, none⟩) 3 3
  | 5 => v = .slice (some aX) 3 c2
  | 6 => v = .bool true
  | 7 => v = .bool true
  | 8 => v = .bool true
  | 9 => v = .slice (some ⟨g1, 0, none⟩) 3 3
  | 10 => v = .slice (some aX) 3 c2
  | 11 => BoxW v w
  | 12 => BoxW v w
  | 13 => MtW 2 (fun _ _ => true) v w
  | 14 => v = .bool false
  | 15 => v = .bool true
  | 16 => v = .bool true
  | 17 => v = .bool true
  | 18 => v = .int .i64 (-1)
  | 19 => v = .bool true
  | 20 => v = .bool true
  | 21 => v = .bool true
  | 22 => v = .int .i64 (-1)
  | 23 => v = .bool true
  | 24 => v = .bool true
  | 25 => v = .bool true
  | 26 => v = .bool false
  | 27 => v = .bool true
  | 28 => v = .bool true
  | 29 => v = .bool true
  | 30 => v = .slice (some ⟨g1, 0, none⟩) 3 3
  | 31 => RowL 2 v
  | 32 => v = .int .i64 2
  | 33 => v = .bool true
  | 34 => v = .bool true
  | 35 => v = .bool true
  | 36 => v = .slice (some aX) 3 c2
  | 37 => v = .int .i64 3
  | 38 => v = .bool true
  | 39 => v = .bool true
  | 40 => v = .bool true
  | 41 => v = .slice (some aX) 3 c2
  | 42 => v = .pointer (some aX)
  | 43 => v = .agg #[.int .i64 1, .int .i64 2]
  | 44 => v = .slice (some ⟨g1, 0, none⟩) 3 3
  | 45 => v = .pointer (some ⟨g1, 2, none⟩)
  | 46 => v = .agg #[.int .i64 1, .int .i64 2]
  | 47 => v = .bool true
  | 48 => v = .bool true
  | 49 => v = .bool true
  | 50 => v = .slice (some ⟨g1, 0, none⟩) 3 3
  | 51 => RowL 3 v
  | 52 => v = .int .i64 3
  | 53 => v = .bool true
  | 54 => v = .bool true
  | 55 => v = .bool true
  | _ => True
theorem KnoV.on {g1 : Nat} {c2 : Nat} {aX : Addr} {w w' : World} (hb : Below w.heap.size w w') (j : Nat) (v : Value) (h : KnoV g1 c2 aX j v w) : KnoV g1 c2 aX j v w' := by
  unfold KnoV at h ⊢
  split at h <;> first | exact h | exact MtW.on h hb | exact BoxW.on h hb
end Go.Proofs.Ytoaocdmcjjohgaa
