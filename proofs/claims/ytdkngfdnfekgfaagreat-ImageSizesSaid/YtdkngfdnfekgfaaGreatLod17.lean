import Derived.Test.YtdkngfdnfekgfaaGreatLod16
import Derived.Test.YtdkngfdnfekgfaaGreatLod15
namespace Go.Proofs.YtdkngfdnfekgfaaGreat
open Go.RowKit Tab
set_option linter.unusedSimpArgs false
set_option linter.unusedVariables false
theorem OwnV.obk_ge {E s B n c b : Nat} {w : World} {A : Option Addr} {l : List Value} (h : OwnV E s w B A n c l) (hA : obk A = some b) : B ≤ b ∧ b < w.heap.size := by
  rcases h.2 with ⟨hv, _⟩ | ⟨g, cap, cur, hv, hbg, hg, _⟩
  · injection hv with h1
    subst h1
    cases hA
  · injection hv with h1
    subst h1
    injection hA with hA
    have hA : g = b := hA
    subst hA
    exact ⟨hbg, (Array.getElem?_eq_some_iff.1 hg).1⟩
def cast (l : List Nat) : List Int := l.map fun x : Nat => (x : Int)
structure Stp (w : World) (B g n k : Nat) (R : Nat → Option Addr × Nat) (S : Nat → List Nat) : Prop where
  outer : ∃ f, Vec w g n f ∧ ∀ i, i < k → f i = .slice (R i).1 (S i).length (R i).2
  rows : ∀ i, i < k → OwnV 3 1 w B (R i).1 (S i).length (R i).2 (is (cast (S i)))
  low : B ≤ g
  ne : ∀ i, i < k → obk (R i).1 ≠ some g
  inj : ∀ i j b, i < k → j < k → i ≠ j → obk (R i).1 = some b → obk (R j).1 ≠ some b
section
variable {w w' : World} {g n k B : Nat} {R : Nat → Option Addr × Nat} {S : Nat → List Nat}
theorem Stp.on (h : Stp w B g n k R S) (hb : Below w.heap.size w w') : Stp w' B g n k R S := by
  obtain ⟨f, h1, h2⟩ := h.outer
  exact ⟨⟨f, h1.on hb, h2⟩, fun i hi => (h.rows i hi).below rfl hb, h.low, h.ne, h.inj⟩
theorem Stp.push (h : Stp w B g n k R S) {A : Option Addr} {c : Nat} {l : List Nat} (hx : OwnV 3 1 w B A l.length c (is (cast l))) (hg : obk A ≠ some g) (hA : ∀ i b, i < k → obk (R i).1 = some b → obk A ≠ some b) (hk : k < n) :
    Stp (w.setCell ⟨g, k, none⟩ (.slice A l.length c)) B g n (k + 1) (put1 R k (A, c)) (put1 S k l) := by
  obtain ⟨f, h1, h2⟩ := h.outer
  have hlt : ∀ i, i < k + 1 → i ≠ k → i < k := fun i _ _ => by omega
  have hset : ∀ A n c l, OwnV 3 1 w B A n c l → obk A ≠ some g → ∀ v, OwnV 3 1 (w.setCell ⟨g, k, none⟩ v) B A n c l := fun A n c l ho hne v =>
    ho.keep' fun b hb => Below.heap_setCell _ _ _ _ fun e => hne (by rw [hb]; exact congrArg some e)
  refine ⟨⟨_, h1.set k _, fun i hi => ?_⟩, fun i hi => ?_, h.low, fun i hi => ?_, fun i j b hi hj hij e => ?_⟩
  · by_cases e : i = k
    · subst e; rw [put1_same, put1_same, put1_same]
    · rw [put1_other e, put1_other e, put1_other e]; exact h2 i (hlt i hi e)
  · by_cases e : i = k
    · subst e; rw [put1_same, put1_same]; exact hset _ _ _ _ hx hg _
    · rw [put1_other e, put1_other e]; exact hset _ _ _ _ (h.rows i (hlt i hi e)) (h.ne i (hlt i hi e)) _
  · by_cases e : i = k
    · subst e; rw [put1_same]; exact hg
    · rw [put1_other e]; exact h.ne i (hlt i hi e)
  · by_cases e1 : i = k
    · subst e1
      have e2 : j ≠ i := fun e => hij e.symm
      rw [put1_same] at e
      rw [put1_other e2]
      exact fun e3 => hA j b (hlt j hj e2) e3 e
    · rw [put1_other e1] at e
      by_cases e2 : j = k
      · subst e2; rw [put1_same]; exact hA i b (hlt i hi e1) e
      · rw [put1_other e2]; exact h.inj i j b (hlt i hi e1) (hlt j hj e2) hij e
theorem RdS.congr {A : Option Addr} {T : Nat → List Nat} (h : RdS w B A n S) (e : ∀ i, i < n → S i = T i) : RdS w B A n T := by
  obtain ⟨R, h1, h2⟩ := h
  exact ⟨R, h1.congr fun i hi => by rw [e i hi], fun i hi => by rw [← e i hi]; exact h2 i hi⟩
end
theorem Mat.weak {w : World} {B B' g n k : Nat} {G : Nat → Nat} {m : Nat → Nat → Bool} (h : Mat w B g n k G m) (hB : B' ≤ B) : Mat w B' g n k G m :=
  ⟨h.outer, h.rows, Nat.le_trans hB h.low, fun i hi => Nat.le_trans hB (h.ge i hi), h.ne, h.inj⟩
end Go.Proofs.YtdkngfdnfekgfaaGreat
namespace Go.Proofs.YtdkngfdnfekgfaaGreat
open Go.RowKit Tab
set_option linter.unusedSimpArgs false
set_option linter.unusedVariables false
theorem heap_set_same (w : World) (g j : Nat) (v : Value) {cur : Array Value} {E : TypeId} {fr : Nat × Nat} (h : w.heap[g]? = some (.cells cur E fr)) : (w.setCell ⟨g, j, none⟩ v).heap[g]? = some (.cells (cur.setIfInBounds j v) E fr) := by
  unfold World.setCell
  simp [Array.getElem?_modify, h]
theorem OwnV.set {E s B n c g : Nat} {w : World} {l : List Value} (h : OwnV E s w B (some ⟨g, 0, none⟩) n c l) (j : Nat) (v : Value) (hj : j < l.length) : OwnV E s (w.setCell ⟨g, j, none⟩ v) B (some ⟨g, 0, none⟩) n c (l.set j v) := by
  refine ⟨by rw [List.length_set]; exact h.1, ?_⟩
  rcases h.2 with ⟨hv, _⟩ | ⟨g', cap, cur, hv, hbg, hg, hnc, hcm, hcs, htake⟩
  · cases hv
  · simp only [Value.slice.injEq, Option.some.injEq, Addr.mk.injEq, and_true, true_and] at hv
    obtain ⟨rfl, rfl⟩ := hv
    refine .inr ⟨g, c, cur.setIfInBounds j v, rfl, hbg, heap_set_same w g j v hg, hnc, hcm, by rw [Array.size_setIfInBounds]; exact hcs, ?_⟩
    rw [Array.toList_setIfInBounds, List.take_set, htake]
theorem OwnV.other {E s B n c : Nat} {w : World} {A : Option Addr} {l : List Value} (h : OwnV E s w B A n c l) (p : Addr) (v : Value) (hp : ∀ g, A = some ⟨g, 0, none⟩ → g ≠ p.block) : OwnV E s (w.setCell p v) B A n c l := by
  refine ⟨h.1, ?_⟩
  rcases h.2 with hv | ⟨g, cap, cur, hv, hbg, hg, r⟩
  · exact .inl hv
  · refine .inr ⟨g, cap, cur, hv, hbg, ?_, r⟩
    rw [Below.heap_setCell w p v g (hp g (by injection hv))]
    exact hg
section
variable {α : Type} {f : α → List Value} {s : Nat}
theorem flat_len (hf : ∀ x, (f x).length = s) (l : List α) : (l.flatMap f).length = l.length * s := by
  induction l with
  | nil => simp
  | cons x l ih => rw [List.flatMap_cons, List.length_append, hf, ih, List.length_cons, Nat.succ_mul]; omega
theorem flat_set (hf : ∀ x, (f x).length = s) (l : List α) (i k : Nat) (x y : α) (v : Value) (hx : l[i]? = some x) (hk : k < s) (hy : f y = (f x).set k v) : (l.set i y).flatMap f = (l.flatMap f).set (i * s + k) v := by
  induction l generalizing i with
  | nil => simp at hx
  | cons z l ih =>
    cases i with
    | zero =>
      simp at hx
      subst hx
      rw [List.set_cons_zero, List.flatMap_cons, List.flatMap_cons, hy, Nat.zero_mul, Nat.zero_add, List.set_append_left _ _ (by rw [hf]; exact hk)]
    | succ i =>
      rw [List.set_cons_succ, List.flatMap_cons, List.flatMap_cons, ih i (by simpa using hx), List.set_append_right _ _ (by rw [hf, Nat.succ_mul]; omega), hf]
      congr 2
      rw [Nat.succ_mul]
      omega
end
structure OwnB {α : Type} (E s : Nat) (f : α → List Value) (w : World) (B : Nat) (A : Option Addr) (n c : Nat) (l : List α) : Prop where
  len : l.length = n
  own : OwnV E s w B A n c (l.flatMap f)
section
variable {α : Type} {f : α → List Value} {E s B B' n c : Nat} {w w' : World} {A : Option Addr} {l : List α}
theorem OwnB.rdb (h : OwnB E s f w B A n c l) : RdB f w w.heap.size A n l := ⟨h.len, h.own.rd⟩
theorem OwnB.cap (h : OwnB E s f w B A n c l) : n ≤ c := h.own.cap
theorem OwnB.nil (w : World) (E s B : Nat) : OwnB E s f w B none 0 0 [] := ⟨rfl, OwnV.nil _ _ _ _⟩
theorem OwnB.below (h : OwnB E s f w B A n c l) (hb : Below w.heap.size w w') : OwnB E s f w' B A n c l := ⟨h.len, h.own.below rfl hb⟩
theorem OwnB.other (h : OwnB E s f w B A n c l) (p : Addr) (v : Value) (hp : ∀ g, A = some ⟨g, 0, none⟩ → g ≠ p.block) : OwnB E s f (w.setCell p v) B A n c l := ⟨h.len, h.own.other p v hp⟩
theorem OwnB.weak (h : OwnB E s f w B A n c l) (hB : B' ≤ B) : OwnB E s f w B' A n c l := ⟨h.len, h.own.weak hB⟩
theorem OwnB.block (h : OwnB E s f w B A n c l) (hn : 0 < n) : ∃ g, A = some ⟨g, 0, none⟩ ∧ B ≤ g ∧ g < w.heap.size := h.own.block hn
theorem mk_add (g i : Nat) : (⟨g, 0, none⟩ : Addr).add i = ⟨g, i, none⟩ := by
  unfold Addr.add
  split <;> simp_all
theorem OwnB.set {g : Nat} (h : OwnB E s f w B (some ⟨g, 0, none⟩) n c l) (hf : ∀ x, (f x).length = s) {i k : Nat} {x y : α} {v : Value} (hx : l[i]? = some x) (hk : k < s) (hy : f y = (f x).set k v) :
    OwnB E s f (w.setCell ⟨((⟨g, 0, none⟩ : Addr).add (i * s)).block, ((⟨g, 0, none⟩ : Addr).add (i * s)).off + k, none⟩ v) B (some ⟨g, 0, none⟩) n c (l.set i y) := by
  have hi : i < l.length := (List.getElem?_eq_some_iff.1 hx).1
  refine ⟨by rw [List.length_set]; exact h.len, ?_⟩
  rw [mk_add, flat_set hf l i k x y v hx hk hy]
  refine h.own.set (i * s + k) v ?_
  rw [flat_len hf]
  have h1 : (i + 1) * s ≤ l.length * s := Nat.mul_le_mul_right _ hi
  rw [Nat.succ_mul] at h1
  omega
end
theorem cc_late (x : ChV) (z : Int) : cc { x with late := z } = (cc x).set 5 (.int .i64 z) := rfl
theorem pcl_bud (x : PtV) (z : Int) : pcl { x with bud := z } = (pcl x).set 1 (.int .i64 z) := rfl
theorem pcl_per (x : PtV) (z : Int) : pcl { x with per := z } = (pcl x).set 2 (.int .i64 z) := rfl
end Go.Proofs.YtdkngfdnfekgfaaGreat
namespace Go.Proofs.YtdkngfdnfekgfaaGreat
open Go.RowKit Tab
set_option linter.unusedSimpArgs false
set_option linter.unusedVariables false
theorem RdB.below {α : Type} {f : α → List Value} {w w' : World} {B n : Nat} {A : Option Addr} {l : List α} (h : RdB f w B A n l) (hb : Below B w w') : RdB f w' B A n l := ⟨h.len, h.rd.below hb⟩
theorem RdB.more {α : Type} {f : α → List Value} {w : World} {B B' n : Nat} {A : Option Addr} {l : List α} (h : RdB f w B A n l) (hB : B ≤ B') : RdB f w B' A n l := ⟨h.len, h.rd.more hB⟩
structure CfW (w : World) (B : Nat) (A1 A2 : Option Addr) (n1 n2 : Nat) (P : List PtV) (C : List ChV) : Prop where
  p : RdB pcl w B A1 n1 P
  c : RdB cc w B A2 n2 C
section
variable {w w' : World} {B B' n1 n2 : Nat} {A1 A2 : Option Addr} {P : List PtV} {C : List ChV}
theorem CfW.below (h : CfW w B A1 A2 n1 n2 P C) (hb : Below B w w') : CfW w' B A1 A2 n1 n2 P C := ⟨h.p.below hb, h.c.below hb⟩
theorem CfW.more (h : CfW w B A1 A2 n1 n2 P C) (hB : B ≤ B') : CfW w B' A1 A2 n1 n2 P C := ⟨h.p.more hB, h.c.more hB⟩
theorem CfW.on (h : CfW w w.heap.size A1 A2 n1 n2 P C) (hb : Below w.heap.size w w') : CfW w' w'.heap.size A1 A2 n1 n2 P C := (h.below hb).more hb.size
end
def wcl (x : Nat × Nat) : List Value := [.int .i64 (x.1 : Int), .int .i64 (x.2 : Int)]
theorem wcl_len (x : Nat × Nat) : (wcl x).length = 2 := rfl
end Go.Proofs.YtdkngfdnfekgfaaGreat
