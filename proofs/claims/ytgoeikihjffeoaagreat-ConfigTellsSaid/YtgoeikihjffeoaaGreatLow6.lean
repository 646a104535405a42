/- Contracts and mathematics that the texts behind it stand on: Vec, Gled, Gclo, Ownb, Gway, Gdep, Prt, Rsum, Rtc. -/
import Derived.Test.YtgoeikihjffeoaaGreatLow2
import Derived.Test.YtgoeikihjffeoaaGreatLow5
import Derived.Test.YtgoeikihjffeoaaGreatLow1
import Derived.IntWalk
import Derived.BigQuiet
import Derived.Deep.CutRange
import Derived.StillTailTactics
import Derived.Laws.StructEq
import Derived.Test.YtgoeikihjffeoaaGreatLow3
/- Rows of cells that a call owns, as functions; matrices in memory; rows of numbers in rows. -/
namespace Go.Proofs.YtgoeikihjffeoaaGreat
open Go.RowKit Tab
set_option linter.unusedSimpArgs false
set_option linter.unusedVariables false

/-- Block g, n cells, holds f. -/
structure Vec (w : World) (g n : Nat) (f : Nat → Value) : Prop where
  cell : ∀ j, j < n → w.cell? ⟨g, j, none⟩ = some (f j)
  thaw : ∀ j, w.frozen? ⟨g, j, none⟩ = false
  lt : g < w.heap.size
section
variable {w w' : World} {g n B : Nat} {f f' : Nat → Value}
theorem Vec.keep (h : Vec w g n f) (hk : w'.heap[g]? = w.heap[g]?) (hs : w.heap.size ≤ w'.heap.size) : Vec w' g n f :=
  ⟨fun j hj => (World.cell?_of_block hk).trans (h.cell j hj), fun j => (World.frozen?_of_block hk).trans (h.thaw j), Nat.lt_of_lt_of_le h.lt hs⟩
theorem Vec.below (h : Vec w g n f) (hb : Below B w w') (hg : g < B) : Vec w' g n f := h.keep (hb.block g hg) hb.size
theorem Vec.on (h : Vec w g n f) (hb : Below w.heap.size w w') : Vec w' g n f := h.below hb h.lt
theorem Vec.congr (h : Vec w g n f) (e : ∀ j, j < n → f j = f' j) : Vec w g n f' := ⟨fun j hj => by rw [← e j hj]; exact h.cell j hj, h.thaw, h.lt⟩
theorem Vec.set (h : Vec w g n f) (i : Nat) (v : Value) : Vec (w.setCell ⟨g, i, none⟩ v) g n (put1 f i v) := by
  refine ⟨fun j hj => ?_, fun j => by simpa using h.thaw j, by simpa using h.lt⟩
  by_cases e : j = i
  · subst e
    rw [put1_same]
    exact World.cell?_setCell_same _ _ _ (h.cell j hj)
  · rw [put1_other e, World.cell?_setCell_other _ _ _ _ (by intro e2; injection e2 with _ e3; omega)]
    exact h.cell j hj
theorem Vec.other (h : Vec w g n f) (p : Addr) (v : Value) (hp : g ≠ p.block) : Vec (w.setCell p v) g n f :=
  h.keep (Below.heap_setCell w p v g hp) (by simp)
theorem Vec.drewN (h : Vec w g n f) (q : Nat) : Vec (w.drewN q) g n f := ⟨h.cell, h.thaw, h.lt⟩
theorem Vec.lit (w : World) (C : Array Value) (t : TypeId) (n : Nat) (f : Nat → Value) (h : ∀ j, j < n → C[j]? = some (f j)) : Vec (w.alloc (.cells C t)) w.heap.size n f :=
  ⟨fun j hj => (World.cell?_alloc_mark _ _ _ _ _).trans (h j hj), fun j => by simp, by simp⟩
theorem Vec.rdc (h : Vec w g n f) : RdC w w.heap.size (some ⟨g, 0, none⟩) n f := fun _ => ⟨_, rfl, h.lt, fun j hj => by
  have e : (⟨g, 0, none⟩ : Addr).add j = ⟨g, j, none⟩ := by unfold Addr.add; split <;> simp_all
  rw [e]; exact h.cell j hj⟩
end
theorem made_get (z : Value) (n j : Nat) (h : j < n) : (madeCells #[z] n)[j]? = some z := by
  rw [← Array.getElem?_toList, toList_madeCells_one]
  simp [h]
/-- A matrix of n by n in blocks of its own, B or behind: k rows are laid. -/
structure Mat (w : World) (B g n k : Nat) (G : Nat → Nat) (m : Nat → Nat → Bool) : Prop where
  outer : ∃ f, Vec w g n f ∧ ∀ i, i < k → f i = .slice (some ⟨G i, 0, none⟩) n n
  rows : ∀ i, i < k → Vec w (G i) n fun j => .bool (m i j)
  low : B ≤ g
  ge : ∀ i, i < k → B ≤ G i
  ne : ∀ i, i < k → G i ≠ g
  inj : ∀ i j, i < k → j < k → G i = G j → i = j
def put2 (m : Nat → Nat → Bool) (i j : Nat) (v : Bool) : Nat → Nat → Bool := fun a b => if a = i ∧ b = j then v else m a b
theorem put2_same (m : Nat → Nat → Bool) (i j : Nat) (v : Bool) : put2 m i j v i j = v := if_pos ⟨rfl, rfl⟩
section
variable {w w' : World} {g n k B : Nat} {G : Nat → Nat} {m m' : Nat → Nat → Bool}
theorem Mat.on (h : Mat w B g n k G m) (hb : Below w.heap.size w w') : Mat w' B g n k G m := by
  obtain ⟨f, h1, h2⟩ := h.outer
  exact ⟨⟨f, h1.on hb, h2⟩, fun i hi => (h.rows i hi).on hb, h.low, h.ge, h.ne, h.inj⟩
theorem Mat.drewN (h : Mat w B g n k G m) (q : Nat) : Mat (w.drewN q) B g n k G m := h.on (by
  exact ⟨rfl, rfl, rfl, Nat.le_refl _, fun _ _ => rfl⟩)
theorem Mat.congr (h : Mat w B g n k G m) (e : ∀ i j, i < k → j < n → m i j = m' i j) : Mat w B g n k G m' :=
  ⟨h.outer, fun i hi => (h.rows i hi).congr fun j hj => by rw [e i j hi hj], h.low, h.ge, h.ne, h.inj⟩
theorem Mat.start (w : World) (B n : Nat) (hB : B ≤ w.heap.size) (t : TypeId) (m : Nat → Nat → Bool) (G : Nat → Nat) : Mat (w.alloc (.cells (madeCells #[.slice none 0 0] n) t)) B w.heap.size n 0 G m :=
  ⟨⟨fun _ => .slice none 0 0, Vec.lit w _ t n _ fun j hj => made_get _ n j hj, fun i hi => by omega⟩, fun i hi => by omega, hB, fun i hi => by omega, fun i hi => by omega, fun i j hi => by omega⟩
/-- A row more. -/
theorem Mat.push (h : Mat w B g n k G m) {x : Nat} {b : Nat → Bool} (hx : Vec w x n fun j => .bool (b j)) (hB : B ≤ x) (hg : x ≠ g) (hG : ∀ i, i < k → G i ≠ x) (hk : k < n) :
    Mat (w.setCell ⟨g, k, none⟩ (.slice (some ⟨x, 0, none⟩) n n)) B g n (k + 1) (put1 G k x) (fun i j => if i = k then b j else m i j) := by
  obtain ⟨f, h1, h2⟩ := h.outer
  have hlt : ∀ i, i < k + 1 → i ≠ k → i < k := fun i _ _ => by omega
  refine ⟨⟨_, h1.set k _, fun i hi => ?_⟩, fun i hi => ?_, h.low, fun i hi => ?_, fun i hi => ?_, fun i j hi hj e => ?_⟩
  · by_cases e : i = k
    · subst e; rw [put1_same, put1_same]
    · rw [put1_other e, put1_other e]; exact h2 i (hlt i hi e)
  · by_cases e : i = k
    · subst e
      simp only [put1_same, if_true]
      exact hx.other _ _ hg
    · rw [put1_other e]
      simp only [e, if_false]
      exact (h.rows i (hlt i hi e)).other _ _ (h.ne i (hlt i hi e))
  · by_cases e : i = k
    · subst e; rw [put1_same]; exact hB
    · rw [put1_other e]; exact h.ge i (hlt i hi e)
  · by_cases e : i = k
    · subst e; rw [put1_same]; exact hg
    · rw [put1_other e]; exact h.ne i (hlt i hi e)
  · by_cases e1 : i = k
    · by_cases e2 : j = k
      · omega
      · subst e1
        rw [put1_same, put1_other e2] at e
        exact absurd e.symm (hG j (hlt j hj e2))
    · by_cases e2 : j = k
      · subst e2
        rw [put1_same, put1_other e1] at e
        exact absurd e (hG i (hlt i hi e1))
      · rw [put1_other e1, put1_other e2] at e
        exact h.inj i j (hlt i hi e1) (hlt j hj e2) e
/-- One place of it, and a store there. -/
theorem Mat.at_ (h : Mat w B g n k G m) {i j : Nat} (hi : i < k) (hk : k ≤ n) (hj : j < n) : ∃ x, G i = x ∧ x ≠ g ∧ B ≤ x ∧ g < w.heap.size ∧ x < w.heap.size ∧ w.cell? ⟨g, i, none⟩ = some (.slice (some ⟨x, 0, none⟩) n n) ∧ w.cell? ⟨x, j, none⟩ = some (.bool (m i j)) ∧ w.frozen? ⟨x, j, none⟩ = false ∧
    ∀ v, Mat (w.setCell ⟨x, j, none⟩ (.bool v)) B g n k G (put2 m i j v) ∧ ∀ V, Below B V w → Below B V (w.setCell ⟨x, j, none⟩ (.bool v)) := by
  obtain ⟨f, h1, h2⟩ := h.outer
  refine ⟨G i, rfl, h.ne i hi, h.ge i hi, h1.lt, (h.rows i hi).lt, (h1.cell i (by omega)).trans (by rw [h2 i hi]), (h.rows i hi).cell j hj, (h.rows i hi).thaw j, fun v => ⟨⟨⟨f, h1.other _ _ (h.ne i hi).symm, h2⟩, fun a ha => ?_, h.low, h.ge, h.ne, h.inj⟩, fun V hV => hV.setCell (p := ⟨G i, j, none⟩) (h.ge i hi) _⟩⟩
  by_cases e : a = i
  · subst e
    refine ((h.rows a ha).set j (.bool v)).congr fun b _ => ?_
    unfold put1 put2
    by_cases e2 : b = j <;> simp [e2]
  · refine ((h.rows a ha).other _ _ fun e2 => e (h.inj a i ha hi e2)).congr fun b _ => ?_
    unfold put2
    simp [e]
/-- A row of it, to be read. -/
theorem Mat.row (h : Mat w B g n k G m) {i : Nat} (hi : i < k) (hk : k ≤ n) : ∃ x, G i = x ∧ x ≠ g ∧ w.cell? ⟨g, i, none⟩ = some (.slice (some ⟨x, 0, none⟩) n n) ∧ Vec w x n fun j => .bool (m i j) := by
  obtain ⟨f, h1, h2⟩ := h.outer
  exact ⟨G i, rfl, h.ne i hi, (h1.cell i (by omega)).trans (by rw [h2 i hi]), h.rows i hi⟩
end
/-- A slice at A, of n rows, row i of l i bools: m. -/
def RdM (w : World) (B : Nat) (A : Option Addr) (n : Nat) (l : Nat → Nat) (m : Nat → Nat → Bool) : Prop :=
  ∃ R : Nat → Option Addr × Nat, RdC w B A n (fun i => .slice (R i).1 (l i) (R i).2) ∧ ∀ i, i < n → l i ≤ (R i).2 ∧ RdC w B (R i).1 (l i) fun j => .bool (m i j)
section
variable {w w' : World} {n B B' : Nat} {A : Option Addr} {l : Nat → Nat} {m m' : Nat → Nat → Bool}
theorem RdM.below (h : RdM w B A n l m) (hb : Below B w w') : RdM w' B A n l m := by
  obtain ⟨R, h1, h2⟩ := h
  exact ⟨R, h1.below hb, fun i hi => ⟨(h2 i hi).1, (h2 i hi).2.below hb⟩⟩
theorem RdM.more (h : RdM w B A n l m) (hB : B ≤ B') : RdM w B' A n l m := by
  obtain ⟨R, h1, h2⟩ := h
  exact ⟨R, h1.more hB, fun i hi => ⟨(h2 i hi).1, (h2 i hi).2.more hB⟩⟩
theorem RdM.on (h : RdM w w.heap.size A n l m) (hb : Below w.heap.size w w') : RdM w' w'.heap.size A n l m := (h.below hb).more hb.size
theorem RdM.drewN (h : RdM w B A n l m) (q : Nat) : RdM (w.drewN q) B A n l m := h
theorem RdC.congr {f f' : Nat → Value} (h : RdC w B A n f) (e : ∀ j, j < n → f j = f' j) : RdC w B A n f' := fun hn => by
  obtain ⟨ad, h1, h2, h3⟩ := h hn
  exact ⟨ad, h1, h2, fun j hj => by rw [← e j hj]; exact h3 j hj⟩
theorem RdM.congr (h : RdM w B A n l m) (e : ∀ i j, i < n → j < l i → m i j = m' i j) : RdM w B A n l m' := by
  obtain ⟨R, h1, h2⟩ := h
  exact ⟨R, h1, fun i hi => ⟨(h2 i hi).1, (h2 i hi).2.congr fun j hj => by rw [e i j hi hj]⟩⟩
theorem RdM.at_ (h : RdM w B A n l m) {i : Nat} (hi : i < n) : ∃ ad R c, A = some ad ∧ ad.block < B ∧ w.cell? (ad.add i) = some (.slice R (l i) c) ∧ l i ≤ c ∧ RdC w B R (l i) fun j => .bool (m i j) := by
  obtain ⟨R, h1, h2⟩ := h
  obtain ⟨ad, e, hb, hc⟩ := h1.at_ hi
  exact ⟨ad, _, _, e, hb, hc, (h2 i hi).1, (h2 i hi).2⟩
theorem RdM.front (h : RdM w B A n l m) (k : Nat) (hk : k ≤ n) : RdM w B A k l m := by
  obtain ⟨R, h1, h2⟩ := h
  refine ⟨R, fun h0 => ?_, fun i hi => h2 i (by omega)⟩
  obtain ⟨ad, e, hb, hc⟩ := h1 (by omega)
  exact ⟨ad, e, hb, fun j hj => hc j (by omega)⟩
theorem RdM.none (w : World) (B : Nat) (l : Nat → Nat) (m : Nat → Nat → Bool) : RdM w B .none 0 l m := ⟨fun _ => (.none, 0), fun h => by omega, fun i hi => by omega⟩
theorem Mat.rdm {g : Nat} {G : Nat → Nat} (h : Mat w B g n n G m) : RdM w w.heap.size (some ⟨g, 0, .none⟩) n (fun _ => n) m := by
  obtain ⟨f, h1, h2⟩ := h.outer
  exact ⟨fun i => (some ⟨G i, 0, .none⟩, n), (h1.congr h2).rdc, fun i hi => ⟨Nat.le_refl _, (h.rows i hi).rdc⟩⟩
end
/-- It answers a square matrix, new. -/
def MadM (n : Nat) (m : Nat → Nat → Bool) (w : World) (e : Ending) (w' : World) : Prop := ∃ A c, e = .returned (.slice A n c) ∧ n ≤ c ∧ RdM w' w'.heap.size A n (fun _ => n) m ∧ Below w.heap.size w w'
/-- It answers a square matrix in blocks of its own. -/
def MadG (n : Nat) (m : Nat → Nat → Bool) (w : World) (e : Ending) (w' : World) : Prop := ∃ g G, e = .returned (.slice (some ⟨g, 0, none⟩) n n) ∧ Mat w' w.heap.size g n n G m ∧ Below w.heap.size w w'
theorem MadG.m {n : Nat} {m : Nat → Nat → Bool} {w w' : World} {e : Ending} (h : MadG n m w e w') : MadM n m w e w' := by
  obtain ⟨g, G, rfl, h1, h2⟩ := h
  exact ⟨_, _, rfl, Nat.le_refl _, h1.rdm, h2⟩
/-- Rows of numbers in a row. -/
def RdS (w : World) (B : Nat) (A : Option Addr) (n : Nat) (S : Nat → List Nat) : Prop :=
  ∃ R : Nat → Option Addr × Nat, RdC w B A n (fun i => .slice (R i).1 (S i).length (R i).2) ∧ ∀ i, i < n → (S i).length ≤ (R i).2 ∧ RdI w B (R i).1 (S i).length ((S i).map fun x : Nat => (x : Int))
section
variable {w w' : World} {n B B' : Nat} {A : Option Addr} {S : Nat → List Nat}
theorem RdS.below (h : RdS w B A n S) (hb : Below B w w') : RdS w' B A n S := by
  obtain ⟨R, h1, h2⟩ := h
  exact ⟨R, h1.below hb, fun i hi => ⟨(h2 i hi).1, (h2 i hi).2.below hb⟩⟩
theorem RdS.more (h : RdS w B A n S) (hB : B ≤ B') : RdS w B' A n S := by
  obtain ⟨R, h1, h2⟩ := h
  exact ⟨R, h1.more hB, fun i hi => ⟨(h2 i hi).1, (h2 i hi).2.more hB⟩⟩
theorem RdS.on (h : RdS w w.heap.size A n S) (hb : Below w.heap.size w w') : RdS w' w'.heap.size A n S := (h.below hb).more hb.size
theorem RdS.at_ (h : RdS w B A n S) {i : Nat} (hi : i < n) : ∃ ad R c, A = some ad ∧ ad.block < B ∧ w.cell? (ad.add i) = some (.slice R (S i).length c) ∧ (S i).length ≤ c ∧ RdI w B R (S i).length ((S i).map fun x : Nat => (x : Int)) := by
  obtain ⟨R, h1, h2⟩ := h
  obtain ⟨ad, e, hb, hc⟩ := h1.at_ hi
  exact ⟨ad, _, _, e, hb, hc, (h2 i hi).1, (h2 i hi).2⟩
end
theorem OwnV.frontC {E s B n c : Nat} {w : World} {A : Option Addr} {l : List Value} (h : OwnV E s w B A n c l) (k : Nat) (hk : k ≤ n) : OwnV E s w B A k c (l.take (k * s)) := by
  have hl := h.1
  have hle : k * s ≤ n * s := Nat.mul_le_mul_right _ hk
  refine ⟨by rw [List.length_take]; omega, ?_⟩
  rcases h.2 with ⟨hv, h0⟩ | ⟨g, cap, cur, hv, hbg, hg, hnc, hcm, hcs, htake⟩
  · injection hv with h1 h2 h3
    subst h1; subst h3
    exact .inl ⟨by rw [show k = 0 by omega], by omega⟩
  · injection hv with h1 h2 h3
    subst h1; subst h3
    exact .inr ⟨g, c, cur, rfl, hbg, hg, by omega, hcm, hcs, by rw [← htake, List.take_take, Nat.min_eq_left hle]⟩
end Go.Proofs.YtgoeikihjffeoaaGreat

/- A search from a few on: all to whom steps lead. -/
namespace Go.Proofs.YtgoeikihjffeoaaGreat
open Go.RowKit Tab
set_option linter.unusedSimpArgs false
set_option linter.unusedVariables false

/-- A slice of numbers that is to be gone through. -/
structure Sl where
  a : Option Addr
  c : Nat
  l : List Nat
def Sl.v (s : Sl) : Value := .slice s.a s.l.length s.c
def SlOk (w : World) (B : Nat) (s : Sl) : Prop := s.l.length ≤ s.c ∧ s.l.length ≤ 1048576 ∧ RdI w B s.a s.l.length (s.l.map fun x : Nat => (x : Int))
theorem slv_one (T : List Sl) : ∀ u ∈ T.map Sl.v, u.oneCell' = true := by
  intro u hu
  obtain ⟨s, _, rfl⟩ := List.mem_map.1 hu
  rfl
/-- What is not marked, by the cells. -/
def unw (w : World) (h n : Nat) : Nat := un n fun j => match w.cell? ⟨h, j, none⟩ with | some (.bool b) => b | _ => false
theorem Vec.unw {w : World} {h n : Nat} {M : Nat → Bool} (hv : Vec w h n fun j => .bool (M j)) : unw w h n = un n M := by
  unfold Go.Proofs.YtgoeikihjffeoaaGreat.unw
  exact un_congr fun j hj => by rw [hv.cell j hj]
theorem OwnV.keep' {E s B n c : Nat} {w w' : World} {A : Option Addr} {l : List Value} (h : OwnV E s w B A n c l) (hk : ∀ g, obk A = some g → w'.heap[g]? = w.heap[g]?) : OwnV E s w' B A n c l := by
  refine ⟨h.1, ?_⟩
  rcases h.2 with hv | ⟨g, cap, cur, hv, hbg, hg, r⟩
  · exact .inl hv
  · exact .inr ⟨g, cap, cur, hv, hbg, by rw [hk g (by injection hv with h1; rw [h1]; rfl)]; exact hg, r⟩
theorem drop_at {L : List Nat} {i : Nat} (h : i < L.length) : L.drop i = L[i] :: L.drop (i + 1) := List.drop_eq_getElem_cons h
theorem un_le (n : Nat) (M : Nat → Bool) : un n M ≤ n := by
  induction n with
  | zero => exact Nat.le_refl _
  | succ n ih => simp only [un]; split <;> omega
/-- What is led to. -/
def LedP (n : Nat) (S : Nat → List Nat) (F : List Nat) (w : World) (e : Ending) (w' : World) : Prop :=
  ∃ (h : Nat) (M : Nat → Bool), e = .returned (.slice (some ⟨h, 0, none⟩) n n) ∧ Vec w' h n (fun j => .bool (M j)) ∧ w.heap.size ≤ h ∧ Below w.heap.size w w' ∧ ∀ a, M a = true ↔ Rch S F a
end Go.Proofs.YtgoeikihjffeoaaGreat

/- Closing a matrix by searches. -/
namespace Go.Proofs.YtgoeikihjffeoaaGreat
open Go.RowKit Tab
set_option linter.unusedSimpArgs false
set_option linter.unusedVariables false

theorem OwnV.obk_ge {E s B n c b : Nat} {w : World} {A : Option Addr} {l : List Value} (h : OwnV E s w B A n c l) (hA : obk A = some b) : B ≤ b ∧ b < w.heap.size := by
  rcases h.2 with ⟨hv, _⟩ | ⟨g, cap, cur, hv, hbg, hg, _⟩
  · injection hv with h1
    subst h1
    cases hA
  · injection hv with h1
    subst h1
    injection hA with hA
    have hA : g = b := hA
    subst hA
    exact ⟨hbg, (Array.getElem?_eq_some_iff.1 hg).1⟩
def cast (l : List Nat) : List Int := l.map fun x : Nat => (x : Int)
/-- Rows of numbers of a call's own in a row of its own: k of them are laid. -/
structure Stp (w : World) (B g n k : Nat) (R : Nat → Option Addr × Nat) (S : Nat → List Nat) : Prop where
  outer : ∃ f, Vec w g n f ∧ ∀ i, i < k → f i = .slice (R i).1 (S i).length (R i).2
  rows : ∀ i, i < k → OwnV 3 1 w B (R i).1 (S i).length (R i).2 (is (cast (S i)))
  low : B ≤ g
  ne : ∀ i, i < k → obk (R i).1 ≠ some g
  inj : ∀ i j b, i < k → j < k → i ≠ j → obk (R i).1 = some b → obk (R j).1 ≠ some b
section
variable {w w' : World} {g n k B : Nat} {R : Nat → Option Addr × Nat} {S : Nat → List Nat}
theorem Stp.on (h : Stp w B g n k R S) (hb : Below w.heap.size w w') : Stp w' B g n k R S := by
  obtain ⟨f, h1, h2⟩ := h.outer
  exact ⟨⟨f, h1.on hb, h2⟩, fun i hi => (h.rows i hi).below rfl hb, h.low, h.ne, h.inj⟩
theorem Stp.push (h : Stp w B g n k R S) {A : Option Addr} {c : Nat} {l : List Nat} (hx : OwnV 3 1 w B A l.length c (is (cast l))) (hg : obk A ≠ some g) (hA : ∀ i b, i < k → obk (R i).1 = some b → obk A ≠ some b) (hk : k < n) :
    Stp (w.setCell ⟨g, k, none⟩ (.slice A l.length c)) B g n (k + 1) (put1 R k (A, c)) (put1 S k l) := by
  obtain ⟨f, h1, h2⟩ := h.outer
  have hlt : ∀ i, i < k + 1 → i ≠ k → i < k := fun i _ _ => by omega
  have hset : ∀ A n c l, OwnV 3 1 w B A n c l → obk A ≠ some g → ∀ v, OwnV 3 1 (w.setCell ⟨g, k, none⟩ v) B A n c l := fun A n c l ho hne v =>
    ho.keep' fun b hb => Below.heap_setCell _ _ _ _ fun e => hne (by rw [hb]; exact congrArg some e)
  refine ⟨⟨_, h1.set k _, fun i hi => ?_⟩, fun i hi => ?_, h.low, fun i hi => ?_, fun i j b hi hj hij e => ?_⟩
  · by_cases e : i = k
    · subst e; rw [put1_same, put1_same, put1_same]
    · rw [put1_other e, put1_other e, put1_other e]; exact h2 i (hlt i hi e)
  · by_cases e : i = k
    · subst e; rw [put1_same, put1_same]; exact hset _ _ _ _ hx hg _
    · rw [put1_other e, put1_other e]; exact hset _ _ _ _ (h.rows i (hlt i hi e)) (h.ne i (hlt i hi e)) _
  · by_cases e : i = k
    · subst e; rw [put1_same]; exact hg
    · rw [put1_other e]; exact h.ne i (hlt i hi e)
  · by_cases e1 : i = k
    · subst e1
      have e2 : j ≠ i := fun e => hij e.symm
      rw [put1_same] at e
      rw [put1_other e2]
      exact fun e3 => hA j b (hlt j hj e2) e3 e
    · rw [put1_other e1] at e
      by_cases e2 : j = k
      · subst e2; rw [put1_same]; exact hA i b (hlt i hi e1) e
      · rw [put1_other e2]; exact h.inj i j b (hlt i hi e1) (hlt j hj e2) hij e
theorem Stp.rds (h : Stp w B g n n R S) : RdS w w.heap.size (some ⟨g, 0, none⟩) n S := by
  obtain ⟨f, h1, h2⟩ := h.outer
  exact ⟨R, (h1.congr h2).rdc, fun i hi => ⟨(h.rows i hi).cap, ⟨by simp, (h.rows i hi).rd⟩⟩⟩
theorem RdS.congr {A : Option Addr} {T : Nat → List Nat} (h : RdS w B A n S) (e : ∀ i, i < n → S i = T i) : RdS w B A n T := by
  obtain ⟨R, h1, h2⟩ := h
  exact ⟨R, h1.congr fun i hi => by rw [e i hi], fun i hi => by rw [← e i hi]; exact h2 i hi⟩
end
theorem add_one'' (g k : Nat) : (⟨g, 0, none⟩ : Addr).add k = ⟨g, k, none⟩ := by
  unfold Addr.add
  split
  · rename_i h
    rw [h]
  · simp
theorem Mat.weak {w : World} {B B' g n k : Nat} {G : Nat → Nat} {m : Nat → Nat → Bool} (h : Mat w B g n k G m) (hB : B' ≤ B) : Mat w B' g n k G m :=
  ⟨h.outer, h.rows, Nat.le_trans hB h.low, fun i hi => Nat.le_trans hB (h.ge i hi), h.ne, h.inj⟩
end Go.Proofs.YtgoeikihjffeoaaGreat

/- Rows of structs of the call's own: a store into one field of one of them. -/
namespace Go.Proofs.YtgoeikihjffeoaaGreat
open Go.RowKit Tab
set_option linter.unusedSimpArgs false
set_option linter.unusedVariables false

theorem heap_set_same (w : World) (g j : Nat) (v : Value) {cur : Array Value} {E : TypeId} {fr : Nat × Nat} (h : w.heap[g]? = some (.cells cur E fr)) : (w.setCell ⟨g, j, none⟩ v).heap[g]? = some (.cells (cur.setIfInBounds j v) E fr) := by
  unfold World.setCell
  simp [Array.getElem?_modify, h]
theorem OwnV.set {E s B n c g : Nat} {w : World} {l : List Value} (h : OwnV E s w B (some ⟨g, 0, none⟩) n c l) (j : Nat) (v : Value) (hj : j < l.length) : OwnV E s (w.setCell ⟨g, j, none⟩ v) B (some ⟨g, 0, none⟩) n c (l.set j v) := by
  refine ⟨by rw [List.length_set]; exact h.1, ?_⟩
  rcases h.2 with ⟨hv, _⟩ | ⟨g', cap, cur, hv, hbg, hg, hnc, hcm, hcs, htake⟩
  · cases hv
  · simp only [Value.slice.injEq, Option.some.injEq, Addr.mk.injEq, and_true, true_and] at hv
    obtain ⟨rfl, rfl⟩ := hv
    refine .inr ⟨g, c, cur.setIfInBounds j v, rfl, hbg, heap_set_same w g j v hg, hnc, hcm, by rw [Array.size_setIfInBounds]; exact hcs, ?_⟩
    rw [Array.toList_setIfInBounds, List.take_set, htake]
/-- A store into another block leaves a row. -/
theorem OwnV.other {E s B n c : Nat} {w : World} {A : Option Addr} {l : List Value} (h : OwnV E s w B A n c l) (p : Addr) (v : Value) (hp : ∀ g, A = some ⟨g, 0, none⟩ → g ≠ p.block) : OwnV E s (w.setCell p v) B A n c l := by
  refine ⟨h.1, ?_⟩
  rcases h.2 with hv | ⟨g, cap, cur, hv, hbg, hg, r⟩
  · exact .inl hv
  · refine .inr ⟨g, cap, cur, hv, hbg, ?_, r⟩
    rw [Below.heap_setCell w p v g (hp g (by injection hv))]
    exact hg
section
variable {α : Type} {f : α → List Value} {s : Nat}
theorem flat_len (hf : ∀ x, (f x).length = s) (l : List α) : (l.flatMap f).length = l.length * s := by
  induction l with
  | nil => simp
  | cons x l ih => rw [List.flatMap_cons, List.length_append, hf, ih, List.length_cons, Nat.succ_mul]; omega
theorem flat_set (hf : ∀ x, (f x).length = s) (l : List α) (i k : Nat) (x y : α) (v : Value) (hx : l[i]? = some x) (hk : k < s) (hy : f y = (f x).set k v) : (l.set i y).flatMap f = (l.flatMap f).set (i * s + k) v := by
  induction l generalizing i with
  | nil => simp at hx
  | cons z l ih =>
    cases i with
    | zero =>
      simp at hx
      subst hx
      rw [List.set_cons_zero, List.flatMap_cons, List.flatMap_cons, hy, Nat.zero_mul, Nat.zero_add, List.set_append_left _ _ (by rw [hf]; exact hk)]
    | succ i =>
      rw [List.set_cons_succ, List.flatMap_cons, List.flatMap_cons, ih i (by simpa using hx), List.set_append_right _ _ (by rw [hf, Nat.succ_mul]; omega), hf]
      congr 2
      rw [Nat.succ_mul]
      omega
end
/-- A row of structs, each in s cells, of the call's own, block B or behind it. -/
structure OwnB {α : Type} (E s : Nat) (f : α → List Value) (w : World) (B : Nat) (A : Option Addr) (n c : Nat) (l : List α) : Prop where
  len : l.length = n
  own : OwnV E s w B A n c (l.flatMap f)
section
variable {α : Type} {f : α → List Value} {E s B B' n c : Nat} {w w' : World} {A : Option Addr} {l : List α}
theorem OwnB.rdb (h : OwnB E s f w B A n c l) : RdB f w w.heap.size A n l := ⟨h.len, h.own.rd⟩
theorem OwnB.cap (h : OwnB E s f w B A n c l) : n ≤ c := h.own.cap
theorem OwnB.nil (w : World) (E s B : Nat) : OwnB E s f w B none 0 0 [] := ⟨rfl, OwnV.nil _ _ _ _⟩
theorem OwnB.below (h : OwnB E s f w B A n c l) (hb : Below w.heap.size w w') : OwnB E s f w' B A n c l := ⟨h.len, h.own.below rfl hb⟩
theorem OwnB.other (h : OwnB E s f w B A n c l) (p : Addr) (v : Value) (hp : ∀ g, A = some ⟨g, 0, none⟩ → g ≠ p.block) : OwnB E s f (w.setCell p v) B A n c l := ⟨h.len, h.own.other p v hp⟩
theorem OwnB.weak (h : OwnB E s f w B A n c l) (hB : B' ≤ B) : OwnB E s f w B' A n c l := ⟨h.len, h.own.weak hB⟩
theorem OwnB.block (h : OwnB E s f w B A n c l) (hn : 0 < n) : ∃ g, A = some ⟨g, 0, none⟩ ∧ B ≤ g ∧ g < w.heap.size := h.own.block hn
theorem mk_add (g i : Nat) : (⟨g, 0, none⟩ : Addr).add i = ⟨g, i, none⟩ := by
  unfold Addr.add
  split <;> simp_all
/-- A store into a struct's field k, as a walk spells its place. -/
theorem OwnB.set {g : Nat} (h : OwnB E s f w B (some ⟨g, 0, none⟩) n c l) (hf : ∀ x, (f x).length = s) {i k : Nat} {x y : α} {v : Value} (hx : l[i]? = some x) (hk : k < s) (hy : f y = (f x).set k v) :
    OwnB E s f (w.setCell ⟨((⟨g, 0, none⟩ : Addr).add (i * s)).block, ((⟨g, 0, none⟩ : Addr).add (i * s)).off + k, none⟩ v) B (some ⟨g, 0, none⟩) n c (l.set i y) := by
  have hi : i < l.length := (List.getElem?_eq_some_iff.1 hx).1
  refine ⟨by rw [List.length_set]; exact h.len, ?_⟩
  rw [mk_add, flat_set hf l i k x y v hx hk hy]
  refine h.own.set (i * s + k) v ?_
  rw [flat_len hf]
  have h1 : (i + 1) * s ≤ l.length * s := Nat.mul_le_mul_right _ hi
  rw [Nat.succ_mul] at h1
  omega
end
/-- A store into a channel's bound, into a partition's budget, its period. -/
theorem cc_late (x : ChV) (z : Int) : cc { x with late := z } = (cc x).set 5 (.int .i64 z) := rfl
theorem pcl_bud (x : PtV) (z : Int) : pcl { x with bud := z } = (pcl x).set 1 (.int .i64 z) := rfl
theorem pcl_per (x : PtV) (z : Int) : pcl { x with per := z } = (pcl x).set 2 (.int .i64 z) := rfl
end Go.Proofs.YtgoeikihjffeoaaGreat

/- The ways between partitions; those that sway all; do two depend. -/
namespace Go.Proofs.YtgoeikihjffeoaaGreat
open Go.RowKit Tab
set_option linter.unusedSimpArgs false
set_option linter.unusedVariables false

def ptOf (x : PtV) : Pt := ⟨x.sched, x.stop⟩
def chOf (x : ChV) : Ch := ⟨x.from_, x.to_, x.queue⟩
theorem RdB.below {α : Type} {f : α → List Value} {w w' : World} {B n : Nat} {A : Option Addr} {l : List α} (h : RdB f w B A n l) (hb : Below B w w') : RdB f w' B A n l := ⟨h.len, h.rd.below hb⟩
theorem RdB.more {α : Type} {f : α → List Value} {w : World} {B B' n : Nat} {A : Option Addr} {l : List α} (h : RdB f w B A n l) (hB : B ≤ B') : RdB f w B' A n l := ⟨h.len, h.rd.more hB⟩
/-- A configuration's partitions and channels in memory. -/
structure CfW (w : World) (B : Nat) (A1 A2 : Option Addr) (n1 n2 : Nat) (P : List PtV) (C : List ChV) : Prop where
  p : RdB pcl w B A1 n1 P
  c : RdB cc w B A2 n2 C
section
variable {w w' : World} {B B' n1 n2 : Nat} {A1 A2 : Option Addr} {P : List PtV} {C : List ChV}
theorem CfW.below (h : CfW w B A1 A2 n1 n2 P C) (hb : Below B w w') : CfW w' B A1 A2 n1 n2 P C := ⟨h.p.below hb, h.c.below hb⟩
theorem CfW.more (h : CfW w B A1 A2 n1 n2 P C) (hB : B ≤ B') : CfW w B' A1 A2 n1 n2 P C := ⟨h.p.more hB, h.c.more hB⟩
theorem CfW.on (h : CfW w w.heap.size A1 A2 n1 n2 P C) (hb : Below w.heap.size w w') : CfW w' w'.heap.size A1 A2 n1 n2 P C := (h.below hb).more hb.size
end
theorem schedOf_at {P : List PtV} {a : Nat} {x : PtV} (h : P[a]? = some x) : schedOf (P.map ptOf) a = x.sched := by
  unfold schedOf; rw [List.getElem?_map, h]; rfl
theorem stopOf_at {P : List PtV} {a : Nat} {x : PtV} (h : P[a]? = some x) : stopOf (P.map ptOf) a = x.stop := by
  unfold stopOf; rw [List.getElem?_map, h]; rfl
theorem wayL_more {n : Nat} {C : List ChV} {i : Nat} {x : ChV} (h : C[i]? = some x) : wayL n ((C.take (i + 1)).map chOf) = wayL n ((C.take i).map chOf) ++ wayOf n (chOf x) := by
  obtain ⟨hi, e⟩ := List.getElem?_eq_some_iff.1 h
  rw [List.take_succ_eq_append_getElem hi, e, List.map_append]
  unfold wayL
  rw [List.flatMap_append]
  simp
def wcl (x : Nat × Nat) : List Value := [.int .i64 (x.1 : Int), .int .i64 (x.2 : Int)]
theorem wcl_len (x : Nat × Nat) : (wcl x).length = 2 := rfl
theorem wcl_one (l : List (Nat × Nat)) : ∀ u ∈ l.flatMap wcl, u.oneCell' = true := by
  intro u hu
  obtain ⟨x, _, hx⟩ := List.mem_flatMap.1 hu
  simp [wcl] at hx
  rcases hx with rfl | rfl <;> rfl
theorem wayOf_len (n : Nat) (x : Ch) : (wayOf n x).length ≤ 2 := by
  unfold wayOf
  split
  · split <;> simp
  · simp
theorem wayL_len (n : Nat) (C : List Ch) : (wayL n C).length ≤ 2 * C.length := by
  induction C with
  | nil => simp [wayL]
  | cons x C ih =>
    have := wayOf_len n x
    unfold wayL at ih ⊢
    rw [List.flatMap_cons, List.length_append, List.length_cons]
    omega
/-- It answers a row of ways, new. -/
def MadW (L : List (Nat × Nat)) (w : World) (e : Ending) (w' : World) : Prop := ∃ A c, e = .returned (.slice A L.length c) ∧ RdB wcl w' w'.heap.size A L.length L ∧ L.length ≤ c ∧ Below w.heap.size w w' ∧ ∀ b, obk A = some b → w.heap.size ≤ b
end Go.Proofs.YtgoeikihjffeoaaGreat

/- Who depends on whom, as a matrix, by the program. -/
namespace Go.Proofs.YtgoeikihjffeoaaGreat
open Go.RowKit Tab
set_option linter.unusedSimpArgs false
set_option linter.unusedVariables false

/-- A store into another block leaves a row. -/
theorem RdB.other {α : Type} {f : α → List Value} {w : World} {n B : Nat} {A : Option Addr} {l : List α} (h : RdB f w B A n l) (p : Addr) (v : Value) (hp : ∀ b, obk A = some b → b ≠ p.block) : RdB f (w.setCell p v) B A n l := by
  refine ⟨h.len, fun hl => ?_⟩
  obtain ⟨ad, e, hb, hc⟩ := h.rd hl
  refine ⟨ad, e, hb, fun j u hj => ?_⟩
  rw [World.cell?_of_block (Below.heap_setCell w p v (ad.add j).block (by rw [add_block]; exact hp _ (by rw [e]; rfl)))]
  exact hc j u hj
theorem RdB.on' {α : Type} {f : α → List Value} {w w' : World} {n : Nat} {A : Option Addr} {l : List α} (h : RdB f w w.heap.size A n l) (hb : Below w.heap.size w w') : RdB f w' w'.heap.size A n l := (h.below hb).more hb.size
def mA (W : List (Nat × Nat)) (a b : Nat) : Bool := decide (a = b) || decide ((a, b) ∈ W) || decide ((b, a) ∈ W)
def mS (W : List (Nat × Nat)) (a b : Nat) : Bool := decide (a = b) || decide ((a, b) ∈ W)
theorem take_one {α : Type} {L : List α} {i : Nat} {x : α} (h : L[i]? = some x) : L.take (i + 1) = L.take i ++ [x] := by
  obtain ⟨hi, e⟩ := List.getElem?_eq_some_iff.1 h
  rw [List.take_succ_eq_append_getElem hi, e]
theorem mA_more {W : List (Nat × Nat)} {i : Nat} {f t : Nat} (h : W[i]? = some (f, t)) (a b : Nat) : put2 (put2 (mA (W.take i)) f t true) t f true a b = mA (W.take (i + 1)) a b := by
  rw [take_one h]
  unfold put2 mA
  simp only [List.mem_append, List.mem_singleton, Prod.mk.injEq]
  by_cases h1 : a = t ∧ b = f
  · rw [if_pos h1]; simp [h1.1, h1.2]
  · rw [if_neg h1]
    by_cases h2 : a = f ∧ b = t
    · rw [if_pos h2]; simp [h2.1, h2.2]
    · rw [if_neg h2]
      have h3 : ¬ (b = f ∧ a = t) := fun e => h1 ⟨e.2, e.1⟩
      simp [h2, h3]
theorem mS_more {W : List (Nat × Nat)} {i : Nat} {f t : Nat} (h : W[i]? = some (f, t)) (a b : Nat) : put2 (mS (W.take i)) f t true a b = mS (W.take (i + 1)) a b := by
  rw [take_one h]
  unfold put2 mS
  simp only [List.mem_append, List.mem_singleton, Prod.mk.injEq]
  by_cases h2 : a = f ∧ b = t
  · rw [if_pos h2]; simp [h2.1, h2.2]
  · rw [if_neg h2]
    simp [h2]
/-- Rows ahead of i, and of row i the places ahead of j, have q besides. -/
def mQ (m q : Nat → Nat → Bool) (i j x y : Nat) : Bool := m x y || (q x y && (decide (x < i) || (decide (x = i) && decide (y < j))))
theorem mQ_zero (m q : Nat → Nat → Bool) (x y : Nat) : mQ m q 0 0 x y = m x y := by simp [mQ]
theorem mQ_put {m q : Nat → Nat → Bool} {i j : Nat} (h : q i j = true) (x y : Nat) : put2 (mQ m q i j) i j true x y = mQ m q i (j + 1) x y := by
  unfold put2 mQ
  by_cases h1 : x = i ∧ y = j
  · rw [if_pos h1, h1.1, h1.2, h]; simp
  · rw [if_neg h1]
    congr 2
    by_cases h2 : x = i
    · have h3 : y ≠ j := fun e => h1 ⟨h2, e⟩
      have h4 : (y < j) = (y < j + 1) := by simp; omega
      simp [h2, h4]
    · simp [h2]
theorem mQ_skip {m q : Nat → Nat → Bool} {i j : Nat} (h : q i j = false) (x y : Nat) : mQ m q i j x y = mQ m q i (j + 1) x y := by
  unfold mQ
  by_cases h1 : x = i ∧ y = j
  · rw [h1.1, h1.2, h]; simp
  · congr 2
    by_cases h2 : x = i
    · have h3 : y ≠ j := fun e => h1 ⟨h2, e⟩
      have h4 : (y < j) = (y < j + 1) := by simp; omega
      simp [h2, h4]
    · simp [h2]
theorem mQ_row {m q : Nat → Nat → Bool} {i n x y : Nat} (hy : y < n) : mQ m q i n x y = mQ m q (i + 1) 0 x y := by
  unfold mQ
  congr 2
  rw [Bool.eq_iff_iff]
  simp
  omega
theorem mQ_all {m q : Nat → Nat → Bool} {n x y : Nat} (hx : x < n) : mQ m q n 0 x y = (m x y || q x y) := by
  unfold mQ
  simp [hx]
def schQ (P : List PtV) (x y : Nat) : Bool := schedOf (P.map ptOf) x && schedOf (P.map ptOf) y
theorem depF_mQ {P : List PtV} {C : List ChV} {n a b : Nat} (hn : P.length = n) (ha : a < n) : mQ (mA (wayL n (C.map chOf))) (schQ P) n 0 a b = depF (P.map ptOf) (C.map chOf) a b := by
  rw [mQ_all ha, Bool.eq_iff_iff, depF_iff, List.length_map, hn]
  unfold mA schQ
  simp only [Bool.or_eq_true, Bool.and_eq_true, decide_eq_true_eq]
  constructor
  · rintro (((h | h) | h) | h)
    · exact .inl h
    · exact .inr (.inr (.inl h))
    · exact .inr (.inr (.inr h))
    · exact .inr (.inl h)
  · rintro (h | h | h | h)
    · exact .inl (.inl (.inl h))
    · exact .inr h
    · exact .inl (.inl (.inr h))
    · exact .inl (.inr h)
theorem RdB.way {w : World} {B n : Nat} {A : Option Addr} {L : List (Nat × Nat)} (h : RdB wcl w B A n L) {i : Nat} (hi : i < n) : ∃ (ad : Addr) (f t : Nat), A = some ad ∧ ad.block < B ∧ L[i]? = some (f, t) ∧ w.cell? (ad.add (i * 2)) = some (.int .i64 (f : Int)) ∧ w.cell? ⟨(ad.add (i * 2)).block, (ad.add (i * 2)).off + 1, none⟩ = some (.int .i64 (t : Int)) := by
  obtain ⟨ad, x, e, hb, hx, c0, ck⟩ := h.at_ wcl_len (by omega) hi
  obtain ⟨f, t⟩ := x
  exact ⟨ad, f, t, e, hb, hx, c0 _ rfl, ck 1 _ (by omega) rfl⟩
/-- A configuration in a box. -/
theorem box_vec (w : World) (v0 v1 v2 : Value) (t : TypeId) : Vec (w.alloc (.cells #[v0, v1, v2] t)) w.heap.size 3 fun j => if j = 0 then v0 else if j = 1 then v1 else v2 :=
  Vec.lit w _ _ 3 _ fun j hj => by rcases (by omega : j = 0 ∨ j = 1 ∨ j = 2) with rfl | rfl | rfl <;> rfl
theorem Vec.three {w : World} {g : Nat} {v0 v1 v2 : Value} (h : Vec w g 3 fun j => if j = 0 then v0 else if j = 1 then v1 else v2) : w.cell? ⟨g, 0, none⟩ = some v0 ∧ w.cell? ⟨g, 1, none⟩ = some v1 ∧ w.cell? ⟨g, 2, none⟩ = some v2 := by
  refine ⟨?_, ?_, ?_⟩
  · have := h.cell 0 (by omega); rwa [if_pos rfl] at this
  · have := h.cell 1 (by omega); rwa [if_neg (by omega), if_pos rfl] at this
  · have := h.cell 2 (by omega); rwa [if_neg (by omega), if_neg (by omega)] at this
end Go.Proofs.YtgoeikihjffeoaaGreat

/- Whether a partition may be, whether a name is one, by the document's own answer (that it answers). -/
namespace Go.Proofs.YtgoeikihjffeoaaGreat
open Go.RowKit Tab
set_option linter.unusedSimpArgs false
set_option linter.unusedVariables false

/-- Processes in memory, whatever they are. -/
def PcOk (e p : Int) : Prop := 0 ≤ e ∧ e < 512 ∧ 0 ≤ p ∧ p ≤ 255
def ProcsAt (w : World) (B : Nat) (A : Option Addr) (n : Nat) : Prop := ∀ i, i < n → ∃ ad e p, A = some ad ∧ ad.block < B ∧ w.cell? (ad.add (i * 2)) = some (.int .i64 e) ∧ w.cell? ⟨(ad.add (i * 2)).block, (ad.add (i * 2)).off + 1, none⟩ = some (.int .i64 p) ∧ PcOk e p
theorem ProcsAt.on {w w' : World} {A : Option Addr} {n : Nat} (h : ProcsAt w w.heap.size A n) (hb : Below w.heap.size w w') : ProcsAt w' w'.heap.size A n := fun i hi => by
  obtain ⟨ad, e, p, hA, hB, h1, h2, h3⟩ := h i hi
  refine ⟨ad, e, p, hA, Nat.lt_of_lt_of_le hB hb.size, ?_, ?_, h3⟩
  · rw [hb.cell (by rw [add_block]; exact hB)]; exact h1
  · rw [hb.cell (by show (ad.add (i * 2)).block < _; rw [add_block]; exact hB)]; exact h2
set_option maxRecDepth 100000 in
set_option maxHeartbeats 4000000 in
theorem name_any (s : ByteArray) (w : World) (hs : s.size ≤ 1048576) : Calls Tryz.prog 12 #[.string s] w (SomB w) := by
  go_enter Tryz.func12, Tryz.ntmps12
  go_wp2_with fail
  go_loopw [3, 4] (fun q _ wr => ∃ i : Nat, i ≤ s.size ∧ q = .int .i64 i ∧ Below w.heap.size w wr) (fun q _ _ => s.size - (intOf q).toNat)
  case atStart => exact ⟨0, by omega, rfl, Below.refl _ _⟩
  case round =>
    obtain ⟨i, hi, rfl, hb⟩ := hrel
    by_cases hlt : i < s.size
    · go_wp2_with fail
      all_goals
        first
        | (go_ret; exact ⟨_, rfl, hb⟩)
        | (go_roundw
           case rel => exact ⟨i + 1, by omega, by go_num, hb⟩
           case measure => simp [intOf]; omega)
    · have hge : s.size ≤ i := by omega
      go_wp2_with fail
      all_goals
        go_ret
        exact ⟨_, rfl, hb⟩
set_option maxRecDepth 100000 in
set_option maxHeartbeats 4000000 in
theorem partRight_any (x : PtV) (w : World) (h : ProcsAt w w.heap.size x.pa x.pn) (hn : x.pn ≤ 1048576) : Calls Tryz.prog 54 #[pv x] w (SomB w) := by
  obtain ⟨nm, bu, pe, sc, st, pa, pn, pc, h0, h1, h2, h3, h4⟩ := x
  dsimp only at h hn
  go_enter Tryz.func54, Tryz.ntmps54
  by_cases hp1 : pn < 1
  · have hp1' : (pn : Int) < 1 := by omega
    go_wp2_with fail
    go_ret
    exact ⟨_, rfl, bl1 _ _⟩
  · by_cases hp3 : 3 < pn
    · have hp3' : (3 : Int) < (pn : Int) := by omega
      have hp1' : ¬ (pn : Int) < 1 := by omega
      go_wp2_with fail
      go_ret
      exact ⟨_, rfl, bl1 _ _⟩
    · have hp3' : ¬ (3 : Int) < (pn : Int) := by omega
      have hp1' : ¬ (pn : Int) < 1 := by omega
      go_wp2_with fail
      have hb0 := bl1 w (.cells #[.string nm, .int .i64 bu, .int .i64 pe, .bool sc, .bool st, .slice pa pn pc, .int .i64 h0, .int .i64 h1, .int .i64 h2, .int .i64 h3, .int .i64 h4] 49)
      have n1 : (w.alloc (.cells #[.string nm, .int .i64 bu, .int .i64 pe, .bool sc, .bool st, .slice pa pn pc, .int .i64 h0, .int .i64 h1, .int .i64 h2, .int .i64 h3, .int .i64 h4] 49)).cell? ⟨w.heap.size, 1, none⟩ = some (.int .i64 bu) := World.cell?_alloc_mark _ _ _ _ _
      have n2 : (w.alloc (.cells #[.string nm, .int .i64 bu, .int .i64 pe, .bool sc, .bool st, .slice pa pn pc, .int .i64 h0, .int .i64 h1, .int .i64 h2, .int .i64 h3, .int .i64 h4] 49)).cell? ⟨w.heap.size, 2, none⟩ = some (.int .i64 pe) := World.cell?_alloc_mark _ _ _ _ _
      have n6 : (w.alloc (.cells #[.string nm, .int .i64 bu, .int .i64 pe, .bool sc, .bool st, .slice pa pn pc, .int .i64 h0, .int .i64 h1, .int .i64 h2, .int .i64 h3, .int .i64 h4] 49)).cell? ⟨w.heap.size, 6, none⟩ = some (.int .i64 h0) := World.cell?_alloc_mark _ _ _ _ _
      have n7 : (w.alloc (.cells #[.string nm, .int .i64 bu, .int .i64 pe, .bool sc, .bool st, .slice pa pn pc, .int .i64 h0, .int .i64 h1, .int .i64 h2, .int .i64 h3, .int .i64 h4] 49)).cell? ⟨w.heap.size, 7, none⟩ = some (.int .i64 h1) := World.cell?_alloc_mark _ _ _ _ _
      have n8 : (w.alloc (.cells #[.string nm, .int .i64 bu, .int .i64 pe, .bool sc, .bool st, .slice pa pn pc, .int .i64 h0, .int .i64 h1, .int .i64 h2, .int .i64 h3, .int .i64 h4] 49)).cell? ⟨w.heap.size, 8, none⟩ = some (.int .i64 h2) := World.cell?_alloc_mark _ _ _ _ _
      have n9 : (w.alloc (.cells #[.string nm, .int .i64 bu, .int .i64 pe, .bool sc, .bool st, .slice pa pn pc, .int .i64 h0, .int .i64 h1, .int .i64 h2, .int .i64 h3, .int .i64 h4] 49)).cell? ⟨w.heap.size, 9, none⟩ = some (.int .i64 h3) := World.cell?_alloc_mark _ _ _ _ _
      have n10 : (w.alloc (.cells #[.string nm, .int .i64 bu, .int .i64 pe, .bool sc, .bool st, .slice pa pn pc, .int .i64 h0, .int .i64 h1, .int .i64 h2, .int .i64 h3, .int .i64 h4] 49)).cell? ⟨w.heap.size, 10, none⟩ = some (.int .i64 h4) := World.cell?_alloc_mark _ _ _ _ _
      have hgs : w.heap.size < (w.alloc (.cells #[.string nm, .int .i64 bu, .int .i64 pe, .bool sc, .bool st, .slice pa pn pc, .int .i64 h0, .int .i64 h1, .int .i64 h2, .int .i64 h3, .int .i64 h4] 49)).heap.size := by simp
      have hw1 := h.on hb0
      generalize w.alloc (.cells #[.string nm, .int .i64 bu, .int .i64 pe, .bool sc, .bool st, .slice pa pn pc, .int .i64 h0, .int .i64 h1, .int .i64 h2, .int .i64 h3, .int .i64 h4] 49) = W at n1 n2 n6 n7 n8 n9 n10 hb0 hgs hw1 ⊢
      obtain ⟨g, hg⟩ : ∃ g, g = w.heap.size := ⟨_, rfl⟩
      rw [← hg] at n1 n2 n6 n7 n8 n9 n10 hgs ⊢
      have HG := Lib.hid hg
      clear hg
      have HN := Lib.hid fun W' (hb : Below W.heap.size W W') (o : Nat) v (hv : W.cell? ⟨g, o, none⟩ = some v) => (hb.cell (p := ⟨g, o, none⟩) hgs).trans hv
      have N1 := Lib.hid n1
      have N2 := Lib.hid n2
      have N6 := Lib.hid n6
      have N7 := Lib.hid n7
      have N8 := Lib.hid n8
      have N9 := Lib.hid n9
      have N10 := Lib.hid n10
      clear n1 n2 n6 n7 n8 n9 n10
      go_loopw [4, 20] (fun _ s wr => ∃ i : Nat, i ≤ pn ∧ s = .int .i64 i ∧ Below W.heap.size W wr) (fun _ s _ => pn - (intOf s).toNat)
      case atStart => exact ⟨0, by omega, rfl, Below.refl _ _⟩
      case round =>
        obtain ⟨i, hi, rfl, hb⟩ := hrel
        by_cases hlt : i < pn
        · obtain ⟨ad, e, p, rfl, had, c0, c1, _⟩ := hw1.on hb i hlt
          have HB := Lib.hid (hb.trans ((bl1 wr (.cells #[.int .i64 e, .int .i64 p] 51)).mono hb.size))
          go_wp2_with fail
          all_goals
            first
            | (go_ret; exact ⟨_, rfl, hb0.trans (HB.out.mono hb0.size)⟩)
            | (go_roundw
               case rel => exact ⟨i + 1, by omega, by go_num, HB.out⟩
               case measure => simp [intOf]; omega)
        · have hge : pn ≤ i := by omega
          have n1 := HN.out wr hb 1 _ N1.out
          have n2 := HN.out wr hb 2 _ N2.out
          have n6 := HN.out wr hb 6 _ N6.out
          have n7 := HN.out wr hb 7 _ N7.out
          have n8 := HN.out wr hb 8 _ N8.out
          have n9 := HN.out wr hb 9 _ N9.out
          have n10 := HN.out wr hb 10 _ N10.out
          go_wp2_with fail
          clear n6 n7 n8 n9 n10
          go_loopw [6, 45] (fun _ s wx => ∃ j : Nat, j ≤ 5 ∧ s = .int .i64 j ∧ Below W.heap.size W wx) (fun _ s _ => 5 - (intOf s).toNat)
          case atStart => exact ⟨0, by omega, rfl, hb⟩
          case round =>
            obtain ⟨j, hj, rfl, hb⟩ := hrel
            by_cases hj5 : j < 5
            · obtain ⟨z, hz⟩ : ∃ z, ∀ W, (Instr.index 47 (.agg #[Value.int .i64 h0, .int .i64 h1, .int .i64 h2, .int .i64 h3, .int .i64 h4]) (.int .i64 (j : Int))).run Tryz.prog W = .ok (.int .i64 z) W := by
                rcases (by omega : j = 0 ∨ j = 1 ∨ j = 2 ∨ j = 3 ∨ j = 4) with rfl | rfl | rfl | rfl | rfl
                · exact ⟨h0, fun W => by simp [Instr.index, go_sem]⟩
                · exact ⟨h1, fun W => by simp [Instr.index, go_sem]⟩
                · exact ⟨h2, fun W => by simp [Instr.index, go_sem]⟩
                · exact ⟨h3, fun W => by simp [Instr.index, go_sem]⟩
                · exact ⟨h4, fun W => by simp [Instr.index, go_sem]⟩
              have hj5' : (j : Int) < 5 := by omega
              go_wp2_with fail
              all_goals
                first
                | (go_ret; exact ⟨_, rfl, hb0.trans (hb.mono hb0.size)⟩)
                | (go_roundw
                   case rel => exact ⟨j + 1, by omega, by go_num, hb⟩
                   case measure => simp [intOf]; omega)
            · have hj5' : ¬ (j : Int) < 5 := by omega
              have n1 := HN.out wr hb 1 _ N1.out
              have n2 := HN.out wr hb 2 _ N2.out
              go_wp2_with fail
              all_goals
                go_ret
                exact ⟨_, rfl, hb0.trans (hb.mono hb0.size)⟩
end Go.Proofs.YtgoeikihjffeoaaGreat

/- A row of runs in memory: ticks of one, of all, whose a tick is, how often one begins, the same row, a frame's. -/
namespace Go.Proofs.YtgoeikihjffeoaaGreat
open Go.RowKit Tab
set_option linter.unusedSimpArgs false
set_option linter.unusedVariables false

theorem cast_add_if (a b : Nat) (P : Prop) [Decidable P] (h : P) : ((a + (if P then b else 0) : Nat) : Int) = (a : Int) + (b : Int) := by rw [if_pos h]; omega
theorem tkOf_all (p : Int) (L : List Rn) (i : Nat) : tkOf p (L.take i) ≤ ticks L := by
  have h1 := tkOf_le p (L.take i)
  have h2 := take_ticks L i
  omega
set_option maxRecDepth 100000 in
set_option maxHeartbeats 1600000 in
theorem ticks_any (A : Option Addr) (n cap : Nat) (L : List Rn) (p : Int) (w : World) (h : RdR w w.heap.size A n L) (hc : n ≤ cap) (hn : n ≤ 1048576) (ht : ticks L ≤ 1099511627776) :
    Calls Tryz.prog 107 #[.slice A n cap, .int .i64 p] w (Ans (.int .i64 (tkOf p L : Nat)) w) := by
  go_enter Tryz.func107, Tryz.ntmps107
  go_wp2_with fail
  go_loopw [5, 10] (fun q s wr => ∃ (i m : Nat), i ≤ n ∧ s = .int .i64 i ∧ q = .int .i64 m ∧ m = tkOf p (L.take i) ∧ Below w.heap.size w wr) (fun _ s _ => n - (intOf s).toNat)
  case atStart => exact ⟨0, 0, by omega, rfl, rfl, by simp [tkOf], Below.refl _ _⟩
  case round =>
    obtain ⟨i, m, hi, rfl, rfl, hm, hb⟩ := hrel
    have hmt := tkOf_all p L i
    rw [← hm] at hmt
    by_cases hlt : i < n
    · obtain ⟨ad, r, rfl, had, hr, c0, c1⟩ := (h.on hb).at_ hlt
      have hmore := tkOf_more (p := p) hr
      have hall := tkOf_all p L (i + 1)
      rw [hmore, ← hm] at hall
      rw [← hm] at hmore
      have hbl := bl1 wr (.cells #[.int .i64 r.p, .int .i64 (r.n : Int)] 95)
      have HB := Lib.hid (hb.trans (hbl.mono hb.size))
      by_cases hp : r.p = p
      · rw [if_pos hp] at hall hmore
        have hpb : (r.p == p) = true := beq_iff_eq.2 hp
        have HM := Lib.hid hmore
        clear hp hmore hm hbl hr
        go_wp2_with fail
        refine (more_any (m : Int) (r.n : Int) _ _ _ (by omega) (by omega) (by omega) rfl rfl).mono ?_
        rintro e w1 ⟨rfl, rfl⟩
        go_wp2_with fail
        go_roundw
        case rel => exact ⟨i + 1, m + r.n, by omega, by go_num, by go_num, HM.out.symm, HB.out⟩
        case measure => simp [intOf]; omega
      · rw [if_neg hp] at hall hmore
        have hpb : (r.p == p) = false := beq_eq_false_iff_ne.2 hp
        have HM := Lib.hid hmore
        clear hp hmore hm hbl hr
        go_wp2_with fail
        go_roundw
        case rel => exact ⟨i + 1, m, by omega, by go_num, rfl, HM.out.symm, HB.out⟩
        case measure => simp [intOf]; omega
    · have hge : n ≤ i := by omega
      have e : m = tkOf p L := by rw [hm, List.take_of_length_le (by rw [h.len]; exact hge)]
      have HE := Lib.hid e
      clear e hm
      go_wp2_with fail
      go_ret
      exact Ans.mk (by rw [HE.out]; rfl) hb
set_option maxRecDepth 100000 in
set_option maxHeartbeats 1600000 in
theorem length_any (A : Option Addr) (n cap : Nat) (L : List Rn) (w : World) (h : RdR w w.heap.size A n L) (hc : n ≤ cap) (hn : n ≤ 1048576) (ht : ticks L ≤ 1099511627776) :
    Calls Tryz.prog 95 #[.slice A n cap] w (Ans (.int .i64 (ticks L : Nat)) w) := by
  go_enter Tryz.func95, Tryz.ntmps95
  go_wp2_with fail
  go_loopw [3, 8] (fun q s wr => ∃ (i m : Nat), i ≤ n ∧ s = .int .i64 i ∧ q = .int .i64 m ∧ m = ticks (L.take i) ∧ Below w.heap.size w wr) (fun _ s _ => n - (intOf s).toNat)
  case atStart => exact ⟨0, 0, by omega, rfl, rfl, by simp [ticks], Below.refl _ _⟩
  case round =>
    obtain ⟨i, m, hi, rfl, rfl, hm, hb⟩ := hrel
    have hmt := take_ticks L i
    rw [← hm] at hmt
    by_cases hlt : i < n
    · obtain ⟨ad, r, rfl, had, hr, c0, c1⟩ := (h.on hb).at_ hlt
      have hmore := take_more hr
      have hall := take_ticks L (i + 1)
      rw [hmore, ← hm] at hall
      rw [← hm] at hmore
      have hbl := bl1 wr (.cells #[.int .i64 r.p, .int .i64 (r.n : Int)] 95)
      have HB := Lib.hid (hb.trans (hbl.mono hb.size))
      have HM := Lib.hid hmore
      clear hmore hm hbl hr
      go_wp2_with fail
      refine (more_any (m : Int) (r.n : Int) _ _ _ (by omega) (by omega) (by omega) rfl rfl).mono ?_
      rintro e w1 ⟨rfl, rfl⟩
      go_wp2_with fail
      go_roundw
      case rel => exact ⟨i + 1, m + r.n, by omega, by go_num, by go_num, HM.out.symm, HB.out⟩
      case measure => simp [intOf]; omega
    · have hge : n ≤ i := by omega
      have e : m = ticks L := by rw [hm, List.take_of_length_le (by rw [h.len]; exact hge)]
      have HE := Lib.hid e
      clear e hm
      go_wp2_with fail
      go_ret
      exact Ans.mk (by rw [HE.out]; rfl) hb
theorem rv_neqR (x y : Int) (W : World) : (binOp .neq 95 (rv x y) (rv x y)).run Tryz.prog W = .ok (.bool false) W := by
  simp [run_neq_struct, go_sem]
end Go.Proofs.YtgoeikihjffeoaaGreat

/- Tables that may be, and others. -/
namespace Go.Proofs.YtgoeikihjffeoaaGreat
open Go.RowKit Tab
set_option linter.unusedSimpArgs false
set_option linter.unusedVariables false

theorem rt_cases (n D T : Nat) : (rt n D T = 0 ∧ n ≤ 128 ∧ D ≤ 16 ∧ T ≤ 4096) ∨ ¬ rt n D T = 0 := by
  unfold rt
  by_cases h1 : 128 < n
  · rw [if_pos h1]; exact .inr (by omega)
  · by_cases h2 : 16 < D
    · rw [if_neg h1, if_pos h2]; exact .inr (by omega)
    · by_cases h3 : 4096 < T
      · rw [if_neg h1, if_neg h2, if_pos h3]; exact .inr (by omega)
      · rw [if_neg h1, if_neg h2, if_neg h3]; exact .inl ⟨rfl, by omega, by omega, by omega⟩
set_option maxHeartbeats 400000 in
theorem right_long (A : Option Addr) (n cap : Nat) (w : World) (h1 : 128 < n) (hn : n ≤ 140737488351232) : Calls Tryz.prog 79 #[.slice A n cap] w (Ans (.int .i64 3) w) := by
  have h1' : (128 : Int) < (n : Int) := by omega
  go_enter Tryz.func79, Tryz.ntmps79
  go_wp2_with fail
  go_ret
  exact ⟨rfl, Below.refl _ _⟩
set_option maxHeartbeats 400000 in
theorem rright_long (A : Option Addr) (n cap : Nat) (w : World) (h1 : 128 < n) (hn : n ≤ 140737488351232) : Calls Tryz.prog 62 #[.slice A n cap] w (Ans (.int .i64 3) w) := by
  have h1' : (128 : Int) < (n : Int) := by omega
  go_enter Tryz.func62, Tryz.ntmps62
  go_wp2_with fail
  go_ret
  exact ⟨rfl, Below.refl _ _⟩
end Go.Proofs.YtgoeikihjffeoaaGreat
