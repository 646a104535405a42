import Derived.Test.YtdkngfdnfekgfaaGreatLod15
import Derived.Test.YtdkngfdnfekgfaaGreatLod3
import Derived.Test.YtdkngfdnfekgfaaGreatLod6
import Derived.Test.YtdkngfdnfekgfaaGreatLod4
import Derived.IntWalk
import Derived.BigQuiet
import Derived.Deep.CutRange
namespace Go.Proofs.YtdkngfdnfekgfaaGreat
namespace Tab
inductive Rch (S : Nat → List Nat) (F : List Nat) : Nat → Prop
  | base {a : Nat} : a ∈ F → Rch S F a
  | step {a b : Nat} : Rch S F b → a ∈ S b → Rch S F a
theorem Rch.from {S : Nat → List Nat} {F G : List Nat} (h : ∀ a ∈ F, Rch S G a) {a : Nat} (ha : Rch S F a) : Rch S G a := by
  induction ha with
  | base h1 => exact h _ h1
  | step _ h2 ih => exact .step ih h2
def put1 {α : Type} (f : Nat → α) (i : Nat) (v : α) : Nat → α := fun j => if j = i then v else f j
theorem put1_same {α : Type} (f : Nat → α) (i : Nat) (v : α) : put1 f i v i = v := if_pos rfl
theorem put1_other {α : Type} {f : Nat → α} {i j : Nat} {v : α} (h : j ≠ i) : put1 f i v j = f j := if_neg h
def un : Nat → (Nat → Bool) → Nat
  | 0, _ => 0
  | n + 1, M => un n M + if M n = true then 0 else 1
structure Cov (n : Nat) (S : Nat → List Nat) (F : List Nat) (M : Nat → Bool) (T : List (List Nat)) : Prop where
  first : ∀ x ∈ F, M x = true ∨ ∃ L ∈ T, x ∈ L
  next : ∀ b, b < n → M b = true → ∀ y ∈ S b, M y = true ∨ ∃ L ∈ T, y ∈ L
  snd : ∀ a, M a = true → Rch S F a
  todo : ∀ L ∈ T, ∀ x ∈ L, x < n ∧ Rch S F x
section
variable {n : Nat} {S : Nat → List Nat} {F : List Nat} {M : Nat → Bool} {T : List (List Nat)}
theorem Cov.start (hF : ∀ x ∈ F, x < n) : Cov n S F (fun _ => false) [F] :=
  ⟨fun x hx => .inr ⟨F, by simp, hx⟩, fun b _ h => by simp at h, fun a h => by simp at h, fun L hL x hx => by simp at hL; subst hL; exact ⟨hF x hx, .base hx⟩⟩
theorem Cov.pop {L : List Nat} (h : Cov n S F M (T ++ [L])) : Cov n S F M (L :: T) := by
  have e : ∀ K : List Nat, K ∈ T ++ [L] ↔ K ∈ L :: T := fun K => by simp [or_comm]
  refine ⟨fun x hx => (h.first x hx).imp id fun ⟨K, hK, h2⟩ => ⟨K, (e K).1 hK, h2⟩, fun b hb hm y hy => (h.next b hb hm y hy).imp id fun ⟨K, hK, h2⟩ => ⟨K, (e K).1 hK, h2⟩, h.snd, fun K hK => h.todo K ((e K).2 hK)⟩
theorem Cov.drop (h : Cov n S F M ([] :: T)) : Cov n S F M T := by
  refine ⟨fun x hx => (h.first x hx).imp id ?_, fun b hb hm y hy => (h.next b hb hm y hy).imp id ?_, h.snd, fun K hK => h.todo K (by simp [hK])⟩
  all_goals
    rintro ⟨K, hK, h2⟩
    rcases List.mem_cons.1 hK with e | hK
    · subst e; cases h2
    · exact ⟨K, hK, h2⟩
theorem Cov.skip {x : Nat} {L : List Nat} (h : Cov n S F M ((x :: L) :: T)) (hx : M x = true) : Cov n S F M (L :: T) := by
  have key : ∀ y, (M y = true ∨ ∃ K ∈ (x :: L) :: T, y ∈ K) → (M y = true ∨ ∃ K ∈ L :: T, y ∈ K) := by
    rintro y (h1 | ⟨K, hK, h2⟩)
    · exact .inl h1
    · rcases List.mem_cons.1 hK with e | hK
      · subst e
        rcases List.mem_cons.1 h2 with e | h2
        · subst e; exact .inl hx
        · exact .inr ⟨L, by simp, h2⟩
      · exact .inr ⟨K, by simp [hK], h2⟩
  refine ⟨fun y hy => key y (h.first y hy), fun b hb hm y hy => key y (h.next b hb hm y hy), h.snd, fun K hK y hy => ?_⟩
  rcases List.mem_cons.1 hK with e | hK
  · subst e; exact h.todo _ List.mem_cons_self y (List.mem_cons_of_mem _ hy)
  · exact h.todo K (by simp [hK]) y hy
theorem Cov.done (h : Cov n S F M []) (hF : ∀ x ∈ F, x < n) (hS : ∀ b, b < n → ∀ y ∈ S b, y < n) (a : Nat) : M a = true ↔ Rch S F a := by
  refine ⟨h.snd a, fun ha => ?_⟩
  have key : M a = true ∧ a < n := by
    induction ha with
    | base h1 =>
      rcases h.first _ h1 with h2 | ⟨K, hK, _⟩
      · exact ⟨h2, hF _ h1⟩
      · cases hK
    | step _ h2 ih =>
      rcases h.next _ ih.2 ih.1 _ h2 with h3 | ⟨K, hK, _⟩
      · exact ⟨h3, hS _ ih.2 _ h2⟩
      · cases hK
  exact key.1
end
end Tab
end Go.Proofs.YtdkngfdnfekgfaaGreat
namespace Go.Proofs.YtdkngfdnfekgfaaGreat
open Go.RowKit Tab
set_option linter.unusedSimpArgs false
set_option linter.unusedVariables false
structure Vec (w : World) (g n : Nat) (f : Nat → Value) : Prop where
  cell : ∀ j, j < n → w.cell? ⟨g, j, none⟩ = some (f j)
  thaw : ∀ j, w.frozen? ⟨g, j, none⟩ = false
  lt : g < w.heap.size
section
variable {w w' : World} {g n B : Nat} {f f' : Nat → Value}
theorem Vec.keep (h : Vec w g n f) (hk : w'.heap[g]? = w.heap[g]?) (hs : w.heap.size ≤ w'.heap.size) : Vec w' g n f :=
  ⟨fun j hj => (World.cell?_of_block hk).trans (h.cell j hj), fun j => (World.frozen?_of_block hk).trans (h.thaw j), Nat.lt_of_lt_of_le h.lt hs⟩
theorem Vec.below (h : Vec w g n f) (hb : Below B w w') (hg : g < B) : Vec w' g n f := h.keep (hb.block g hg) hb.size
theorem Vec.on (h : Vec w g n f) (hb : Below w.heap.size w w') : Vec w' g n f := h.below hb h.lt
theorem Vec.congr (h : Vec w g n f) (e : ∀ j, j < n → f j = f' j) : Vec w g n f' := ⟨fun j hj => by rw [← e j hj]; exact h.cell j hj, h.thaw, h.lt⟩
theorem Vec.set (h : Vec w g n f) (i : Nat) (v : Value) : Vec (w.setCell ⟨g, i, none⟩ v) g n (put1 f i v) := by
  refine ⟨fun j hj => ?_, fun j => by simpa using h.thaw j, by simpa using h.lt⟩
  by_cases e : j = i
  · subst e
    rw [put1_same]
    exact World.cell?_setCell_same _ _ _ (h.cell j hj)
  · rw [put1_other e, World.cell?_setCell_other _ _ _ _ (by intro e2; injection e2 with _ e3; omega)]
    exact h.cell j hj
theorem Vec.other (h : Vec w g n f) (p : Addr) (v : Value) (hp : g ≠ p.block) : Vec (w.setCell p v) g n f :=
  h.keep (Below.heap_setCell w p v g hp) (by simp)
theorem Vec.drewN (h : Vec w g n f) (q : Nat) : Vec (w.drewN q) g n f := ⟨h.cell, h.thaw, h.lt⟩
theorem Vec.lit (w : World) (C : Array Value) (t : TypeId) (n : Nat) (f : Nat → Value) (h : ∀ j, j < n → C[j]? = some (f j)) : Vec (w.alloc (.cells C t)) w.heap.size n f :=
  ⟨fun j hj => (World.cell?_alloc_mark _ _ _ _ _).trans (h j hj), fun j => by simp, by simp⟩
theorem Vec.rdc (h : Vec w g n f) : RdC w w.heap.size (some ⟨g, 0, none⟩) n f := fun _ => ⟨_, rfl, h.lt, fun j hj => by
  have e : (⟨g, 0, none⟩ : Addr).add j = ⟨g, j, none⟩ := by unfold Addr.add; split <;> simp_all
  rw [e]; exact h.cell j hj⟩
end
theorem made_get (z : Value) (n j : Nat) (h : j < n) : (madeCells #[z] n)[j]? = some z := by
  rw [← Array.getElem?_toList, toList_madeCells_one]
  simp [h]
structure Mat (w : World) (B g n k : Nat) (G : Nat → Nat) (m : Nat → Nat → Bool) : Prop where
  outer : ∃ f, Vec w g n f ∧ ∀ i, i < k → f i = .slice (some ⟨G i, 0, none⟩) n n
  rows : ∀ i, i < k → Vec w (G i) n fun j => .bool (m i j)
  low : B ≤ g
  ge : ∀ i, i < k → B ≤ G i
  ne : ∀ i, i < k → G i ≠ g
  inj : ∀ i j, i < k → j < k → G i = G j → i = j
def put2 (m : Nat → Nat → Bool) (i j : Nat) (v : Bool) : Nat → Nat → Bool := fun a b => if a = i ∧ b = j then v else m a b
section
variable {w w' : World} {g n k B : Nat} {G : Nat → Nat} {m m' : Nat → Nat → Bool}
theorem Mat.on (h : Mat w B g n k G m) (hb : Below w.heap.size w w') : Mat w' B g n k G m := by
  obtain ⟨f, h1, h2⟩ := h.outer
  exact ⟨⟨f, h1.on hb, h2⟩, fun i hi => (h.rows i hi).on hb, h.low, h.ge, h.ne, h.inj⟩
theorem Mat.drewN (h : Mat w B g n k G m) (q : Nat) : Mat (w.drewN q) B g n k G m := h.on (by
  exact ⟨rfl, rfl, rfl, Nat.le_refl _, fun _ _ => rfl⟩)
theorem Mat.congr (h : Mat w B g n k G m) (e : ∀ i j, i < k → j < n → m i j = m' i j) : Mat w B g n k G m' :=
  ⟨h.outer, fun i hi => (h.rows i hi).congr fun j hj => by rw [e i j hi hj], h.low, h.ge, h.ne, h.inj⟩
theorem Mat.start (w : World) (B n : Nat) (hB : B ≤ w.heap.size) (t : TypeId) (m : Nat → Nat → Bool) (G : Nat → Nat) : Mat (w.alloc (.cells (madeCells #[.slice none 0 0] n) t)) B w.heap.size n 0 G m :=
  ⟨⟨fun _ => .slice none 0 0, Vec.lit w _ t n _ fun j hj => made_get _ n j hj, fun i hi => by omega⟩, fun i hi => by omega, hB, fun i hi => by omega, fun i hi => by omega, fun i j hi => by omega⟩
theorem Mat.push (h : Mat w B g n k G m) {x : Nat} {b : Nat → Bool} (hx : Vec w x n fun j => .bool (b j)) (hB : B ≤ x) (hg : x ≠ g) (hG : ∀ i, i < k → G i ≠ x) (hk : k < n) :
    Mat (w.setCell ⟨g, k, none⟩ (.slice (some ⟨x, 0, none⟩) n n)) B g n (k + 1) (put1 G k x) (fun i j => if i = k then b j else m i j) := by
  obtain ⟨f, h1, h2⟩ := h.outer
  have hlt : ∀ i, i < k + 1 → i ≠ k → i < k := fun i _ _ => by omega
  refine ⟨⟨_, h1.set k _, fun i hi => ?_⟩, fun i hi => ?_, h.low, fun i hi => ?_, fun i hi => ?_, fun i j hi hj e => ?_⟩
  · by_cases e : i = k
    · subst e; rw [put1_same, put1_same]
    · rw [put1_other e, put1_other e]; exact h2 i (hlt i hi e)
  · by_cases e : i = k
    · subst e
      simp only [put1_same, if_true]
      exact hx.other _ _ hg
    · rw [put1_other e]
      simp only [e, if_false]
      exact (h.rows i (hlt i hi e)).other _ _ (h.ne i (hlt i hi e))
  · by_cases e : i = k
    · subst e; rw [put1_same]; exact hB
    · rw [put1_other e]; exact h.ge i (hlt i hi e)
  · by_cases e : i = k
    · subst e; rw [put1_same]; exact hg
    · rw [put1_other e]; exact h.ne i (hlt i hi e)
  · by_cases e1 : i = k
    · by_cases e2 : j = k
      · omega
      · subst e1
        rw [put1_same, put1_other e2] at e
        exact absurd e.symm (hG j (hlt j hj e2))
    · by_cases e2 : j = k
      · subst e2
        rw [put1_same, put1_other e1] at e
        exact absurd e (hG i (hlt i hi e1))
      · rw [put1_other e1, put1_other e2] at e
        exact h.inj i j (hlt i hi e1) (hlt j hj e2) e
theorem Mat.at_ (h : Mat w B g n k G m) {i j : Nat} (hi : i < k) (hk : k ≤ n) (hj : j < n) : ∃ x, G i = x ∧ x ≠ g ∧ B ≤ x ∧ g < w.heap.size ∧ x < w.heap.size ∧ w.cell? ⟨g, i, none⟩ = some (.slice (some ⟨x, 0, none⟩) n n) ∧ w.cell? ⟨x, j, none⟩ = some (.bool (m i j)) ∧ w.frozen? ⟨x, j, none⟩ = false ∧
    ∀ v, Mat (w.setCell ⟨x, j, none⟩ (.bool v)) B g n k G (put2 m i j v) ∧ ∀ V, Below B V w → Below B V (w.setCell ⟨x, j, none⟩ (.bool v)) := by
  obtain ⟨f, h1, h2⟩ := h.outer
  refine ⟨G i, rfl, h.ne i hi, h.ge i hi, h1.lt, (h.rows i hi).lt, (h1.cell i (by omega)).trans (by rw [h2 i hi]), (h.rows i hi).cell j hj, (h.rows i hi).thaw j, fun v => ⟨⟨⟨f, h1.other _ _ (h.ne i hi).symm, h2⟩, fun a ha => ?_, h.low, h.ge, h.ne, h.inj⟩, fun V hV => hV.setCell (p := ⟨G i, j, none⟩) (h.ge i hi) _⟩⟩
  by_cases e : a = i
  · subst e
    refine ((h.rows a ha).set j (.bool v)).congr fun b _ => ?_
    unfold put1 put2
    by_cases e2 : b = j <;> simp [e2]
  · refine ((h.rows a ha).other _ _ fun e2 => e (h.inj a i ha hi e2)).congr fun b _ => ?_
    unfold put2
    simp [e]
theorem Mat.row (h : Mat w B g n k G m) {i : Nat} (hi : i < k) (hk : k ≤ n) : ∃ x, G i = x ∧ x ≠ g ∧ w.cell? ⟨g, i, none⟩ = some (.slice (some ⟨x, 0, none⟩) n n) ∧ Vec w x n fun j => .bool (m i j) := by
  obtain ⟨f, h1, h2⟩ := h.outer
  exact ⟨G i, rfl, h.ne i hi, (h1.cell i (by omega)).trans (by rw [h2 i hi]), h.rows i hi⟩
end
def RdM (w : World) (B : Nat) (A : Option Addr) (n : Nat) (l : Nat → Nat) (m : Nat → Nat → Bool) : Prop :=
  ∃ R : Nat → Option Addr × Nat, RdC w B A n (fun i => .slice (R i).1 (l i) (R i).2) ∧ ∀ i, i < n → l i ≤ (R i).2 ∧ RdC w B (R i).1 (l i) fun j => .bool (m i j)
section
variable {w w' : World} {n B B' : Nat} {A : Option Addr} {l : Nat → Nat} {m m' : Nat → Nat → Bool}
theorem RdM.below (h : RdM w B A n l m) (hb : Below B w w') : RdM w' B A n l m := by
  obtain ⟨R, h1, h2⟩ := h
  exact ⟨R, h1.below hb, fun i hi => ⟨(h2 i hi).1, (h2 i hi).2.below hb⟩⟩
theorem RdM.more (h : RdM w B A n l m) (hB : B ≤ B') : RdM w B' A n l m := by
  obtain ⟨R, h1, h2⟩ := h
  exact ⟨R, h1.more hB, fun i hi => ⟨(h2 i hi).1, (h2 i hi).2.more hB⟩⟩
theorem RdM.on (h : RdM w w.heap.size A n l m) (hb : Below w.heap.size w w') : RdM w' w'.heap.size A n l m := (h.below hb).more hb.size
theorem RdM.drewN (h : RdM w B A n l m) (q : Nat) : RdM (w.drewN q) B A n l m := h
theorem RdC.congr {f f' : Nat → Value} (h : RdC w B A n f) (e : ∀ j, j < n → f j = f' j) : RdC w B A n f' := fun hn => by
  obtain ⟨ad, h1, h2, h3⟩ := h hn
  exact ⟨ad, h1, h2, fun j hj => by rw [← e j hj]; exact h3 j hj⟩
theorem RdM.congr (h : RdM w B A n l m) (e : ∀ i j, i < n → j < l i → m i j = m' i j) : RdM w B A n l m' := by
  obtain ⟨R, h1, h2⟩ := h
  exact ⟨R, h1, fun i hi => ⟨(h2 i hi).1, (h2 i hi).2.congr fun j hj => by rw [e i j hi hj]⟩⟩
theorem RdM.at_ (h : RdM w B A n l m) {i : Nat} (hi : i < n) : ∃ ad R c, A = some ad ∧ ad.block < B ∧ w.cell? (ad.add i) = some (.slice R (l i) c) ∧ l i ≤ c ∧ RdC w B R (l i) fun j => .bool (m i j) := by
  obtain ⟨R, h1, h2⟩ := h
  obtain ⟨ad, e, hb, hc⟩ := h1.at_ hi
  exact ⟨ad, _, _, e, hb, hc, (h2 i hi).1, (h2 i hi).2⟩
theorem RdM.front (h : RdM w B A n l m) (k : Nat) (hk : k ≤ n) : RdM w B A k l m := by
  obtain ⟨R, h1, h2⟩ := h
  refine ⟨R, fun h0 => ?_, fun i hi => h2 i (by omega)⟩
  obtain ⟨ad, e, hb, hc⟩ := h1 (by omega)
  exact ⟨ad, e, hb, fun j hj => hc j (by omega)⟩
theorem RdM.none (w : World) (B : Nat) (l : Nat → Nat) (m : Nat → Nat → Bool) : RdM w B .none 0 l m := ⟨fun _ => (.none, 0), fun h => by omega, fun i hi => by omega⟩
theorem Mat.rdm {g : Nat} {G : Nat → Nat} (h : Mat w B g n n G m) : RdM w w.heap.size (some ⟨g, 0, .none⟩) n (fun _ => n) m := by
  obtain ⟨f, h1, h2⟩ := h.outer
  exact ⟨fun i => (some ⟨G i, 0, .none⟩, n), (h1.congr h2).rdc, fun i hi => ⟨Nat.le_refl _, (h.rows i hi).rdc⟩⟩
end
def MadM (n : Nat) (m : Nat → Nat → Bool) (w : World) (e : Ending) (w' : World) : Prop := ∃ A c, e = .returned (.slice A n c) ∧ n ≤ c ∧ RdM w' w'.heap.size A n (fun _ => n) m ∧ Below w.heap.size w w'
def MadG (n : Nat) (m : Nat → Nat → Bool) (w : World) (e : Ending) (w' : World) : Prop := ∃ g G, e = .returned (.slice (some ⟨g, 0, none⟩) n n) ∧ Mat w' w.heap.size g n n G m ∧ Below w.heap.size w w'
theorem MadG.m {n : Nat} {m : Nat → Nat → Bool} {w w' : World} {e : Ending} (h : MadG n m w e w') : MadM n m w e w' := by
  obtain ⟨g, G, rfl, h1, h2⟩ := h
  exact ⟨_, _, rfl, Nat.le_refl _, h1.rdm, h2⟩
def RdS (w : World) (B : Nat) (A : Option Addr) (n : Nat) (S : Nat → List Nat) : Prop :=
  ∃ R : Nat → Option Addr × Nat, RdC w B A n (fun i => .slice (R i).1 (S i).length (R i).2) ∧ ∀ i, i < n → (S i).length ≤ (R i).2 ∧ RdI w B (R i).1 (S i).length ((S i).map fun x : Nat => (x : Int))
section
variable {w w' : World} {n B B' : Nat} {A : Option Addr} {S : Nat → List Nat}
theorem RdS.below (h : RdS w B A n S) (hb : Below B w w') : RdS w' B A n S := by
  obtain ⟨R, h1, h2⟩ := h
  exact ⟨R, h1.below hb, fun i hi => ⟨(h2 i hi).1, (h2 i hi).2.below hb⟩⟩
theorem RdS.more (h : RdS w B A n S) (hB : B ≤ B') : RdS w B' A n S := by
  obtain ⟨R, h1, h2⟩ := h
  exact ⟨R, h1.more hB, fun i hi => ⟨(h2 i hi).1, (h2 i hi).2.more hB⟩⟩
theorem RdS.on (h : RdS w w.heap.size A n S) (hb : Below w.heap.size w w') : RdS w' w'.heap.size A n S := (h.below hb).more hb.size
theorem RdS.at_ (h : RdS w B A n S) {i : Nat} (hi : i < n) : ∃ ad R c, A = some ad ∧ ad.block < B ∧ w.cell? (ad.add i) = some (.slice R (S i).length c) ∧ (S i).length ≤ c ∧ RdI w B R (S i).length ((S i).map fun x : Nat => (x : Int)) := by
  obtain ⟨R, h1, h2⟩ := h
  obtain ⟨ad, e, hb, hc⟩ := h1.at_ hi
  exact ⟨ad, _, _, e, hb, hc, (h2 i hi).1, (h2 i hi).2⟩
end
end Go.Proofs.YtdkngfdnfekgfaaGreat
namespace Go.Proofs.YtdkngfdnfekgfaaGreat
open Go.RowKit Tab
set_option linter.unusedSimpArgs false
set_option linter.unusedVariables false
structure Sl where
  a : Option Addr
  c : Nat
  l : List Nat
def Sl.v (s : Sl) : Value := .slice s.a s.l.length s.c
theorem OwnV.keep' {E s B n c : Nat} {w w' : World} {A : Option Addr} {l : List Value} (h : OwnV E s w B A n c l) (hk : ∀ g, obk A = some g → w'.heap[g]? = w.heap[g]?) : OwnV E s w' B A n c l := by
  refine ⟨h.1, ?_⟩
  rcases h.2 with hv | ⟨g, cap, cur, hv, hbg, hg, r⟩
  · exact .inl hv
  · exact .inr ⟨g, cap, cur, hv, hbg, by rw [hk g (by injection hv with h1; rw [h1]; rfl)]; exact hg, r⟩
end Go.Proofs.YtdkngfdnfekgfaaGreat
