/- Contracts and mathematics that the texts behind it stand on: Gram, Vec, Gled, Gclo, Ownb, Gway, Gdep, Prt, Rsum. -/
import Derived.Test.YtebcfiifaclniaaGreatLow5
import Derived.Test.YtebcfiifaclniaaGreatLow1
import Derived.Test.YtebcfiifaclniaaGreatLow2
import Derived.IntWalk
import Derived.BigQuiet
import Derived.Deep.CutRange
import Derived.StillTailTactics
import Derived.Laws.StructEq
/- Searching a graph by a list of things to do; closing by searches; who reaches by channels, back from one: plain mathematics. -/
namespace Go.Proofs.YtebcfiifaclniaaGreat
namespace Tab

/-- What is led to: the first ones, and whom a step leads to from there. -/
inductive Rch (S : Nat → List Nat) (F : List Nat) : Nat → Prop
  | base {a : Nat} : a ∈ F → Rch S F a
  | step {a b : Nat} : Rch S F b → a ∈ S b → Rch S F a
theorem Rch.from {S : Nat → List Nat} {F G : List Nat} (h : ∀ a ∈ F, Rch S G a) {a : Nat} (ha : Rch S F a) : Rch S G a := by
  induction ha with
  | base h1 => exact h _ h1
  | step _ h2 ih => exact .step ih h2
def put1 {α : Type} (f : Nat → α) (i : Nat) (v : α) : Nat → α := fun j => if j = i then v else f j
theorem put1_same {α : Type} (f : Nat → α) (i : Nat) (v : α) : put1 f i v i = v := if_pos rfl
theorem put1_other {α : Type} {f : Nat → α} {i j : Nat} {v : α} (h : j ≠ i) : put1 f i v j = f j := if_neg h
/-- Those below n that are not marked. -/
def un : Nat → (Nat → Bool) → Nat
  | 0, _ => 0
  | n + 1, M => un n M + if M n = true then 0 else 1
theorem un_congr {n : Nat} {M N : Nat → Bool} (h : ∀ j, j < n → M j = N j) : un n M = un n N := by
  induction n with
  | zero => rfl
  | succ n ih => simp only [un]; rw [ih fun j hj => h j (by omega), h n (by omega)]
theorem un_put {n : Nat} {M : Nat → Bool} {x : Nat} (hx : x < n) (h : M x = false) : un n (put1 M x true) + 1 = un n M := by
  induction n with
  | zero => omega
  | succ n ih =>
    simp only [un]
    by_cases e : x = n
    · subst e
      rw [put1_same, h, if_pos rfl, if_neg (by simp), un_congr (N := M) fun j hj => put1_other (by omega)]
    · have := ih (by omega)
      rw [put1_other (j := n) (by omega)]
      omega
/-- Whatever must be marked is, or is yet to come. -/
structure Cov (n : Nat) (S : Nat → List Nat) (F : List Nat) (M : Nat → Bool) (T : List (List Nat)) : Prop where
  first : ∀ x ∈ F, M x = true ∨ ∃ L ∈ T, x ∈ L
  next : ∀ b, b < n → M b = true → ∀ y ∈ S b, M y = true ∨ ∃ L ∈ T, y ∈ L
  snd : ∀ a, M a = true → Rch S F a
  todo : ∀ L ∈ T, ∀ x ∈ L, x < n ∧ Rch S F x
section
variable {n : Nat} {S : Nat → List Nat} {F : List Nat} {M : Nat → Bool} {T : List (List Nat)}
theorem Cov.start (hF : ∀ x ∈ F, x < n) : Cov n S F (fun _ => false) [F] :=
  ⟨fun x hx => .inr ⟨F, by simp, hx⟩, fun b _ h => by simp at h, fun a h => by simp at h, fun L hL x hx => by simp at hL; subst hL; exact ⟨hF x hx, .base hx⟩⟩
theorem Cov.pop {L : List Nat} (h : Cov n S F M (T ++ [L])) : Cov n S F M (L :: T) := by
  have e : ∀ K : List Nat, K ∈ T ++ [L] ↔ K ∈ L :: T := fun K => by simp [or_comm]
  refine ⟨fun x hx => (h.first x hx).imp id fun ⟨K, hK, h2⟩ => ⟨K, (e K).1 hK, h2⟩, fun b hb hm y hy => (h.next b hb hm y hy).imp id fun ⟨K, hK, h2⟩ => ⟨K, (e K).1 hK, h2⟩, h.snd, fun K hK => h.todo K ((e K).2 hK)⟩
theorem Cov.drop (h : Cov n S F M ([] :: T)) : Cov n S F M T := by
  refine ⟨fun x hx => (h.first x hx).imp id ?_, fun b hb hm y hy => (h.next b hb hm y hy).imp id ?_, h.snd, fun K hK => h.todo K (by simp [hK])⟩
  all_goals
    rintro ⟨K, hK, h2⟩
    rcases List.mem_cons.1 hK with e | hK
    · subst e; cases h2
    · exact ⟨K, hK, h2⟩
theorem Cov.skip {x : Nat} {L : List Nat} (h : Cov n S F M ((x :: L) :: T)) (hx : M x = true) : Cov n S F M (L :: T) := by
  have key : ∀ y, (M y = true ∨ ∃ K ∈ (x :: L) :: T, y ∈ K) → (M y = true ∨ ∃ K ∈ L :: T, y ∈ K) := by
    rintro y (h1 | ⟨K, hK, h2⟩)
    · exact .inl h1
    · rcases List.mem_cons.1 hK with e | hK
      · subst e
        rcases List.mem_cons.1 h2 with e | h2
        · subst e; exact .inl hx
        · exact .inr ⟨L, by simp, h2⟩
      · exact .inr ⟨K, by simp [hK], h2⟩
  refine ⟨fun y hy => key y (h.first y hy), fun b hb hm y hy => key y (h.next b hb hm y hy), h.snd, fun K hK y hy => ?_⟩
  rcases List.mem_cons.1 hK with e | hK
  · subst e; exact h.todo _ List.mem_cons_self y (List.mem_cons_of_mem _ hy)
  · exact h.todo K (by simp [hK]) y hy
theorem Cov.mark {x : Nat} {L : List Nat} (h : Cov n S F M ((x :: L) :: T)) (hS : ∀ b, b < n → ∀ y ∈ S b, y < n) : Cov n S F (put1 M x true) (L :: (T ++ [S x])) := by
  have hx := h.todo (x :: L) (by simp) x (by simp)
  have mono : ∀ y, M y = true → put1 M x true y = true := fun y hy => by
    by_cases e : y = x
    · subst e; exact put1_same _ _ _
    · rw [put1_other e]; exact hy
  have key : ∀ y, (M y = true ∨ ∃ K ∈ (x :: L) :: T, y ∈ K) → (put1 M x true y = true ∨ ∃ K ∈ L :: (T ++ [S x]), y ∈ K) := by
    rintro y (h1 | ⟨K, hK, h2⟩)
    · exact .inl (mono y h1)
    · rcases List.mem_cons.1 hK with e | hK
      · subst e
        rcases List.mem_cons.1 h2 with e | h2
        · subst e; exact .inl (put1_same _ _ _)
        · exact .inr ⟨L, by simp, h2⟩
      · exact .inr ⟨K, by simp [hK], h2⟩
  refine ⟨fun y hy => key y (h.first y hy), fun b hb hm y hy => ?_, fun a ha => ?_, fun K hK y hy => ?_⟩
  · by_cases e : b = x
    · subst e; exact .inr ⟨S b, by simp, hy⟩
    · rw [put1_other e] at hm
      exact key y (h.next b hb hm y hy)
  · by_cases e : a = x
    · subst e; exact hx.2
    · rw [put1_other e] at ha
      exact h.snd a ha
  · rcases List.mem_cons.1 hK with e | hK
    · subst e; exact h.todo _ List.mem_cons_self y (List.mem_cons_of_mem _ hy)
    · rcases List.mem_append.1 hK with hK | hK
      · exact h.todo K (by simp [hK]) y hy
      · simp at hK
        subst hK
        exact ⟨hS x hx.1 y hy, .step hx.2 hy⟩
theorem Cov.done (h : Cov n S F M []) (hF : ∀ x ∈ F, x < n) (hS : ∀ b, b < n → ∀ y ∈ S b, y < n) (a : Nat) : M a = true ↔ Rch S F a := by
  refine ⟨h.snd a, fun ha => ?_⟩
  have key : M a = true ∧ a < n := by
    induction ha with
    | base h1 =>
      rcases h.first _ h1 with h2 | ⟨K, hK, _⟩
      · exact ⟨h2, hF _ h1⟩
      · cases hK
    | step _ h2 ih =>
      rcases h.next _ ih.2 ih.1 _ h2 with h3 | ⟨K, hK, _⟩
      · exact ⟨h3, hS _ ih.2 _ h2⟩
      · cases hK
  exact key.1
end
/-- Where a row is true, rising. -/
def plcs (n : Nat) (r : Nat → Bool) : List Nat := (List.range n).filter r
theorem mem_plcs {n : Nat} {r : Nat → Bool} {a : Nat} : a ∈ plcs n r ↔ a < n ∧ r a = true := by simp [plcs, List.mem_filter]
theorem plcs_succ (n : Nat) (r : Nat → Bool) : plcs (n + 1) r = if r n = true then plcs n r ++ [n] else plcs n r := by
  unfold plcs
  rw [List.range_succ, List.filter_append]
  split <;> simp_all
theorem plcs_len (n : Nat) (r : Nat → Bool) : (plcs n r).length ≤ n := by
  unfold plcs
  have := List.length_filter_le r (List.range n)
  rwa [List.length_range] at this
theorem plcs_congr {n : Nat} {r s : Nat → Bool} (h : ∀ a, a < n → r a = s a) : plcs n r = plcs n s := by
  unfold plcs
  exact List.filter_congr fun a ha => h a (by simpa using ha)
/-- Searches from everywhere close a matrix. -/
theorem rch_war {n : Nat} {m M : Nat → Nat → Bool} (h : ∀ a, a < n → ∀ b, M a b = true ↔ Rch (fun x => plcs n (m x)) (plcs n (m a)) b) (a b : Nat) (ha : a < n) (hb : b < n) : M a b = War m n a b := by
  refine war_is (fun a b c ha hb hc h1 h2 => ?_) (fun a b ha hb h1 => ?_) (fun a b ha hb h1 => ?_) a b ha hb
  · rw [h a ha] at h1 ⊢
    rw [h c hc] at h2
    exact Rch.from (fun x hx => .step h1 hx) h2
  · rw [h a ha]
    exact .base (mem_plcs.2 ⟨hb, h1⟩)
  · rw [h a ha] at h1
    have key : b < n ∧ War m n a b = true := by
      clear hb
      induction h1 with
      | base h2 => exact ⟨(mem_plcs.1 h2).1, war_from m n _ _ (mem_plcs.1 h2).2⟩
      | step _ h2 ih =>
        have h3 := mem_plcs.1 h2
        exact ⟨h3.1, war_shut m n a _ _ ha h3.1 ih.1 ih.2 (war_from m n _ _ h3.2)⟩
    exact key.2
/-- The ways between partitions: what a loop over the channels gives. -/
def wayOf (n : Nat) (x : Ch) : List (Nat × Nat) := if inP n x.from_ && inP n x.to_ then (x.from_.toNat, x.to_.toNat) :: (if x.queue then [(x.to_.toNat, x.from_.toNat)] else []) else []
def wayL (n : Nat) (C : List Ch) : List (Nat × Nat) := C.flatMap (wayOf n)
theorem inP_iff {n : Nat} {p : Int} : inP n p = true ↔ 0 ≤ p ∧ p < n := by simp [inP]
theorem joins_iff {n : Nat} {x : Ch} {a b : Nat} : joins n x a b = true ↔ (inP n x.from_ = true ∧ inP n x.to_ = true) ∧ x.from_ = a ∧ x.to_ = b := by
  simp only [joins, Bool.and_eq_true, decide_eq_true_eq, and_assoc]
theorem mem_wayOf {n : Nat} {x : Ch} {a b : Nat} : (a, b) ∈ wayOf n x ↔ (joins n x a b || (x.queue && joins n x b a)) = true := by
  rw [Bool.or_eq_true, Bool.and_eq_true, joins_iff, joins_iff]
  unfold wayOf
  by_cases h1 : inP n x.from_ = true
  · by_cases h2 : inP n x.to_ = true
    · have k1 := inP_iff.1 h1
      have k2 := inP_iff.1 h2
      rw [h1, h2]
      simp only [Bool.and_self, if_true, List.mem_cons, Prod.mk.injEq, true_and]
      cases x.queue with
      | true =>
        simp only [if_true, List.mem_singleton, Prod.mk.injEq, true_and]
        omega
      | false =>
        simp only [Bool.false_eq_true, if_false, List.not_mem_nil, or_false, false_and]
        omega
    · simp only [Bool.not_eq_true] at h2
      rw [h2]
      simp
  · simp only [Bool.not_eq_true] at h1
    rw [h1]
    simp
theorem mem_wayL {n : Nat} {C : List Ch} {a b : Nat} : (a, b) ∈ wayL n C ↔ (C.any fun x => joins n x a b || (x.queue && joins n x b a)) = true := by
  unfold wayL
  rw [List.mem_flatMap, List.any_eq_true]
  exact ⟨fun ⟨x, h1, h2⟩ => ⟨x, h1, mem_wayOf.1 h2⟩, fun ⟨x, h1, h2⟩ => ⟨x, h1, mem_wayOf.2 h2⟩⟩
theorem wayL_lt {n : Nat} {C : List Ch} {a b : Nat} (h : (a, b) ∈ wayL n C) : a < n ∧ b < n := by
  rw [mem_wayL, List.any_eq_true] at h
  obtain ⟨x, _, h⟩ := h
  rw [Bool.or_eq_true, Bool.and_eq_true, joins_iff, joins_iff, inP_iff, inP_iff] at h
  omega
theorem swayF_iff {P : List Pt} {C : List Ch} {a b : Nat} : swayF P C a b = true ↔ a = b ∨ schedOf P a = true ∨ stopOf P a = true ∨ (a, b) ∈ wayL P.length C := by
  unfold swayF
  rw [mem_wayL]
  simp only [Bool.or_eq_true, decide_eq_true_eq, or_assoc]
theorem depF_iff {P : List Pt} {C : List Ch} {a b : Nat} : depF P C a b = true ↔ a = b ∨ (schedOf P a = true ∧ schedOf P b = true) ∨ (a, b) ∈ wayL P.length C ∨ (b, a) ∈ wayL P.length C := by
  unfold depF
  rw [mem_wayL, mem_wayL]
  simp only [Bool.or_eq_true, Bool.and_eq_true, decide_eq_true_eq, List.any_eq_true, or_assoc]
  constructor
  · rintro (h | h | ⟨x, hx, h | h⟩)
    · exact .inl h
    · exact .inr (.inl h)
    · exact .inr (.inr (.inl ⟨x, hx, .inl h⟩))
    · exact .inr (.inr (.inr ⟨x, hx, .inl h⟩))
  · rintro (h | h | ⟨x, hx, h | h⟩ | ⟨x, hx, h | h⟩)
    · exact .inl h
    · exact .inr (.inl h)
    · exact .inr (.inr ⟨x, hx, .inl h⟩)
    · exact .inr (.inr ⟨x, hx, .inr h.2⟩)
    · exact .inr (.inr ⟨x, hx, .inr h⟩)
    · exact .inr (.inr ⟨x, hx, .inl h.2⟩)
/-- The partitions that sway all. -/
def rulL (P : List Pt) : List Nat := plcs P.length fun a => schedOf P a || stopOf P a
/-- From whom a way leads to x, in the order of the ways. -/
def backL (W : List (Nat × Nat)) (x : Nat) : List Nat := (W.filter fun y => decide (y.2 = x)).map (·.1)
theorem mem_backL {W : List (Nat × Nat)} {x a : Nat} : a ∈ backL W x ↔ (a, x) ∈ W := by
  unfold backL
  rw [List.mem_map]
  constructor
  · rintro ⟨⟨p, q⟩, h1, rfl⟩
    rw [List.mem_filter] at h1
    simp only [decide_eq_true_eq] at h1
    obtain ⟨h1, rfl⟩ := h1
    exact h1
  · intro h
    exact ⟨(a, x), by rw [List.mem_filter]; exact ⟨h, by simp⟩, rfl⟩
theorem backL_snoc (W : List (Nat × Nat)) (y : Nat × Nat) (x : Nat) : backL (W ++ [y]) x = if y.2 = x then backL W x ++ [y.1] else backL W x := by
  unfold backL
  rw [List.filter_append, List.map_append]
  by_cases h : y.2 = x
  · simp [h]
  · simp [h]
/-- Back from p by the ways, and from those that sway all. -/
theorem rch_reach (P : List Pt) (C : List Ch) (p : Nat) (hp : p < P.length) (a : Nat) (ha : a < P.length) : Rch (backL (wayL P.length C)) (rulL P ++ [p]) a ↔ War (swayF P C) P.length a p = true := by
  constructor
  · intro h
    have key : a < P.length ∧ War (swayF P C) P.length a p = true := by
      induction h with
      | base h1 =>
        rename_i x
        rcases List.mem_append.1 h1 with h1 | h1
        · obtain ⟨h2, h3⟩ := mem_plcs.1 h1
          refine ⟨h2, war_from _ _ _ _ (swayF_iff.2 ?_)⟩
          rw [Bool.or_eq_true] at h3
          exact .inr (h3.imp id .inl)
        · simp at h1
          subst h1
          exact ⟨hp, war_from _ _ _ _ (swayF_self P C _)⟩
      | step _ h2 ih =>
        rw [mem_backL] at h2
        have h3 := wayL_lt h2
        have h4 := ih h3.2
        exact ⟨h3.1, war_shut _ _ _ _ _ h3.1 hp h3.2 (war_from _ _ _ _ (swayF_iff.2 (.inr (.inr (.inr h2))))) h4.2⟩
    exact key.2
  · intro h
    have key := war_least (m := swayF P C) (n := P.length) (M := fun x y => @decide (Rch (backL (wayL P.length C)) (rulL P ++ [p]) y → Rch (backL (wayL P.length C)) (rulL P ++ [p]) x) (Classical.propDecidable _)) ?_ ?_ P.length (Nat.le_refl _) a p ha hp h
    · simp only [decide_eq_true_eq] at key
      exact key (.base (by simp))
    · intro x y z _ _ _ h1 h2
      simp only [decide_eq_true_eq] at h1 h2 ⊢
      exact fun h => h1 (h2 h)
    · intro x y hx hy h1
      simp only [decide_eq_true_eq]
      intro h2
      rcases swayF_iff.1 h1 with h3 | h3 | h3 | h3
      · subst h3; exact h2
      · exact .base (List.mem_append.2 (.inl (mem_plcs.2 ⟨hx, by rw [h3]; rfl⟩)))
      · exact .base (List.mem_append.2 (.inl (mem_plcs.2 ⟨hx, by rw [h3, Bool.or_true]⟩)))
      · exact .step h2 (mem_backL.2 h3)
end Tab
end Go.Proofs.YtebcfiifaclniaaGreat

/- Rows of cells that a call owns, as functions; matrices in memory; rows of numbers in rows. -/
namespace Go.Proofs.YtebcfiifaclniaaGreat
open Go.RowKit Tab
set_option linter.unusedSimpArgs false
set_option linter.unusedVariables false

/-- Block g, n cells, holds f. -/
structure Vec (w : World) (g n : Nat) (f : Nat → Value) : Prop where
  cell : ∀ j, j < n → w.cell? ⟨g, j, none⟩ = some (f j)
  thaw : ∀ j, w.frozen? ⟨g, j, none⟩ = false
  lt : g < w.heap.size
section
variable {w w' : World} {g n B : Nat} {f f' : Nat → Value}
theorem Vec.keep (h : Vec w g n f) (hk : w'.heap[g]? = w.heap[g]?) (hs : w.heap.size ≤ w'.heap.size) : Vec w' g n f :=
  ⟨fun j hj => (World.cell?_of_block hk).trans (h.cell j hj), fun j => (World.frozen?_of_block hk).trans (h.thaw j), Nat.lt_of_lt_of_le h.lt hs⟩
theorem Vec.below (h : Vec w g n f) (hb : Below B w w') (hg : g < B) : Vec w' g n f := h.keep (hb.block g hg) hb.size
theorem Vec.on (h : Vec w g n f) (hb : Below w.heap.size w w') : Vec w' g n f := h.below hb h.lt
theorem Vec.congr (h : Vec w g n f) (e : ∀ j, j < n → f j = f' j) : Vec w g n f' := ⟨fun j hj => by rw [← e j hj]; exact h.cell j hj, h.thaw, h.lt⟩
theorem Vec.set (h : Vec w g n f) (i : Nat) (v : Value) : Vec (w.setCell ⟨g, i, none⟩ v) g n (put1 f i v) := by
  refine ⟨fun j hj => ?_, fun j => by simpa using h.thaw j, by simpa using h.lt⟩
  by_cases e : j = i
  · subst e
    rw [put1_same]
    exact World.cell?_setCell_same _ _ _ (h.cell j hj)
  · rw [put1_other e, World.cell?_setCell_other _ _ _ _ (by intro e2; injection e2 with _ e3; omega)]
    exact h.cell j hj
theorem Vec.other (h : Vec w g n f) (p : Addr) (v : Value) (hp : g ≠ p.block) : Vec (w.setCell p v) g n f :=
  h.keep (Below.heap_setCell w p v g hp) (by simp)
theorem Vec.drewN (h : Vec w g n f) (q : Nat) : Vec (w.drewN q) g n f := ⟨h.cell, h.thaw, h.lt⟩
theorem Vec.lit (w : World) (C : Array Value) (t : TypeId) (n : Nat) (f : Nat → Value) (h : ∀ j, j < n → C[j]? = some (f j)) : Vec (w.alloc (.cells C t)) w.heap.size n f :=
  ⟨fun j hj => (World.cell?_alloc_mark _ _ _ _ _).trans (h j hj), fun j => by simp, by simp⟩
theorem Vec.rdc (h : Vec w g n f) : RdC w w.heap.size (some ⟨g, 0, none⟩) n f := fun _ => ⟨_, rfl, h.lt, fun j hj => by
  have e : (⟨g, 0, none⟩ : Addr).add j = ⟨g, j, none⟩ := by unfold Addr.add; split <;> simp_all
  rw [e]; exact h.cell j hj⟩
end
theorem made_get (z : Value) (n j : Nat) (h : j < n) : (madeCells #[z] n)[j]? = some z := by
  rw [← Array.getElem?_toList, toList_madeCells_one]
  simp [h]
/-- A matrix of n by n in blocks of its own, B or behind: k rows are laid. -/
structure Mat (w : World) (B g n k : Nat) (G : Nat → Nat) (m : Nat → Nat → Bool) : Prop where
  outer : ∃ f, Vec w g n f ∧ ∀ i, i < k → f i = .slice (some ⟨G i, 0, none⟩) n n
  rows : ∀ i, i < k → Vec w (G i) n fun j => .bool (m i j)
  low : B ≤ g
  ge : ∀ i, i < k → B ≤ G i
  ne : ∀ i, i < k → G i ≠ g
  inj : ∀ i j, i < k → j < k → G i = G j → i = j
def put2 (m : Nat → Nat → Bool) (i j : Nat) (v : Bool) : Nat → Nat → Bool := fun a b => if a = i ∧ b = j then v else m a b
theorem put2_same (m : Nat → Nat → Bool) (i j : Nat) (v : Bool) : put2 m i j v i j = v := if_pos ⟨rfl, rfl⟩
section
variable {w w' : World} {g n k B : Nat} {G : Nat → Nat} {m m' : Nat → Nat → Bool}
theorem Mat.on (h : Mat w B g n k G m) (hb : Below w.heap.size w w') : Mat w' B g n k G m := by
  obtain ⟨f, h1, h2⟩ := h.outer
  exact ⟨⟨f, h1.on hb, h2⟩, fun i hi => (h.rows i hi).on hb, h.low, h.ge, h.ne, h.inj⟩
theorem Mat.drewN (h : Mat w B g n k G m) (q : Nat) : Mat (w.drewN q) B g n k G m := h.on (by
  exact ⟨rfl, rfl, rfl, Nat.le_refl _, fun _ _ => rfl⟩)
theorem Mat.congr (h : Mat w B g n k G m) (e : ∀ i j, i < k → j < n → m i j = m' i j) : Mat w B g n k G m' :=
  ⟨h.outer, fun i hi => (h.rows i hi).congr fun j hj => by rw [e i j hi hj], h.low, h.ge, h.ne, h.inj⟩
theorem Mat.start (w : World) (B n : Nat) (hB : B ≤ w.heap.size) (t : TypeId) (m : Nat → Nat → Bool) (G : Nat → Nat) : Mat (w.alloc (.cells (madeCells #[.slice none 0 0] n) t)) B w.heap.size n 0 G m :=
  ⟨⟨fun _ => .slice none 0 0, Vec.lit w _ t n _ fun j hj => made_get _ n j hj, fun i hi => by omega⟩, fun i hi => by omega, hB, fun i hi => by omega, fun i hi => by omega, fun i j hi => by omega⟩
/-- A row more. -/
theorem Mat.push (h : Mat w B g n k G m) {x : Nat} {b : Nat → Bool} (hx : Vec w x n fun j => .bool (b j)) (hB : B ≤ x) (hg : x ≠ g) (hG : ∀ i, i < k → G i ≠ x) (hk : k < n) :
    Mat (w.setCell ⟨g, k, none⟩ (.slice (some ⟨x, 0, none⟩) n n)) B g n (k + 1) (put1 G k x) (fun i j => if i = k then b j else m i j) := by
  obtain ⟨f, h1, h2⟩ := h.outer
  have hlt : ∀ i, i < k + 1 → i ≠ k → i < k := fun i _ _ => by omega
  refine ⟨⟨_, h1.set k _, fun i hi => ?_⟩, fun i hi => ?_, h.low, fun i hi => ?_, fun i hi => ?_, fun i j hi hj e => ?_⟩
  · by_cases e : i = k
    · subst e; rw [put1_same, put1_same]
    · rw [put1_other e, put1_other e]; exact h2 i (hlt i hi e)
  · by_cases e : i = k
    · subst e
      simp only [put1_same, if_true]
      exact hx.other _ _ hg
    · rw [put1_other e]
      simp only [e, if_false]
      exact (h.rows i (hlt i hi e)).other _ _ (h.ne i (hlt i hi e))
  · by_cases e : i = k
    · subst e; rw [put1_same]; exact hB
    · rw [put1_other e]; exact h.ge i (hlt i hi e)
  · by_cases e : i = k
    · subst e; rw [put1_same]; exact hg
    · rw [put1_other e]; exact h.ne i (hlt i hi e)
  · by_cases e1 : i = k
    · by_cases e2 : j = k
      · omega
      · subst e1
        rw [put1_same, put1_other e2] at e
        exact absurd e.symm (hG j (hlt j hj e2))
    · by_cases e2 : j = k
      · subst e2
        rw [put1_same, put1_other e1] at e
        exact absurd e (hG i (hlt i hi e1))
      · rw [put1_other e1, put1_other e2] at e
        exact h.inj i j (hlt i hi e1) (hlt j hj e2) e
/-- One place of it, and a store there. -/
theorem Mat.at_ (h : Mat w B g n k G m) {i j : Nat} (hi : i < k) (hk : k ≤ n) (hj : j < n) : ∃ x, G i = x ∧ x ≠ g ∧ B ≤ x ∧ g < w.heap.size ∧ x < w.heap.size ∧ w.cell? ⟨g, i, none⟩ = some (.slice (some ⟨x, 0, none⟩) n n) ∧ w.cell? ⟨x, j, none⟩ = some (.bool (m i j)) ∧ w.frozen? ⟨x, j, none⟩ = false ∧
    ∀ v, Mat (w.setCell ⟨x, j, none⟩ (.bool v)) B g n k G (put2 m i j v) ∧ ∀ V, Below B V w → Below B V (w.setCell ⟨x, j, none⟩ (.bool v)) := by
  obtain ⟨f, h1, h2⟩ := h.outer
  refine ⟨G i, rfl, h.ne i hi, h.ge i hi, h1.lt, (h.rows i hi).lt, (h1.cell i (by omega)).trans (by rw [h2 i hi]), (h.rows i hi).cell j hj, (h.rows i hi).thaw j, fun v => ⟨⟨⟨f, h1.other _ _ (h.ne i hi).symm, h2⟩, fun a ha => ?_, h.low, h.ge, h.ne, h.inj⟩, fun V hV => hV.setCell (p := ⟨G i, j, none⟩) (h.ge i hi) _⟩⟩
  by_cases e : a = i
  · subst e
    refine ((h.rows a ha).set j (.bool v)).congr fun b _ => ?_
    unfold put1 put2
    by_cases e2 : b = j <;> simp [e2]
  · refine ((h.rows a ha).other _ _ fun e2 => e (h.inj a i ha hi e2)).congr fun b _ => ?_
    unfold put2
    simp [e]
/-- A row of it, to be read. -/
theorem Mat.row (h : Mat w B g n k G m) {i : Nat} (hi : i < k) (hk : k ≤ n) : ∃ x, G i = x ∧ x ≠ g ∧ w.cell? ⟨g, i, none⟩ = some (.slice (some ⟨x, 0, none⟩) n n) ∧ Vec w x n fun j => .bool (m i j) := by
  obtain ⟨f, h1, h2⟩ := h.outer
  exact ⟨G i, rfl, h.ne i hi, (h1.cell i (by omega)).trans (by rw [h2 i hi]), h.rows i hi⟩
end
/-- A slice at A, of n rows, row i of l i bools: m. -/
def RdM (w : World) (B : Nat) (A : Option Addr) (n : Nat) (l : Nat → Nat) (m : Nat → Nat → Bool) : Prop :=
  ∃ R : Nat → Option Addr × Nat, RdC w B A n (fun i => .slice (R i).1 (l i) (R i).2) ∧ ∀ i, i < n → l i ≤ (R i).2 ∧ RdC w B (R i).1 (l i) fun j => .bool (m i j)
section
variable {w w' : World} {n B B' : Nat} {A : Option Addr} {l : Nat → Nat} {m m' : Nat → Nat → Bool}
theorem RdM.below (h : RdM w B A n l m) (hb : Below B w w') : RdM w' B A n l m := by
  obtain ⟨R, h1, h2⟩ := h
  exact ⟨R, h1.below hb, fun i hi => ⟨(h2 i hi).1, (h2 i hi).2.below hb⟩⟩
theorem RdM.more (h : RdM w B A n l m) (hB : B ≤ B') : RdM w B' A n l m := by
  obtain ⟨R, h1, h2⟩ := h
  exact ⟨R, h1.more hB, fun i hi => ⟨(h2 i hi).1, (h2 i hi).2.more hB⟩⟩
theorem RdM.on (h : RdM w w.heap.size A n l m) (hb : Below w.heap.size w w') : RdM w' w'.heap.size A n l m := (h.below hb).more hb.size
theorem RdM.drewN (h : RdM w B A n l m) (q : Nat) : RdM (w.drewN q) B A n l m := h
theorem RdC.congr {f f' : Nat → Value} (h : RdC w B A n f) (e : ∀ j, j < n → f j = f' j) : RdC w B A n f' := fun hn => by
  obtain ⟨ad, h1, h2, h3⟩ := h hn
  exact ⟨ad, h1, h2, fun j hj => by rw [← e j hj]; exact h3 j hj⟩
theorem RdM.congr (h : RdM w B A n l m) (e : ∀ i j, i < n → j < l i → m i j = m' i j) : RdM w B A n l m' := by
  obtain ⟨R, h1, h2⟩ := h
  exact ⟨R, h1, fun i hi => ⟨(h2 i hi).1, (h2 i hi).2.congr fun j hj => by rw [e i j hi hj]⟩⟩
theorem RdM.at_ (h : RdM w B A n l m) {i : Nat} (hi : i < n) : ∃ ad R c, A = some ad ∧ ad.block < B ∧ w.cell? (ad.add i) = some (.slice R (l i) c) ∧ l i ≤ c ∧ RdC w B R (l i) fun j => .bool (m i j) := by
  obtain ⟨R, h1, h2⟩ := h
  obtain ⟨ad, e, hb, hc⟩ := h1.at_ hi
  exact ⟨ad, _, _, e, hb, hc, (h2 i hi).1, (h2 i hi).2⟩
theorem RdM.front (h : RdM w B A n l m) (k : Nat) (hk : k ≤ n) : RdM w B A k l m := by
  obtain ⟨R, h1, h2⟩ := h
  refine ⟨R, fun h0 => ?_, fun i hi => h2 i (by omega)⟩
  obtain ⟨ad, e, hb, hc⟩ := h1 (by omega)
  exact ⟨ad, e, hb, fun j hj => hc j (by omega)⟩
theorem RdM.none (w : World) (B : Nat) (l : Nat → Nat) (m : Nat → Nat → Bool) : RdM w B .none 0 l m := ⟨fun _ => (.none, 0), fun h => by omega, fun i hi => by omega⟩
theorem Mat.rdm {g : Nat} {G : Nat → Nat} (h : Mat w B g n n G m) : RdM w w.heap.size (some ⟨g, 0, .none⟩) n (fun _ => n) m := by
  obtain ⟨f, h1, h2⟩ := h.outer
  exact ⟨fun i => (some ⟨G i, 0, .none⟩, n), (h1.congr h2).rdc, fun i hi => ⟨Nat.le_refl _, (h.rows i hi).rdc⟩⟩
end
/-- It answers a square matrix, new. -/
def MadM (n : Nat) (m : Nat → Nat → Bool) (w : World) (e : Ending) (w' : World) : Prop := ∃ A c, e = .returned (.slice A n c) ∧ n ≤ c ∧ RdM w' w'.heap.size A n (fun _ => n) m ∧ Below w.heap.size w w'
/-- It answers a square matrix in blocks of its own. -/
def MadG (n : Nat) (m : Nat → Nat → Bool) (w : World) (e : Ending) (w' : World) : Prop := ∃ g G, e = .returned (.slice (some ⟨g, 0, none⟩) n n) ∧ Mat w' w.heap.size g n n G m ∧ Below w.heap.size w w'
theorem MadG.m {n : Nat} {m : Nat → Nat → Bool} {w w' : World} {e : Ending} (h : MadG n m w e w') : MadM n m w e w' := by
  obtain ⟨g, G, rfl, h1, h2⟩ := h
  exact ⟨_, _, rfl, Nat.le_refl _, h1.rdm, h2⟩
/-- Rows of numbers in a row. -/
def RdS (w : World) (B : Nat) (A : Option Addr) (n : Nat) (S : Nat → List Nat) : Prop :=
  ∃ R : Nat → Option Addr × Nat, RdC w B A n (fun i => .slice (R i).1 (S i).length (R i).2) ∧ ∀ i, i < n → (S i).length ≤ (R i).2 ∧ RdI w B (R i).1 (S i).length ((S i).map fun x : Nat => (x : Int))
section
variable {w w' : World} {n B B' : Nat} {A : Option Addr} {S : Nat → List Nat}
theorem RdS.below (h : RdS w B A n S) (hb : Below B w w') : RdS w' B A n S := by
  obtain ⟨R, h1, h2⟩ := h
  exact ⟨R, h1.below hb, fun i hi => ⟨(h2 i hi).1, (h2 i hi).2.below hb⟩⟩
theorem RdS.more (h : RdS w B A n S) (hB : B ≤ B') : RdS w B' A n S := by
  obtain ⟨R, h1, h2⟩ := h
  exact ⟨R, h1.more hB, fun i hi => ⟨(h2 i hi).1, (h2 i hi).2.more hB⟩⟩
theorem RdS.on (h : RdS w w.heap.size A n S) (hb : Below w.heap.size w w') : RdS w' w'.heap.size A n S := (h.below hb).more hb.size
theorem RdS.at_ (h : RdS w B A n S) {i : Nat} (hi : i < n) : ∃ ad R c, A = some ad ∧ ad.block < B ∧ w.cell? (ad.add i) = some (.slice R (S i).length c) ∧ (S i).length ≤ c ∧ RdI w B R (S i).length ((S i).map fun x : Nat => (x : Int)) := by
  obtain ⟨R, h1, h2⟩ := h
  obtain ⟨ad, e, hb, hc⟩ := h1.at_ hi
  exact ⟨ad, _, _, e, hb, hc, (h2 i hi).1, (h2 i hi).2⟩
end
theorem OwnV.frontC {E s B n c : Nat} {w : World} {A : Option Addr} {l : List Value} (h : OwnV E s w B A n c l) (k : Nat) (hk : k ≤ n) : OwnV E s w B A k c (l.take (k * s)) := by
  have hl := h.1
  have hle : k * s ≤ n * s := Nat.mul_le_mul_right _ hk
  refine ⟨by rw [List.length_take]; omega, ?_⟩
  rcases h.2 with ⟨hv, h0⟩ | ⟨g, cap, cur, hv, hbg, hg, hnc, hcm, hcs, htake⟩
  · injection hv with h1 h2 h3
    subst h1; subst h3
    exact .inl ⟨by rw [show k = 0 by omega], by omega⟩
  · injection hv with h1 h2 h3
    subst h1; subst h3
    exact .inr ⟨g, c, cur, rfl, hbg, hg, by omega, hcm, hcs, by rw [← htake, List.take_take, Nat.min_eq_left hle]⟩
end Go.Proofs.YtebcfiifaclniaaGreat

/- A search from a few on: all to whom steps lead. -/
namespace Go.Proofs.YtebcfiifaclniaaGreat
open Go.RowKit Tab
set_option linter.unusedSimpArgs false
set_option linter.unusedVariables false

/-- A slice of numbers that is to be gone through. -/
structure Sl where
  a : Option Addr
  c : Nat
  l : List Nat
def Sl.v (s : Sl) : Value := .slice s.a s.l.length s.c
def SlOk (w : World) (B : Nat) (s : Sl) : Prop := s.l.length ≤ s.c ∧ s.l.length ≤ 1048576 ∧ RdI w B s.a s.l.length (s.l.map fun x : Nat => (x : Int))
theorem slv_one (T : List Sl) : ∀ u ∈ T.map Sl.v, u.oneCell' = true := by
  intro u hu
  obtain ⟨s, _, rfl⟩ := List.mem_map.1 hu
  rfl
/-- What is not marked, by the cells. -/
def unw (w : World) (h n : Nat) : Nat := un n fun j => match w.cell? ⟨h, j, none⟩ with | some (.bool b) => b | _ => false
theorem Vec.unw {w : World} {h n : Nat} {M : Nat → Bool} (hv : Vec w h n fun j => .bool (M j)) : unw w h n = un n M := by
  unfold Go.Proofs.YtebcfiifaclniaaGreat.unw
  exact un_congr fun j hj => by rw [hv.cell j hj]
theorem OwnV.keep' {E s B n c : Nat} {w w' : World} {A : Option Addr} {l : List Value} (h : OwnV E s w B A n c l) (hk : ∀ g, obk A = some g → w'.heap[g]? = w.heap[g]?) : OwnV E s w' B A n c l := by
  refine ⟨h.1, ?_⟩
  rcases h.2 with hv | ⟨g, cap, cur, hv, hbg, hg, r⟩
  · exact .inl hv
  · exact .inr ⟨g, cap, cur, hv, hbg, by rw [hk g (by injection hv with h1; rw [h1]; rfl)]; exact hg, r⟩
theorem drop_at {L : List Nat} {i : Nat} (h : i < L.length) : L.drop i = L[i] :: L.drop (i + 1) := List.drop_eq_getElem_cons h
theorem un_le (n : Nat) (M : Nat → Bool) : un n M ≤ n := by
  induction n with
  | zero => exact Nat.le_refl _
  | succ n ih => simp only [un]; split <;> omega
/-- What is led to. -/
def LedP (n : Nat) (S : Nat → List Nat) (F : List Nat) (w : World) (e : Ending) (w' : World) : Prop :=
  ∃ (h : Nat) (M : Nat → Bool), e = .returned (.slice (some ⟨h, 0, none⟩) n n) ∧ Vec w' h n (fun j => .bool (M j)) ∧ w.heap.size ≤ h ∧ Below w.heap.size w w' ∧ ∀ a, M a = true ↔ Rch S F a
end Go.Proofs.YtebcfiifaclniaaGreat

/- Closing a matrix by searches. -/
namespace Go.Proofs.YtebcfiifaclniaaGreat
open Go.RowKit Tab
set_option linter.unusedSimpArgs false
set_option linter.unusedVariables false

theorem OwnV.obk_ge {E s B n c b : Nat} {w : World} {A : Option Addr} {l : List Value} (h : OwnV E s w B A n c l) (hA : obk A = some b) : B ≤ b ∧ b < w.heap.size := by
  rcases h.2 with ⟨hv, _⟩ | ⟨g, cap, cur, hv, hbg, hg, _⟩
  · injection hv with h1
    subst h1
    cases hA
  · injection hv with h1
    subst h1
    injection hA with hA
    have hA : g = b := hA
    subst hA
    exact ⟨hbg, (Array.getElem?_eq_some_iff.1 hg).1⟩
def cast (l : List Nat) : List Int := l.map fun x : Nat => (x : Int)
/-- Rows of numbers of a call's own in a row of its own: k of them are laid. -/
structure Stp (w : World) (B g n k : Nat) (R : Nat → Option Addr × Nat) (S : Nat → List Nat) : Prop where
  outer : ∃ f, Vec w g n f ∧ ∀ i, i < k → f i = .slice (R i).1 (S i).length (R i).2
  rows : ∀ i, i < k → OwnV 3 1 w B (R i).1 (S i).length (R i).2 (is (cast (S i)))
  low : B ≤ g
  ne : ∀ i, i < k → obk (R i).1 ≠ some g
  inj : ∀ i j b, i < k → j < k → i ≠ j → obk (R i).1 = some b → obk (R j).1 ≠ some b
section
variable {w w' : World} {g n k B : Nat} {R : Nat → Option Addr × Nat} {S : Nat → List Nat}
theorem Stp.on (h : Stp w B g n k R S) (hb : Below w.heap.size w w') : Stp w' B g n k R S := by
  obtain ⟨f, h1, h2⟩ := h.outer
  exact ⟨⟨f, h1.on hb, h2⟩, fun i hi => (h.rows i hi).below rfl hb, h.low, h.ne, h.inj⟩
theorem Stp.push (h : Stp w B g n k R S) {A : Option Addr} {c : Nat} {l : List Nat} (hx : OwnV 3 1 w B A l.length c (is (cast l))) (hg : obk A ≠ some g) (hA : ∀ i b, i < k → obk (R i).1 = some b → obk A ≠ some b) (hk : k < n) :
    Stp (w.setCell ⟨g, k, none⟩ (.slice A l.length c)) B g n (k + 1) (put1 R k (A, c)) (put1 S k l) := by
  obtain ⟨f, h1, h2⟩ := h.outer
  have hlt : ∀ i, i < k + 1 → i ≠ k → i < k := fun i _ _ => by omega
  have hset : ∀ A n c l, OwnV 3 1 w B A n c l → obk A ≠ some g → ∀ v, OwnV 3 1 (w.setCell ⟨g, k, none⟩ v) B A n c l := fun A n c l ho hne v =>
    ho.keep' fun b hb => Below.heap_setCell _ _ _ _ fun e => hne (by rw [hb]; exact congrArg some e)
  refine ⟨⟨_, h1.set k _, fun i hi => ?_⟩, fun i hi => ?_, h.low, fun i hi => ?_, fun i j b hi hj hij e => ?_⟩
  · by_cases e : i = k
    · subst e; rw [put1_same, put1_same, put1_same]
    · rw [put1_other e, put1_other e, put1_other e]; exact h2 i (hlt i hi e)
  · by_cases e : i = k
    · subst e; rw [put1_same, put1_same]; exact hset _ _ _ _ hx hg _
    · rw [put1_other e, put1_other e]; exact hset _ _ _ _ (h.rows i (hlt i hi e)) (h.ne i (hlt i hi e)) _
  · by_cases e : i = k
    · subst e; rw [put1_same]; exact hg
    · rw [put1_other e]; exact h.ne i (hlt i hi e)
  · by_cases e1 : i = k
    · subst e1
      have e2 : j ≠ i := fun e => hij e.symm
      rw [put1_same] at e
      rw [put1_other e2]
      exact fun e3 => hA j b (hlt j hj e2) e3 e
    · rw [put1_other e1] at e
      by_cases e2 : j = k
      · subst e2; rw [put1_same]; exact hA i b (hlt i hi e1) e
      · rw [put1_other e2]; exact h.inj i j b (hlt i hi e1) (hlt j hj e2) hij e
theorem Stp.rds (h : Stp w B g n n R S) : RdS w w.heap.size (some ⟨g, 0, none⟩) n S := by
  obtain ⟨f, h1, h2⟩ := h.outer
  exact ⟨R, (h1.congr h2).rdc, fun i hi => ⟨(h.rows i hi).cap, ⟨by simp, (h.rows i hi).rd⟩⟩⟩
theorem RdS.congr {A : Option Addr} {T : Nat → List Nat} (h : RdS w B A n S) (e : ∀ i, i < n → S i = T i) : RdS w B A n T := by
  obtain ⟨R, h1, h2⟩ := h
  exact ⟨R, h1.congr fun i hi => by rw [e i hi], fun i hi => by rw [← e i hi]; exact h2 i hi⟩
end
theorem add_one'' (g k : Nat) : (⟨g, 0, none⟩ : Addr).add k = ⟨g, k, none⟩ := by
  unfold Addr.add
  split
  · rename_i h
    rw [h]
  · simp
theorem Mat.weak {w : World} {B B' g n k : Nat} {G : Nat → Nat} {m : Nat → Nat → Bool} (h : Mat w B g n k G m) (hB : B' ≤ B) : Mat w B' g n k G m :=
  ⟨h.outer, h.rows, Nat.le_trans hB h.low, fun i hi => Nat.le_trans hB (h.ge i hi), h.ne, h.inj⟩
end Go.Proofs.YtebcfiifaclniaaGreat

/- Rows of structs of the call's own: a store into one field of one of them. -/
namespace Go.Proofs.YtebcfiifaclniaaGreat
open Go.RowKit Tab
set_option linter.unusedSimpArgs false
set_option linter.unusedVariables false

theorem heap_set_same (w : World) (g j : Nat) (v : Value) {cur : Array Value} {E : TypeId} {fr : Nat × Nat} (h : w.heap[g]? = some (.cells cur E fr)) : (w.setCell ⟨g, j, none⟩ v).heap[g]? = some (.cells (cur.setIfInBounds j v) E fr) := by
  unfold World.setCell
  simp [Array.getElem?_modify, h]
theorem OwnV.set {E s B n c g : Nat} {w : World} {l : List Value} (h : OwnV E s w B (some ⟨g, 0, none⟩) n c l) (j : Nat) (v : Value) (hj : j < l.length) : OwnV E s (w.setCell ⟨g, j, none⟩ v) B (some ⟨g, 0, none⟩) n c (l.set j v) := by
  refine ⟨by rw [List.length_set]; exact h.1, ?_⟩
  rcases h.2 with ⟨hv, _⟩ | ⟨g', cap, cur, hv, hbg, hg, hnc, hcm, hcs, htake⟩
  · cases hv
  · simp only [Value.slice.injEq, Option.some.injEq, Addr.mk.injEq, and_true, true_and] at hv
    obtain ⟨rfl, rfl⟩ := hv
    refine .inr ⟨g, c, cur.setIfInBounds j v, rfl, hbg, heap_set_same w g j v hg, hnc, hcm, by rw [Array.size_setIfInBounds]; exact hcs, ?_⟩
    rw [Array.toList_setIfInBounds, List.take_set, htake]
/-- A store into another block leaves a row. -/
theorem OwnV.other {E s B n c : Nat} {w : World} {A : Option Addr} {l : List Value} (h : OwnV E s w B A n c l) (p : Addr) (v : Value) (hp : ∀ g, A = some ⟨g, 0, none⟩ → g ≠ p.block) : OwnV E s (w.setCell p v) B A n c l := by
  refine ⟨h.1, ?_⟩
  rcases h.2 with hv | ⟨g, cap, cur, hv, hbg, hg, r⟩
  · exact .inl hv
  · refine .inr ⟨g, cap, cur, hv, hbg, ?_, r⟩
    rw [Below.heap_setCell w p v g (hp g (by injection hv))]
    exact hg
section
variable {α : Type} {f : α → List Value} {s : Nat}
theorem flat_len (hf : ∀ x, (f x).length = s) (l : List α) : (l.flatMap f).length = l.length * s := by
  induction l with
  | nil => simp
  | cons x l ih => rw [List.flatMap_cons, List.length_append, hf, ih, List.length_cons, Nat.succ_mul]; omega
theorem flat_set (hf : ∀ x, (f x).length = s) (l : List α) (i k : Nat) (x y : α) (v : Value) (hx : l[i]? = some x) (hk : k < s) (hy : f y = (f x).set k v) : (l.set i y).flatMap f = (l.flatMap f).set (i * s + k) v := by
  induction l generalizing i with
  | nil => simp at hx
  | cons z l ih =>
    cases i with
    | zero =>
      simp at hx
      subst hx
      rw [List.set_cons_zero, List.flatMap_cons, List.flatMap_cons, hy, Nat.zero_mul, Nat.zero_add, List.set_append_left _ _ (by rw [hf]; exact hk)]
    | succ i =>
      rw [List.set_cons_succ, List.flatMap_cons, List.flatMap_cons, ih i (by simpa using hx), List.set_append_right _ _ (by rw [hf, Nat.succ_mul]; omega), hf]
      congr 2
      rw [Nat.succ_mul]
      omega
end
/-- A row of structs, each in s cells, of the call's own, block B or behind it. -/
structure OwnB {α : Type} (E s : Nat) (f : α → List Value) (w : World) (B : Nat) (A : Option Addr) (n c : Nat) (l : List α) : Prop where
  len : l.length = n
  own : OwnV E s w B A n c (l.flatMap f)
section
variable {α : Type} {f : α → List Value} {E s B B' n c : Nat} {w w' : World} {A : Option Addr} {l : List α}
theorem OwnB.rdb (h : OwnB E s f w B A n c l) : RdB f w w.heap.size A n l := ⟨h.len, h.own.rd⟩
theorem OwnB.cap (h : OwnB E s f w B A n c l) : n ≤ c := h.own.cap
theorem OwnB.nil (w : World) (E s B : Nat) : OwnB E s f w B none 0 0 [] := ⟨rfl, OwnV.nil _ _ _ _⟩
theorem OwnB.below (h : OwnB E s f w B A n c l) (hb : Below w.heap.size w w') : OwnB E s f w' B A n c l := ⟨h.len, h.own.below rfl hb⟩
theorem OwnB.other (h : OwnB E s f w B A n c l) (p : Addr) (v : Value) (hp : ∀ g, A = some ⟨g, 0, none⟩ → g ≠ p.block) : OwnB E s f (w.setCell p v) B A n c l := ⟨h.len, h.own.other p v hp⟩
theorem OwnB.weak (h : OwnB E s f w B A n c l) (hB : B' ≤ B) : OwnB E s f w B' A n c l := ⟨h.len, h.own.weak hB⟩
theorem OwnB.block (h : OwnB E s f w B A n c l) (hn : 0 < n) : ∃ g, A = some ⟨g, 0, none⟩ ∧ B ≤ g ∧ g < w.heap.size := h.own.block hn
theorem mk_add (g i : Nat) : (⟨g, 0, none⟩ : Addr).add i = ⟨g, i, none⟩ := by
  unfold Addr.add
  split <;> simp_all
/-- A store into a struct's field k, as a walk spells its place. -/
theorem OwnB.set {g : Nat} (h : OwnB E s f w B (some ⟨g, 0, none⟩) n c l) (hf : ∀ x, (f x).length = s) {i k : Nat} {x y : α} {v : Value} (hx : l[i]? = some x) (hk : k < s) (hy : f y = (f x).set k v) :
    OwnB E s f (w.setCell ⟨((⟨g, 0, none⟩ : Addr).add (i * s)).block, ((⟨g, 0, none⟩ : Addr).add (i * s)).off + k, none⟩ v) B (some ⟨g, 0, none⟩) n c (l.set i y) := by
  have hi : i < l.length := (List.getElem?_eq_some_iff.1 hx).1
  refine ⟨by rw [List.length_set]; exact h.len, ?_⟩
  rw [mk_add, flat_set hf l i k x y v hx hk hy]
  refine h.own.set (i * s + k) v ?_
  rw [flat_len hf]
  have h1 : (i + 1) * s ≤ l.length * s := Nat.mul_le_mul_right _ hi
  rw [Nat.succ_mul] at h1
  omega
end
/-- A store into a channel's bound, into a partition's budget, its period. -/
theorem cc_late (x : ChV) (z : Int) : cc { x with late := z } = (cc x).set 5 (.int .i64 z) := rfl
theorem pcl_bud (x : PtV) (z : Int) : pcl { x with bud := z } = (pcl x).set 1 (.int .i64 z) := rfl
theorem pcl_per (x : PtV) (z : Int) : pcl { x with per := z } = (pcl x).set 2 (.int .i64 z) := rfl
end Go.Proofs.YtebcfiifaclniaaGreat

/- The ways between partitions; those that sway all; do two depend. -/
namespace Go.Proofs.YtebcfiifaclniaaGreat
open Go.RowKit Tab
set_option linter.unusedSimpArgs false
set_option linter.unusedVariables false

def ptOf (x : PtV) : Pt := ⟨x.sched, x.stop⟩
def chOf (x : ChV) : Ch := ⟨x.from_, x.to_, x.queue⟩
theorem RdB.below {α : Type} {f : α → List Value} {w w' : World} {B n : Nat} {A : Option Addr} {l : List α} (h : RdB f w B A n l) (hb : Below B w w') : RdB f w' B A n l := ⟨h.len, h.rd.below hb⟩
theorem RdB.more {α : Type} {f : α → List Value} {w : World} {B B' n : Nat} {A : Option Addr} {l : List α} (h : RdB f w B A n l) (hB : B ≤ B') : RdB f w B' A n l := ⟨h.len, h.rd.more hB⟩
/-- A configuration's partitions and channels in memory. -/
structure CfW (w : World) (B : Nat) (A1 A2 : Option Addr) (n1 n2 : Nat) (P : List PtV) (C : List ChV) : Prop where
  p : RdB pcl w B A1 n1 P
  c : RdB cc w B A2 n2 C
section
variable {w w' : World} {B B' n1 n2 : Nat} {A1 A2 : Option Addr} {P : List PtV} {C : List ChV}
theorem CfW.below (h : CfW w B A1 A2 n1 n2 P C) (hb : Below B w w') : CfW w' B A1 A2 n1 n2 P C := ⟨h.p.below hb, h.c.below hb⟩
theorem CfW.more (h : CfW w B A1 A2 n1 n2 P C) (hB : B ≤ B') : CfW w B' A1 A2 n1 n2 P C := ⟨h.p.more hB, h.c.more hB⟩
theorem CfW.on (h : CfW w w.heap.size A1 A2 n1 n2 P C) (hb : Below w.heap.size w w') : CfW w' w'.heap.size A1 A2 n1 n2 P C := (h.below hb).more hb.size
end
theorem schedOf_at {P : List PtV} {a : Nat} {x : PtV} (h : P[a]? = some x) : schedOf (P.map ptOf) a = x.sched := by
  unfold schedOf; rw [List.getElem?_map, h]; rfl
theorem stopOf_at {P : List PtV} {a : Nat} {x : PtV} (h : P[a]? = some x) : stopOf (P.map ptOf) a = x.stop := by
  unfold stopOf; rw [List.getElem?_map, h]; rfl
theorem wayL_more {n : Nat} {C : List ChV} {i : Nat} {x : ChV} (h : C[i]? = some x) : wayL n ((C.take (i + 1)).map chOf) = wayL n ((C.take i).map chOf) ++ wayOf n (chOf x) := by
  obtain ⟨hi, e⟩ := List.getElem?_eq_some_iff.1 h
  rw [List.take_succ_eq_append_getElem hi, e, List.map_append]
  unfold wayL
  rw [List.flatMap_append]
  simp
def wcl (x : Nat × Nat) : List Value := [.int .i64 (x.1 : Int), .int .i64 (x.2 : Int)]
theorem wcl_len (x : Nat × Nat) : (wcl x).length = 2 := rfl
theorem wcl_one (l : List (Nat × Nat)) : ∀ u ∈ l.flatMap wcl, u.oneCell' = true := by
  intro u hu
  obtain ⟨x, _, hx⟩ := List.mem_flatMap.1 hu
  simp [wcl] at hx
  rcases hx with rfl | rfl <;> rfl
theorem wayOf_len (n : Nat) (x : Ch) : (wayOf n x).length ≤ 2 := by
  unfold wayOf
  split
  · split <;> simp
  · simp
theorem wayL_len (n : Nat) (C : List Ch) : (wayL n C).length ≤ 2 * C.length := by
  induction C with
  | nil => simp [wayL]
  | cons x C ih =>
    have := wayOf_len n x
    unfold wayL at ih ⊢
    rw [List.flatMap_cons, List.length_append, List.length_cons]
    omega
/-- It answers a row of ways, new. -/
def MadW (L : List (Nat × Nat)) (w : World) (e : Ending) (w' : World) : Prop := ∃ A c, e = .returned (.slice A L.length c) ∧ RdB wcl w' w'.heap.size A L.length L ∧ L.length ≤ c ∧ Below w.heap.size w w' ∧ ∀ b, obk A = some b → w.heap.size ≤ b
end Go.Proofs.YtebcfiifaclniaaGreat

/- Who depends on whom, as a matrix, by the program. -/
namespace Go.Proofs.YtebcfiifaclniaaGreat
open Go.RowKit Tab
set_option linter.unusedSimpArgs false
set_option linter.unusedVariables false

/-- A store into another block leaves a row. -/
theorem RdB.other {α : Type} {f : α → List Value} {w : World} {n B : Nat} {A : Option Addr} {l : List α} (h : RdB f w B A n l) (p : Addr) (v : Value) (hp : ∀ b, obk A = some b → b ≠ p.block) : RdB f (w.setCell p v) B A n l := by
  refine ⟨h.len, fun hl => ?_⟩
  obtain ⟨ad, e, hb, hc⟩ := h.rd hl
  refine ⟨ad, e, hb, fun j u hj => ?_⟩
  rw [World.cell?_of_block (Below.heap_setCell w p v (ad.add j).block (by rw [add_block]; exact hp _ (by rw [e]; rfl)))]
  exact hc j u hj
theorem RdB.on' {α : Type} {f : α → List Value} {w w' : World} {n : Nat} {A : Option Addr} {l : List α} (h : RdB f w w.heap.size A n l) (hb : Below w.heap.size w w') : RdB f w' w'.heap.size A n l := (h.below hb).more hb.size
def mA (W : List (Nat × Nat)) (a b : Nat) : Bool := decide (a = b) || decide ((a, b) ∈ W) || decide ((b, a) ∈ W)
def mS (W : List (Nat × Nat)) (a b : Nat) : Bool := decide (a = b) || decide ((a, b) ∈ W)
theorem take_one {α : Type} {L : List α} {i : Nat} {x : α} (h : L[i]? = some x) : L.take (i + 1) = L.take i ++ [x] := by
  obtain ⟨hi, e⟩ := List.getElem?_eq_some_iff.1 h
  rw [List.take_succ_eq_append_getElem hi, e]
theorem mA_more {W : List (Nat × Nat)} {i : Nat} {f t : Nat} (h : W[i]? = some (f, t)) (a b : Nat) : put2 (put2 (mA (W.take i)) f t true) t f true a b = mA (W.take (i + 1)) a b := by
  rw [take_one h]
  unfold put2 mA
  simp only [List.mem_append, List.mem_singleton, Prod.mk.injEq]
  by_cases h1 : a = t ∧ b = f
  · rw [if_pos h1]; simp [h1.1, h1.2]
  · rw [if_neg h1]
    by_cases h2 : a = f ∧ b = t
    · rw [if_pos h2]; simp [h2.1, h2.2]
    · rw [if_neg h2]
      have h3 : ¬ (b = f ∧ a = t) := fun e => h1 ⟨e.2, e.1⟩
      simp [h2, h3]
theorem mS_more {W : List (Nat × Nat)} {i : Nat} {f t : Nat} (h : W[i]? = some (f, t)) (a b : Nat) : put2 (mS (W.take i)) f t true a b = mS (W.take (i + 1)) a b := by
  rw [take_one h]
  unfold put2 mS
  simp only [List.mem_append, List.mem_singleton, Prod.mk.injEq]
  by_cases h2 : a = f ∧ b = t
  · rw [if_pos h2]; simp [h2.1, h2.2]
  · rw [if_neg h2]
    simp [h2]
/-- Rows ahead of i, and of row i the places ahead of j, have q besides. -/
def mQ (m q : Nat → Nat → Bool) (i j x y : Nat) : Bool := m x y || (q x y && (decide (x < i) || (decide (x = i) && decide (y < j))))
theorem mQ_zero (m q : Nat → Nat → Bool) (x y : Nat) : mQ m q 0 0 x y = m x y := by simp [mQ]
theorem mQ_put {m q : Nat → Nat → Bool} {i j : Nat} (h : q i j = true) (x y : Nat) : put2 (mQ m q i j) i j true x y = mQ m q i (j + 1) x y := by
  unfold put2 mQ
  by_cases h1 : x = i ∧ y = j
  · rw [if_pos h1, h1.1, h1.2, h]; simp
  · rw [if_neg h1]
    congr 2
    by_cases h2 : x = i
    · have h3 : y ≠ j := fun e => h1 ⟨h2, e⟩
      have h4 : (y < j) = (y < j + 1) := by simp; omega
      simp [h2, h4]
    · simp [h2]
theorem mQ_skip {m q : Nat → Nat → Bool} {i j : Nat} (h : q i j = false) (x y : Nat) : mQ m q i j x y = mQ m q i (j + 1) x y := by
  unfold mQ
  by_cases h1 : x = i ∧ y = j
  · rw [h1.1, h1.2, h]; simp
  · congr 2
    by_cases h2 : x = i
    · have h3 : y ≠ j := fun e => h1 ⟨h2, e⟩
      have h4 : (y < j) = (y < j + 1) := by simp; omega
      simp [h2, h4]
    · simp [h2]
theorem mQ_row {m q : Nat → Nat → Bool} {i n x y : Nat} (hy : y < n) : mQ m q i n x y = mQ m q (i + 1) 0 x y := by
  unfold mQ
  congr 2
  rw [Bool.eq_iff_iff]
  simp
  omega
theorem mQ_all {m q : Nat → Nat → Bool} {n x y : Nat} (hx : x < n) : mQ m q n 0 x y = (m x y || q x y) := by
  unfold mQ
  simp [hx]
def schQ (P : List PtV) (x y : Nat) : Bool := schedOf (P.map ptOf) x && schedOf (P.map ptOf) y
theorem depF_mQ {P : List PtV} {C : List ChV} {n a b : Nat} (hn : P.length = n) (ha : a < n) : mQ (mA (wayL n (C.map chOf))) (schQ P) n 0 a b = depF (P.map ptOf) (C.map chOf) a b := by
  rw [mQ_all ha, Bool.eq_iff_iff, depF_iff, List.length_map, hn]
  unfold mA schQ
  simp only [Bool.or_eq_true, Bool.and_eq_true, decide_eq_true_eq]
  constructor
  · rintro (((h | h) | h) | h)
    · exact .inl h
    · exact .inr (.inr (.inl h))
    · exact .inr (.inr (.inr h))
    · exact .inr (.inl h)
  · rintro (h | h | h | h)
    · exact .inl (.inl (.inl h))
    · exact .inr h
    · exact .inl (.inl (.inr h))
    · exact .inl (.inr h)
theorem RdB.way {w : World} {B n : Nat} {A : Option Addr} {L : List (Nat × Nat)} (h : RdB wcl w B A n L) {i : Nat} (hi : i < n) : ∃ (ad : Addr) (f t : Nat), A = some ad ∧ ad.block < B ∧ L[i]? = some (f, t) ∧ w.cell? (ad.add (i * 2)) = some (.int .i64 (f : Int)) ∧ w.cell? ⟨(ad.add (i * 2)).block, (ad.add (i * 2)).off + 1, none⟩ = some (.int .i64 (t : Int)) := by
  obtain ⟨ad, x, e, hb, hx, c0, ck⟩ := h.at_ wcl_len (by omega) hi
  obtain ⟨f, t⟩ := x
  exact ⟨ad, f, t, e, hb, hx, c0 _ rfl, ck 1 _ (by omega) rfl⟩
/-- A configuration in a box. -/
theorem box_vec (w : World) (v0 v1 v2 : Value) (t : TypeId) : Vec (w.alloc (.cells #[v0, v1, v2] t)) w.heap.size 3 fun j => if j = 0 then v0 else if j = 1 then v1 else v2 :=
  Vec.lit w _ _ 3 _ fun j hj => by rcases (by omega : j = 0 ∨ j = 1 ∨ j = 2) with rfl | rfl | rfl <;> rfl
theorem Vec.three {w : World} {g : Nat} {v0 v1 v2 : Value} (h : Vec w g 3 fun j => if j = 0 then v0 else if j = 1 then v1 else v2) : w.cell? ⟨g, 0, none⟩ = some v0 ∧ w.cell? ⟨g, 1, none⟩ = some v1 ∧ w.cell? ⟨g, 2, none⟩ = some v2 := by
  refine ⟨?_, ?_, ?_⟩
  · have := h.cell 0 (by omega); rwa [if_pos rfl] at this
  · have := h.cell 1 (by omega); rwa [if_neg (by omega), if_pos rfl] at this
  · have := h.cell 2 (by omega); rwa [if_neg (by omega), if_neg (by omega)] at this
end Go.Proofs.YtebcfiifaclniaaGreat

/- Whether a partition may be, whether a name is one, by the document's own answer (that it answers). -/
namespace Go.Proofs.YtebcfiifaclniaaGreat
open Go.RowKit Tab
set_option linter.unusedSimpArgs false
set_option linter.unusedVariables false

/-- Processes in memory, whatever they are. -/
def PcOk (e p : Int) : Prop := 0 ≤ e ∧ e < 512 ∧ 0 ≤ p ∧ p ≤ 255
def ProcsAt (w : World) (B : Nat) (A : Option Addr) (n : Nat) : Prop := ∀ i, i < n → ∃ ad e p, A = some ad ∧ ad.block < B ∧ w.cell? (ad.add (i * 2)) = some (.int .i64 e) ∧ w.cell? ⟨(ad.add (i * 2)).block, (ad.add (i * 2)).off + 1, none⟩ = some (.int .i64 p) ∧ PcOk e p
theorem ProcsAt.on {w w' : World} {A : Option Addr} {n : Nat} (h : ProcsAt w w.heap.size A n) (hb : Below w.heap.size w w') : ProcsAt w' w'.heap.size A n := fun i hi => by
  obtain ⟨ad, e, p, hA, hB, h1, h2, h3⟩ := h i hi
  refine ⟨ad, e, p, hA, Nat.lt_of_lt_of_le hB hb.size, ?_, ?_, h3⟩
  · rw [hb.cell (by rw [add_block]; exact hB)]; exact h1
  · rw [hb.cell (by show (ad.add (i * 2)).block < _; rw [add_block]; exact hB)]; exact h2
set_option maxRecDepth 100000 in
set_option maxHeartbeats 4000000 in
theorem name_any (s : ByteArray) (w : World) (hs : s.size ≤ 1048576) : Calls Tryz.prog 65 #[.string s] w (SomB w) := by
  go_enter Tryz.func65, Tryz.ntmps65
  go_wp2_with fail
  go_loopw [3, 4] (fun q _ wr => ∃ i : Nat, i ≤ s.size ∧ q = .int .i64 i ∧ Below w.heap.size w wr) (fun q _ _ => s.size - (intOf q).toNat)
  case atStart => exact ⟨0, by omega, rfl, Below.refl _ _⟩
  case round =>
    obtain ⟨i, hi, rfl, hb⟩ := hrel
    by_cases hlt : i < s.size
    · go_wp2_with fail
      all_goals
        first
        | (go_ret; exact ⟨_, rfl, hb⟩)
        | (go_roundw
           case rel => exact ⟨i + 1, by omega, by go_num, hb⟩
           case measure => simp [intOf]; omega)
    · have hge : s.size ≤ i := by omega
      go_wp2_with fail
      all_goals
        go_ret
        exact ⟨_, rfl, hb⟩
set_option maxRecDepth 100000 in
set_option maxHeartbeats 4000000 in
theorem partRight_any (x : PtV) (w : World) (h : ProcsAt w w.heap.size x.pa x.pn) (hn : x.pn ≤ 1048576) : Calls Tryz.prog 66 #[pv x] w (SomB w) := by
  obtain ⟨nm, bu, pe, sc, st, pa, pn, pc, h0, h1, h2, h3, h4⟩ := x
  dsimp only at h hn
  go_enter Tryz.func66, Tryz.ntmps66
  by_cases hp1 : pn < 1
  · have hp1' : (pn : Int) < 1 := by omega
    go_wp2_with fail
    go_ret
    exact ⟨_, rfl, bl1 _ _⟩
  · by_cases hp3 : 3 < pn
    · have hp3' : (3 : Int) < (pn : Int) := by omega
      have hp1' : ¬ (pn : Int) < 1 := by omega
      go_wp2_with fail
      go_ret
      exact ⟨_, rfl, bl1 _ _⟩
    · have hp3' : ¬ (3 : Int) < (pn : Int) := by omega
      have hp1' : ¬ (pn : Int) < 1 := by omega
      go_wp2_with fail
      have hb0 := bl1 w (.cells #[.string nm, .int .i64 bu, .int .i64 pe, .bool sc, .bool st, .slice pa pn pc, .int .i64 h0, .int .i64 h1, .int .i64 h2, .int .i64 h3, .int .i64 h4] 39)
      have n1 : (w.alloc (.cells #[.string nm, .int .i64 bu, .int .i64 pe, .bool sc, .bool st, .slice pa pn pc, .int .i64 h0, .int .i64 h1, .int .i64 h2, .int .i64 h3, .int .i64 h4] 39)).cell? ⟨w.heap.size, 1, none⟩ = some (.int .i64 bu) := World.cell?_alloc_mark _ _ _ _ _
      have n2 : (w.alloc (.cells #[.string nm, .int .i64 bu, .int .i64 pe, .bool sc, .bool st, .slice pa pn pc, .int .i64 h0, .int .i64 h1, .int .i64 h2, .int .i64 h3, .int .i64 h4] 39)).cell? ⟨w.heap.size, 2, none⟩ = some (.int .i64 pe) := World.cell?_alloc_mark _ _ _ _ _
      have n6 : (w.alloc (.cells #[.string nm, .int .i64 bu, .int .i64 pe, .bool sc, .bool st, .slice pa pn pc, .int .i64 h0, .int .i64 h1, .int .i64 h2, .int .i64 h3, .int .i64 h4] 39)).cell? ⟨w.heap.size, 6, none⟩ = some (.int .i64 h0) := World.cell?_alloc_mark _ _ _ _ _
      have n7 : (w.alloc (.cells #[.string nm, .int .i64 bu, .int .i64 pe, .bool sc, .bool st, .slice pa pn pc, .int .i64 h0, .int .i64 h1, .int .i64 h2, .int .i64 h3, .int .i64 h4] 39)).cell? ⟨w.heap.size, 7, none⟩ = some (.int .i64 h1) := World.cell?_alloc_mark _ _ _ _ _
      have n8 : (w.alloc (.cells #[.string nm, .int .i64 bu, .int .i64 pe, .bool sc, .bool st, .slice pa pn pc, .int .i64 h0, .int .i64 h1, .int .i64 h2, .int .i64 h3, .int .i64 h4] 39)).cell? ⟨w.heap.size, 8, none⟩ = some (.int .i64 h2) := World.cell?_alloc_mark _ _ _ _ _
      have n9 : (w.alloc (.cells #[.string nm, .int .i64 bu, .int .i64 pe, .bool sc, .bool st, .slice pa pn pc, .int .i64 h0, .int .i64 h1, .int .i64 h2, .int .i64 h3, .int .i64 h4] 39)).cell? ⟨w.heap.size, 9, none⟩ = some (.int .i64 h3) := World.cell?_alloc_mark _ _ _ _ _
      have n10 : (w.alloc (.cells #[.string nm, .int .i64 bu, .int .i64 pe, .bool sc, .bool st, .slice pa pn pc, .int .i64 h0, .int .i64 h1, .int .i64 h2, .int .i64 h3, .int .i64 h4] 39)).cell? ⟨w.heap.size, 10, none⟩ = some (.int .i64 h4) := World.cell?_alloc_mark _ _ _ _ _
      have hgs : w.heap.size < (w.alloc (.cells #[.string nm, .int .i64 bu, .int .i64 pe, .bool sc, .bool st, .slice pa pn pc, .int .i64 h0, .int .i64 h1, .int .i64 h2, .int .i64 h3, .int .i64 h4] 39)).heap.size := by simp
      have hw1 := h.on hb0
      generalize w.alloc (.cells #[.string nm, .int .i64 bu, .int .i64 pe, .bool sc, .bool st, .slice pa pn pc, .int .i64 h0, .int .i64 h1, .int .i64 h2, .int .i64 h3, .int .i64 h4] 39) = W at n1 n2 n6 n7 n8 n9 n10 hb0 hgs hw1 ⊢
      obtain ⟨g, hg⟩ : ∃ g, g = w.heap.size := ⟨_, rfl⟩
      rw [← hg] at n1 n2 n6 n7 n8 n9 n10 hgs ⊢
      have HG := Lib.hid hg
      clear hg
      have HN := Lib.hid fun W' (hb : Below W.heap.size W W') (o : Nat) v (hv : W.cell? ⟨g, o, none⟩ = some v) => (hb.cell (p := ⟨g, o, none⟩) hgs).trans hv
      have N1 := Lib.hid n1
      have N2 := Lib.hid n2
      have N6 := Lib.hid n6
      have N7 := Lib.hid n7
      have N8 := Lib.hid n8
      have N9 := Lib.hid n9
      have N10 := Lib.hid n10
      clear n1 n2 n6 n7 n8 n9 n10
      go_loopw [4, 20] (fun _ s wr => ∃ i : Nat, i ≤ pn ∧ s = .int .i64 i ∧ Below W.heap.size W wr) (fun _ s _ => pn - (intOf s).toNat)
      case atStart => exact ⟨0, by omega, rfl, Below.refl _ _⟩
      case round =>
        obtain ⟨i, hi, rfl, hb⟩ := hrel
        by_cases hlt : i < pn
        · obtain ⟨ad, e, p, rfl, had, c0, c1, _⟩ := hw1.on hb i hlt
          have HB := Lib.hid (hb.trans ((bl1 wr (.cells #[.int .i64 e, .int .i64 p] 41)).mono hb.size))
          go_wp2_with fail
          all_goals
            first
            | (go_ret; exact ⟨_, rfl, hb0.trans (HB.out.mono hb0.size)⟩)
            | (go_roundw
               case rel => exact ⟨i + 1, by omega, by go_num, HB.out⟩
               case measure => simp [intOf]; omega)
        · have hge : pn ≤ i := by omega
          have n1 := HN.out wr hb 1 _ N1.out
          have n2 := HN.out wr hb 2 _ N2.out
          have n6 := HN.out wr hb 6 _ N6.out
          have n7 := HN.out wr hb 7 _ N7.out
          have n8 := HN.out wr hb 8 _ N8.out
          have n9 := HN.out wr hb 9 _ N9.out
          have n10 := HN.out wr hb 10 _ N10.out
          go_wp2_with fail
          clear n6 n7 n8 n9 n10
          go_loopw [6, 45] (fun _ s wx => ∃ j : Nat, j ≤ 5 ∧ s = .int .i64 j ∧ Below W.heap.size W wx) (fun _ s _ => 5 - (intOf s).toNat)
          case atStart => exact ⟨0, by omega, rfl, hb⟩
          case round =>
            obtain ⟨j, hj, rfl, hb⟩ := hrel
            by_cases hj5 : j < 5
            · obtain ⟨z, hz⟩ : ∃ z, ∀ W, (Instr.index 37 (.agg #[Value.int .i64 h0, .int .i64 h1, .int .i64 h2, .int .i64 h3, .int .i64 h4]) (.int .i64 (j : Int))).run Tryz.prog W = .ok (.int .i64 z) W := by
                rcases (by omega : j = 0 ∨ j = 1 ∨ j = 2 ∨ j = 3 ∨ j = 4) with rfl | rfl | rfl | rfl | rfl
                · exact ⟨h0, fun W => by simp [Instr.index, go_sem]⟩
                · exact ⟨h1, fun W => by simp [Instr.index, go_sem]⟩
                · exact ⟨h2, fun W => by simp [Instr.index, go_sem]⟩
                · exact ⟨h3, fun W => by simp [Instr.index, go_sem]⟩
                · exact ⟨h4, fun W => by simp [Instr.index, go_sem]⟩
              have hj5' : (j : Int) < 5 := by omega
              go_wp2_with fail
              all_goals
                first
                | (go_ret; exact ⟨_, rfl, hb0.trans (hb.mono hb0.size)⟩)
                | (go_roundw
                   case rel => exact ⟨j + 1, by omega, by go_num, hb⟩
                   case measure => simp [intOf]; omega)
            · have hj5' : ¬ (j : Int) < 5 := by omega
              have n1 := HN.out wr hb 1 _ N1.out
              have n2 := HN.out wr hb 2 _ N2.out
              go_wp2_with fail
              all_goals
                go_ret
                exact ⟨_, rfl, hb0.trans (hb.mono hb0.size)⟩
end Go.Proofs.YtebcfiifaclniaaGreat

/- A row of runs in memory: ticks of one, of all, whose a tick is, how often one begins, the same row, a frame's. -/
namespace Go.Proofs.YtebcfiifaclniaaGreat
open Go.RowKit Tab
set_option linter.unusedSimpArgs false
set_option linter.unusedVariables false

theorem cast_add_if (a b : Nat) (P : Prop) [Decidable P] (h : P) : ((a + (if P then b else 0) : Nat) : Int) = (a : Int) + (b : Int) := by rw [if_pos h]; omega
theorem tkOf_all (p : Int) (L : List Rn) (i : Nat) : tkOf p (L.take i) ≤ ticks L := by
  have h1 := tkOf_le p (L.take i)
  have h2 := take_ticks L i
  omega
set_option maxRecDepth 100000 in
set_option maxHeartbeats 1600000 in
theorem ticks_any (A : Option Addr) (n cap : Nat) (L : List Rn) (p : Int) (w : World) (h : RdR w w.heap.size A n L) (hc : n ≤ cap) (hn : n ≤ 1048576) (ht : ticks L ≤ 1099511627776) :
    Calls Tryz.prog 97 #[.slice A n cap, .int .i64 p] w (Ans (.int .i64 (tkOf p L : Nat)) w) := by
  go_enter Tryz.func97, Tryz.ntmps97
  go_wp2_with fail
  go_loopw [5, 10] (fun q s wr => ∃ (i m : Nat), i ≤ n ∧ s = .int .i64 i ∧ q = .int .i64 m ∧ m = tkOf p (L.take i) ∧ Below w.heap.size w wr) (fun _ s _ => n - (intOf s).toNat)
  case atStart => exact ⟨0, 0, by omega, rfl, rfl, by simp [tkOf], Below.refl _ _⟩
  case round =>
    obtain ⟨i, m, hi, rfl, rfl, hm, hb⟩ := hrel
    have hmt := tkOf_all p L i
    rw [← hm] at hmt
    by_cases hlt : i < n
    · obtain ⟨ad, r, rfl, had, hr, c0, c1⟩ := (h.on hb).at_ hlt
      have hmore := tkOf_more (p := p) hr
      have hall := tkOf_all p L (i + 1)
      rw [hmore, ← hm] at hall
      rw [← hm] at hmore
      have hbl := bl1 wr (.cells #[.int .i64 r.p, .int .i64 (r.n : Int)] 95)
      have HB := Lib.hid (hb.trans (hbl.mono hb.size))
      by_cases hp : r.p = p
      · rw [if_pos hp] at hall hmore
        have hpb : (r.p == p) = true := beq_iff_eq.2 hp
        have HM := Lib.hid hmore
        clear hp hmore hm hbl hr
        go_wp2_with fail
        refine (more_any (m : Int) (r.n : Int) _ _ _ (by omega) (by omega) (by omega) rfl rfl).mono ?_
        rintro e w1 ⟨rfl, rfl⟩
        go_wp2_with fail
        go_roundw
        case rel => exact ⟨i + 1, m + r.n, by omega, by go_num, by go_num, HM.out.symm, HB.out⟩
        case measure => simp [intOf]; omega
      · rw [if_neg hp] at hall hmore
        have hpb : (r.p == p) = false := beq_eq_false_iff_ne.2 hp
        have HM := Lib.hid hmore
        clear hp hmore hm hbl hr
        go_wp2_with fail
        go_roundw
        case rel => exact ⟨i + 1, m, by omega, by go_num, rfl, HM.out.symm, HB.out⟩
        case measure => simp [intOf]; omega
    · have hge : n ≤ i := by omega
      have e : m = tkOf p L := by rw [hm, List.take_of_length_le (by rw [h.len]; exact hge)]
      have HE := Lib.hid e
      clear e hm
      go_wp2_with fail
      go_ret
      exact Ans.mk (by rw [HE.out]; rfl) hb
set_option maxRecDepth 100000 in
set_option maxHeartbeats 1600000 in
theorem length_any (A : Option Addr) (n cap : Nat) (L : List Rn) (w : World) (h : RdR w w.heap.size A n L) (hc : n ≤ cap) (hn : n ≤ 1048576) (ht : ticks L ≤ 1099511627776) :
    Calls Tryz.prog 85 #[.slice A n cap] w (Ans (.int .i64 (ticks L : Nat)) w) := by
  go_enter Tryz.func85, Tryz.ntmps85
  go_wp2_with fail
  go_loopw [3, 8] (fun q s wr => ∃ (i m : Nat), i ≤ n ∧ s = .int .i64 i ∧ q = .int .i64 m ∧ m = ticks (L.take i) ∧ Below w.heap.size w wr) (fun _ s _ => n - (intOf s).toNat)
  case atStart => exact ⟨0, 0, by omega, rfl, rfl, by simp [ticks], Below.refl _ _⟩
  case round =>
    obtain ⟨i, m, hi, rfl, rfl, hm, hb⟩ := hrel
    have hmt := take_ticks L i
    rw [← hm] at hmt
    by_cases hlt : i < n
    · obtain ⟨ad, r, rfl, had, hr, c0, c1⟩ := (h.on hb).at_ hlt
      have hmore := take_more hr
      have hall := take_ticks L (i + 1)
      rw [hmore, ← hm] at hall
      rw [← hm] at hmore
      have hbl := bl1 wr (.cells #[.int .i64 r.p, .int .i64 (r.n : Int)] 95)
      have HB := Lib.hid (hb.trans (hbl.mono hb.size))
      have HM := Lib.hid hmore
      clear hmore hm hbl hr
      go_wp2_with fail
      refine (more_any (m : Int) (r.n : Int) _ _ _ (by omega) (by omega) (by omega) rfl rfl).mono ?_
      rintro e w1 ⟨rfl, rfl⟩
      go_wp2_with fail
      go_roundw
      case rel => exact ⟨i + 1, m + r.n, by omega, by go_num, by go_num, HM.out.symm, HB.out⟩
      case measure => simp [intOf]; omega
    · have hge : n ≤ i := by omega
      have e : m = ticks L := by rw [hm, List.take_of_length_le (by rw [h.len]; exact hge)]
      have HE := Lib.hid e
      clear e hm
      go_wp2_with fail
      go_ret
      exact Ans.mk (by rw [HE.out]; rfl) hb
theorem rv_neqR (x y : Int) (W : World) : (binOp .neq 95 (rv x y) (rv x y)).run Tryz.prog W = .ok (.bool false) W := by
  simp [run_neq_struct, go_sem]
end Go.Proofs.YtebcfiifaclniaaGreat
