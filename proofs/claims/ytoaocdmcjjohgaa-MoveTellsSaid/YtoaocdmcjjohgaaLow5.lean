/- Contracts and mathematics that the texts behind it stand on: War, Gram, Vec, Wref, Wdif, May, Words, Late, Budg. -/
import Derived.Test.YtoaocdmcjjohgaaLow1
import Derived.Test.YtoaocdmcjjohgaaLow2
import Derived.Test.YtoaocdmcjjohgaaLow4
import Derived.Deep.Cut
/- Closing a matrix: Warshall's recurrence, what it is (the least that is closed), what grows with it; who depends on whom, who sways whom, out of partitions and channels: plain mathematics. -/
namespace Go.Proofs.Ytoaocdmcjjohgaa
namespace Tab

/-- What is reached by ways through those below k. -/
def War (m : Nat → Nat → Bool) : Nat → Nat → Nat → Bool
  | 0, a, b => m a b
  | k + 1, a, b => War m k a b || (War m k a k && War m k k b)
theorem war_ge (m : Nat → Nat → Bool) (k a b : Nat) (h : War m k a b = true) : War m (k + 1) a b = true := by
  simp only [War, h, Bool.true_or]
theorem war_up (m : Nat → Nat → Bool) (k d a b : Nat) (h : War m k a b = true) : War m (k + d) a b = true := by
  induction d with
  | zero => exact h
  | succ d ih => exact war_ge m (k + d) a b ih
theorem war_from (m : Nat → Nat → Bool) (n a b : Nat) (h : m a b = true) : War m n a b = true := by
  have := war_up m 0 n a b h
  rwa [Nat.zero_add] at this
/-- Row and column k stay in step k: so it may be done in place. -/
theorem war_col (m : Nat → Nat → Bool) (k a : Nat) : War m (k + 1) a k = War m k a k := by
  simp only [War]
  cases War m k a k <;> simp
theorem war_row (m : Nat → Nat → Bool) (k b : Nat) : War m (k + 1) k b = War m k k b := by
  simp only [War]
  cases War m k k k <;> cases War m k k b <;> simp
theorem war_step {m : Nat → Nat → Bool} {k a b : Nat} : War m (k + 1) a b = true ↔ War m k a b = true ∨ (War m k a k = true ∧ War m k k b = true) := by
  simp only [War, Bool.or_eq_true, Bool.and_eq_true]
theorem war_trans (m : Nat → Nat → Bool) (k : Nat) : ∀ a b c, c < k → War m k a c = true → War m k c b = true → War m k a b = true := by
  induction k with
  | zero => intro a b c h; omega
  | succ k ih =>
    intro a b c hc h1 h2
    by_cases hk : c = k
    · subst hk
      rw [war_col] at h1
      rw [war_row] at h2
      exact war_step.2 (.inr ⟨h1, h2⟩)
    · have hlt : c < k := by omega
      rw [war_step] at h1 h2 ⊢
      rcases h1 with h1 | ⟨h1, h1'⟩ <;> rcases h2 with h2 | ⟨h2, h2'⟩
      · exact .inl (ih a b c hlt h1 h2)
      · exact .inr ⟨ih a k c hlt h1 h2, h2'⟩
      · exact .inr ⟨h1, ih k b c hlt h1' h2⟩
      · exact .inr ⟨h1, h2'⟩
/-- Closed below n. -/
def Shut (n : Nat) (M : Nat → Nat → Bool) : Prop := ∀ a b c, a < n → b < n → c < n → M a c = true → M c b = true → M a b = true
theorem war_shut (m : Nat → Nat → Bool) (n : Nat) : Shut n (War m n) := fun a b c _ _ hc h1 h2 => war_trans m n a b c hc h1 h2
/-- No closed one that has m has less. -/
theorem war_least {m M : Nat → Nat → Bool} {n : Nat} (hM : Shut n M) (hm : ∀ a b, a < n → b < n → m a b = true → M a b = true) (k : Nat) (hk : k ≤ n) : ∀ a b, a < n → b < n → War m k a b = true → M a b = true := by
  induction k with
  | zero => intro a b ha hb h; exact hm a b ha hb h
  | succ k ih =>
    intro a b ha hb h
    rcases war_step.1 h with h | ⟨h1, h2⟩
    · exact ih (by omega) a b ha hb h
    · exact hM a b k ha hb (by omega) (ih (by omega) a k ha (by omega) h1) (ih (by omega) k b (by omega) hb h2)
/-- What is closed stays. -/
theorem war_stays {M : Nat → Nat → Bool} {n : Nat} (hM : Shut n M) (a b : Nat) (ha : a < n) (hb : b < n) : War M n a b = M a b := by
  rw [Bool.eq_iff_iff]
  exact ⟨war_least hM (fun _ _ _ _ h => h) n (Nat.le_refl _) a b ha hb, war_from M n a b⟩
/-- Whatever closes m to the least is this. -/
theorem war_is {m M : Nat → Nat → Bool} {n : Nat} (hM : Shut n M) (hm : ∀ a b, a < n → b < n → m a b = true → M a b = true) (hl : ∀ a b, a < n → b < n → M a b = true → War m n a b = true) (a b : Nat) (ha : a < n) (hb : b < n) : M a b = War m n a b := by
  rw [Bool.eq_iff_iff]
  exact ⟨hl a b ha hb, war_least hM hm n (Nat.le_refl _) a b ha hb⟩
/-- More is reached by more. -/
theorem war_more {m M : Nat → Nat → Bool} {n : Nat} (hm : ∀ a b, a < n → b < n → m a b = true → M a b = true) : ∀ a b, a < n → b < n → War m n a b = true → War M n a b = true :=
  war_least (war_shut M n) (fun a b ha hb h => war_from M n a b (hm a b ha hb h)) n (Nat.le_refl _)
/-- It hangs on what is below n alone. -/
theorem war_congr {m M : Nat → Nat → Bool} {n : Nat} (h : ∀ a b, a < n → b < n → m a b = M a b) (k : Nat) (hk : k ≤ n) : ∀ a b, a < n → b < n → War m k a b = War M k a b := by
  induction k with
  | zero => intro a b ha hb; exact h a b ha hb
  | succ k ih =>
    intro a b ha hb
    simp only [War]
    rw [ih (by omega) a b ha hb, ih (by omega) a k ha (by omega), ih (by omega) k b (by omega) hb]

/-- A partition: may it change the schedule, stop all. -/
structure Pt where
  sched : Bool
  stop : Bool
/-- A channel: from whom, to whom, is it a queue. -/
structure Ch where
  from_ : Int
  to_ : Int
  queue : Bool
def inP (n : Nat) (p : Int) : Bool := decide (0 ≤ p) && decide (p < n)
def schedOf (P : List Pt) (a : Nat) : Bool := (P[a]?.map (·.sched)).getD false
def stopOf (P : List Pt) (a : Nat) : Bool := (P[a]?.map (·.stop)).getD false
/-- Does a channel join a and b, this way? -/
def joins (n : Nat) (x : Ch) (a b : Nat) : Bool := inP n x.from_ && inP n x.to_ && decide (x.from_ = a) && decide (x.to_ = b)
def depF (P : List Pt) (C : List Ch) (a b : Nat) : Bool := decide (a = b) || (schedOf P a && schedOf P b) || C.any fun x => joins P.length x a b || joins P.length x b a
def swayF (P : List Pt) (C : List Ch) (a b : Nat) : Bool := decide (a = b) || schedOf P a || stopOf P a || C.any fun x => joins P.length x a b || (x.queue && joins P.length x b a)
theorem depF_sym (P : List Pt) (C : List Ch) (a b : Nat) : depF P C a b = depF P C b a := by
  unfold depF
  congr 1
  · congr 1
    · exact decide_eq_decide.2 eq_comm
    · exact Bool.and_comm _ _
  · congr 1
    funext x
    exact Bool.or_comm _ _
theorem depF_self (P : List Pt) (C : List Ch) (a : Nat) : depF P C a a = true := by simp [depF]
theorem swayF_self (P : List Pt) (C : List Ch) (a : Nat) : swayF P C a a = true := by simp [swayF]
theorem depF_chan {P : List Pt} {C : List Ch} {x : Ch} {a b : Nat} (hx : x ∈ C) (h : joins P.length x a b = true) : depF P C a b = true ∧ depF P C b a = true := by
  have h1 : depF P C a b = true := by
    unfold depF
    simp only [Bool.or_eq_true, List.any_eq_true]
    exact .inr ⟨x, hx, .inl h⟩
  exact ⟨h1, by rw [depF_sym]; exact h1⟩
theorem swayF_chan {P : List Pt} {C : List Ch} {x : Ch} {a b : Nat} (hx : x ∈ C) (h : joins P.length x a b = true) : swayF P C a b = true ∧ (x.queue = true → swayF P C b a = true) := by
  unfold swayF
  simp only [Bool.or_eq_true, List.any_eq_true, Bool.and_eq_true]
  exact ⟨.inr ⟨x, hx, .inl h⟩, fun hq => .inr ⟨x, hx, .inr ⟨hq, h⟩⟩⟩
/-- With a channel more nobody sways fewer. -/
theorem swayF_more (P : List Pt) (C D : List Ch) (a b : Nat) (h : swayF P C a b = true) : swayF P (C ++ D) a b = true := by
  unfold swayF at h ⊢
  rw [List.any_append]
  revert h
  cases decide (a = b) <;> cases schedOf P a <;> cases stopOf P a <;> cases (C.any fun x => joins P.length x a b || (x.queue && joins P.length x b a)) <;> simp
/-- The channels one by one, from the first on: what a loop over them has done. -/
theorem depF_snoc (P : List Pt) (C : List Ch) (x : Ch) (a b : Nat) : depF P (C ++ [x]) a b = (depF P C a b || (joins P.length x a b || joins P.length x b a)) := by
  unfold depF
  rw [List.any_append, List.any_cons, List.any_nil, Bool.or_false, Bool.or_assoc _ _ (joins P.length x a b || joins P.length x b a)]
theorem swayF_snoc (P : List Pt) (C : List Ch) (x : Ch) (a b : Nat) : swayF P (C ++ [x]) a b = (swayF P C a b || (joins P.length x a b || (x.queue && joins P.length x b a))) := by
  unfold swayF
  rw [List.any_append, List.any_cons, List.any_nil, Bool.or_false, Bool.or_assoc _ _ (joins P.length x a b || (x.queue && joins P.length x b a))]
/-- Who reaches p, rising. -/
def reachL (P : List Pt) (C : List Ch) (p : Nat) : List Nat := (List.range P.length).filter fun a => War (swayF P C) P.length a p
theorem reachL_self (P : List Pt) (C : List Ch) (p : Nat) (h : p < P.length) : p ∈ reachL P C p := by
  unfold reachL
  rw [List.mem_filter, List.mem_range]
  exact ⟨h, war_from _ _ _ _ (swayF_self P C p)⟩
theorem filter_sub {q r : Nat → Bool} (l : List Nat) (h : ∀ a ∈ l, q a = true → r a = true) : (l.filter q).Sublist (l.filter r) := by
  induction l with
  | nil => exact List.Sublist.refl _
  | cons x l ih =>
    have h1 := ih fun a ha => h a (by simp [ha])
    cases hq : q x with
    | true => rw [List.filter_cons_of_pos hq, List.filter_cons_of_pos (h x (by simp) hq)]; exact h1.cons_cons x
    | false =>
      rw [List.filter_cons_of_neg (by simp [hq])]
      cases hr : r x with
      | true => rw [List.filter_cons_of_pos hr]; exact h1.cons x
      | false => rw [List.filter_cons_of_neg (by simp [hr])]; exact h1
/-- With channels more it is reached by those, and others between them. -/
theorem reachL_more (P : List Pt) (C D : List Ch) (p : Nat) (hp : p < P.length) : (reachL P C p).Sublist (reachL P (C ++ D) p) := by
  unfold reachL
  refine filter_sub _ fun a ha h => ?_
  rw [List.mem_range] at ha
  exact war_more (fun x y _ _ h => swayF_more P C D x y h) a p ha hp h
end Tab
end Go.Proofs.Ytoaocdmcjjohgaa

/- Searching a graph by a list of things to do; closing by searches; who reaches by channels, back from one: plain mathematics. -/
namespace Go.Proofs.Ytoaocdmcjjohgaa
namespace Tab

/-- What is led to: the first ones, and whom a step leads to from there. -/
inductive Rch (S : Nat → List Nat) (F : List Nat) : Nat → Prop
  | base {a : Nat} : a ∈ F → Rch S F a
  | step {a b : Nat} : Rch S F b → a ∈ S b → Rch S F a
theorem Rch.from {S : Nat → List Nat} {F G : List Nat} (h : ∀ a ∈ F, Rch S G a) {a : Nat} (ha : Rch S F a) : Rch S G a := by
  induction ha with
  | base h1 => exact h _ h1
  | step _ h2 ih => exact .step ih h2
def put1 {α : Type} (f : Nat → α) (i : Nat) (v : α) : Nat → α := fun j => if j = i then v else f j
theorem put1_same {α : Type} (f : Nat → α) (i : Nat) (v : α) : put1 f i v i = v := if_pos rfl
theorem put1_other {α : Type} {f : Nat → α} {i j : Nat} {v : α} (h : j ≠ i) : put1 f i v j = f j := if_neg h
/-- Those below n that are not marked. -/
def un : Nat → (Nat → Bool) → Nat
  | 0, _ => 0
  | n + 1, M => un n M + if M n = true then 0 else 1
theorem un_congr {n : Nat} {M N : Nat → Bool} (h : ∀ j, j < n → M j = N j) : un n M = un n N := by
  induction n with
  | zero => rfl
  | succ n ih => simp only [un]; rw [ih fun j hj => h j (by omega), h n (by omega)]
theorem un_put {n : Nat} {M : Nat → Bool} {x : Nat} (hx : x < n) (h : M x = false) : un n (put1 M x true) + 1 = un n M := by
  induction n with
  | zero => omega
  | succ n ih =>
    simp only [un]
    by_cases e : x = n
    · subst e
      rw [put1_same, h, if_pos rfl, if_neg (by simp), un_congr (N := M) fun j hj => put1_other (by omega)]
    · have := ih (by omega)
      rw [put1_other (j := n) (by omega)]
      omega
/-- Whatever must be marked is, or is yet to come. -/
structure Cov (n : Nat) (S : Nat → List Nat) (F : List Nat) (M : Nat → Bool) (T : List (List Nat)) : Prop where
  first : ∀ x ∈ F, M x = true ∨ ∃ L ∈ T, x ∈ L
  next : ∀ b, b < n → M b = true → ∀ y ∈ S b, M y = true ∨ ∃ L ∈ T, y ∈ L
  snd : ∀ a, M a = true → Rch S F a
  todo : ∀ L ∈ T, ∀ x ∈ L, x < n ∧ Rch S F x
section
variable {n : Nat} {S : Nat → List Nat} {F : List Nat} {M : Nat → Bool} {T : List (List Nat)}
theorem Cov.start (hF : ∀ x ∈ F, x < n) : Cov n S F (fun _ => false) [F] :=
  ⟨fun x hx => .inr ⟨F, by simp, hx⟩, fun b _ h => by simp at h, fun a h => by simp at h, fun L hL x hx => by simp at hL; subst hL; exact ⟨hF x hx, .base hx⟩⟩
theorem Cov.pop {L : List Nat} (h : Cov n S F M (T ++ [L])) : Cov n S F M (L :: T) := by
  have e : ∀ K : List Nat, K ∈ T ++ [L] ↔ K ∈ L :: T := fun K => by simp [or_comm]
  refine ⟨fun x hx => (h.first x hx).imp id fun ⟨K, hK, h2⟩ => ⟨K, (e K).1 hK, h2⟩, fun b hb hm y hy => (h.next b hb hm y hy).imp id fun ⟨K, hK, h2⟩ => ⟨K, (e K).1 hK, h2⟩, h.snd, fun K hK => h.todo K ((e K).2 hK)⟩
theorem Cov.drop (h : Cov n S F M ([] :: T)) : Cov n S F M T := by
  refine ⟨fun x hx => (h.first x hx).imp id ?_, fun b hb hm y hy => (h.next b hb hm y hy).imp id ?_, h.snd, fun K hK => h.todo K (by simp [hK])⟩
  all_goals
    rintro ⟨K, hK, h2⟩
    rcases List.mem_cons.1 hK with e | hK
    · subst e; cases h2
    · exact ⟨K, hK, h2⟩
theorem Cov.skip {x : Nat} {L : List Nat} (h : Cov n S F M ((x :: L) :: T)) (hx : M x = true) : Cov n S F M (L :: T) := by
  have key : ∀ y, (M y = true ∨ ∃ K ∈ (x :: L) :: T, y ∈ K) → (M y = true ∨ ∃ K ∈ L :: T, y ∈ K) := by
    rintro y (h1 | ⟨K, hK, h2⟩)
    · exact .inl h1
    · rcases List.mem_cons.1 hK with e | hK
      · subst e
        rcases List.mem_cons.1 h2 with e | h2
        · subst e; exact .inl hx
        · exact .inr ⟨L, by simp, h2⟩
      · exact .inr ⟨K, by simp [hK], h2⟩
  refine ⟨fun y hy => key y (h.first y hy), fun b hb hm y hy => key y (h.next b hb hm y hy), h.snd, fun K hK y hy => ?_⟩
  rcases List.mem_cons.1 hK with e | hK
  · subst e; exact h.todo _ List.mem_cons_self y (List.mem_cons_of_mem _ hy)
  · exact h.todo K (by simp [hK]) y hy
theorem Cov.mark {x : Nat} {L : List Nat} (h : Cov n S F M ((x :: L) :: T)) (hS : ∀ b, b < n → ∀ y ∈ S b, y < n) : Cov n S F (put1 M x true) (L :: (T ++ [S x])) := by
  have hx := h.todo (x :: L) (by simp) x (by simp)
  have mono : ∀ y, M y = true → put1 M x true y = true := fun y hy => by
    by_cases e : y = x
    · subst e; exact put1_same _ _ _
    · rw [put1_other e]; exact hy
  have key : ∀ y, (M y = true ∨ ∃ K ∈ (x :: L) :: T, y ∈ K) → (put1 M x true y = true ∨ ∃ K ∈ L :: (T ++ [S x]), y ∈ K) := by
    rintro y (h1 | ⟨K, hK, h2⟩)
    · exact .inl (mono y h1)
    · rcases List.mem_cons.1 hK with e | hK
      · subst e
        rcases List.mem_cons.1 h2 with e | h2
        · subst e; exact .inl (put1_same _ _ _)
        · exact .inr ⟨L, by simp, h2⟩
      · exact .inr ⟨K, by simp [hK], h2⟩
  refine ⟨fun y hy => key y (h.first y hy), fun b hb hm y hy => ?_, fun a ha => ?_, fun K hK y hy => ?_⟩
  · by_cases e : b = x
    · subst e; exact .inr ⟨S b, by simp, hy⟩
    · rw [put1_other e] at hm
      exact key y (h.next b hb hm y hy)
  · by_cases e : a = x
    · subst e; exact hx.2
    · rw [put1_other e] at ha
      exact h.snd a ha
  · rcases List.mem_cons.1 hK with e | hK
    · subst e; exact h.todo _ List.mem_cons_self y (List.mem_cons_of_mem _ hy)
    · rcases List.mem_append.1 hK with hK | hK
      · exact h.todo K (by simp [hK]) y hy
      · simp at hK
        subst hK
        exact ⟨hS x hx.1 y hy, .step hx.2 hy⟩
theorem Cov.done (h : Cov n S F M []) (hF : ∀ x ∈ F, x < n) (hS : ∀ b, b < n → ∀ y ∈ S b, y < n) (a : Nat) : M a = true ↔ Rch S F a := by
  refine ⟨h.snd a, fun ha => ?_⟩
  have key : M a = true ∧ a < n := by
    induction ha with
    | base h1 =>
      rcases h.first _ h1 with h2 | ⟨K, hK, _⟩
      · exact ⟨h2, hF _ h1⟩
      · cases hK
    | step _ h2 ih =>
      rcases h.next _ ih.2 ih.1 _ h2 with h3 | ⟨K, hK, _⟩
      · exact ⟨h3, hS _ ih.2 _ h2⟩
      · cases hK
  exact key.1
end
/-- Where a row is true, rising. -/
def plcs (n : Nat) (r : Nat → Bool) : List Nat := (List.range n).filter r
theorem mem_plcs {n : Nat} {r : Nat → Bool} {a : Nat} : a ∈ plcs n r ↔ a < n ∧ r a = true := by simp [plcs, List.mem_filter]
theorem plcs_succ (n : Nat) (r : Nat → Bool) : plcs (n + 1) r = if r n = true then plcs n r ++ [n] else plcs n r := by
  unfold plcs
  rw [List.range_succ, List.filter_append]
  split <;> simp_all
theorem plcs_len (n : Nat) (r : Nat → Bool) : (plcs n r).length ≤ n := by
  unfold plcs
  have := List.length_filter_le r (List.range n)
  rwa [List.length_range] at this
theorem plcs_congr {n : Nat} {r s : Nat → Bool} (h : ∀ a, a < n → r a = s a) : plcs n r = plcs n s := by
  unfold plcs
  exact List.filter_congr fun a ha => h a (by simpa using ha)
/-- Searches from everywhere close a matrix. -/
theorem rch_war {n : Nat} {m M : Nat → Nat → Bool} (h : ∀ a, a < n → ∀ b, M a b = true ↔ Rch (fun x => plcs n (m x)) (plcs n (m a)) b) (a b : Nat) (ha : a < n) (hb : b < n) : M a b = War m n a b := by
  refine war_is (fun a b c ha hb hc h1 h2 => ?_) (fun a b ha hb h1 => ?_) (fun a b ha hb h1 => ?_) a b ha hb
  · rw [h a ha] at h1 ⊢
    rw [h c hc] at h2
    exact Rch.from (fun x hx => .step h1 hx) h2
  · rw [h a ha]
    exact .base (mem_plcs.2 ⟨hb, h1⟩)
  · rw [h a ha] at h1
    have key : b < n ∧ War m n a b = true := by
      clear hb
      induction h1 with
      | base h2 => exact ⟨(mem_plcs.1 h2).1, war_from m n _ _ (mem_plcs.1 h2).2⟩
      | step _ h2 ih =>
        have h3 := mem_plcs.1 h2
        exact ⟨h3.1, war_shut m n a _ _ ha h3.1 ih.1 ih.2 (war_from m n _ _ h3.2)⟩
    exact key.2
/-- The ways between partitions: what a loop over the channels gives. -/
def wayOf (n : Nat) (x : Ch) : List (Nat × Nat) := if inP n x.from_ && inP n x.to_ then (x.from_.toNat, x.to_.toNat) :: (if x.queue then [(x.to_.toNat, x.from_.toNat)] else []) else []
def wayL (n : Nat) (C : List Ch) : List (Nat × Nat) := C.flatMap (wayOf n)
theorem inP_iff {n : Nat} {p : Int} : inP n p = true ↔ 0 ≤ p ∧ p < n := by simp [inP]
theorem joins_iff {n : Nat} {x : Ch} {a b : Nat} : joins n x a b = true ↔ (inP n x.from_ = true ∧ inP n x.to_ = true) ∧ x.from_ = a ∧ x.to_ = b := by
  simp only [joins, Bool.and_eq_true, decide_eq_true_eq, and_assoc]
theorem mem_wayOf {n : Nat} {x : Ch} {a b : Nat} : (a, b) ∈ wayOf n x ↔ (joins n x a b || (x.queue && joins n x b a)) = true := by
  rw [Bool.or_eq_true, Bool.and_eq_true, joins_iff, joins_iff]
  unfold wayOf
  by_cases h1 : inP n x.from_ = true
  · by_cases h2 : inP n x.to_ = true
    · have k1 := inP_iff.1 h1
      have k2 := inP_iff.1 h2
      rw [h1, h2]
      simp only [Bool.and_self, if_true, List.mem_cons, Prod.mk.injEq, true_and]
      cases x.queue with
      | true =>
        simp only [if_true, List.mem_singleton, Prod.mk.injEq, true_and]
        omega
      | false =>
        simp only [Bool.false_eq_true, if_false, List.not_mem_nil, or_false, false_and]
        omega
    · simp only [Bool.not_eq_true] at h2
      rw [h2]
      simp
  · simp only [Bool.not_eq_true] at h1
    rw [h1]
    simp
theorem mem_wayL {n : Nat} {C : List Ch} {a b : Nat} : (a, b) ∈ wayL n C ↔ (C.any fun x => joins n x a b || (x.queue && joins n x b a)) = true := by
  unfold wayL
  rw [List.mem_flatMap, List.any_eq_true]
  exact ⟨fun ⟨x, h1, h2⟩ => ⟨x, h1, mem_wayOf.1 h2⟩, fun ⟨x, h1, h2⟩ => ⟨x, h1, mem_wayOf.2 h2⟩⟩
theorem wayL_lt {n : Nat} {C : List Ch} {a b : Nat} (h : (a, b) ∈ wayL n C) : a < n ∧ b < n := by
  rw [mem_wayL, List.any_eq_true] at h
  obtain ⟨x, _, h⟩ := h
  rw [Bool.or_eq_true, Bool.and_eq_true, joins_iff, joins_iff, inP_iff, inP_iff] at h
  omega
theorem swayF_iff {P : List Pt} {C : List Ch} {a b : Nat} : swayF P C a b = true ↔ a = b ∨ schedOf P a = true ∨ stopOf P a = true ∨ (a, b) ∈ wayL P.length C := by
  unfold swayF
  rw [mem_wayL]
  simp only [Bool.or_eq_true, decide_eq_true_eq, or_assoc]
theorem depF_iff {P : List Pt} {C : List Ch} {a b : Nat} : depF P C a b = true ↔ a = b ∨ (schedOf P a = true ∧ schedOf P b = true) ∨ (a, b) ∈ wayL P.length C ∨ (b, a) ∈ wayL P.length C := by
  unfold depF
  rw [mem_wayL, mem_wayL]
  simp only [Bool.or_eq_true, Bool.and_eq_true, decide_eq_true_eq, List.any_eq_true, or_assoc]
  constructor
  · rintro (h | h | ⟨x, hx, h | h⟩)
    · exact .inl h
    · exact .inr (.inl h)
    · exact .inr (.inr (.inl ⟨x, hx, .inl h⟩))
    · exact .inr (.inr (.inr ⟨x, hx, .inl h⟩))
  · rintro (h | h | ⟨x, hx, h | h⟩ | ⟨x, hx, h | h⟩)
    · exact .inl h
    · exact .inr (.inl h)
    · exact .inr (.inr ⟨x, hx, .inl h⟩)
    · exact .inr (.inr ⟨x, hx, .inr h.2⟩)
    · exact .inr (.inr ⟨x, hx, .inr h⟩)
    · exact .inr (.inr ⟨x, hx, .inl h.2⟩)
/-- The partitions that sway all. -/
def rulL (P : List Pt) : List Nat := plcs P.length fun a => schedOf P a || stopOf P a
/-- From whom a way leads to x, in the order of the ways. -/
def backL (W : List (Nat × Nat)) (x : Nat) : List Nat := (W.filter fun y => decide (y.2 = x)).map (·.1)
theorem mem_backL {W : List (Nat × Nat)} {x a : Nat} : a ∈ backL W x ↔ (a, x) ∈ W := by
  unfold backL
  rw [List.mem_map]
  constructor
  · rintro ⟨⟨p, q⟩, h1, rfl⟩
    rw [List.mem_filter] at h1
    simp only [decide_eq_true_eq] at h1
    obtain ⟨h1, rfl⟩ := h1
    exact h1
  · intro h
    exact ⟨(a, x), by rw [List.mem_filter]; exact ⟨h, by simp⟩, rfl⟩
theorem backL_snoc (W : List (Nat × Nat)) (y : Nat × Nat) (x : Nat) : backL (W ++ [y]) x = if y.2 = x then backL W x ++ [y.1] else backL W x := by
  unfold backL
  rw [List.filter_append, List.map_append]
  by_cases h : y.2 = x
  · simp [h]
  · simp [h]
/-- Back from p by the ways, and from those that sway all. -/
theorem rch_reach (P : List Pt) (C : List Ch) (p : Nat) (hp : p < P.length) (a : Nat) (ha : a < P.length) : Rch (backL (wayL P.length C)) (rulL P ++ [p]) a ↔ War (swayF P C) P.length a p = true := by
  constructor
  · intro h
    have key : a < P.length ∧ War (swayF P C) P.length a p = true := by
      induction h with
      | base h1 =>
        rename_i x
        rcases List.mem_append.1 h1 with h1 | h1
        · obtain ⟨h2, h3⟩ := mem_plcs.1 h1
          refine ⟨h2, war_from _ _ _ _ (swayF_iff.2 ?_)⟩
          rw [Bool.or_eq_true] at h3
          exact .inr (h3.imp id .inl)
        · simp at h1
          subst h1
          exact ⟨hp, war_from _ _ _ _ (swayF_self P C _)⟩
      | step _ h2 ih =>
        rw [mem_backL] at h2
        have h3 := wayL_lt h2
        have h4 := ih h3.2
        exact ⟨h3.1, war_shut _ _ _ _ _ h3.1 hp h3.2 (war_from _ _ _ _ (swayF_iff.2 (.inr (.inr (.inr h2))))) h4.2⟩
    exact key.2
  · intro h
    have key := war_least (m := swayF P C) (n := P.length) (M := fun x y => @decide (Rch (backL (wayL P.length C)) (rulL P ++ [p]) y → Rch (backL (wayL P.length C)) (rulL P ++ [p]) x) (Classical.propDecidable _)) ?_ ?_ P.length (Nat.le_refl _) a p ha hp h
    · simp only [decide_eq_true_eq] at key
      exact key (.base (by simp))
    · intro x y z _ _ _ h1 h2
      simp only [decide_eq_true_eq] at h1 h2 ⊢
      exact fun h => h1 (h2 h)
    · intro x y hx hy h1
      simp only [decide_eq_true_eq]
      intro h2
      rcases swayF_iff.1 h1 with h3 | h3 | h3 | h3
      · subst h3; exact h2
      · exact .base (List.mem_append.2 (.inl (mem_plcs.2 ⟨hx, by rw [h3]; rfl⟩)))
      · exact .base (List.mem_append.2 (.inl (mem_plcs.2 ⟨hx, by rw [h3, Bool.or_true]⟩)))
      · exact .step h2 (mem_backL.2 h3)
end Tab
end Go.Proofs.Ytoaocdmcjjohgaa

/- Rows of cells that a call owns, as functions; matrices in memory; rows of numbers in rows. -/
namespace Go.Proofs.Ytoaocdmcjjohgaa
open Go.RowKit Tab
set_option linter.unusedSimpArgs false
set_option linter.unusedVariables false

theorem elB : Elt 58 4 1 1 (.bool false) := ⟨Try.underlying58, by kernel_rfl, rfl, by omega⟩
theorem elBB : Elt 47 58 1 24 (.slice none 0 0) := ⟨Try.underlying47, by kernel_rfl, rfl, by omega⟩
/-- Block g, n cells, holds f. -/
structure Vec (w : World) (g n : Nat) (f : Nat → Value) : Prop where
  cell : ∀ j, j < n → w.cell? ⟨g, j, none⟩ = some (f j)
  thaw : ∀ j, w.frozen? ⟨g, j, none⟩ = false
  lt : g < w.heap.size
section
variable {w w' : World} {g n B : Nat} {f f' : Nat → Value}
theorem Vec.keep (h : Vec w g n f) (hk : w'.heap[g]? = w.heap[g]?) (hs : w.heap.size ≤ w'.heap.size) : Vec w' g n f :=
  ⟨fun j hj => (World.cell?_of_block hk).trans (h.cell j hj), fun j => (World.frozen?_of_block hk).trans (h.thaw j), Nat.lt_of_lt_of_le h.lt hs⟩
theorem Vec.below (h : Vec w g n f) (hb : Below B w w') (hg : g < B) : Vec w' g n f := h.keep (hb.block g hg) hb.size
theorem Vec.on (h : Vec w g n f) (hb : Below w.heap.size w w') : Vec w' g n f := h.below hb h.lt
theorem Vec.congr (h : Vec w g n f) (e : ∀ j, j < n → f j = f' j) : Vec w g n f' := ⟨fun j hj => by rw [← e j hj]; exact h.cell j hj, h.thaw, h.lt⟩
theorem Vec.set (h : Vec w g n f) (i : Nat) (v : Value) : Vec (w.setCell ⟨g, i, none⟩ v) g n (put1 f i v) := by
  refine ⟨fun j hj => ?_, fun j => by simpa using h.thaw j, by simpa using h.lt⟩
  by_cases e : j = i
  · subst e
    rw [put1_same]
    exact World.cell?_setCell_same _ _ _ (h.cell j hj)
  · rw [put1_other e, World.cell?_setCell_other _ _ _ _ (by intro e2; injection e2 with _ e3; omega)]
    exact h.cell j hj
theorem Vec.other (h : Vec w g n f) (p : Addr) (v : Value) (hp : g ≠ p.block) : Vec (w.setCell p v) g n f :=
  h.keep (Below.heap_setCell w p v g hp) (by simp)
theorem Vec.drewN (h : Vec w g n f) (q : Nat) : Vec (w.drewN q) g n f := ⟨h.cell, h.thaw, h.lt⟩
theorem Vec.lit (w : World) (C : Array Value) (t : TypeId) (n : Nat) (f : Nat → Value) (h : ∀ j, j < n → C[j]? = some (f j)) : Vec (w.alloc (.cells C t)) w.heap.size n f :=
  ⟨fun j hj => (World.cell?_alloc_mark _ _ _ _ _).trans (h j hj), fun j => by simp, by simp⟩
theorem Vec.rdc (h : Vec w g n f) : RdC w w.heap.size (some ⟨g, 0, none⟩) n f := fun _ => ⟨_, rfl, h.lt, fun j hj => by
  have e : (⟨g, 0, none⟩ : Addr).add j = ⟨g, j, none⟩ := by unfold Addr.add; split <;> simp_all
  rw [e]; exact h.cell j hj⟩
end
theorem made_get (z : Value) (n j : Nat) (h : j < n) : (madeCells #[z] n)[j]? = some z := by
  rw [← Array.getElem?_toList, toList_madeCells_one]
  simp [h]
theorem run_makeB (m : Nat) (hm : m ≤ 1048576) (W : World) : (Instr.makeSlice 58 (.int .i64 (m : Int)) (.int .i64 (m : Int))).run Try.prog W = .ok (.slice (some ⟨W.heap.size, 0, none⟩) m m) (W.alloc (.cells (madeCells #[.bool false] m) 4)) := by
  obtain ⟨i, hi, hz, hs, hby⟩ := info_parts elB.hi
  have hr := run_make (P := Try.prog) W 58 4 i _ elB.ht hi hz .i64 .i64 m m (by omega) (by omega) (by rw [hby]; omega) (by omega)
  rw [hs] at hr
  simp only [Int.toNat_natCast, Nat.mul_one] at hr
  exact hr
theorem run_makeBB (m : Nat) (hm : m ≤ 1048576) (W : World) : (Instr.makeSlice 47 (.int .i64 (m : Int)) (.int .i64 (m : Int))).run Try.prog W = .ok (.slice (some ⟨W.heap.size, 0, none⟩) m m) (W.alloc (.cells (madeCells #[.slice none 0 0] m) 58)) := by
  obtain ⟨i, hi, hz, hs, hby⟩ := info_parts elBB.hi
  have hr := run_make (P := Try.prog) W 47 58 i _ elBB.ht hi hz .i64 .i64 m m (by omega) (by omega) (by rw [hby]; omega) (by omega)
  rw [hs] at hr
  simp only [Int.toNat_natCast, Nat.mul_one] at hr
  exact hr
/-- A matrix of n by n in blocks of its own, B or behind: k rows are laid. -/
structure Mat (w : World) (B g n k : Nat) (G : Nat → Nat) (m : Nat → Nat → Bool) : Prop where
  outer : ∃ f, Vec w g n f ∧ ∀ i, i < k → f i = .slice (some ⟨G i, 0, none⟩) n n
  rows : ∀ i, i < k → Vec w (G i) n fun j => .bool (m i j)
  low : B ≤ g
  ge : ∀ i, i < k → B ≤ G i
  ne : ∀ i, i < k → G i ≠ g
  inj : ∀ i j, i < k → j < k → G i = G j → i = j
def put2 (m : Nat → Nat → Bool) (i j : Nat) (v : Bool) : Nat → Nat → Bool := fun a b => if a = i ∧ b = j then v else m a b
theorem put2_same (m : Nat → Nat → Bool) (i j : Nat) (v : Bool) : put2 m i j v i j = v := if_pos ⟨rfl, rfl⟩
section
variable {w w' : World} {g n k B : Nat} {G : Nat → Nat} {m m' : Nat → Nat → Bool}
theorem Mat.on (h : Mat w B g n k G m) (hb : Below w.heap.size w w') : Mat w' B g n k G m := by
  obtain ⟨f, h1, h2⟩ := h.outer
  exact ⟨⟨f, h1.on hb, h2⟩, fun i hi => (h.rows i hi).on hb, h.low, h.ge, h.ne, h.inj⟩
theorem Mat.drewN (h : Mat w B g n k G m) (q : Nat) : Mat (w.drewN q) B g n k G m := h.on (by
  exact ⟨rfl, rfl, rfl, Nat.le_refl _, fun _ _ => rfl⟩)
theorem Mat.congr (h : Mat w B g n k G m) (e : ∀ i j, i < k → j < n → m i j = m' i j) : Mat w B g n k G m' :=
  ⟨h.outer, fun i hi => (h.rows i hi).congr fun j hj => by rw [e i j hi hj], h.low, h.ge, h.ne, h.inj⟩
theorem Mat.start (w : World) (B n : Nat) (hB : B ≤ w.heap.size) (t : TypeId) (m : Nat → Nat → Bool) (G : Nat → Nat) : Mat (w.alloc (.cells (madeCells #[.slice none 0 0] n) t)) B w.heap.size n 0 G m :=
  ⟨⟨fun _ => .slice none 0 0, Vec.lit w _ t n _ fun j hj => made_get _ n j hj, fun i hi => by omega⟩, fun i hi => by omega, hB, fun i hi => by omega, fun i hi => by omega, fun i j hi => by omega⟩
/-- A row more. -/
theorem Mat.push (h : Mat w B g n k G m) {x : Nat} {b : Nat → Bool} (hx : Vec w x n fun j => .bool (b j)) (hB : B ≤ x) (hg : x ≠ g) (hG : ∀ i, i < k → G i ≠ x) (hk : k < n) :
    Mat (w.setCell ⟨g, k, none⟩ (.slice (some ⟨x, 0, none⟩) n n)) B g n (k + 1) (put1 G k x) (fun i j => if i = k then b j else m i j) := by
  obtain ⟨f, h1, h2⟩ := h.outer
  have hlt : ∀ i, i < k + 1 → i ≠ k → i < k := fun i _ _ => by omega
  refine ⟨⟨_, h1.set k _, fun i hi => ?_⟩, fun i hi => ?_, h.low, fun i hi => ?_, fun i hi => ?_, fun i j hi hj e => ?_⟩
  · by_cases e : i = k
    · subst e; rw [put1_same, put1_same]
    · rw [put1_other e, put1_other e]; exact h2 i (hlt i hi e)
  · by_cases e : i = k
    · subst e
      simp only [put1_same, if_true]
      exact hx.other _ _ hg
    · rw [put1_other e]
      simp only [e, if_false]
      exact (h.rows i (hlt i hi e)).other _ _ (h.ne i (hlt i hi e))
  · by_cases e : i = k
    · subst e; rw [put1_same]; exact hB
    · rw [put1_other e]; exact h.ge i (hlt i hi e)
  · by_cases e : i = k
    · subst e; rw [put1_same]; exact hg
    · rw [put1_other e]; exact h.ne i (hlt i hi e)
  · by_cases e1 : i = k
    · by_cases e2 : j = k
      · omega
      · subst e1
        rw [put1_same, put1_other e2] at e
        exact absurd e.symm (hG j (hlt j hj e2))
    · by_cases e2 : j = k
      · subst e2
        rw [put1_same, put1_other e1] at e
        exact absurd e (hG i (hlt i hi e1))
      · rw [put1_other e1, put1_other e2] at e
        exact h.inj i j (hlt i hi e1) (hlt j hj e2) e
/-- One place of it, and a store there. -/
theorem Mat.at_ (h : Mat w B g n k G m) {i j : Nat} (hi : i < k) (hk : k ≤ n) (hj : j < n) : ∃ x, G i = x ∧ x ≠ g ∧ B ≤ x ∧ g < w.heap.size ∧ x < w.heap.size ∧ w.cell? ⟨g, i, none⟩ = some (.slice (some ⟨x, 0, none⟩) n n) ∧ w.cell? ⟨x, j, none⟩ = some (.bool (m i j)) ∧ w.frozen? ⟨x, j, none⟩ = false ∧
    ∀ v, Mat (w.setCell ⟨x, j, none⟩ (.bool v)) B g n k G (put2 m i j v) ∧ ∀ V, Below B V w → Below B V (w.setCell ⟨x, j, none⟩ (.bool v)) := by
  obtain ⟨f, h1, h2⟩ := h.outer
  refine ⟨G i, rfl, h.ne i hi, h.ge i hi, h1.lt, (h.rows i hi).lt, (h1.cell i (by omega)).trans (by rw [h2 i hi]), (h.rows i hi).cell j hj, (h.rows i hi).thaw j, fun v => ⟨⟨⟨f, h1.other _ _ (h.ne i hi).symm, h2⟩, fun a ha => ?_, h.low, h.ge, h.ne, h.inj⟩, fun V hV => hV.setCell (p := ⟨G i, j, none⟩) (h.ge i hi) _⟩⟩
  by_cases e : a = i
  · subst e
    refine ((h.rows a ha).set j (.bool v)).congr fun b _ => ?_
    unfold put1 put2
    by_cases e2 : b = j <;> simp [e2]
  · refine ((h.rows a ha).other _ _ fun e2 => e (h.inj a i ha hi e2)).congr fun b _ => ?_
    unfold put2
    simp [e]
/-- A row of it, to be read. -/
theorem Mat.row (h : Mat w B g n k G m) {i : Nat} (hi : i < k) (hk : k ≤ n) : ∃ x, G i = x ∧ x ≠ g ∧ w.cell? ⟨g, i, none⟩ = some (.slice (some ⟨x, 0, none⟩) n n) ∧ Vec w x n fun j => .bool (m i j) := by
  obtain ⟨f, h1, h2⟩ := h.outer
  exact ⟨G i, rfl, h.ne i hi, (h1.cell i (by omega)).trans (by rw [h2 i hi]), h.rows i hi⟩
end
/-- A slice at A, of n rows, row i of l i bools: m. -/
def RdM (w : World) (B : Nat) (A : Option Addr) (n : Nat) (l : Nat → Nat) (m : Nat → Nat → Bool) : Prop :=
  ∃ R : Nat → Option Addr × Nat, RdC w B A n (fun i => .slice (R i).1 (l i) (R i).2) ∧ ∀ i, i < n → l i ≤ (R i).2 ∧ RdC w B (R i).1 (l i) fun j => .bool (m i j)
section
variable {w w' : World} {n B B' : Nat} {A : Option Addr} {l : Nat → Nat} {m m' : Nat → Nat → Bool}
theorem RdM.below (h : RdM w B A n l m) (hb : Below B w w') : RdM w' B A n l m := by
  obtain ⟨R, h1, h2⟩ := h
  exact ⟨R, h1.below hb, fun i hi => ⟨(h2 i hi).1, (h2 i hi).2.below hb⟩⟩
theorem RdM.more (h : RdM w B A n l m) (hB : B ≤ B') : RdM w B' A n l m := by
  obtain ⟨R, h1, h2⟩ := h
  exact ⟨R, h1.more hB, fun i hi => ⟨(h2 i hi).1, (h2 i hi).2.more hB⟩⟩
theorem RdM.on (h : RdM w w.heap.size A n l m) (hb : Below w.heap.size w w') : RdM w' w'.heap.size A n l m := (h.below hb).more hb.size
theorem RdM.drewN (h : RdM w B A n l m) (q : Nat) : RdM (w.drewN q) B A n l m := h
theorem RdC.congr {f f' : Nat → Value} (h : RdC w B A n f) (e : ∀ j, j < n → f j = f' j) : RdC w B A n f' := fun hn => by
  obtain ⟨ad, h1, h2, h3⟩ := h hn
  exact ⟨ad, h1, h2, fun j hj => by rw [← e j hj]; exact h3 j hj⟩
theorem RdM.congr (h : RdM w B A n l m) (e : ∀ i j, i < n → j < l i → m i j = m' i j) : RdM w B A n l m' := by
  obtain ⟨R, h1, h2⟩ := h
  exact ⟨R, h1, fun i hi => ⟨(h2 i hi).1, (h2 i hi).2.congr fun j hj => by rw [e i j hi hj]⟩⟩
theorem RdM.at_ (h : RdM w B A n l m) {i : Nat} (hi : i < n) : ∃ ad R c, A = some ad ∧ ad.block < B ∧ w.cell? (ad.add i) = some (.slice R (l i) c) ∧ l i ≤ c ∧ RdC w B R (l i) fun j => .bool (m i j) := by
  obtain ⟨R, h1, h2⟩ := h
  obtain ⟨ad, e, hb, hc⟩ := h1.at_ hi
  exact ⟨ad, _, _, e, hb, hc, (h2 i hi).1, (h2 i hi).2⟩
theorem RdM.front (h : RdM w B A n l m) (k : Nat) (hk : k ≤ n) : RdM w B A k l m := by
  obtain ⟨R, h1, h2⟩ := h
  refine ⟨R, fun h0 => ?_, fun i hi => h2 i (by omega)⟩
  obtain ⟨ad, e, hb, hc⟩ := h1 (by omega)
  exact ⟨ad, e, hb, fun j hj => hc j (by omega)⟩
theorem RdM.none (w : World) (B : Nat) (l : Nat → Nat) (m : Nat → Nat → Bool) : RdM w B .none 0 l m := ⟨fun _ => (.none, 0), fun h => by omega, fun i hi => by omega⟩
theorem Mat.rdm {g : Nat} {G : Nat → Nat} (h : Mat w B g n n G m) : RdM w w.heap.size (some ⟨g, 0, .none⟩) n (fun _ => n) m := by
  obtain ⟨f, h1, h2⟩ := h.outer
  exact ⟨fun i => (some ⟨G i, 0, .none⟩, n), (h1.congr h2).rdc, fun i hi => ⟨Nat.le_refl _, (h.rows i hi).rdc⟩⟩
end
/-- It answers a square matrix, new. -/
def MadM (n : Nat) (m : Nat → Nat → Bool) (w : World) (e : Ending) (w' : World) : Prop := ∃ A c, e = .returned (.slice A n c) ∧ n ≤ c ∧ RdM w' w'.heap.size A n (fun _ => n) m ∧ Below w.heap.size w w'
/-- It answers a square matrix in blocks of its own. -/
def MadG (n : Nat) (m : Nat → Nat → Bool) (w : World) (e : Ending) (w' : World) : Prop := ∃ g G, e = .returned (.slice (some ⟨g, 0, none⟩) n n) ∧ Mat w' w.heap.size g n n G m ∧ Below w.heap.size w w'
theorem MadG.m {n : Nat} {m : Nat → Nat → Bool} {w w' : World} {e : Ending} (h : MadG n m w e w') : MadM n m w e w' := by
  obtain ⟨g, G, rfl, h1, h2⟩ := h
  exact ⟨_, _, rfl, Nat.le_refl _, h1.rdm, h2⟩
/-- Rows of numbers in a row. -/
def RdS (w : World) (B : Nat) (A : Option Addr) (n : Nat) (S : Nat → List Nat) : Prop :=
  ∃ R : Nat → Option Addr × Nat, RdC w B A n (fun i => .slice (R i).1 (S i).length (R i).2) ∧ ∀ i, i < n → (S i).length ≤ (R i).2 ∧ RdI w B (R i).1 (S i).length ((S i).map fun x : Nat => (x : Int))
section
variable {w w' : World} {n B B' : Nat} {A : Option Addr} {S : Nat → List Nat}
theorem RdS.below (h : RdS w B A n S) (hb : Below B w w') : RdS w' B A n S := by
  obtain ⟨R, h1, h2⟩ := h
  exact ⟨R, h1.below hb, fun i hi => ⟨(h2 i hi).1, (h2 i hi).2.below hb⟩⟩
theorem RdS.more (h : RdS w B A n S) (hB : B ≤ B') : RdS w B' A n S := by
  obtain ⟨R, h1, h2⟩ := h
  exact ⟨R, h1.more hB, fun i hi => ⟨(h2 i hi).1, (h2 i hi).2.more hB⟩⟩
theorem RdS.on (h : RdS w w.heap.size A n S) (hb : Below w.heap.size w w') : RdS w' w'.heap.size A n S := (h.below hb).more hb.size
theorem RdS.at_ (h : RdS w B A n S) {i : Nat} (hi : i < n) : ∃ ad R c, A = some ad ∧ ad.block < B ∧ w.cell? (ad.add i) = some (.slice R (S i).length c) ∧ (S i).length ≤ c ∧ RdI w B R (S i).length ((S i).map fun x : Nat => (x : Int)) := by
  obtain ⟨R, h1, h2⟩ := h
  obtain ⟨ad, e, hb, hc⟩ := h1.at_ hi
  exact ⟨ad, _, _, e, hb, hc, (h2 i hi).1, (h2 i hi).2⟩
end
theorem OwnV.frontC {E s B n c : Nat} {w : World} {A : Option Addr} {l : List Value} (h : OwnV E s w B A n c l) (k : Nat) (hk : k ≤ n) : OwnV E s w B A k c (l.take (k * s)) := by
  have hl := h.1
  have hle : k * s ≤ n * s := Nat.mul_le_mul_right _ hk
  refine ⟨by rw [List.length_take]; omega, ?_⟩
  rcases h.2 with ⟨hv, h0⟩ | ⟨g, cap, cur, hv, hbg, hg, hnc, hcm, hcs, htake⟩
  · injection hv with h1 h2 h3
    subst h1; subst h3
    exact .inl ⟨by rw [show k = 0 by omega], by omega⟩
  · injection hv with h1 h2 h3
    subst h1; subst h3
    exact .inr ⟨g, c, cur, rfl, hbg, hg, by omega, hcm, hcs, by rw [← htake, List.take_take, Nat.min_eq_left hle]⟩
end Go.Proofs.Ytoaocdmcjjohgaa

/- The document's own answers to what two see of a row, to whether rows are the same to all. -/
namespace Go.Proofs.Ytoaocdmcjjohgaa
open Go.RowKit Tab
set_option linter.unusedSimpArgs false
set_option linter.unusedVariables false

set_option maxRecDepth 100000 in
set_option maxHeartbeats 4000000 in
theorem rproj_any (A : Option Addr) (n cap : Nat) (L : List Rn) (a b : Int) (w : World) (h : RdR w w.heap.size A n L) (hc : n ≤ cap) (hn : n ≤ 1048576) (ht : ticks L ≤ 1099511627776) :
    Calls Try.prog 59 #[.slice A n cap, .int .i64 a, .int .i64 b] w (MadeR (proj a b L) w) := by
  have hfl := ticks_filter (sees a b) L
  go_enter Try.func59, Try.ntmps59
  go_wp2_with fail
  go_loopw [7, 9, 12] (fun q _ s wr => ∃ (i m c' : Nat) (A' : Option Addr), i ≤ n ∧ s = .int .i64 i ∧ q = .slice A' m c' ∧ m ≤ i ∧ OwnV 39 2 wr w.heap.size A' m c' (rs (prj a b (L.take i))) ∧ Below w.heap.size w wr) (fun _ _ s _ => n - (intOf s).toNat)
  case atStart => exact ⟨0, 0, 0, none, by omega, rfl, rfl, by omega, by simpa [prj, rs] using OwnV.nil _ _ _ _, Below.refl _ _⟩
  case round =>
    obtain ⟨i, m, c', A', hi, rfl, rfl, hm, how, hb⟩ := hrel
    by_cases hlt : i < n
    · have hlti : (i : Int) < (n : Int) := by omega
      obtain ⟨ad, r, rfl, had, hr, c0, c1⟩ := (h.on hb).at_ hlt
      have hmore := prj_more (a := a) (b := b) hr
      have hbl := bl1 wr (.cells #[.int .i64 r.p, .int .i64 (r.n : Int)] 39)
      have hb1 := hb.trans (hbl.mono hb.size)
      have how1 := how.below rfl hbl
      have f0 : (wr.alloc (.cells #[.int .i64 r.p, .int .i64 (r.n : Int)] 39)).cell? ⟨wr.heap.size, 0, none⟩ = some (.int .i64 r.p) := World.cell?_alloc_mark _ _ _ _ _
      have f1 : (wr.alloc (.cells #[.int .i64 r.p, .int .i64 (r.n : Int)] 39)).cell? ⟨wr.heap.size, 1, none⟩ = some (.int .i64 (r.n : Int)) := World.cell?_alloc_mark _ _ _ _ _
      clear how hb hbl hr
      go_upto_region 5 with fail
      generalize wr.alloc (.cells #[.int .i64 r.p, .int .i64 (r.n : Int)] 39) = W1 at hb1 how1 f0 f1 ⊢
      generalize wr.heap.size = gx at f0 f1 ⊢
      clear c0 c1
      by_cases hs : sees a b r = true
      · rw [if_pos hs] at hmore
        have HMO := Lib.hid hmore
        have hbl := bl1 W1 (.cells #[.int .i64 r.p, .int .i64 (r.n : Int)] 39)
        have how2 := how1.below rfl hbl
        have hrd := rdV_new W1 #[.int .i64 r.p, .int .i64 (r.n : Int)] 39 (rs [r]) rfl
        have hb2 := hb1.trans (hbl.mono hb1.size)
        have hs2 := hb2.size
        have HB2 := Lib.hid hb2
        have hs' := sees_iff.1 hs
        clear hmore how1 hb1 hbl hb2 hs
        by_cases ha : r.p = a
        · have ha' : (r.p == a) = true := beq_iff_eq.2 ha
          clear hs' ha
          go_wp2_with (at_builtin; go_loud (refine wpList_appX elR rfl (.tmp 26) (.tmp 28) rfl rfl w.heap.size A' m c' _ rfl how2 _ 1 1 _ _ rfl hrd rfl Nat.one_pos (rs_one _) (by omega) (by unfold maxLen; omega) hs2 (m + 1) rfl (rs (prj a b (L.take (i + 1)))) (by rw [HMO.out]; exact (rs_append _ _).symm) ?_; intro A4 c4 w4 hw4 hb4 hot))
          go_roundw
          case rel => exact ⟨i + 1, m + 1, c4, A4, by omega, by go_num, rfl, by omega, hw4, HB2.out.trans hb4⟩
          case measure => simp [intOf]; omega
        · have ha' : (r.p == a) = false := beq_eq_false_iff_ne.2 ha
          have hb' : (r.p == b) = true := beq_iff_eq.2 (hs'.resolve_left ha)
          clear hs' ha
          go_wp2_with (at_builtin; go_loud (refine wpList_appX elR rfl (.tmp 26) (.tmp 28) rfl rfl w.heap.size A' m c' _ rfl how2 _ 1 1 _ _ rfl hrd rfl Nat.one_pos (rs_one _) (by omega) (by unfold maxLen; omega) hs2 (m + 1) rfl (rs (prj a b (L.take (i + 1)))) (by rw [HMO.out]; exact (rs_append _ _).symm) ?_; intro A4 c4 w4 hw4 hb4 hot))
          go_roundw
          case rel => exact ⟨i + 1, m + 1, c4, A4, by omega, by go_num, rfl, by omega, hw4, HB2.out.trans hb4⟩
          case measure => simp [intOf]; omega
      · rw [if_neg hs] at hmore
        rw [← hmore] at how1
        have HOW := Lib.hid how1
        have HB1 := Lib.hid hb1
        have ha : r.p ≠ a := fun e => hs (sees_iff.2 (.inl e))
        have hb : r.p ≠ b := fun e => hs (sees_iff.2 (.inr e))
        have ha' : (r.p == a) = false := beq_eq_false_iff_ne.2 ha
        have hb' : (r.p == b) = false := beq_eq_false_iff_ne.2 hb
        clear hmore how1 hb1 hs ha hb
        go_wp2_with fail
        go_roundw
        case rel => exact ⟨i + 1, m, c', A', by omega, by go_num, rfl, by omega, HOW.out, HB1.out⟩
        case measure => simp [intOf]; omega
    · have hge : ¬ (i : Int) < (n : Int) := by omega
      have e : L.take i = L := List.take_of_length_le (by rw [h.len]; omega)
      rw [e] at how
      have hcp := how.cap
      have HT := Lib.hid (rtidy_any A' m c' (prj a b L) wr how.rdr hcp (by omega) (by unfold prj; omega))
      have HB := Lib.hid hb
      clear how hb e
      go_wp2_with fail
      refine HT.out.mono ?_
      rintro e w5 ⟨A5, c5, rfl, hr5, hc5, hb5, hnew⟩
      have H5 := Lib.hid hr5
      have HB5 := Lib.hid (HB.out.trans (hb5.mono HB.out.size))
      have HN := Lib.hid hnew
      clear hr5 hb5 hnew
      go_wp2_with fail
      go_ret
      exact ⟨A5, c5, rfl, H5.out, hc5, HB5.out, fun ad e => Nat.le_trans HB.out.size (HN.out ad e)⟩
/-- Do two depend, by a square? -/
def depW (n : Nat) (m : Nat → Nat → Bool) (a b : Int) : Bool := decide (a = b) || (inP n a && inP n b && (m a.toNat b.toNat || m b.toNat a.toNat))
theorem depW_sym (n : Nat) (m : Nat → Nat → Bool) (a b : Int) : depW n m a b = depW n m b a := by
  unfold depW
  rw [show decide (a = b) = decide (b = a) from by by_cases h : a = b <;> simp [h, eq_comm], Bool.and_comm (inP n a), Bool.or_comm (m a.toNat b.toNat)]
set_option maxRecDepth 100000 in
set_option maxHeartbeats 4000000 in
theorem rdepw_any (A : Option Addr) (n c : Nat) (m : Nat → Nat → Bool) (a b : Nat) (w : World) (h : RdM w w.heap.size A n (fun _ => n) m) (hn : n ≤ 1024) (ha : a ≤ 1024) (hb : b ≤ 1024) :
    Calls Try.prog 50 #[.slice A n c, .int .i64 (a : Int), .int .i64 (b : Int)] w (Ans (.bool (depW n m a b)) w) := by
  have hv : ∀ v, v = depW n m a b → Ans (.bool (depW n m a b)) w (.returned (.bool v)) w := fun v e => by rw [e]; exact Ans.mk rfl (Below.refl _ _)
  have HV := Lib.hid hv
  clear hv
  by_cases hab : a = b
  · subst hab
    go_enter Try.func50, Try.ntmps50
    go_wp2_with fail
    go_ret
    exact HV.out _ (by simp [depW])
  · have hab' : ((a : Int) == (b : Int)) = false := beq_eq_false_iff_ne.2 (by omega)
    have habd : decide ((a : Int) = (b : Int)) = false := decide_eq_false (by omega)
    by_cases han : a < n
    · have hani : (a : Int) < (n : Int) := by omega
      have ia : inP n (a : Int) = true := inP_iff.2 ⟨by omega, hani⟩
      by_cases hbn : b < n
      · have hbni : (b : Int) < (n : Int) := by omega
        have ib : inP n (b : Int) = true := inP_iff.2 ⟨by omega, hbni⟩
        have hd : depW n m a b = (m a b || m b a) := by unfold depW; rw [habd, ia, ib]; simp
        obtain ⟨ad, R, c1, rfl, had, p0, _, hr0⟩ := h.at_ han
        obtain ⟨ad', R', c2, e, _, p1, _, hr1⟩ := h.at_ hbn
        injection e with e
        subst e
        obtain ⟨ar, rfl, _, u0⟩ := hr0.at_ hbn
        obtain ⟨ar', rfl, _, u1⟩ := hr1.at_ han
        have HD := Lib.hid hd
        clear hr0 hr1 h hd
        go_enter Try.func50, Try.ntmps50
        generalize m a b = v0 at u0 HD
        generalize m b a = v1 at u1 HD
        cases v0
        all_goals
          go_wp2_with fail
          go_ret
          exact HV.out _ (by rw [HD.out]; simp)
      · have hbni : ¬ (b : Int) < (n : Int) := by omega
        have ib : inP n (b : Int) = false := by
          cases e : inP n (b : Int) with
          | false => rfl
          | true => have := (inP_iff.1 e).2; omega
        have hd : depW n m a b = false := by unfold depW; rw [habd, ib]; simp
        have HD := Lib.hid hd
        clear h hd
        go_enter Try.func50, Try.ntmps50
        go_wp2_with fail
        go_ret
        exact HV.out _ (by rw [HD.out])
    · have hani : ¬ (a : Int) < (n : Int) := by omega
      have ia : inP n (a : Int) = false := by
        cases e : inP n (a : Int) with
        | false => rfl
        | true => have := (inP_iff.1 e).2; omega
      have hd : depW n m a b = false := by unfold depW; rw [habd, ia]; simp
      have HD := Lib.hid hd
      clear h hd
      go_enter Try.func50, Try.ntmps50
      go_wp2_with fail
      go_ret
      exact HV.out _ (by rw [HD.out])
end Go.Proofs.Ytoaocdmcjjohgaa

/- Ticks, Differ, Same, by the document's own answer. -/
namespace Go.Proofs.Ytoaocdmcjjohgaa
open Go.RowKit Tab
set_option linter.unusedSimpArgs false
set_option linter.unusedVariables false

set_option maxRecDepth 100000 in
set_option maxHeartbeats 4000000 in
theorem xticks_any (A : Option Addr) (n cap : Nat) (L : List Rn) (p : Int) (w : World) (h : RdR w w.heap.size A n L) (hc : n ≤ cap) (hn : n ≤ 1048576) (ht : ticks L ≤ 1099511627776) :
    Calls Try.prog 19 #[.slice A n cap, .int .i64 p] w (Ans (.int .i64 (tkOf p L : Nat)) w) := by
  have htl := tkOf_le p L
  generalize hT : tkOf p L = T at htl
  have HT := Lib.hid hT
  clear hT
  go_enter Try.func19, Try.ntmps19
  go_wp2_with fail
  go_loopw [5, 7, 10] (fun q _ s wr => ∃ i k : Nat, i ≤ n ∧ s = .int .i64 i ∧ q = .int .i64 k ∧ k = tkOf p (L.take i) ∧ Below w.heap.size w wr) (fun _ _ s _ => n - (intOf s).toNat)
  case atStart => exact ⟨0, 0, by omega, rfl, rfl, by simp [tkOf], Below.refl _ _⟩
  case round =>
    obtain ⟨i, k, hi, rfl, rfl, hk, hb⟩ := hrel
    have HK := Lib.hid hk
    clear hk
    by_cases hlt : i < n
    · have hlti : (i : Int) < (n : Int) := by omega
      obtain ⟨ad, r, rfl, had, hr, c0, c1⟩ := (h.on hb).at_ hlt
      have hmo := tkOf_more (p := p) hr
      have hle : tkOf p (L.take (i + 1)) ≤ ticks L := Nat.le_trans (tkOf_le p _) (take_ticks L (i + 1))
      have hbl := bl1 wr (.cells #[.int .i64 r.p, .int .i64 (r.n : Int)] 39)
      have HB := Lib.hid (hb.trans (hbl.mono hb.size))
      have f0 : (wr.alloc (.cells #[.int .i64 r.p, .int .i64 (r.n : Int)] 39)).cell? ⟨wr.heap.size, 0, none⟩ = some (.int .i64 r.p) := World.cell?_alloc_mark _ _ _ _ _
      have f1 : (wr.alloc (.cells #[.int .i64 r.p, .int .i64 (r.n : Int)] 39)).cell? ⟨wr.heap.size, 1, none⟩ = some (.int .i64 (r.n : Int)) := World.cell?_alloc_mark _ _ _ _ _
      clear hr hb hbl
      go_upto_region 5 with fail
      generalize wr.alloc (.cells #[.int .i64 r.p, .int .i64 (r.n : Int)] 39) = W1 at HB f0 f1 ⊢
      generalize wr.heap.size = gx at f0 f1 ⊢
      clear c0 c1
      obtain ⟨rp, rn⟩ := r
      dsimp only at f0 f1 hmo
      by_cases hp : rp = p
      · have hp' : (rp == p) = true := beq_iff_eq.2 hp
        rw [if_pos hp] at hmo
        by_cases h0 : 0 < rn
        · have h0' : (0 : Int) < (rn : Int) := by omega
          have hkb : k + rn ≤ 1099511627776 := by rw [HK.out]; omega
          have HK2 : Hid (k + rn = tkOf p (L.take (i + 1))) := Lib.hid (by rw [hmo, HK.out])
          have HS := Lib.hid fun W => sum_any (k : Int) (rn : Int) (k : Int) (rn : Int) W (by omega) (by omega) (by omega) rfl rfl
          clear hmo hp hle
          go_wp2_with fail
          refine (HS.out _).mono ?_
          rintro e w5 ⟨rfl, rfl⟩
          go_wp2_with fail
          go_roundw
          case rel => exact ⟨i + 1, k + rn, by omega, by go_num, by go_num, HK2.out, HB.out⟩
          case measure => simp [intOf]; omega
        · have h0n : rn = 0 := by omega
          have h0' : ¬ (0 : Int) < (rn : Int) := by omega
          have HK2 : Hid (k = tkOf p (L.take (i + 1))) := Lib.hid (by rw [hmo, HK.out]; omega)
          clear hmo hp hle h0n
          go_wp2_with fail
          go_roundw
          case rel => exact ⟨i + 1, k, by omega, by go_num, rfl, HK2.out, HB.out⟩
          case measure => simp [intOf]; omega
      · have hp' : (rp == p) = false := beq_eq_false_iff_ne.2 hp
        rw [if_neg hp] at hmo
        have HK2 : Hid (k = tkOf p (L.take (i + 1))) := Lib.hid (by rw [hmo, HK.out]; rfl)
        clear hmo hp hle
        go_wp2_with fail
        go_roundw
        case rel => exact ⟨i + 1, k, by omega, by go_num, rfl, HK2.out, HB.out⟩
        case measure => simp [intOf]; omega
    · have hlti : ¬ (i : Int) < (n : Int) := by omega
      have e : L.take i = L := List.take_of_length_le (by rw [h.len]; omega)
      have hk := HK.out
      rw [e, HT.out] at hk
      subst hk
      clear e HK
      go_wp2_with fail
      go_ret
      exact Ans.mk rfl hb
/-- The first place from b on, of k. -/
def firstF (B : Nat → Bool) : Nat → Nat → Option Nat
  | _, 0 => none
  | b, k + 1 => if B b = true then some b else firstF B (b + 1) k
def rowsF (B : Nat → Nat → Bool) : Nat → Nat → Option (Nat × Nat)
  | _, 0 => none
  | a, k + 1 => match firstF (B a) a (k + 1) with
    | some b => some (a, b)
    | none => rowsF B (a + 1) k
/-- Do a and b, that depend, see unlike rows? -/
def badF (D : Int → Int → Bool) (x y : List Rn) (a b : Nat) : Bool := D a b && !(sameR (proj a b x) (proj a b y))
def diffF (D : Int → Int → Bool) (x y : List Rn) : Int × Int × Bool := match rowsF (badF D x y) 0 6 with
  | some (a, b) => ((a : Int), (b : Int), true)
  | none => (-1, -1, tkOf (-1) x != tkOf (-1) y)
theorem firstF_none {B : Nat → Bool} (k : Nat) : ∀ b, firstF B b k = none ↔ ∀ c, b ≤ c → c < b + k → B c = false := by
  induction k with
  | zero => intro b; exact ⟨fun _ c h1 h2 => by omega, fun _ => rfl⟩
  | succ k ih =>
    intro b
    unfold firstF
    cases h : B b with
    | true => simp only [if_true]; exact ⟨nofun, fun e => absurd (e b (Nat.le_refl _) (by omega)) (by rw [h]; decide)⟩
    | false =>
      rw [if_neg (by decide), ih]
      exact ⟨fun e c h1 h2 => by
        by_cases hc : c = b
        · rw [hc]; exact h
        · exact e c (by omega) (by omega), fun e c h1 h2 => e c (by omega) (by omega)⟩
theorem rowsF_none {B : Nat → Nat → Bool} (k : Nat) : ∀ a, rowsF B a k = none ↔ ∀ c d, a ≤ c → c ≤ d → d < a + k → B c d = false := by
  induction k with
  | zero => intro a; exact ⟨fun _ c d h1 h2 h3 => by omega, fun _ => rfl⟩
  | succ k ih =>
    intro a
    unfold rowsF
    cases h : firstF (B a) a (k + 1) with
    | some b =>
      simp only
      refine ⟨fun e => by (cases e), fun e => ?_⟩
      have : firstF (B a) a (k + 1) = none := (firstF_none (k + 1) a).2 fun c h1 h2 => e a c (Nat.le_refl _) h1 h2
      rw [h] at this
      cases this
    | none =>
      simp only
      rw [ih]
      have h0 := (firstF_none (k + 1) a).1 h
      exact ⟨fun e c d h1 h2 h3 => by
        by_cases hc : c = a
        · subst hc; exact h0 d h2 h3
        · exact e c d (by omega) h2 (by omega), fun e c d h1 h2 h3 => e c d (by omega) h2 (by omega)⟩
/-- Nothing differs: they are the same to all. -/
theorem diffF_same (D : Int → Int → Bool) (x y : List Rn) : (diffF D x y).2.2 = false ↔ SameW D x y := by
  unfold diffF
  have key : rowsF (badF D x y) 0 6 = none ↔ ∀ a b : Nat, a ≤ b → b < 6 → D a b = true → proj a b x = proj a b y := by
    rw [rowsF_none]
    refine ⟨fun h a b h1 h2 h3 => ?_, fun h a b _ h1 h2 => ?_⟩
    · have := h a b (Nat.zero_le _) h1 (by omega)
      unfold badF at this
      rw [h3] at this
      rw [← sameR_iff]
      simpa using this
    · unfold badF
      cases hd : D a b with
      | false => rfl
      | true =>
        rw [(sameR_iff _ _).2 (h a b h1 (by omega) hd)]
        rfl
  cases h : rowsF (badF D x y) 0 6 with
  | some q =>
    refine ⟨fun e => by (cases e), fun e => ?_⟩
    have := key.2 e.1
    rw [h] at this
    cases this
  | none =>
    show (tkOf (-1) x != tkOf (-1) y) = false ↔ _
    rw [bne_eq_false_iff_eq]
    exact ⟨fun e => ⟨key.1 h, e⟩, fun e => e.2⟩
theorem diffF_of {D : Int → Int → Bool} {x y : List Rn} (h : SameW D x y) : diffF D x y = (-1, -1, false) := by
  have h2 := (diffF_same D x y).2 h
  unfold diffF at h2 ⊢
  cases hr : rowsF (badF D x y) 0 6 with
  | some q => rw [hr] at h2; cases h2
  | none => rw [hr] at h2; simp only at h2 ⊢; rw [h2]
theorem firstF_step {B : Nat → Bool} {b : Nat} (hb : b < 6) : firstF B b (6 - b) = if B b = true then some b else firstF B (b + 1) (6 - (b + 1)) := by
  have e : 6 - b = (6 - (b + 1)) + 1 := by omega
  rw [e]
  rfl
theorem rowsF_step {B : Nat → Nat → Bool} {a : Nat} (ha : a < 6) : rowsF B a (6 - a) = match firstF (B a) a (6 - a) with
    | some b => some (a, b)
    | none => rowsF B (a + 1) (6 - (a + 1)) := by
  have e : 6 - a = (6 - (a + 1)) + 1 := by omega
  rw [e]
  rfl
/-- What Differ answers, of rows in memory. -/
def DifA (v : Int × Int × Bool) (w : World) (e : Ending) (w' : World) : Prop := e = .returned (.tuple #[.int .i64 v.1, .int .i64 v.2.1, .bool v.2.2]) ∧ Below w.heap.size w w'
set_option maxRecDepth 100000 in
set_option maxHeartbeats 4000000 in
theorem rdiffer_any (A1 A2 A3 : Option Addr) (n1 n2 n3 c1 c2 c3 : Nat) (X Y : List Rn) (m : Nat → Nat → Bool) (w : World) (hX : RdR w w.heap.size A1 n1 X) (hY : RdR w w.heap.size A2 n2 Y) (hM : RdM w w.heap.size A3 n3 (fun _ => n3) m)
    (q1 : n1 ≤ c1) (q2 : n2 ≤ c2) (b1 : n1 ≤ 1048576) (b2 : n2 ≤ 1048576) (b3 : n3 ≤ 1024) (t1 : ticks X ≤ 1099511627776) (t2 : ticks Y ≤ 1099511627776) :
    Calls Try.prog 44 #[.slice A1 n1 c1, .slice A2 n2 c2, .slice A3 n3 c3] w (DifA (diffF (depW n3 m) X Y) w) := by
  obtain ⟨v, hv⟩ : ∃ v, v = diffF (depW n3 m) X Y := ⟨_, rfl⟩
  rw [← hv]
  obtain ⟨B, hB⟩ : ∃ B, B = badF (depW n3 m) X Y := ⟨_, rfl⟩
  unfold diffF at hv
  rw [← hB] at hv
  have HV := Lib.hid hv
  have HB := Lib.hid hB
  have HX := Lib.hid hX
  have HY := Lib.hid hY
  have HM := Lib.hid hM
  clear hv hB hX hY hM
  go_enter Try.func44, Try.ntmps44
  go_wp2_with fail
  go_loopw [9, 10] (fun s _ wx => ∃ a : Nat, a ≤ 6 ∧ s = .int .i64 a ∧ rowsF B a (6 - a) = rowsF B 0 6 ∧ Below w.heap.size w wx) (fun s _ _ => 6 - (intOf s).toNat)
  case atStart => exact ⟨0, by omega, rfl, rfl, Below.refl _ _⟩
  case round =>
    obtain ⟨a, ha6, rfl, hrow, hb⟩ := hrel
    have HROW := Lib.hid hrow
    have HBa := Lib.hid hb
    clear hrow hb
    by_cases ha : a < 6
    · have hai : (a : Int) < 6 := by omega
      go_wp2_with fail
      go_loopw [10] (fun s wx => ∃ b : Nat, a ≤ b ∧ b ≤ 6 ∧ s = .int .i64 b ∧ firstF (B a) b (6 - b) = firstF (B a) a (6 - a) ∧ Below w.heap.size w wx) (fun s _ => 6 - (intOf s).toNat)
      case atStart => exact ⟨a, Nat.le_refl _, ha6, rfl, rfl, HBa.out⟩
      case round =>
        obtain ⟨b, hab, hb6, rfl, hfst, hb⟩ := hrel
        clear HBa
        have HF := Lib.hid hfst
        clear hfst
        by_cases hbl : b < 6
        · have hbi : (b : Int) < 6 := by omega
          have HBAD : Hid (B a b = (depW n3 m a b && !(sameR (proj a b X) (proj a b Y)))) := Lib.hid (by rw [HB.out]; rfl)
          have HNEXT : Hid (B a b = false → firstF (B a) (b + 1) (6 - (b + 1)) = firstF (B a) a (6 - a)) := Lib.hid fun e => by
            rw [← HF.out, firstF_step hbl, if_neg (by rw [e]; decide)]
          have HDONE : Hid (B a b = true → v = ((a : Int), (b : Int), true)) := Lib.hid fun e => by
            have h1 : firstF (B a) a (6 - a) = some b := by rw [← HF.out, firstF_step hbl, if_pos e]
            have h2 : rowsF B 0 6 = some (a, b) := by rw [← HROW.out, rowsF_step ha, h1]
            rw [HV.out, h2]
          have HD := Lib.hid (rdepw_any A3 n3 c3 m a b wr ((HM.out.on hb)) b3 (by omega) (by omega))
          obtain ⟨d, hd⟩ : ∃ d, d = depW n3 m a b := ⟨_, rfl⟩
          rw [← hd] at HD HBAD
          have HBb := Lib.hid hb
          clear hb hd
          go_wp2_with fail
          refine HD.out.mono ?_
          rintro e w4 ⟨rfl, hb4⟩
          have HB4 := Lib.hid (HBb.out.trans (hb4.mono HBb.out.size))
          clear hb4 HD
          cases d with
          | false =>
            have HN := Lib.hid (HNEXT.out (by rw [HBAD.out]; rfl))
            go_wp2_with fail
            go_roundw
            case rel => exact ⟨b + 1, by omega, by omega, by go_num, HN.out, HB4.out⟩
            case measure => simp [intOf]; omega
          | true =>
            have HP1 := Lib.hid (rproj_any A1 n1 c1 X a b w4 (HX.out.on HB4.out) q1 b1 t1)
            go_wp2_with fail
            refine HP1.out.mono ?_
            rintro e w5 ⟨A5, c5, rfl, hr5, hc5, hb5, _⟩
            have HB5 := Lib.hid (HB4.out.trans (hb5.mono HB4.out.size))
            have HR5 := Lib.hid hr5
            have HP2 := Lib.hid (rproj_any A2 n2 c2 Y a b w5 (HY.out.on HB5.out) q2 b2 t2)
            clear hb5 hr5 HP1
            go_wp2_with fail
            refine HP2.out.mono ?_
            rintro e w6 ⟨A6, c6, rfl, hr6, hc6, hb6, _⟩
            have HB6 := Lib.hid (HB5.out.trans (hb6.mono HB5.out.size))
            have hl5 : (proj a b X).length ≤ 1048576 := by
              have h1 := tidy_le (prj a b X)
              have h2 := prj_le a b X
              rw [HX.out.len] at h2
              unfold proj
              omega
            have HS := Lib.hid (xsame_any A5 A6 _ _ c5 c6 _ _ w6 (HR5.out.on hb6) hr6 hl5)
            generalize sameR (proj a b X) (proj a b Y) = s at HS HBAD
            generalize (proj a b X).length = l5 at HS HR5 hc5 ⊢
            generalize (proj a b Y).length = l6 at HS hc6 ⊢
            clear hr6 hb6 HP2 hl5 HR5
            go_wp2_with fail
            refine HS.out.mono ?_
            intro e w7 hq
            obtain ⟨rfl, hb7⟩ := hq.ans
            have HB7 := Lib.hid (HB6.out.trans (hb7.mono HB6.out.size))
            clear hq hb7 HS
            cases s with
            | true =>
              have HN := Lib.hid (HNEXT.out (by rw [HBAD.out]; rfl))
              go_wp2_with fail
              go_roundw
              case rel => exact ⟨b + 1, by omega, by omega, by go_num, HN.out, HB7.out⟩
              case measure => simp [intOf]; omega
            | false =>
              have HVV := Lib.hid (HDONE.out (by rw [HBAD.out]; rfl))
              go_wp2_with fail
              go_ret3
              exact ⟨by rw [HVV.out]; rfl, HB7.out⟩
        · have hbi : ¬ (b : Int) < 6 := by omega
          obtain rfl : b = 6 := by omega
          have HN : Hid (rowsF B (a + 1) (6 - (a + 1)) = rowsF B 0 6) := Lib.hid (by
            have h1 : firstF (B a) a (6 - a) = none := by rw [← HF.out]; rfl
            rw [← HROW.out, rowsF_step ha, h1])
          have HBb := Lib.hid hb
          clear hb
          go_wp2_with fail
          go_roundw
          case rel => exact ⟨a + 1, by omega, by go_num, HN.out, HBb.out⟩
          case measure => simp [intOf]; omega
    · have hai : ¬ (a : Int) < 6 := by omega
      obtain rfl : a = 6 := by omega
      have HVV : Hid (v = (-1, -1, tkOf (-1) X != tkOf (-1) Y)) := Lib.hid (by
        have h2 : rowsF B 0 6 = none := by rw [← HROW.out]; rfl
        rw [HV.out, h2])
      have HT1 := Lib.hid (xticks_any A1 n1 c1 X (-1) wr (HX.out.on HBa.out) q1 b1 t1)
      have HT2 := Lib.hid fun w' (hb : Below w.heap.size w w') => xticks_any A2 n2 c2 Y (-1) w' (HY.out.on hb) q2 b2 t2
      generalize tkOf (-1) X = u1 at HT1 HVV
      generalize tkOf (-1) Y = u2 at HT2 HVV
      obtain ⟨q, hq⟩ : ∃ q, q = (u1 != u2) := ⟨_, rfl⟩
      have hqi : ((u1 : Int) != (u2 : Int)) = q := by
        rw [hq]
        by_cases h : u1 = u2
        · subst h; simp
        · rw [bne_iff_ne.2 h]; exact bne_iff_ne.2 (by omega)
      rw [← hq] at HVV
      clear hq
      go_wp2_with fail
      refine HT1.out.mono ?_
      rintro e w5 ⟨rfl, hb5⟩
      have HB5 := Lib.hid (HBa.out.trans (hb5.mono HBa.out.size))
      clear hb5 HT1
      go_wp2_with fail
      refine (HT2.out w5 HB5.out).mono ?_
      rintro e w6 ⟨rfl, hb6⟩
      have HB6 := Lib.hid (HB5.out.trans (hb6.mono HB5.out.size))
      clear hb6 HT2
      go_wp2_with fail
      go_ret3
      exact ⟨by rw [HVV.out]; rfl, HB6.out⟩
set_option maxRecDepth 100000 in
set_option maxHeartbeats 1000000 in
theorem rsamew_any (A1 A2 A3 : Option Addr) (n1 n2 n3 c1 c2 c3 : Nat) (X Y : List Rn) (m : Nat → Nat → Bool) (w : World) (hX : RdR w w.heap.size A1 n1 X) (hY : RdR w w.heap.size A2 n2 Y) (hM : RdM w w.heap.size A3 n3 (fun _ => n3) m)
    (q1 : n1 ≤ c1) (q2 : n2 ≤ c2) (b1 : n1 ≤ 1048576) (b2 : n2 ≤ 1048576) (b3 : n3 ≤ 1024) (t1 : ticks X ≤ 1099511627776) (t2 : ticks Y ≤ 1099511627776) :
    Calls Try.prog 21 #[.slice A1 n1 c1, .slice A2 n2 c2, .slice A3 n3 c3] w (Ans (.bool (!(diffF (depW n3 m) X Y).2.2)) w) := by
  have H := Lib.hid (rdiffer_any A1 A2 A3 n1 n2 n3 c1 c2 c3 X Y m w hX hY hM q1 q2 b1 b2 b3 t1 t2)
  generalize diffF (depW n3 m) X Y = v at H ⊢
  obtain ⟨v0, v1, v2⟩ := v
  clear hX hY hM
  go_enter Try.func21, Try.ntmps21
  go_wp2_with fail
  refine H.out.mono ?_
  rintro e w5 ⟨rfl, hb5⟩
  dsimp only
  go_wp2_with fail
  go_ret
  exact Ans.mk rfl hb5
end Go.Proofs.Ytoaocdmcjjohgaa

/- Which runs may be moved: by the document's own answer. -/
namespace Go.Proofs.Ytoaocdmcjjohgaa
open Go.RowKit Tab
set_option linter.unusedSimpArgs false
set_option linter.unusedVariables false

/-- A row of runs in memory, by whose they are; their ticks whatever. -/
structure RdP (w : World) (B : Nat) (A : Option Addr) (n : Nat) (ps : List Int) : Prop where
  len : ps.length = n
  at_ : ∀ i, i < n → ∃ (ad : Addr) (p z : Int), A = some ad ∧ ad.block < B ∧ ps[i]? = some p ∧ w.cell? (ad.add (i * 2)) = some (.int .i64 p) ∧ w.cell? ⟨(ad.add (i * 2)).block, (ad.add (i * 2)).off + 1, none⟩ = some (.int .i64 z)
section
variable {w w' : World} {B n : Nat} {A : Option Addr} {ps : List Int}
theorem RdR.rdp {L : List Rn} (h : RdR w B A n L) : RdP w B A n (L.map Rn.p) := ⟨by rw [List.length_map]; exact h.len, fun i hi => by
  obtain ⟨ad, r, e, hb, hr, c0, c1⟩ := h.at_ hi
  exact ⟨ad, r.p, r.n, e, hb, by rw [List.getElem?_map, hr]; rfl, c0, c1⟩⟩
theorem RdP.on (h : RdP w w.heap.size A n ps) (hb : Below w.heap.size w w') : RdP w' w'.heap.size A n ps := ⟨h.len, fun i hi => by
  obtain ⟨ad, p, z, e, hB, hp, c0, c1⟩ := h.at_ i hi
  refine ⟨ad, p, z, e, Nat.lt_of_lt_of_le hB hb.size, hp, (hb.cell (by rw [add_block]; exact hB)).trans c0, (hb.cell (p := ⟨(ad.add (i * 2)).block, (ad.add (i * 2)).off + 1, none⟩) (by show (ad.add (i * 2)).block < _; rw [add_block]; exact hB)).trans c1⟩⟩
theorem RdP.mid {ad : Addr} (h : RdP w B (some ad) n ps) {k j : Nat} (hj : j ≤ n) : RdP w B (some (ad.add (k * 2))) (j - k) ((ps.drop k).take (j - k)) := by
  refine ⟨by rw [List.length_take, List.length_drop, h.len]; omega, fun i hi => ?_⟩
  obtain ⟨ad', p, z, e, hB, hp, c0, c1⟩ := h.at_ (k + i) (by omega)
  injection e with e
  subst e
  have ea : (ad.add (k * 2)).add (i * 2) = ad.add ((k + i) * 2) := by rw [add_add, Nat.add_mul]
  refine ⟨_, p, z, rfl, by rw [add_block]; exact hB, ?_, by rw [ea]; exact c0, by rw [ea]; exact c1⟩
  rw [List.getElem?_take, if_pos hi, List.getElem?_drop]
  exact hp
end
def wayP (D : Int → Int → Bool) (p q : Int) : Bool := decide (q = p) || (decide (p ≠ -1) && (decide (q ≠ -1) && D p q))
def mayP (D : Int → Int → Bool) (ps : List Int) (i j : Nat) : Bool := match ps[i]?, ps[j]? with
  | some x, some y => decide (i < j) && (decide (x = y) && !((ps.drop (i + 1)).take (j - (i + 1))).any (wayP D x))
  | _, _ => false
theorem mayB_parts (D : Int → Int → Bool) (L : List Rn) (i j : Nat) : mayB D L i j = mayP D (L.map Rn.p) i j := by
  unfold mayB mayP Tab.mid
  rw [List.getElem?_map, List.getElem?_map]
  cases L[i]? with
  | none => rfl
  | some x =>
    cases L[j]? with
    | none => rfl
    | some y =>
      show _ = (decide (i < j) && (decide (x.p = y.p) && !(((L.map Rn.p).drop (i + 1)).take (j - (i + 1))).any (wayP D x.p)))
      rw [← List.map_drop, ← List.map_take, List.any_map]
      rfl
/-- By any numbers. -/
def mayZ (D : Int → Int → Bool) (ps : List Int) (I J : Int) : Bool := decide (0 ≤ I) && (decide (I < J) && (decide (J < (ps.length : Int)) && mayP D ps I.toNat J.toNat))
set_option maxRecDepth 100000 in
set_option maxHeartbeats 4000000 in
theorem rmay_any (A A3 : Option Addr) (n c n3 c3 : Nat) (ps : List Int) (m : Nat → Nat → Bool) (I J : Int) (rt : Bool) (w : World) (h : RdP w w.heap.size A n ps) (hM : RdM w w.heap.size A3 n3 (fun _ => n3) m)
    (hc : n ≤ c) (hn : n ≤ 1048576) (h3 : n3 ≤ 1024) (hps : ∀ q ∈ ps, -1 ≤ q ∧ q ≤ 1024) :
    Calls Try.prog 27 #[.slice A n c, .slice A3 n3 c3, .agg #[.int .i64 I, .int .i64 J, .bool rt]] w (Ans (.bool (mayZ (depW n3 m) ps I J)) w) := by
  have hb0 := bl1 w (.cells #[.int .i64 I, .int .i64 J, .bool rt] 76)
  have f0 : (w.alloc (.cells #[.int .i64 I, .int .i64 J, .bool rt] 76)).cell? ⟨w.heap.size, 0, none⟩ = some (.int .i64 I) := World.cell?_alloc_mark _ _ _ _ _
  have f1 : (w.alloc (.cells #[.int .i64 I, .int .i64 J, .bool rt] 76)).cell? ⟨w.heap.size, 1, none⟩ = some (.int .i64 J) := World.cell?_alloc_mark _ _ _ _ _
  have hP0 := h.on hb0
  have hM0 := hM.on hb0
  have hlen := h.len
  obtain ⟨v, hv⟩ : ∃ v, v = mayZ (depW n3 m) ps I J := ⟨_, rfl⟩
  rw [← hv]
  unfold mayZ at hv
  rw [hlen] at hv
  have HV := Lib.hid hv
  have HLN := Lib.hid hlen
  have HPS := Lib.hid hps
  have hgs : w.heap.size < (w.alloc (.cells #[.int .i64 I, .int .i64 J, .bool rt] 76)).heap.size := by simp
  clear hv h hM hlen hps
  go_enter Try.func27, Try.ntmps27
  go_upto_region 1 with fail
  generalize w.alloc (.cells #[.int .i64 I, .int .i64 J, .bool rt] 76) = W at hb0 f0 f1 hP0 hM0 hgs ⊢
  obtain ⟨gm, hgm⟩ : ∃ gm, gm = w.heap.size := ⟨_, rfl⟩
  rw [← hgm] at f0 f1 hgs ⊢
  clear hgm
  have HB0 := Lib.hid hb0
  have HP := Lib.hid hP0
  have HM := Lib.hid hM0
  clear hb0 hP0 hM0
  by_cases hI : I < 0
  · have e0 : decide (I < 0) = true := decide_eq_true hI
    have e : v = false := by rw [HV.out, decide_eq_false (show ¬ 0 ≤ I by omega)]; rfl
    subst e
    go_quiet (fail)
    go_wp2_with fail
    go_ret
    exact Ans.mk rfl (Below.drewN HB0.out nq)
  · have e0 : decide (I < 0) = false := decide_eq_false hI
    by_cases hJ : J ≤ I
    · have e1 : decide (J ≤ I) = true := decide_eq_true hJ
      have e : v = false := by rw [HV.out, decide_eq_false (show ¬ I < J by omega)]; simp
      subst e
      go_quiet (fail)
      go_wp2_with fail
      go_ret
      exact Ans.mk rfl (Below.drewN HB0.out nq)
    · have e1 : decide (J ≤ I) = false := decide_eq_false hJ
      by_cases hJn : (n : Int) ≤ J
      · have e2 : decide ((n : Int) ≤ J) = true := decide_eq_true hJn
        have e : v = false := by rw [HV.out, decide_eq_false (show ¬ J < (n : Int) by omega)]; simp
        subst e
        go_quiet (fail)
        go_wp2_with fail
        go_ret
        exact Ans.mk rfl (Below.drewN HB0.out nq)
      · have e2 : decide ((n : Int) ≤ J) = false := decide_eq_false hJn
        obtain ⟨i, rfl⟩ : ∃ i : Nat, I = i := ⟨I.toNat, by omega⟩
        obtain ⟨j, rfl⟩ : ∃ j : Nat, J = j := ⟨J.toNat, by omega⟩
        have hij : i < j := by omega
        have hjn : j < n := by omega
        obtain ⟨ad, x, zx, rfl, had, hx, cx0, cx1⟩ := HP.out.at_ i (by omega)
        obtain ⟨ad', y, zy, ea, _, hy, cy0, cy1⟩ := HP.out.at_ j hjn
        injection ea with ea
        subst ea
        have hini : (i : Int) < (n : Int) := by omega
        have hjni : (j : Int) < (n : Int) := by omega
        have hvv : v = (decide (x = y) && !((ps.drop (i + 1)).take (j - (i + 1))).any (wayP (depW n3 m) x)) := by
          rw [HV.out, decide_eq_true (show (0 : Int) ≤ (i : Int) by omega), decide_eq_true (show (i : Int) < (j : Int) by omega), decide_eq_true hjni]
          unfold mayP
          rw [show (i : Int).toNat = i from rfl, show (j : Int).toNat = j from rfl, hx, hy]
          simp [hij]
        have hqx := HPS.out x (List.mem_of_getElem? hx)
        have HVV := Lib.hid hvv
        clear hvv hx hy cx1 cy1 HV
        by_cases hxy : x = y
        · subst hxy
          have e3 : (x != x) = false := bne_self_eq_false x
          have hw1 : IntKind.i64.wrap ((i : Int) + 1) = (i : Int) + 1 := IntWalk.i64_in _ (by omega)
          obtain ⟨d, hd⟩ : ∃ d, j - (i + 1) = d := ⟨_, rfl⟩
          have hvv := HVV.out
          rw [decide_eq_true (show x = x from rfl), Bool.true_and, hd] at hvv
          obtain ⟨Q, hQ⟩ : ∃ Q, Q = (ps.drop (i + 1)).take d := ⟨_, rfl⟩
          rw [← hQ] at hvv
          have hmid := HP.out.mid (k := i + 1) (j := j) (by omega)
          rw [hd, ← hQ] at hmid
          have hQs : ∀ q ∈ Q, -1 ≤ q ∧ q ≤ 1024 := fun q hq => HPS.out q (by rw [hQ] at hq; exact List.mem_of_mem_drop (List.mem_of_mem_take hq))
          have HQS := Lib.hid hQs
          have HMID := Lib.hid hmid
          have HVQ := Lib.hid hvv
          have hdn : d ≤ 1048576 := by omega
          have hij1 : (i : Int) + 1 ≤ (j : Int) := by omega
          have hjc : (j : Int) ≤ (c : Int) := by omega
          have hci : ¬ c = i + 1 := by omega
          have htn : ((i : Int) + 1).toNat = i + 1 := by omega
          clear hQ hvv hmid hQs HVV
          go_quiet (fail)
          have hbq : Below W.heap.size W (W.drewN nq) := Below.drewN (Below.refl _ _) nq
          have f0q := (hbq.cell (p := ⟨gm, 0, none⟩) hgs).trans f0
          have f1q := (hbq.cell (p := ⟨gm, 1, none⟩) hgs).trans f1
          have cx0q := (hbq.cell (by rw [add_block]; exact had)).trans cx0
          generalize W.drewN nq = Wd at hbq f0q f1q cx0q ⊢
          clear f0 f1 cx0 cy0
          go_wp2_with fail
          clear f0q f1q cx0q
          go_loopw [9, 56] (fun _ s wr => ∃ k : Nat, k ≤ d ∧ s = .int .i64 k ∧ (Q.take k).any (wayP (depW n3 m) x) = false ∧ Below W.heap.size W wr) (fun _ s _ => d - (intOf s).toNat)
          case atStart => exact ⟨0, by omega, rfl, rfl, hbq⟩
          case round =>
            obtain ⟨k, hk, rfl, hany, hb⟩ := hrel
            have HANY := Lib.hid hany
            clear hany
            by_cases hkd : k < d
            · have hkdi : (k : Int) < (d : Int) := by omega
              obtain ⟨am, q, z, ea, hab, hq, c0, c1⟩ := (HMID.out.on hb).at_ k hkd
              injection ea with ea
              subst ea
              have hmo : (Q.take (k + 1)).any (wayP (depW n3 m) x) = ((Q.take k).any (wayP (depW n3 m) x) || wayP (depW n3 m) x q) := by
                obtain ⟨hi', e⟩ := List.getElem?_eq_some_iff.1 hq
                rw [List.take_succ_eq_append_getElem hi', List.any_append, e]
                simp
              have hme : wayP (depW n3 m) x q = true → Q.any (wayP (depW n3 m) x) = true := fun h => List.any_eq_true.2 ⟨q, List.mem_of_getElem? hq, h⟩
              have hqr := HQS.out q (List.mem_of_getElem? hq)
              have HMO := Lib.hid hmo
              have HME := Lib.hid hme
              have hbl := bl1 wr (.cells #[.int .i64 q, .int .i64 z] 39)
              have g0 : (wr.alloc (.cells #[.int .i64 q, .int .i64 z] 39)).cell? ⟨wr.heap.size, 0, none⟩ = some (.int .i64 q) := World.cell?_alloc_mark _ _ _ _ _
              have HB1 := Lib.hid (hb.trans (hbl.mono hb.size))
              clear hmo hme hbl hq hb
              go_upto_region 7 with fail
              generalize wr.alloc (.cells #[.int .i64 q, .int .i64 z] 39) = W2 at g0 HB1 ⊢
              generalize wr.heap.size = gx at g0 ⊢
              clear c0 c1 hab
              by_cases hqx2 : q = x
              · have u1 : (q == x) = true := beq_iff_eq.2 hqx2
                have e : v = false := by rw [HVQ.out, HME.out (by unfold wayP; rw [decide_eq_true hqx2]; rfl)]; rfl
                subst e
                go_wp2_with fail
                go_ret
                exact Ans.mk rfl (HB0.out.trans (HB1.out.mono HB0.out.size))
              · have u1 : (q == x) = false := beq_eq_false_iff_ne.2 hqx2
                by_cases hx1 : x = -1
                · have u2 : (x != -1) = false := by rw [hx1]; rfl
                  have HN : Hid ((Q.take (k + 1)).any (wayP (depW n3 m) x) = false) := Lib.hid (by
                    rw [HMO.out, HANY.out]
                    unfold wayP
                    rw [decide_eq_false hqx2, decide_eq_false (show ¬ x ≠ -1 from fun h => h hx1)]
                    rfl)
                  clear hx1
                  go_wp2_with fail
                  go_roundw
                  case rel => exact ⟨k + 1, by omega, by go_num, HN.out, HB1.out⟩
                  case measure => simp [intOf]; omega
                · have u2 : (x != -1) = true := bne_iff_ne.2 hx1
                  by_cases hq1 : q = -1
                  · have u3 : (q != -1) = false := by rw [hq1]; rfl
                    have HN : Hid ((Q.take (k + 1)).any (wayP (depW n3 m) x) = false) := Lib.hid (by
                      rw [HMO.out, HANY.out]
                      unfold wayP
                      rw [decide_eq_false hqx2, decide_eq_false (show ¬ q ≠ -1 from fun h => h hq1)]
                      simp)
                    clear hq1
                    go_wp2_with fail
                    go_roundw
                    case rel => exact ⟨k + 1, by omega, by go_num, HN.out, HB1.out⟩
                    case measure => simp [intOf]; omega
                  · have u3 : (q != -1) = true := bne_iff_ne.2 hq1
                    obtain ⟨a, ha⟩ : ∃ a : Nat, x = a := ⟨x.toNat, by omega⟩
                    obtain ⟨b, hb⟩ : ∃ b : Nat, q = b := ⟨q.toNat, by omega⟩
                    have hdp := rdepw_any A3 n3 c3 m a b W2 (HM.out.on HB1.out) h3 (by omega) (by omega)
                    rw [← ha, ← hb] at hdp
                    have hwy : wayP (depW n3 m) x q = depW n3 m x q := by
                      unfold wayP
                      rw [decide_eq_false hqx2, decide_eq_true (show x ≠ -1 from hx1), decide_eq_true (show q ≠ -1 from hq1)]
                      rfl
                    have HWY := Lib.hid hwy
                    generalize depW n3 m x q = dv at hdp HWY
                    have HDP := Lib.hid hdp
                    clear hdp ha hb hwy
                    cases dv with
                    | true =>
                      have e : v = false := by rw [HVQ.out, HME.out HWY.out]; rfl
                      subst e
                      go_wp2_with fail
                      refine HDP.out.mono ?_
                      rintro e w5 ⟨rfl, hb5⟩
                      have HB5 := Lib.hid (HB1.out.trans (hb5.mono HB1.out.size))
                      clear hb5 HDP
                      go_wp2_with fail
                      go_ret
                      exact Ans.mk rfl (HB0.out.trans (HB5.out.mono HB0.out.size))
                    | false =>
                      have HN : Hid ((Q.take (k + 1)).any (wayP (depW n3 m) x) = false) := Lib.hid (by rw [HMO.out, HANY.out, HWY.out]; rfl)
                      go_wp2_with fail
                      refine HDP.out.mono ?_
                      rintro e w5 ⟨rfl, hb5⟩
                      have HB5 := Lib.hid (HB1.out.trans (hb5.mono HB1.out.size))
                      clear hb5 HDP
                      go_wp2_with fail
                      go_roundw
                      case rel => exact ⟨k + 1, by omega, by go_num, HN.out, HB5.out⟩
                      case measure => simp [intOf]; omega
            · have hkdi : ¬ (k : Int) < (d : Int) := by omega
              have e : v = true := by
                have h := HANY.out
                rw [List.take_of_length_le (by rw [HMID.out.len]; omega)] at h
                rw [HVQ.out, h]
                rfl
              subst e
              go_wp2_with fail
              go_ret
              exact Ans.mk rfl (HB0.out.trans (hb.mono HB0.out.size))
        · have e3 : (x != y) = true := bne_iff_ne.2 hxy
          have e : v = false := by rw [HVV.out, decide_eq_false hxy]; rfl
          subst e
          go_quiet (fail)
          go_wp2_with fail
          go_ret
          exact Ans.mk rfl (Below.drewN HB0.out nq)
end Go.Proofs.Ytoaocdmcjjohgaa

/- Whose each tick of a row is; how many ticks: by the document's own answer. -/
namespace Go.Proofs.Ytoaocdmcjjohgaa
open Go.RowKit Tab
set_option linter.unusedSimpArgs false
set_option linter.unusedVariables false

/-- Whose each tick is. -/
def wordsL : List Rn → List Int
  | [] => []
  | r :: s => List.replicate r.n r.p ++ wordsL s
theorem wordsL_len (L : List Rn) : (wordsL L).length = ticks L := by
  induction L with
  | nil => rfl
  | cons r s ih => simp only [wordsL, List.length_append, List.length_replicate, ih, ticks]
theorem wordsL_append (a b : List Rn) : wordsL (a ++ b) = wordsL a ++ wordsL b := by
  induction a with
  | nil => rfl
  | cons r s ih => simp only [List.cons_append, wordsL, ih, List.append_assoc]
theorem wordsL_more {L : List Rn} {i : Nat} {r : Rn} (h : L[i]? = some r) : wordsL (L.take (i + 1)) = wordsL (L.take i) ++ List.replicate r.n r.p := by
  obtain ⟨hi, e⟩ := List.getElem?_eq_some_iff.1 h
  rw [List.take_succ_eq_append_getElem hi, wordsL_append, e]
  simp [wordsL]
/-- It answers a row of numbers, new. -/
def MadI (W : List Int) (w : World) (e : Ending) (w' : World) : Prop := ∃ A c, e = .returned (.slice A W.length c) ∧ RdI w' w'.heap.size A W.length W ∧ W.length ≤ c ∧ Below w.heap.size w w'
theorem OwnV.rdi {w : World} {B n c : Nat} {A : Option Addr} {L : List Int} (h : OwnV 3 1 w B A n c (is L)) : RdI w w.heap.size A n L := ⟨by have := h.len; rw [is_length] at this; omega, h.rd⟩
theorem rep_snoc (n : Nat) (p : Int) : List.replicate (n + 1) p = List.replicate n p ++ [p] := by rw [List.replicate_succ']
set_option maxRecDepth 100000 in
set_option maxHeartbeats 4000000 in
theorem words_any (A : Option Addr) (n cap : Nat) (L : List Rn) (w : World) (h : RdR w w.heap.size A n L) (hc : n ≤ cap) (hn : n ≤ 1048576) (ht : ticks L ≤ 8192) :
    Calls Try.prog 60 #[.slice A n cap] w (MadI (wordsL L) w) := by
  have HT := Lib.hid ht
  clear ht
  go_enter Try.func60, Try.ntmps60
  go_wp2_with fail
  go_loopw [3, 5, 6, 9] (fun q _ _ s wr => ∃ (i m c : Nat) (A' : Option Addr), i ≤ n ∧ s = .int .i64 i ∧ q = .slice A' m c ∧ OwnV 3 1 wr w.heap.size A' m c (is (wordsL (L.take i))) ∧ Below w.heap.size w wr) (fun _ _ _ s _ => n - (intOf s).toNat)
  case atStart => exact ⟨0, 0, 0, none, by omega, rfl, rfl, by simpa [wordsL, is] using OwnV.nil _ _ _ _, Below.refl _ _⟩
  case round =>
    obtain ⟨i, m, c, A', hi, rfl, rfl, how, hb⟩ := hrel
    by_cases hlt : i < n
    · obtain ⟨ad, r, rfl, had, hr, c0, c1⟩ := (h.on hb).at_ hlt
      have hbl := bl1 wr (.cells #[.int .i64 r.p, .int .i64 (r.n : Int)] 39)
      have hb1 := hb.trans (hbl.mono hb.size)
      have hmore := wordsL_more hr
      have htk := take_more hr
      have hle := take_ticks L (i + 1)
      have hT := HT.out
      have how1 := how.below rfl hbl
      have hm := how.len
      rw [is_length, wordsL_len, Nat.mul_one] at hm
      have hmt : m + r.n ≤ 8192 := by omega
      have HM := Lib.hid hmore
      have hwb := hb.size
      obtain ⟨rp, rn⟩ := r
      dsimp only at c0 c1 hmt how1 HM hb1
      have hobk : obk A' ≠ some wr.heap.size := fun e => by
        cases A' with
        | none => cases e
        | some a =>
          have hmp : 0 < m ∨ m = 0 := by omega
          rcases how.2 with ⟨hv, _⟩ | ⟨g', cap', cur, hv, _, hg', _⟩
          · cases hv
          · have h1 : some a = some ⟨g', 0, none⟩ := by injection hv
            injection h1 with h1
            subst h1
            have h2 := (Array.getElem?_eq_some_iff.1 hg').1
            injection e with e
            have e : g' = wr.heap.size := e
            omega
      clear hr hmore htk hle hT how hbl hb
      generalize hG : wr.alloc (.cells #[.int .i64 rp, .int .i64 (rn : Int)] 39) = W1 at how1 hb1
      have n0 : W1.cell? ⟨wr.heap.size, 0, none⟩ = some (.int .i64 rp) := by rw [← hG]; exact World.cell?_alloc_mark _ _ _ _ _
      have n1 : W1.cell? ⟨wr.heap.size, 1, none⟩ = some (.int .i64 (rn : Int)) := by rw [← hG]; exact World.cell?_alloc_mark _ _ _ _ _
      have hsz : wr.heap.size < W1.heap.size := by rw [← hG]; simp
      go_wp2_with fail
      generalize wr.heap.size = g at n0 n1 hsz hwb hobk ⊢
      clear hG c0 c1 had
      go_loopw [3, 6] (fun q s wx => ∃ (j k c2 : Nat) (A2 : Option Addr), j ≤ rn ∧ s = .int .i64 j ∧ q = .slice A2 k c2 ∧ k = m + j ∧ OwnV 3 1 wx w.heap.size A2 k c2 (is (wordsL (L.take i) ++ List.replicate j rp)) ∧ Below w.heap.size w wx ∧ wx.cell? ⟨g, 0, none⟩ = some (.int .i64 rp) ∧ wx.cell? ⟨g, 1, none⟩ = some (.int .i64 (rn : Int)) ∧ obk A2 ≠ some g) (fun _ s _ => rn - (intOf s).toNat)
      case atStart => exact ⟨0, m, c, A', by omega, rfl, rfl, rfl, by simpa using how1, hb1, n0, n1, hobk⟩
      case round =>
        obtain ⟨j, k, c2, A2, hj, rfl, rfl, hk, how2, hbx, n0, n1, hob⟩ := hrel
        by_cases hjn : j < rn
        · have hk8 : (k : Int) < 8192 := by omega
          have hk9 : k < 8192 := by omega
          have HKK := Lib.hid hk
          clear hk
          have hbl2 := bl1 wr (.cells #[.int .i64 rp] 3)
          have how3 := how2.below rfl hbl2
          have hrd := rdV_new wr #[.int .i64 rp] 3 (is [rp]) rfl
          have hb3 := hbx.trans (hbl2.mono hbx.size)
          have hgx : g < wr.heap.size := by
            have := World.block_lt_of_cell? wr _ n0
            exact this
          go_wp2_with (at_builtin; go_loud (refine wpList_appX elI rfl (.tmp 24) (.tmp 27) rfl rfl w.heap.size A2 k c2 _ rfl how3 _ 1 1 _ _ rfl hrd rfl Nat.one_pos (is_one _) (by omega) (by unfold maxLen; omega) hb3.size (k + 1) rfl (is (wordsL (L.take i) ++ List.replicate (j + 1) rp)) (by rw [rep_snoc, ← List.append_assoc]; exact (is_append _ _).symm) ?_; intro A4 c4 w4 hw4 hb4 hot))
          go_roundw
          case rel =>
            have hst : ∀ o v, wr.cell? ⟨g, o, none⟩ = some v → w4.cell? ⟨g, o, none⟩ = some v := fun o v hv => by
              have h1 : w4.cell? ⟨g, o, none⟩ = (wr.alloc (.cells #[.int .i64 rp] 3)).cell? ⟨g, o, none⟩ := World.cell?_of_block (hot.gb.block g (by simp; omega) (fun e => hob e.symm))
              rw [h1, World.cell?_alloc_lt _ _ _ hgx]
              exact hv
            refine ⟨j + 1, k + 1, c4, A4, by omega, by go_num, rfl, by have := HKK.out; omega, hw4, hb3.trans hb4, hst _ _ n0, hst _ _ n1, ?_⟩
            rcases hot.at_ with e | ⟨g4, e, hge⟩
            · rw [e]; exact hob
            · rw [e]
              intro e5
              injection e5 with e5
              simp at hge
              omega
          case measure => simp [intOf]; omega
        · obtain rfl : j = rn := by omega
          have how5 := how2
          rw [← HM.out] at how5
          have HOW5 := Lib.hid how5
          clear how5 how2 hk
          go_wp2_with fail
          go_roundw
          case rel => exact ⟨i + 1, k, c2, A2, by omega, by go_num, rfl, HOW5.out, hbx⟩
          case measure => simp [intOf]; omega
    · have hge : n ≤ i := by omega
      have e : L.take i = L := List.take_of_length_le (by rw [h.len]; exact hge)
      rw [e] at how
      have hm := how.len
      rw [is_length, Nat.mul_one] at hm
      go_wp2_with fail
      go_ret
      exact ⟨A', c, by rw [hm]; rfl, by rw [hm]; exact how.rdi, by rw [hm]; exact how.cap, hb⟩
end Go.Proofs.Ytoaocdmcjjohgaa

/- When the next one runs: how late, at worst, by the document's own answer. -/
namespace Go.Proofs.Ytoaocdmcjjohgaa
open Go.RowKit Tab
set_option linter.unusedSimpArgs false
set_option linter.unusedVariables false

/-- From the tick t on, round, the first one behind it that is of q. -/
def distF (W : List Int) (q : Int) (t : Nat) : Nat → Nat → Nat
  | 0, d => d
  | f + 1, d => if W[(t + d) % W.length]? = some q then d else distF W q t f (d + 1)
def dist (W : List Int) (q : Int) (t : Nat) : Nat := distF W q t W.length 1
/-- The worst of the first k ticks of p. -/
def lateW (W : List Int) (p q : Int) : Nat → Nat
  | 0 => 0
  | k + 1 => if W[k]? = some p then max (lateW W p q k) (dist W q k) else lateW W p q k
def hasL (q : Int) : List Int → Bool
  | [] => false
  | x :: l => decide (x = q) || hasL q l
def lateL (W : List Int) (p q : Int) : Int := if hasL p W = false then 0 else if hasL q W = false then -1 else (lateW W p q W.length : Int)
theorem hasL_append (q : Int) (a b : List Int) : hasL q (a ++ b) = (hasL q a || hasL q b) := by
  induction a with
  | nil => rfl
  | cons x a ih => simp only [List.cons_append, hasL, ih, Bool.or_assoc]
theorem hasL_more {W : List Int} {i : Nat} {x : Int} (q : Int) (h : W[i]? = some x) : hasL q (W.take (i + 1)) = (hasL q (W.take i) || decide (x = q)) := by
  obtain ⟨hi, e⟩ := List.getElem?_eq_some_iff.1 h
  rw [List.take_succ_eq_append_getElem hi, hasL_append, e]
  simp [hasL]
theorem hasL_get {W : List Int} {q : Int} (h : hasL q W = true) : ∃ i, i < W.length ∧ W[i]? = some q := by
  induction W with
  | nil => cases h
  | cons x W ih =>
    simp only [hasL, Bool.or_eq_true, decide_eq_true_eq] at h
    rcases h with rfl | h
    · exact ⟨0, by simp, rfl⟩
    · obtain ⟨i, hi, e⟩ := ih h
      exact ⟨i + 1, by simp only [List.length_cons]; omega, by simpa using e⟩
/-- Within a round there is one. -/
theorem dist_ex {W : List Int} {q : Int} (h : hasL q W = true) (t : Nat) : ∃ e, 1 ≤ e ∧ e ≤ W.length ∧ W[(t + e) % W.length]? = some q := by
  obtain ⟨i, hi, e⟩ := hasL_get h
  have hn : 0 < W.length := by omega
  have h1 := Nat.mod_lt t hn
  have h2 := Nat.div_add_mod t W.length
  by_cases hlt : t % W.length < i
  · refine ⟨i - t % W.length, by omega, by omega, ?_⟩
    have h3 : (t + (i - t % W.length)) % W.length = i := by
      have h4 : t + (i - t % W.length) = i + W.length * (t / W.length) := by omega
      rw [h4, Nat.add_mul_mod_self_left, Nat.mod_eq_of_lt hi]
    rw [h3]
    exact e
  · refine ⟨W.length + i - t % W.length, by omega, by omega, ?_⟩
    have h3 : (t + (W.length + i - t % W.length)) % W.length = i := by
      have h4 : t + (W.length + i - t % W.length) = i + W.length * (t / W.length + 1) := by
        rw [Nat.mul_add, Nat.mul_one]
        omega
      rw [h4, Nat.add_mul_mod_self_left, Nat.mod_eq_of_lt hi]
    rw [h3]
    exact e
theorem distF_yes {W : List Int} {q : Int} {t f d : Nat} (h : W[(t + d) % W.length]? = some q) : distF W q t f d = d := by
  cases f with
  | zero => rfl
  | succ f => simp only [distF]; rw [if_pos h]
theorem distF_no {W : List Int} {q : Int} {t f d : Nat} (h : ¬ W[(t + d) % W.length]? = some q) : distF W q t (f + 1) d = distF W q t f (d + 1) := by simp only [distF]; rw [if_neg h]
set_option maxRecDepth 100000 in
set_option maxHeartbeats 4000000 in
theorem late_any (A : Option Addr) (n cap : Nat) (L : List Rn) (p q : Int) (w : World) (h : RdR w w.heap.size A n L) (hc : n ≤ cap) (hn : n ≤ 1048576) (ht : ticks L ≤ 8192) :
    Calls Try.prog 47 #[.slice A n cap, .int .i64 p, .int .i64 q] w (Ans (.int .i64 (lateL (wordsL L) p q)) w) := by
  have hW := words_any A n cap L w h hc hn ht
  have hl := wordsL_len L
  unfold MadI at hW
  generalize wordsL L = W at hW hl ⊢
  have hm : W.length ≤ 8192 := by omega
  have hlate0 : hasL p W = false → lateL W p q = 0 := fun e => if_pos e
  have hlate1 : hasL p W = true → hasL q W = false → lateL W p q = -1 := fun e e2 => by unfold lateL; rw [if_neg (by rw [e]; simp), if_pos e2]
  have hlate2 : hasL p W = true → hasL q W = true → lateL W p q = (lateW W p q W.length : Int) := fun e e2 => by unfold lateL; rw [if_neg (by rw [e]; simp), if_neg (by rw [e2]; simp)]
  generalize lateL W p q = R at hlate0 hlate1 hlate2 ⊢
  generalize hM : W.length = m at hW hm hlate2
  have HM := Lib.hid hM
  have HW := Lib.hid hW
  have HL0 := Lib.hid hlate0
  have HL1 := Lib.hid hlate1
  have HL2 := Lib.hid hlate2
  clear hW hlate0 hlate1 hlate2 hM h hl
  go_enter Try.func47, Try.ntmps47
  go_wp2_with fail
  refine HW.out.mono ?_
  rintro e w1 ⟨A1, c1, rfl, hr1, hc1, hb1⟩
  go_wp2_with fail
  go_loopw [9, 10, 12, 20] (fun s9 s10 _ s wr => ∃ i : Nat, i ≤ m ∧ s = .int .i64 i ∧ s9 = .bool (hasL q (W.take i)) ∧ s10 = .bool (hasL p (W.take i)) ∧ wr = w1) (fun _ _ _ s _ => m - (intOf s).toNat)
  case atStart => exact ⟨0, by omega, rfl, rfl, rfl, rfl⟩
  case round =>
    obtain ⟨i, hi, rfl, rfl, rfl, hw⟩ := hrel
    have hw' := hw.symm
    clear hw
    subst hw'
    by_cases hlt : i < m
    · obtain ⟨ad, x, rfl, had, hx, c0⟩ := hr1.at_ hlt
      have e1 := hasL_more q hx
      have e2 := hasL_more p hx
      have E1 := Lib.hid e1
      have E2 := Lib.hid e2
      clear e1 e2 hx
      generalize hasL q (W.take i) = b1 at E1 ⊢
      generalize hasL p (W.take i) = b2 at E2 ⊢
      have f1 : (x == q) = decide (x = q) := rfl
      have f2 : (x == p) = decide (x = p) := rfl
      cases b1 <;> cases b2 <;>
        (go_wp2_with fail
         go_roundw
         case rel => exact ⟨i + 1, by omega, by go_num, by rw [E1.out]; simp, by rw [E2.out]; simp, trivial⟩
         case measure => simp [intOf]; omega)
    · have hge : m ≤ i := by omega
      have e : W.take i = W := List.take_of_length_le (by rw [HM.out]; exact hge)
      rw [e]
      clear e
      cases hp : hasL p W with
      | false =>
        have e := HL0.out hp
        subst e
        go_wp2_with fail
        go_ret
        exact ⟨rfl, hb1⟩
      | true =>
        cases hq : hasL q W with
        | false =>
          have e := HL1.out hp hq
          subst e
          go_wp2_with fail
          go_ret
          exact ⟨rfl, hb1⟩
        | true =>
          have e := HL2.out hp hq
          have HE := Lib.hid e
          have HEX := Lib.hid fun t => dist_ex hq t
          clear e hp hq HL0 HL1 HL2
          go_wp2_with fail
          go_loopw [8, 13, 14, 15, 43] (fun s8 _ _ _ s wr => ∃ t k : Nat, t ≤ m ∧ s = .int .i64 t ∧ s8 = .int .i64 k ∧ k = lateW W p q t ∧ k ≤ m ∧ wr = w1) (fun _ _ _ _ s _ => m - (intOf s).toNat)
          case atStart => exact ⟨0, 0, by omega, rfl, rfl, rfl, by omega, rfl⟩
          case round =>
            obtain ⟨t, k, ht, rfl, rfl, hk, hkm, hw⟩ := hrel
            have hw' := hw.symm
            clear hw
            subst hw'
            have HK := Lib.hid hk
            clear hk
            by_cases hlt : t < m
            · obtain ⟨ad, x, rfl, had, hx, c0⟩ := hr1.at_ hlt
              have HX := Lib.hid hx
              clear hx
              by_cases hxp : x = p
              · subst hxp
                have hne : (x != x) = false := by simp
                go_wp2_with fail
                go_loopw [15] (fun s wr => ∃ d f : Nat, 1 ≤ d ∧ d + f = m + 1 ∧ s = .int .i64 d ∧ distF W q t f d = dist W q t ∧ (∃ e, d ≤ e ∧ e ≤ m ∧ W[(t + e) % m]? = some q) ∧ wr = w1) (fun s _ => m + 1 - (intOf s).toNat)
                case atStart =>
                  obtain ⟨e, h1, h2, h3⟩ := HEX.out t
                  rw [HM.out] at h2 h3
                  exact ⟨1, m, by omega, by omega, rfl, by unfold dist; rw [HM.out], ⟨e, h1, h2, h3⟩, rfl⟩
                case round =>
                  obtain ⟨d, f, hd1, hdf, rfl, hdist, hex, hw⟩ := hrel
                  have hw' := hw.symm
                  clear hw
                  subst hw'
                  have hdm : d ≤ m := by obtain ⟨e, h1, h2, _⟩ := hex; omega
                  obtain ⟨r, hr⟩ : ∃ r, r = (t + d) % m := ⟨_, rfl⟩
                  have hrm : r < m := by rw [hr]; exact Nat.mod_lt _ (by omega)
                  obtain ⟨ad2, y, e2, _, hy, d0⟩ := hr1.at_ hrm
                  injection e2 with e2
                  subst e2
                  have hr2 : ((t : Int) + (d : Int)) % (m : Int) = (r : Int) := by rw [hr, Int.natCast_emod]; rfl
                  have hr3 : ((t : Int) + (d : Int)).tmod (m : Int) = (r : Int) := by rw [Int.tmod_eq_emod_of_nonneg (by omega)]; exact hr2
                  have HD := Lib.hid hdist
                  have HX2 := Lib.hid hex
                  have HY := Lib.hid hy
                  have HRR := Lib.hid hr
                  have hm0 : ¬ m = 0 := by omega
                  clear hdist hex hy hr
                  by_cases hyq : y = q
                  · subst hyq
                    have hne2 : (y != y) = false := by simp
                    have hdd : distF W y t f d = d := distF_yes (by rw [HM.out, ← HRR.out]; exact HY.out)
                    have hD := HD.out
                    rw [hdd] at hD
                    have HD2 := Lib.hid hD
                    have hx1 : max (k : Int) (d : Int) = ((max k d : Nat) : Int) := by omega
                    have HLW : Hid (max k d = lateW W x y (t + 1)) := Lib.hid (by simp only [lateW]; rw [if_pos HX.out, HK.out, hD])
                    have hmx : max k d ≤ m := by omega
                    clear hD hdd HD
                    go_wp2_with fail
                    go_roundw
                    case rel => exact ⟨t + 1, max k d, by omega, by go_num, by congr 1; first | omega | (split <;> omega), HLW.out, hmx, trivial⟩
                    case measure => simp [intOf]; omega
                  · have hne2 : (y != q) = true := bne_iff_ne.2 hyq
                    have hno : ¬ W[(t + d) % W.length]? = some q := by
                      rw [HM.out, ← HRR.out, HY.out]
                      intro e
                      injection e with e
                      exact hyq e
                    have hx2 : ∃ e, d + 1 ≤ e ∧ e ≤ m ∧ W[(t + e) % m]? = some q := by
                      obtain ⟨e, h1, h2, h3⟩ := HX2.out
                      refine ⟨e, ?_, h2, h3⟩
                      rcases Nat.lt_or_ge d e with h4 | h4
                      · exact h4
                      · have : e = d := by omega
                        subst this
                        rw [HM.out] at hno
                        exact absurd h3 hno
                    obtain ⟨f', rfl⟩ : ∃ f', f = f' + 1 := ⟨f - 1, by obtain ⟨e, h1, h2, _⟩ := hx2; omega⟩
                    have hD := HD.out
                    rw [distF_no hno] at hD
                    have HD2 := Lib.hid hD
                    have HX3 := Lib.hid hx2
                    clear hD HD hno hx2 HX2
                    go_wp2_with fail
                    go_roundw
                    case rel => exact ⟨d + 1, f', by omega, by omega, by go_num, HD2.out, HX3.out, trivial⟩
                    case measure => simp [intOf]; omega
              · have hne : (x != p) = true := bne_iff_ne.2 hxp
                have HLW : Hid (k = lateW W p q (t + 1)) := Lib.hid (by
                  simp only [lateW]
                  rw [if_neg (by rw [HX.out]; intro e; injection e with e; exact hxp e)]
                  exact HK.out)
                go_wp2_with fail
                go_roundw
                case rel => exact ⟨t + 1, k, by omega, by go_num, rfl, HLW.out, hkm, trivial⟩
                case measure => simp [intOf]; omega
            · obtain rfl : t = m := by omega
              have hR : R = (k : Int) := by rw [HE.out, HK.out]
              have HR := Lib.hid hR
              clear hR
              go_wp2_with fail
              go_ret
              exact ⟨by rw [HR.out]; rfl, hb1⟩
end Go.Proofs.Ytoaocdmcjjohgaa

/- How many ticks in each period, at least; how many in all: by the document's own answer. -/
namespace Go.Proofs.Ytoaocdmcjjohgaa
open Go.RowKit Tab
set_option linter.unusedSimpArgs false
set_option linter.unusedVariables false

set_option maxRecDepth 100000 in
set_option maxHeartbeats 1600000 in
theorem total_any (A : Option Addr) (n cap : Nat) (L : List Rn) (w : World) (h : RdR w w.heap.size A n L) (hc : n ≤ cap) (hn : n ≤ 1048576) (ht : ticks L ≤ 1099511627776) :
    Calls Try.prog 46 #[.slice A n cap] w (Ans (.int .i64 (ticks L : Nat)) w) := by
  generalize hT : ticks L = T at ht
  have HT := Lib.hid hT
  clear hT
  go_enter Try.func46, Try.ntmps46
  go_wp2_with fail
  go_loopw [3, 5, 8] (fun q _ s wr => ∃ i k : Nat, i ≤ n ∧ s = .int .i64 i ∧ q = .int .i64 k ∧ k = ticks (L.take i) ∧ Below w.heap.size w wr) (fun _ _ s _ => n - (intOf s).toNat)
  case atStart => exact ⟨0, 0, by omega, rfl, rfl, by simp [ticks], Below.refl _ _⟩
  case round =>
    obtain ⟨i, k, hi, rfl, rfl, hk, hb⟩ := hrel
    have HK := Lib.hid hk
    clear hk
    by_cases hlt : i < n
    · obtain ⟨ad, r, rfl, had, hr, c0, c1⟩ := (h.on hb).at_ hlt
      have htk := take_more hr
      have hle := take_ticks L (i + 1)
      rw [HT.out] at hle
      have hk2 : k + r.n = ticks (L.take (i + 1)) := by rw [htk, HK.out]
      have hkb : k + r.n ≤ 1099511627776 := by omega
      have HK2 := Lib.hid hk2
      have hbl := bl1 wr (.cells #[.int .i64 r.p, .int .i64 (r.n : Int)] 39)
      have HB := Lib.hid (hb.trans (hbl.mono hb.size))
      obtain ⟨rp, rn⟩ := r
      dsimp only at c0 c1 hkb HK2 HB
      have HS := Lib.hid fun W => sum_any (k : Int) (rn : Int) (k : Int) (rn : Int) W (by omega) (by omega) (by omega) rfl rfl
      clear hr htk hle hk2 hbl
      go_wp2_with fail
      refine (HS.out _).mono ?_
      rintro e w5 ⟨rfl, rfl⟩
      go_wp2_with fail
      go_roundw
      case rel => exact ⟨i + 1, k + rn, by omega, by go_num, by go_num, HK2.out, HB.out⟩
      case measure => simp [intOf]; omega
    · have hge : n ≤ i := by omega
      have e : L.take i = L := List.take_of_length_le (by rw [h.len]; exact hge)
      have hk := HK.out
      rw [e, HT.out] at hk
      subst hk
      clear e HK
      go_wp2_with fail
      go_ret
      exact Ans.mk rfl hb
/-- How many are p. -/
def cntF (p : Int) : List Int → Nat
  | [] => 0
  | x :: l => (if x = p then 1 else 0) + cntF p l
theorem cntF_append (p : Int) (a b : List Int) : cntF p (a ++ b) = cntF p a + cntF p b := by
  induction a with
  | nil => simp [cntF]
  | cons x a ih => simp only [List.cons_append, cntF, ih]; omega
theorem cntF_le (p : Int) (a : List Int) : cntF p a ≤ a.length := by
  induction a with
  | nil => simp [cntF]
  | cons x a ih => simp only [cntF, List.length_cons]; split <;> omega
theorem cntF_more {W : List Int} {i : Nat} {x : Int} (p : Int) (h : W[i]? = some x) : cntF p (W.take (i + 1)) = cntF p (W.take i) + if x = p then 1 else 0 := by
  obtain ⟨hi, e⟩ := List.getElem?_eq_some_iff.1 h
  rw [List.take_succ_eq_append_getElem hi, cntF_append, e]
  simp [cntF]
/-- The least of the first k periods. -/
def budW (W : List Int) (p : Int) (P : Nat) : Nat → Nat
  | 0 => P + 1
  | k + 1 => min (budW W p P k) (cntF p ((W.drop (k * P)).take P))
def budL (W : List Int) (p z : Int) : Int := if z < 1 then -1 else if W.length = 0 then -1 else if W.length % z.toNat ≠ 0 then -1 else (budW W p z.toNat (W.length / z.toNat) : Int)
theorem budW_le (W : List Int) (p : Int) (P k : Nat) : budW W p P k ≤ P + 1 := by
  induction k with
  | zero => exact Nat.le_refl _
  | succ k ih => simp only [budW]; omega
set_option maxRecDepth 100000 in
set_option maxHeartbeats 4000000 in
theorem budget_any (A : Option Addr) (n cap : Nat) (L : List Rn) (p z : Int) (w : World) (h : RdR w w.heap.size A n L) (hc : n ≤ cap) (hn : n ≤ 1048576) (ht : ticks L ≤ 8192) (hz : In64 z) :
    Calls Try.prog 48 #[.slice A n cap, .int .i64 p, .int .i64 z] w (Ans (.int .i64 (budL (wordsL L) p z)) w) := by
  have hW := words_any A n cap L w h hc hn ht
  have hl := wordsL_len L
  unfold MadI at hW
  generalize wordsL L = W at hW hl ⊢
  have hm : W.length ≤ 8192 := by omega
  have hb0 : z < 1 → budL W p z = -1 := fun e => if_pos e
  have hb1' : ¬ z < 1 → W.length = 0 → budL W p z = -1 := fun e e2 => by unfold budL; rw [if_neg e, if_pos e2]
  have hb2' : ¬ z < 1 → ¬ W.length = 0 → W.length % z.toNat ≠ 0 → budL W p z = -1 := fun e e2 e3 => by unfold budL; rw [if_neg e, if_neg e2, if_pos e3]
  have hb3' : ¬ z < 1 → ¬ W.length = 0 → W.length % z.toNat = 0 → budL W p z = (budW W p z.toNat (W.length / z.toNat) : Int) := fun e e2 e3 => by unfold budL; rw [if_neg e, if_neg e2, if_neg (by simpa using e3)]
  generalize budL W p z = R at hb0 hb1' hb2' hb3' ⊢
  generalize hM : W.length = m at hW hm hb1' hb2' hb3'
  have HM := Lib.hid hM
  have HW := Lib.hid hW
  have H0 := Lib.hid hb0
  have H1 := Lib.hid hb1'
  have H2 := Lib.hid hb2'
  have H3 := Lib.hid hb3'
  unfold In64 at hz
  clear hW hb0 hb1' hb2' hb3' hM h hl
  go_enter Try.func48, Try.ntmps48
  go_wp2_with fail
  refine HW.out.mono ?_
  rintro e w1 ⟨A1, c1, rfl, hr1, hc1, hb1⟩
  by_cases hz1 : z < 1
  · have e := H0.out hz1
    subst e
    go_wp2_with fail
    go_ret
    exact ⟨rfl, hb1⟩
  · obtain ⟨P, rfl⟩ := Int.eq_ofNat_of_zero_le (show 0 ≤ z by omega)
    have hP1 : 1 ≤ P := by omega
    by_cases hm0 : m = 0
    · have e := H1.out (by omega) hm0
      have hmb : ((m : Int) == 0) = true := beq_iff_eq.2 (by omega)
      subst e
      subst hm0
      go_wp2_with fail
      go_ret
      exact ⟨rfl, hb1⟩
    · have hmb : ((m : Int) == 0) = false := beq_eq_false_iff_ne.2 (by omega)
      have hP0 : ¬ P = 0 := by omega
      by_cases hmp : m % P = 0
      · have e := H3.out (by omega) hm0 hmp
        rw [Int.toNat_natCast] at e
        have h1 : (m : Int) % (P : Int) = 0 := by rw [← Int.natCast_emod, hmp]; rfl
        have h2 : (m : Int).tmod (P : Int) = 0 := by rw [Int.tmod_eq_emod_of_nonneg (Int.natCast_nonneg _)]; exact h1
        have h3 : ((m : Int).tmod (P : Int) != 0) = false := by rw [h2]; rfl
        have h4 : ((m : Int) % (P : Int) != 0) = false := by rw [h1]; rfl
        obtain ⟨K, hK⟩ : ∃ K, K = m / P := ⟨_, rfl⟩
        have hKP : K * P = m := by rw [hK]; exact Nat.div_mul_cancel (Nat.dvd_of_mod_eq_zero hmp)
        rw [← hK] at e
        have HE := Lib.hid e
        have HKP := Lib.hid hKP
        have hPm : P ≤ m := by
          rcases Nat.eq_zero_or_pos K with h0 | h0
          · rw [h0] at hKP; omega
          · have := Nat.le_mul_of_pos_left P h0
            omega
        clear e hKP hK hmp H0 H1 H2 H3
        go_wp2_with fail
        go_loopw [8, 9, 10, 12] (fun s8 s9 _ _ wr => ∃ k t l : Nat, k ≤ K ∧ t = k * P ∧ l = budW W p P k ∧ s9 = .int .i64 t ∧ s8 = .int .i64 l ∧ t ≤ m ∧ l ≤ 8193 ∧ wr = w1) (fun _ s9 _ _ _ => m - (intOf s9).toNat)
        case atStart => exact ⟨0, 0, P + 1, by omega, by omega, rfl, rfl, by go_num, by omega, by omega, rfl⟩
        case round =>
          obtain ⟨k, t, l, hk, ht', hl', rfl, rfl, htm, hl8, hw⟩ := hrel
          have hw' := hw.symm
          clear hw
          subst hw'
          have HTK := Lib.hid ht'
          have HLK := Lib.hid hl'
          clear ht' hl'
          by_cases hlt : t < m
          · have hkK : k < K := by
              rcases Nat.lt_or_ge k K with h5 | h5
              · exact h5
              · have := Nat.mul_le_mul_right P h5
                rw [HKP.out, ← HTK.out] at this
                omega
            have htP : t + P ≤ m := by
              have := Nat.mul_le_mul_right P (show k + 1 ≤ K from hkK)
              rw [HKP.out, Nat.succ_mul, ← HTK.out] at this
              exact this
            obtain ⟨ad, x0, rfl, _⟩ := hr1.at_ hlt
            have hct : ¬ c1 = t := by omega
            go_wp2_with fail
            go_loopw [10, 12, 45] (fun s10 _ s wr => ∃ j q : Nat, j ≤ P ∧ s = .int .i64 j ∧ s10 = .int .i64 q ∧ q = cntF p (((W.drop t).take P).take j) ∧ q ≤ j ∧ wr = w1) (fun _ _ s _ => P - (intOf s).toNat)
            case atStart => exact ⟨0, 0, by omega, rfl, rfl, by simp [cntF], by omega, rfl⟩
            case round =>
              obtain ⟨j, q, hj, rfl, rfl, hq, hqj, hw⟩ := hrel
              have hw' := hw.symm
              clear hw
              subst hw'
              have HQ := Lib.hid hq
              clear hq
              by_cases hjP : j < P
              · obtain ⟨ad2, x, e2, _, hx, d0⟩ := hr1.at_ (i := t + j) (by omega)
                injection e2 with e2
                subst e2
                rw [← add_add] at d0
                have hvx : ((W.drop t).take P)[j]? = some x := by rw [List.getElem?_take, if_pos hjP, List.getElem?_drop]; exact hx
                have hcm := cntF_more p hvx
                rw [← HQ.out] at hcm
                have HCM := Lib.hid hcm
                clear hcm hvx hx
                by_cases hxp : x = p
                · subst hxp
                  have hne : (x == x) = true := by simp
                  have hc2 := HCM.out
                  rw [if_pos rfl] at hc2
                  have HC2 := Lib.hid hc2
                  clear hc2 HCM
                  go_wp2_with fail
                  go_roundw
                  case rel => exact ⟨j + 1, q + 1, by omega, by go_num, by go_num, HC2.out.symm, by omega, trivial⟩
                  case measure => simp [intOf]; omega
                · have hne : (x == p) = false := beq_eq_false_iff_ne.2 hxp
                  have hc2 := HCM.out
                  rw [if_neg hxp] at hc2
                  have HC2 := Lib.hid hc2
                  clear hc2 HCM
                  go_wp2_with fail
                  go_roundw
                  case rel => exact ⟨j + 1, q, by omega, by go_num, by go_num, HC2.out.symm, by omega, trivial⟩
                  case measure => simp [intOf]; omega
              · have e : ((W.drop t).take P).take j = (W.drop t).take P := List.take_of_length_le (by rw [List.length_take]; omega)
                have hq := HQ.out
                rw [e] at hq
                have HLN : Hid (min l q = budW W p P (k + 1)) := Lib.hid (by simp only [budW]; rw [← HLK.out, ← HTK.out, ← hq])
                have HTN : Hid (t + P = (k + 1) * P) := Lib.hid (by rw [Nat.succ_mul, ← HTK.out])
                have hml : min l q ≤ 8193 := by omega
                clear hq e HQ
                go_wp2_with fail
                go_roundw
                case rel => exact ⟨k + 1, t + P, min l q, by omega, HTN.out, HLN.out, by go_num, by congr 1; first | omega | (split <;> omega), htP, hml, trivial⟩
                case measure => simp [intOf]; omega
          · have hkK : k = K := by
              rcases Nat.lt_or_ge k K with h5 | h5
              · have := Nat.mul_le_mul_right P (show k + 1 ≤ K from h5)
                rw [HKP.out, Nat.succ_mul, ← HTK.out] at this
                omega
              · omega
            have hR : R = (l : Int) := by rw [HE.out, HLK.out, hkK]
            have HR := Lib.hid hR
            have htm' : ¬ (t : Int) < (m : Int) := by omega
            clear hR hkK
            go_wp2_with fail
            go_ret
            exact ⟨by rw [HR.out]; rfl, hb1⟩
      · have e := H2.out (by omega) hm0 (by rw [Int.toNat_natCast]; exact hmp)
        have h1 : ¬ (m : Int) % (P : Int) = 0 := by rw [← Int.natCast_emod]; omega
        have h2 : ¬ (m : Int).tmod (P : Int) = 0 := by rw [Int.tmod_eq_emod_of_nonneg (Int.natCast_nonneg _)]; exact h1
        have h3 : ((m : Int).tmod (P : Int) != 0) = true := bne_iff_ne.2 h2
        have h4 : ((m : Int) % (P : Int) != 0) = true := bne_iff_ne.2 h1
        subst e
        go_wp2_with fail
        go_ret
        exact ⟨rfl, hb1⟩
end Go.Proofs.Ytoaocdmcjjohgaa
