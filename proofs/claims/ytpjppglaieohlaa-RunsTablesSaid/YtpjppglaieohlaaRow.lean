/- Rows of nodes in memory. -/
import Derived.Test.YtpjppglaieohlaaMemG
import Derived.Test.YtpjppglaieohlaaNod
namespace Go.Proofs.Ytpjppglaieohlaa
open Go.RowKit Tab

theorem elN : Elt 38 44 3 24 (.agg #[.int .i64 0, .int .i64 0, .int .i64 0]) := ⟨Try.underlying38, by kernel_rfl, rfl, by omega⟩
theorem elO : Elt 63 81 2 16 (.agg #[.int .i64 0, .int .i64 0]) := ⟨Try.underlying63, by kernel_rfl, rfl, by omega⟩
theorem elI : Elt 22 3 1 8 (.int .i64 0) := ⟨Try.underlying22, by kernel_rfl, rfl, by omega⟩
/-- Numbers that an int64 holds. -/
def In64 (z : Int) : Prop := -9223372036854775808 ≤ z ∧ z ≤ 9223372036854775807
def NdIn (x : Nd) : Prop := In64 x.k ∧ In64 x.p ∧ In64 x.n
/-- A row of nodes as cells. -/
def ns : List Nd → List Value
  | [] => []
  | x :: l => .int .i64 x.k :: .int .i64 x.p :: .int .i64 x.n :: ns l
theorem ns_length (l : List Nd) : (ns l).length = l.length * 3 := by
  induction l with
  | nil => rfl
  | cons x l ih => simp only [ns, List.length_cons, ih]; omega
theorem ns_append (l m : List Nd) : ns (l ++ m) = ns l ++ ns m := by
  induction l with
  | nil => rfl
  | cons x l ih => simp [ns, ih]
theorem ns_one (l : List Nd) : ∀ u ∈ ns l, u.oneCell' = true := by
  induction l with
  | nil => simp [ns]
  | cons x l ih =>
    intro u hu
    simp only [ns, List.mem_cons] at hu
    rcases hu with rfl | rfl | rfl | hu
    · rfl
    · rfl
    · rfl
    · exact ih u hu
theorem ns_get (l : List Nd) (i : Nat) (h : i < l.length) : (ns l)[i * 3]? = some (.int .i64 l[i].k) ∧ (ns l)[i * 3 + 1]? = some (.int .i64 l[i].p) ∧ (ns l)[i * 3 + 2]? = some (.int .i64 l[i].n) := by
  induction l generalizing i with
  | nil => simp at h
  | cons x l ih =>
    cases i with
    | zero => simp [ns]
    | succ i =>
      have := ih i (by simpa using h)
      have e : (i + 1) * 3 = i * 3 + 1 + 1 + 1 := by omega
      rw [e]
      simp only [ns, List.getElem?_cons_succ, List.getElem_cons_succ]
      exact this
theorem ns_drop (l : List Nd) (k : Nat) : ns (l.drop k) = (ns l).drop (k * 3) := by
  induction k generalizing l with
  | zero => simp
  | succ k ih =>
    cases l with
    | nil => simp [ns]
    | cons x l => rw [List.drop_succ_cons, ih, show (k + 1) * 3 = k * 3 + 3 by omega]; simp [ns]
theorem ns_take (l : List Nd) (k : Nat) : ns (l.take k) = (ns l).take (k * 3) := by
  induction k generalizing l with
  | zero => simp [ns]
  | succ k ih =>
    cases l with
    | nil => simp [ns]
    | cons x l => rw [List.take_succ_cons, show (k + 1) * 3 = k * 3 + 3 by omega]; simp [ns, ih]
/-- A slice at A, n long, holds the nodes l. -/
structure RdN (w : World) (B : Nat) (A : Option Addr) (n : Nat) (l : List Nd) : Prop where
  len : l.length = n
  rd : RdV w B A (ns l)
  bd : ∀ x ∈ l, NdIn x
section
variable {w w' : World} {B B' n : Nat} {A : Option Addr} {l : List Nd}
theorem RdN.below (h : RdN w B A n l) (hb : Below B w w') : RdN w' B A n l := ⟨h.len, h.rd.below hb, h.bd⟩
theorem RdN.more (h : RdN w B A n l) (hB : B ≤ B') : RdN w B' A n l := ⟨h.len, h.rd.more hB, h.bd⟩
theorem RdN.back {ad : Addr} (h : RdN w B (some ad) n l) (k : Nat) : RdN w B (some (ad.add (k * 3))) (n - k) (l.drop k) :=
  ⟨by rw [List.length_drop, h.len], by rw [ns_drop]; exact h.rd.back (k * 3), fun x hx => h.bd x (List.mem_of_mem_drop hx)⟩
theorem RdN.front (h : RdN w B A n l) (k : Nat) (hk : k ≤ n) : RdN w B A k (l.take k) :=
  ⟨by rw [List.length_take, h.len]; omega, by rw [ns_take]; exact h.rd.front (k * 3), fun x hx => h.bd x (List.mem_of_mem_take hx)⟩
/-- In a later world. -/
theorem RdN.on (h : RdN w w.heap.size A n l) (hb : Below w.heap.size w w') : RdN w' w'.heap.size A n l := (h.below hb).more hb.size
theorem RdN.at_ (h : RdN w B A n l) {i : Nat} (hi : i < n) : ∃ (ad : Addr) (x : Nd), A = some ad ∧ ad.block < B ∧ l[i]? = some x ∧ NdIn x ∧
    w.cell? (ad.add (i * 3)) = some (.int .i64 x.k) ∧ w.cell? ⟨(ad.add (i * 3)).block, (ad.add (i * 3)).off + 1, none⟩ = some (.int .i64 x.p) ∧ w.cell? ⟨(ad.add (i * 3)).block, (ad.add (i * 3)).off + 2, none⟩ = some (.int .i64 x.n) := by
  have hl : i < l.length := by rw [h.len]; exact hi
  obtain ⟨ad, e, hb, hc⟩ := h.rd (by rw [ns_length]; omega)
  obtain ⟨h1, h2, h3⟩ := ns_get l i hl
  have e1 : ∀ j, 0 < j → (⟨(ad.add (i * 3)).block, (ad.add (i * 3)).off + j, none⟩ : Addr) = ad.add (i * 3 + j) := fun j hj => by
    rw [← add_add]
    generalize ad.add (i * 3) = p
    unfold Addr.add
    rw [if_neg (by omega)]
  refine ⟨ad, l[i], e, hb, List.getElem?_eq_getElem hl, h.bd _ (List.getElem_mem hl), hc _ _ h1, ?_, ?_⟩
  · rw [e1 1 (by omega)]; exact hc _ _ h2
  · rw [e1 2 (by omega)]; exact hc _ _ h3
end
/-- A node's new block, in a later world. -/
theorem new_nd {w w1 : World} {k p n : Int} {t : TypeId} (hb : Below (w.alloc (.cells #[.int .i64 k, .int .i64 p, .int .i64 n] t)).heap.size (w.alloc (.cells #[.int .i64 k, .int .i64 p, .int .i64 n] t)) w1) :
    w1.cell? ⟨w.heap.size, 0, none⟩ = some (.int .i64 k) ∧ w1.cell? ⟨w.heap.size, 1, none⟩ = some (.int .i64 p) ∧ w1.cell? ⟨w.heap.size, 2, none⟩ = some (.int .i64 n) := by
  have h : ∀ o, w1.cell? ⟨w.heap.size, o, none⟩ = (w.alloc (.cells #[.int .i64 k, .int .i64 p, .int .i64 n] t)).cell? ⟨w.heap.size, o, none⟩ := fun o => hb.cell (by simp)
  refine ⟨?_, ?_, ?_⟩ <;> rw [h] <;> simp [World.cell?_alloc_mark]
end Go.Proofs.Ytpjppglaieohlaa
