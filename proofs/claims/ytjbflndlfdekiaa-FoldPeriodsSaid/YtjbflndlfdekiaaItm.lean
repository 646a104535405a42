/- Rows of items in memory: a slice of slices of nodes. -/
import Derived.Test.YtjbflndlfdekiaaLf
import Derived.Laws.MakeOwn
import Derived.Laws.OwnMore
namespace Go.Proofs.Ytjbflndlfdekiaa
open Go.RowKit Tab
set_option linter.unusedSimpArgs false
set_option linter.unusedVariables false

theorem elL : Elt 46 31 1 24 (.slice none 0 0) := ⟨Try.underlying46, by kernel_rfl, rfl, by omega⟩
/-- The row of an item, somewhere below B, not in block g. -/
def ItemAt (w : World) (B g : Nat) (x : List Nd) (v : Value) : Prop := ∃ A c, v = .slice A x.length c ∧ x.length ≤ c ∧ RdN w B A x.length x ∧ ∀ ad, A = some ad → ad.block ≠ g
theorem ItemAt.keep {w w' : World} {B B' g : Nat} {x : List Nd} {v : Value} (h : ItemAt w B g x v) (hB : B ≤ B') (hk : ∀ p : Addr, p.block < B → p.block ≠ g → w'.cell? p = w.cell? p) : ItemAt w' B' g x v := by
  obtain ⟨A, c, e, hc, hr, hg⟩ := h
  refine ⟨A, c, e, hc, ⟨hr.len, fun hn => ?_, hr.bd⟩, hg⟩
  obtain ⟨ad, rfl, hb, hcell⟩ := hr.rd hn
  exact ⟨ad, rfl, by omega, fun j v hj => (hk _ (by rw [add_block]; exact hb) (by rw [add_block]; exact hg _ rfl)).trans (hcell j v hj)⟩
theorem ItemAt.one {w : World} {B g : Nat} {x : List Nd} {v : Value} (h : ItemAt w B g x v) : v.oneCell' = true := by
  obtain ⟨A, c, rfl, _⟩ := h
  rfl
/-- Cells that are items. -/
def Cells (w : World) (B g : Nat) (I : List (List Nd)) (V : List Value) : Prop := V.length = I.length ∧ ∀ (i : Nat) (x : List Nd) (v : Value), I[i]? = some x → V[i]? = some v → ItemAt w B g x v
theorem Cells.keep {w w' : World} {B B' g : Nat} {I : List (List Nd)} {V : List Value} (h : Cells w B g I V) (hB : B ≤ B') (hk : ∀ p : Addr, p.block < B → p.block ≠ g → w'.cell? p = w.cell? p) : Cells w' B' g I V :=
  ⟨h.1, fun i x v hx hv => (h.2 i x v hx hv).keep hB hk⟩
theorem Cells.below {w w' : World} {B g : Nat} {I : List (List Nd)} {V : List Value} (h : Cells w B g I V) (hb : Below B w w') : Cells w' B g I V := h.keep (Nat.le_refl _) fun p hp _ => hb.cell hp
theorem Cells.take {w : World} {B g : Nat} {I : List (List Nd)} {V : List Value} (h : Cells w B g I V) (k : Nat) : Cells w B g (I.take k) (V.take k) := by
  refine ⟨by simp [h.1], fun i x v hx hv => ?_⟩
  rw [List.getElem?_take] at hx hv
  split at hx
  · rename_i hi
    rw [if_pos hi] at hv
    exact h.2 i x v hx hv
  · cases hx
theorem Cells.drop {w : World} {B g : Nat} {I : List (List Nd)} {V : List Value} (h : Cells w B g I V) (k : Nat) : Cells w B g (I.drop k) (V.drop k) := by
  refine ⟨by simp [h.1], fun i x v hx hv => ?_⟩
  rw [List.getElem?_drop] at hx hv
  exact h.2 _ x v hx hv
theorem Cells.append {w : World} {B g : Nat} {I J : List (List Nd)} {V U : List Value} (h : Cells w B g I V) (k : Cells w B g J U) : Cells w B g (I ++ J) (V ++ U) := by
  refine ⟨by simp [h.1, k.1], fun i x v hx hv => ?_⟩
  by_cases hi : i < I.length
  · rw [List.getElem?_append_left hi] at hx
    rw [List.getElem?_append_left (by rw [h.1]; exact hi)] at hv
    exact h.2 i x v hx hv
  · rw [List.getElem?_append_right (by omega)] at hx
    rw [List.getElem?_append_right (by rw [h.1]; omega), h.1] at hv
    exact k.2 _ x v hx hv
theorem Cells.one {w : World} {B g : Nat} {I : List (List Nd)} {V : List Value} (h : Cells w B g I V) : ∀ v ∈ V, v.oneCell' = true := by
  intro v hv
  obtain ⟨i, hi, rfl⟩ := List.mem_iff_getElem.1 hv
  have h1 : I[i]? = some (I[i]'(by rw [← h.1]; exact hi)) := List.getElem?_eq_getElem _
  exact (h.2 i _ _ h1 (List.getElem?_eq_getElem hi)).one
theorem Cells.single {w : World} {B g : Nat} {x : List Nd} {v : Value} (h : ItemAt w B g x v) : Cells w B g [x] [v] := by
  refine ⟨rfl, fun i y u hy hu => ?_⟩
  match i with
  | 0 => simp at hy hu; subst hy; subst hu; exact h
  | i + 1 => simp at hy
/-- A slice at A, n long, of items I, each elsewhere than in block g. -/
structure RdL (w : World) (B g : Nat) (A : Option Addr) (n : Nat) (I : List (List Nd)) : Prop where
  len : I.length = n
  ex : ∃ V, RdV w B A V ∧ Cells w B g I V
theorem RdL.below {w w' : World} {B g n : Nat} {A : Option Addr} {I : List (List Nd)} (h : RdL w B g A n I) (hb : Below B w w') : RdL w' B g A n I := by
  obtain ⟨V, h1, h2⟩ := h.ex
  exact ⟨h.len, V, h1.below hb, h2.below hb⟩
theorem RdL.on {w w' : World} {g n : Nat} {A : Option Addr} {I : List (List Nd)} (h : RdL w w.heap.size g A n I) (hb : Below w.heap.size w w') : RdL w' w'.heap.size g A n I := by
  obtain ⟨V, h1, h2⟩ := h.ex
  exact ⟨h.len, V, (h1.below hb).more hb.size, h2.keep hb.size fun p hp _ => hb.cell hp⟩
theorem RdL.drewN {w : World} {B g n : Nat} {A : Option Addr} {I : List (List Nd)} (h : RdL w B g A n I) (q : Nat) : RdL (w.drewN q) B g A n I := h.below (Below.drewN (Below.refl _ _) q)
theorem RdL.at_ {w : World} {B g n : Nat} {A : Option Addr} {I : List (List Nd)} (h : RdL w B g A n I) {i : Nat} (hi : i < n) : ∃ (ad : Addr) (x : List Nd) (A' : Option Addr) (c' : Nat), A = some ad ∧ ad.block < B ∧ I[i]? = some x ∧
    w.cell? (ad.add i) = some (.slice A' x.length c') ∧ x.length ≤ c' ∧ RdN w B A' x.length x := by
  obtain ⟨V, h1, h2⟩ := h.ex
  have hV : V.length = n := by rw [h2.1, h.len]
  have hv : V[i]? = some (V[i]'(by omega)) := List.getElem?_eq_getElem _
  have hx : I[i]? = some (I[i]'(by rw [h.len]; exact hi)) := List.getElem?_eq_getElem _
  obtain ⟨ad, rfl, hb, hc⟩ := h1 (by omega)
  obtain ⟨A', c', e, hl, hr, _⟩ := h2.2 i _ _ hx hv
  exact ⟨ad, _, A', c', rfl, hb, hx, by rw [hc i _ hv, e], hl, hr⟩
theorem RdL.front {w : World} {B g n : Nat} {A : Option Addr} {I : List (List Nd)} (h : RdL w B g A n I) (k : Nat) (hk : k ≤ n) : RdL w B g A k (I.take k) := by
  obtain ⟨V, h1, h2⟩ := h.ex
  exact ⟨by rw [List.length_take, h.len]; omega, V.take k, h1.front k, h2.take k⟩
theorem RdL.back {w : World} {B g n : Nat} {ad : Addr} {I : List (List Nd)} (h : RdL w B g (some ad) n I) (k : Nat) : RdL w B g (some (ad.add k)) (n - k) (I.drop k) := by
  obtain ⟨V, h1, h2⟩ := h.ex
  exact ⟨by rw [List.length_drop, h.len], V.drop k, h1.back k, h2.drop k⟩
/-- A row of items of the call's own, in block g. -/
structure OwnL (w : World) (B g n c : Nat) (I : List (List Nd)) : Prop where
  len : I.length = n
  ex : ∃ V, OwnV 31 1 w B (some ⟨g, 0, none⟩) n c V ∧ Cells w w.heap.size g I V
  low : B ≤ g
  lt : g < w.heap.size
  cap : n ≤ c
theorem OwnL.rdl {w : World} {B g n c : Nat} {I : List (List Nd)} (h : OwnL w B g n c I) : RdL w w.heap.size g (some ⟨g, 0, none⟩) n I := by
  obtain ⟨V, h1, h2⟩ := h.ex
  exact ⟨h.len, V, h1.rd, h2⟩
theorem OwnL.keep {w w' : World} {B g n c : Nat} {I : List (List Nd)} (h : OwnL w B g n c I) (hb : Below w.heap.size w w') : OwnL w' B g n c I := by
  obtain ⟨V, h1, h2⟩ := h.ex
  exact ⟨h.len, ⟨V, h1.below rfl hb, h2.keep hb.size fun p hp _ => hb.cell hp⟩, h.low, Nat.lt_of_lt_of_le h.lt hb.size, h.cap⟩
end Go.Proofs.Ytjbflndlfdekiaa
