/- Contracts and mathematics that the texts behind it stand on: Base, MemG, Tree, Nod, Row, Inv, Conf, Size, Rsize. -/
import Derived.Test.YtgoeikihjffeoaaGreatRows
import Derived.WalkKit
import Derived.WalkSpells
import Derived.WalkLawsBesides
import Derived.Lib.Hide
import Derived.Maps.AppendAt
import Derived.Laws.IdiomStrings
import Derived.Deep.AppendLies
import Derived.Laws.CopyOwn
import Derived.OwnWalk
import Derived.Orders
import Derived.RegionTactic
import Derived.Below
import Derived.LoopTactic
/- Rows of bytes that are read; a number held between two. -/
namespace Go.Proofs.YtgoeikihjffeoaaGreat
open Go.RowKit

/-- A slice at A, of n bytes, holds the bytes l; where it holds any it lies below block B. -/
def Rd (w : World) (B : Nat) (A : Option Addr) (n : Nat) (l : List UInt8) : Prop :=
  l.length = n ∧ (0 < n → ∃ ad, A = some ad ∧ ad.block < B ∧ ∀ j (h : j < l.length), w.cell? (ad.add j) = some (.int .u8 (l[j].toNat : Int)))

section
variable {w w' : World} {B B' n : Nat} {A : Option Addr} {l : List UInt8}
theorem Rd.at_ {k : Nat} (h : Rd w B A n l) (hk : k < n) : ∃ ad x, A = some ad ∧ ad.block < B ∧ l[k]? = some x ∧ w.cell? (ad.add k) = some (.int .u8 (x.toNat : Int)) := by
  obtain ⟨ad, e, hb, hc⟩ := h.2 (by omega)
  have hl : k < l.length := by have := h.1; omega
  exact ⟨ad, l[k], e, hb, List.getElem?_eq_getElem hl, hc k hl⟩
theorem Rd.keep (h : Rd w B A n l) (hk : ∀ p : Addr, p.block < B → w'.cell? p = w.cell? p) : Rd w' B A n l :=
  ⟨h.1, fun hn => by
    obtain ⟨ad, e, hb, hc⟩ := h.2 hn
    refine ⟨ad, e, hb, fun j hj => ?_⟩
    have e1 : (ad.add j).block = ad.block := by unfold Addr.add; split <;> rfl
    exact (hk _ (by rw [e1]; exact hb)).trans (hc j hj)⟩
theorem Rd.more (h : Rd w B A n l) (hB : B ≤ B') : Rd w B' A n l :=
  ⟨h.1, fun hn => by
    obtain ⟨ad, e, hb, hc⟩ := h.2 hn
    exact ⟨ad, e, by omega, hc⟩⟩
theorem Rd.below (h : Rd w B A n l) (hb : Below B w w') : Rd w' B A n l := h.keep fun _ hp => hb.cell hp
theorem Rd.drew (h : Rd w B A n l) : Rd w.drew B A n l := h
theorem Rd.alloc (h : Rd w B A n l) (hB : B ≤ w.heap.size) (o : Obj) : Rd (w.alloc o) B A n l := h.keep fun p hp => World.cell?_alloc_lt w o p (by omega)
end

section
variable {w : World} {B n : Nat} {l : List UInt8}
theorem Rd.front {A : Option Addr} (h : Rd w B A n l) (k : Nat) (hk : k ≤ n) : Rd w B A k (l.take k) := by
  refine ⟨by rw [List.length_take, h.1]; omega, fun h0 => ?_⟩
  obtain ⟨ad, e, hb, hc⟩ := h.2 (by omega)
  refine ⟨ad, e, hb, fun j hj => ?_⟩
  rw [List.length_take] at hj
  rw [List.getElem_take]
  exact hc j (by omega)
theorem Rd.back {ad : Addr} (h : Rd w B (some ad) n l) (k m : Nat) (hk : k + m = n) : Rd w B (some (ad.add k)) m (l.drop k) := by
  refine ⟨by rw [List.length_drop, h.1]; omega, fun h0 => ?_⟩
  obtain ⟨ad', e, hb, hc⟩ := h.2 (by omega)
  injection e with e
  subst e
  refine ⟨_, rfl, ?_, fun j hj => ?_⟩
  · have e1 : (ad.add k).block = ad.block := by unfold Addr.add; split <;> rfl
    rw [e1]; exact hb
  · rw [List.length_drop] at hj
    have e2 : (ad.add k).add j = ad.add (k + j) := by
      unfold Addr.add
      by_cases hi : k = 0 <;> by_cases hj : j = 0 <;> simp [hi, hj, Nat.add_assoc]
    rw [e2, List.getElem_drop]
    exact hc (k + j) (by omega)
theorem Rd.drewN {A : Option Addr} (h : Rd w B A n l) (q : Nat) : Rd (w.drewN q) B A n l := h
end
/-- Of a number whatever, held between 0 and m. -/
def Between (m : Nat) (w : World) (e : Ending) (w' : World) : Prop := ∃ k : Nat, k ≤ m ∧ e = .returned (.int .i64 k) ∧ w = w'
theorem between_mk (m : Nat) (w : World) (e : Ending) (z : Int) (h0 : 0 ≤ z) (h1 : z ≤ m) (he : e = .returned (.int .i64 z)) : Between m w e w :=
  ⟨z.toNat, by omega, by rw [he]; congr 2; omega, rfl⟩
theorem tmod_low (n : Int) (m : Nat) (h : n < 0) : -(m : Int) ≤ n.tmod (m + 1) ∧ n.tmod (m + 1) ≤ 0 := by
  have h1 : n.tmod (m + 1) = -((-n) % ((m : Int) + 1)) := by
    rw [Int.tmod_eq_emod_of_nonneg (a := -n) (by omega) |>.symm, Int.neg_tmod, Int.neg_neg]
  have h2 := Int.emod_nonneg (-n) (b := (m : Int) + 1) (by omega)
  have h3 := Int.emod_lt_of_pos (-n) (b := (m : Int) + 1) (by omega)
  omega
set_option maxRecDepth 100000 in
set_option maxHeartbeats 400000 in
theorem within_any (n : Int) (m : Nat) (w : World) (hm : m < 4611686018427387904) :
    Calls Tryz.prog 24 #[.int .i64 n, .int .i64 0, .int .i64 m] w (Between m w) := by
  have hm0 : (0 : Int) ≤ (m : Int) := Int.natCast_nonneg _
  by_cases h0 : 0 ≤ n
  · by_cases h1 : n ≤ (m : Int)
    · go_enter Tryz.func24, Tryz.ntmps24
      go_wp2
      go_ret
      exact between_mk _ _ _ n h0 h1 rfl
    · have h2 := Int.emod_nonneg n (b := (m : Int) + 1) (by omega)
      have h3 : n % ((m : Int) + 1) ≤ m := by have := Int.emod_lt_of_pos n (b := (m : Int) + 1) (by omega); omega
      go_enter Tryz.func24, Tryz.ntmps24
      go_wp2
      go_ret
      exact between_mk _ _ _ _ h2 h3 (by simp)
  · obtain ⟨h2, h3⟩ := tmod_low n m (by omega)
    by_cases h4 : n.tmod ((m : Int) + 1) < 0
    · go_enter Tryz.func24, Tryz.ntmps24
      go_wp2
      go_ret
      refine between_mk _ _ _ (n.tmod ((m : Int) + 1) + m + 1) (by omega) (by omega) (by simp)
    · go_enter Tryz.func24, Tryz.ntmps24
      go_wp2
      go_ret
      refine between_mk _ _ _ (n.tmod ((m : Int) + 1)) (by omega) (by omega) (by simp)
theorem within_at (n M : Int) (m : Nat) (w : World) (hM : M = (m : Int)) (hm : m < 4611686018427387904) :
    Calls Tryz.prog 24 #[.int .i64 n, .int .i64 0, .int .i64 M] w (Between m w) := by
  subst hM
  exact within_any n m w hm
/-- A slice at A, of n cells, holds f; where it holds any it lies below block B. -/
def RdC (w : World) (B : Nat) (A : Option Addr) (n : Nat) (f : Nat → Value) : Prop :=
  0 < n → ∃ ad, A = some ad ∧ ad.block < B ∧ ∀ j, j < n → w.cell? (ad.add j) = some (f j)
section
variable {w w' : World} {B B' n : Nat} {A : Option Addr} {f : Nat → Value}
theorem RdC.at_ {k : Nat} (h : RdC w B A n f) (hk : k < n) : ∃ ad, A = some ad ∧ ad.block < B ∧ w.cell? (ad.add k) = some (f k) := by
  obtain ⟨ad, e, hb, hc⟩ := h (by omega)
  exact ⟨ad, e, hb, hc k hk⟩
theorem RdC.keep (h : RdC w B A n f) (hk : ∀ p : Addr, p.block < B → w'.cell? p = w.cell? p) : RdC w' B A n f := fun hn => by
  obtain ⟨ad, e, hb, hc⟩ := h hn
  refine ⟨ad, e, hb, fun j hj => ?_⟩
  have e1 : (ad.add j).block = ad.block := by unfold Addr.add; split <;> rfl
  exact (hk _ (by rw [e1]; exact hb)).trans (hc j hj)
theorem RdC.more (h : RdC w B A n f) (hB : B ≤ B') : RdC w B' A n f := fun hn => by
  obtain ⟨ad, e, hb, hc⟩ := h hn
  exact ⟨ad, e, by omega, hc⟩
theorem RdC.below (h : RdC w B A n f) (hb : Below B w w') : RdC w' B A n f := h.keep fun _ hp => hb.cell hp
end
end Go.Proofs.YtgoeikihjffeoaaGreat

/- Rows in memory, whatever their elements: what a slice holds, cell by cell; what append makes of it. -/
namespace Go.Proofs.YtgoeikihjffeoaaGreat
open Go.RowKit

/-- What is known of an element's type and of a slice's. -/
structure Elt (T E : TypeId) (s b : Nat) (z : Value) : Prop where
  ht : Tryz.prog.underlying T = some (.slice E)
  hi : (Tryz.prog.info? E).map (fun i => (i.zero, i.size, i.bytes)) = some (some z, s, b)
  hz : z.cells.size = s
  hs : 0 < s

/-- A slice at A holds the cells l; where it holds any it lies below block B. -/
def RdV (w : World) (B : Nat) (A : Option Addr) (l : List Value) : Prop :=
  0 < l.length → ∃ ad, A = some ad ∧ ad.block < B ∧ ∀ j v, l[j]? = some v → w.cell? (ad.add j) = some v
section
variable {w w' : World} {B B' : Nat} {A : Option Addr} {l : List Value}
theorem add_block (ad : Addr) (j : Nat) : (ad.add j).block = ad.block := by unfold Addr.add; split <;> rfl
theorem RdV.keep (h : RdV w B A l) (hk : ∀ p : Addr, p.block < B → w'.cell? p = w.cell? p) : RdV w' B A l := fun hn => by
  obtain ⟨ad, e, hb, hc⟩ := h hn
  exact ⟨ad, e, hb, fun j v hj => (hk _ (by rw [add_block]; exact hb)).trans (hc j v hj)⟩
theorem RdV.more (h : RdV w B A l) (hB : B ≤ B') : RdV w B' A l := fun hn => by
  obtain ⟨ad, e, hb, hc⟩ := h hn
  exact ⟨ad, e, by omega, hc⟩
theorem RdV.below (h : RdV w B A l) (hb : Below B w w') : RdV w' B A l := h.keep fun _ hp => hb.cell hp
theorem add_add (ad : Addr) (i j : Nat) : (ad.add i).add j = ad.add (i + j) := by
  unfold Addr.add
  by_cases hi : i = 0 <;> by_cases hj : j = 0 <;> simp [hi, hj, Nat.add_assoc]
theorem RdV.front (h : RdV w B A l) (k : Nat) : RdV w B A (l.take k) := fun hn => by
  rw [List.length_take] at hn
  obtain ⟨ad, e, hb, hc⟩ := h (by omega)
  refine ⟨ad, e, hb, fun j v hj => hc j v ?_⟩
  rw [List.getElem?_take] at hj
  split at hj
  · exact hj
  · cases hj
theorem RdV.back {ad : Addr} (h : RdV w B (some ad) l) (k : Nat) : RdV w B (some (ad.add k)) (l.drop k) := fun hn => by
  rw [List.length_drop] at hn
  obtain ⟨ad', e, hb, hc⟩ := h (by omega)
  injection e with e
  subst e
  refine ⟨_, rfl, by rw [add_block]; exact hb, fun j v hj => ?_⟩
  rw [add_add]
  rw [List.getElem?_drop] at hj
  exact hc _ v hj
theorem RdV.nil : RdV w B A [] := fun h => absurd h (by simp)
end

/-- The slice is a row of the call's own, block B or behind it; it holds l. -/
def OwnV (E s : Nat) (w : World) (B : Nat) (A : Option Addr) (n c : Nat) (l : List Value) : Prop := w.ownsRow B E s (.slice A n c) n l
section
variable {w w' : World} {E s B B' n c : Nat} {A : Option Addr} {l : List Value}
theorem OwnV.len (h : OwnV E s w B A n c l) : l.length = n * s := h.1
theorem OwnV.cap (h : OwnV E s w B A n c l) : n ≤ c := by
  rcases h.2 with ⟨hv, h0⟩ | ⟨g, cap, cur, hv, _, _, hnc, _⟩
  · omega
  · injection hv; omega
theorem OwnV.nil (w : World) (E s B : Nat) : OwnV E s w B none 0 0 [] := World.ownsRow_nil _ _ _ _
theorem OwnV.block (h : OwnV E s w B A n c l) (hn : 0 < n) : ∃ g, A = some ⟨g, 0, none⟩ ∧ B ≤ g ∧ g < w.heap.size := by
  rcases h.2 with ⟨_, h0⟩ | ⟨g, cap, cur, hv, hb, hg, _⟩
  · omega
  · injection hv with h1
    exact ⟨g, h1, hb, (Array.getElem?_eq_some_iff.1 hg).1⟩
theorem OwnV.rd (h : OwnV E s w B A n c l) : RdV w w.heap.size A l := fun hl => by
  have hn : 0 < n := by
    rcases Nat.eq_zero_or_pos n with h0 | h0
    · rw [h.1, h0] at hl; omega
    · exact h0
  obtain ⟨g, rfl, _, hlt⟩ := h.block hn
  exact ⟨_, rfl, hlt, fun j v hj => World.ownsRow.cells h (g := g) rfl j v hj⟩
theorem OwnV.keep (h : OwnV E s w B A n c l) (hk : ∀ b, B ≤ b → b < w.heap.size → w'.heap[b]? = w.heap[b]?) : OwnV E s w' B A n c l := by
  refine ⟨h.1, ?_⟩
  rcases h.2 with hv | ⟨g, cap, cur, hv, hbg, hg, r⟩
  · exact .inl hv
  · exact .inr ⟨g, cap, cur, hv, hbg, by rw [hk g hbg (Array.getElem?_eq_some_iff.1 hg).1]; exact hg, r⟩
theorem OwnV.below (h : OwnV E s w B A n c l) (hs : B' = w.heap.size) (hb : Below B' w w') : OwnV E s w' B A n c l := by
  subst hs
  exact h.keep fun b _ hlt => hb.block b hlt
theorem OwnV.weak (h : OwnV E s w B A n c l) (hB : B' ≤ B) : OwnV E s w B' A n c l :=
  ⟨h.1, h.2.elim .inl fun ⟨g, cap, cur, hv, hbg, r⟩ => .inr ⟨g, cap, cur, hv, Nat.le_trans hB hbg, r⟩⟩
/-- A literal's new block. -/
theorem ownV_lit (w : World) (E s B : Nat) (C : Array Value) (m : Nat) (hC : C.size = m * s) (hB : B ≤ w.heap.size) (hm : m ≤ maxLen) : OwnV E s (w.alloc (.cells C E)) B (some ⟨w.heap.size, 0, none⟩) m m C.toList := by
  refine ⟨by rw [Array.length_toList, hC], .inr ⟨w.heap.size, m, C, rfl, hB, heap_alloc_new w _, Nat.le_refl _, hm, hC, ?_⟩⟩
  rw [List.take_of_length_le (by rw [Array.length_toList, hC]; omega)]
end

theorem rdV_new (w : World) (C : Array Value) (t : TypeId) (l : List Value) (hC : C.toList = l) : RdV (w.alloc (.cells C t)) (w.alloc (.cells C t)).heap.size (some ⟨w.heap.size, 0, none⟩) l := fun _ => by
  refine ⟨_, rfl, by simp, fun j v hj => ?_⟩
  have e : (⟨w.heap.size, 0, none⟩ : Addr).add j = ⟨w.heap.size, j, none⟩ := by unfold Addr.add; split <;> simp_all
  rw [e, World.cell?_alloc_mark, ← Array.getElem?_toList, hC]
  exact hj
theorem append_nil_srcV {T E s b : Nat} {z : Value} (L : Elt T E s b z) (w : World) (B : Nat) (A : Option Addr) (n c c' : Nat) (l : List Value) (h : OwnV E s w B A n c l) (S : Option Addr) :
    (Builtin.append_ #[T, T] T #[.slice A n c, .slice S 0 c']).run Tryz.prog w = .ok (.slice A n c) w := by
  obtain ⟨i, hi, _⟩ := info_parts L.hi
  cases S with
  | none =>
    rcases h.2 with ⟨hv, _⟩ | ⟨g, cap, cur, hv, _, _, hnc, _⟩
    · simp only [Value.slice.injEq] at hv
      obtain ⟨rfl, rfl, rfl⟩ := hv
      simp [Builtin.append_, run_underlying L.ht, sizeOf, typeInfo, hi, Builtin.lenOf, Builtin.firstCells]
    · simp only [Value.slice.injEq] at hv
      obtain ⟨rfl, _, rfl⟩ := hv
      simp [Builtin.append_, run_underlying L.ht, sizeOf, typeInfo, hi, Builtin.lenOf, Builtin.firstCells, hnc, storeCells]
  | some ad =>
    rcases h.2 with ⟨hv, _⟩ | ⟨g, cap, cur, hv, _, _, hnc, _⟩
    · simp only [Value.slice.injEq] at hv
      obtain ⟨rfl, rfl, rfl⟩ := hv
      simp [Builtin.append_, run_underlying L.ht, sizeOf, typeInfo, hi, Builtin.lenOf, Builtin.firstCells, loadCells, loadCellsFrom]
    · simp only [Value.slice.injEq] at hv
      obtain ⟨rfl, _, rfl⟩ := hv
      simp [Builtin.append_, run_underlying L.ht, sizeOf, typeInfo, hi, Builtin.lenOf, Builtin.firstCells, hnc, storeCells, loadCells, loadCellsFrom]

/-- append onto a row of the call's own, from whatever slice holds l. -/
theorem run_appV {T E s b : Nat} {z : Value} (L : Elt T E s b z) (w : World) (B : Nat) (A : Option Addr) (n c : Nat) (l0 : List Value) (h : OwnV E s w B A n c l0) (S : Option Addr) (m d : Nat) (l : List Value) (Bs : Nat) (hr : RdV w Bs S l)
    (hl : l.length = m * s) (h1 : ∀ u ∈ l, u.oneCell' = true) (hb : (n + m) * b ≤ 140737488355328) (hm : n + m ≤ maxLen) (hB : B ≤ w.heap.size) :
    ∃ A' c' w', (Builtin.append_ #[T, T] T #[.slice A n c, .slice S m d]).run Tryz.prog w = .ok (.slice A' (n + m) c') w' ∧ OwnV E s w' B A' (n + m) c' (l0 ++ l) ∧ Below B w w' ∧
      ∀ Bb, (∀ g, A = some ⟨g, 0, none⟩ → g < Bb) → ∀ k, Bb ≤ k → k < w.heap.size → w'.heap[k]? = w.heap[k]? := by
  obtain ⟨i, hi, hz, hs, hby⟩ := info_parts L.hi
  rcases Nat.eq_zero_or_pos m with hm0 | hm0
  · subst hm0
    obtain rfl : l = [] := List.eq_nil_of_length_eq_zero (by omega)
    exact ⟨A, c, w, append_nil_srcV L w B A n c d l0 h S, by simpa using h, Below.refl _ _, fun _ _ _ _ _ => rfl⟩
  · have hpos : 0 < l.length := by rw [hl]; exact Nat.mul_pos hm0 L.hs
    obtain ⟨ad, rfl, _, hc⟩ := hr hpos
    obtain ⟨v', w', hrun, hown, hgr, hnil, hat⟩ := run_append_own_at (P := Tryz.prog) w B T T E i z s b L.ht hi hz hs hby L.hz L.hs (.slice A n c) n l0 h ad m d l hl hc h1 hm hb hB
    have hbel : Below B w w' := (Below.refl _ _).grown hgr hB (fun k hk => by
      rcases h.2 with ⟨hv, _⟩ | ⟨g, cap, cur, hv, hbg, _⟩
      · rw [hv] at hk; simp [Value.ownBlock] at hk
      · rw [hv] at hk; simp [Value.ownBlock] at hk; omega)
    have hoth : ∀ Bb, (∀ g, A = some ⟨g, 0, none⟩ → g < Bb) → ∀ k, Bb ≤ k → k < w.heap.size → w'.heap[k]? = w.heap[k]? := fun Bb hg k hb hlt => by
      refine hgr.block k hlt fun hk => ?_
      rcases h.2 with ⟨hv, _⟩ | ⟨g, cap, cur, hv, hbg, _⟩
      · rw [hv] at hk; simp [Value.ownBlock] at hk
      · have h1 : A = some ⟨g, 0, none⟩ := by injection hv
        have := hg g h1
        rw [hv] at hk
        simp [Value.ownBlock] at hk
        omega
    rcases hown.2 with ⟨hv, h0⟩ | ⟨g, cap, cur, hv, _⟩
    · omega
    · subst hv
      exact ⟨_, _, w', hrun, hown, hbel, hoth⟩

/-- append onto a row whose block is known: the row as it was is still there. -/
theorem run_appK {T E s b : Nat} {z : Value} (L : Elt T E s b z) (w : World) (B g n c : Nat) (l0 : List Value) (h : OwnV E s w B (some ⟨g, 0, none⟩) n c l0) (ad : Addr) (m d : Nat) (l : List Value) (hc : ∀ j u, l[j]? = some u → w.cell? (ad.add j) = some u)
    (hl : l.length = m * s) (h1 : ∀ u ∈ l, u.oneCell' = true) (hb : (n + m) * b ≤ 140737488355328) (hm : n + m ≤ maxLen) (hB : B ≤ w.heap.size) :
    ∃ A' c' w', (Builtin.append_ #[T, T] T #[.slice (some ⟨g, 0, none⟩) n c, .slice (some ad) m d]).run Tryz.prog w = .ok (.slice A' (n + m) c') w' ∧ OwnV E s w' B A' (n + m) c' (l0 ++ l) ∧ Below B w w' ∧ OwnV E s w' B (some ⟨g, 0, none⟩) n c l0 ∧
      ∀ k, k ≠ g → k < w.heap.size → w'.heap[k]? = w.heap[k]? := by
  obtain ⟨i, hi, hz, hs, hby⟩ := info_parts L.hi
  have hsmall : n + m ≤ 9223372036854775807 := by simp only [maxLen] at hm; omega
  have hlen : (l0 ++ l).length = (n + m) * s := by rw [List.length_append, h.1, hl, Nat.add_mul]
  rcases h.2 with ⟨hv, _⟩ | ⟨g', cap, cur, hv, hbg, hg, hnc, hcm, hcs, htake⟩
  · cases hv
  · simp only [Value.slice.injEq, Option.some.injEq, Addr.mk.injEq, and_true, true_and] at hv
    obtain ⟨rfl, rfl⟩ := hv
    subst hs; subst hby
    have ec : cur.toList.length = c * i.size := by rw [Array.length_toList]; exact hcs
    have hle : n * i.size ≤ c * i.size := Nat.mul_le_mul_right _ hnc
    by_cases hroom : n + m ≤ c
    · have hle2 : n * i.size + m * i.size ≤ c * i.size := by rw [← Nat.add_mul]; exact Nat.mul_le_mul_right _ hroom
      have hfit : n * i.size + l.length ≤ cur.size := by rw [hl, hcs]; exact hle2
      have hr := run_append_room (P := Tryz.prog) w T T E i L.ht hi g n c cur hg ad m d l hl hc h1 hroom hfit
      rw [htake] at hr
      have hl0 : l0.length = n * i.size := h.1
      have hsize : (l0 ++ l ++ cur.toList.drop (n * i.size + l.length)).toArray.size = c * i.size := by
        rw [List.size_toArray, List.length_append, List.length_append, List.length_drop, ec, hl0, hl]; omega
      refine ⟨_, _, _, hr, ⟨hlen, .inr ⟨g, c, _, rfl, hbg, setRow_heap w g cur _ _ _ hg, hroom, hcm, hsize, ?_⟩⟩, below_setRow (Below.refl _ _) hbg _, ⟨h.1, .inr ⟨g, c, _, rfl, hbg, setRow_heap w g cur _ _ _ hg, hnc, hcm, hsize, ?_⟩⟩, fun k hk _ => setRow_other w g k _ hk⟩
      · exact List.take_left' hlen
      · show (l0 ++ l ++ cur.toList.drop (n * i.size + l.length)).take (n * i.size) = l0
        rw [List.append_assoc]
        exact List.take_left' hl0
    · have holds : ∀ j u, l0[j]? = some u → w.cell? ((⟨g, 0, none⟩ : Addr).add j) = some u := World.ownsRow.cells h (g := g) rfl
      have hfit : Builtin.nextslicecap (n + m) c * i.bytes ≤ 281474976710656 := growslice_fits (by omega) hb
      have hrun := run_append_grow (P := Tryz.prog) w T T E i z L.ht hi hz ⟨g, 0, none⟩ n c l0 h.1 holds ad m d l hl hc (by omega) (by omega) hfit
      have hge := grownCap_ge w (n + m) c E
      have hcm' : grownCap w (n + m) c E ≤ maxLen := grownCap_le_maxLen w (n + m) c E hm
      refine ⟨_, _, _, hrun, ⟨hlen, .inr ⟨w.heap.size, _, _, rfl, hB, heap_alloc_new w.drew _, hge, hcm', ?_, ?_⟩⟩, ((Below.refl _ _).drew).alloc hB _, OwnV.keep (B := B) h fun k _ hk => Below.heap_alloc w.drew _ k hk, fun k _ hk => Below.heap_alloc w.drew _ k hk⟩
      · simp only [Array.size_append, List.size_toArray, size_zeroCells, L.hz, h.1, hl, ← Nat.add_mul]
        exact congrArg (· * i.size) (by omega)
      · simp only [Array.toList_append, List.append_assoc]
        rw [← List.append_assoc, ← hlen]
        exact List.take_left
theorem wpList_wanted {P : Program} {ops : Array Oper} {Q : Exit → Act → World → Prop} {a : Act} {w : World} {rest : List Oper} {o : Oper} (hw : Region.wanted o (yielded ops a.tmps) = true)
    (h : ∀ K : Act → World → Prop, (∀ a w, wpList P ops Q rest a w → K a w) → o.wp P a w K Q) : wpList P ops Q (o :: rest) a w :=
  wpList_step fun K hK => by rw [if_pos hw]; exact h K hK
theorem wpList_appV {T E s b : Nat} {z : Value} (L : Elt T E s b z) {ops : Array Oper} {rest : List Oper} {o : Oper} {a : Act} {Q : Exit → Act → World → Prop} {w : World} (hgd : o.guard = none) (x y : Operand)
    (ho : o.op = .call { callee := .builtin .append, args := #[x, y], argTypes := #[T, T] }) (hty : o.type = T)
    (B : Nat) (A : Option Addr) (n c : Nat) (l0 : List Value) (hx : a.eval x = .slice A n c) (h : OwnV E s w B A n c l0) (S : Option Addr) (m d : Nat) (l : List Value) (Bs : Nat) (hy : a.eval y = .slice S m d) (hr : RdV w Bs S l)
    (hl : l.length = m * s) (h1 : ∀ u ∈ l, u.oneCell' = true) (hb : (n + m) * b ≤ 140737488355328) (hm : n + m ≤ maxLen) (hB : B ≤ w.heap.size)
    (N : Nat) (hN : n + m = N) (M : List Value) (hM : l0 ++ l = M)
    (hK : ∀ A' c' w', OwnV E s w' B A' N c' M → Below B w w' → (∀ Bb, (∀ g, A = some ⟨g, 0, none⟩ → g < Bb) → ∀ k, Bb ≤ k → k < w.heap.size → w'.heap[k]? = w.heap[k]?) → wpList Tryz.prog ops Q rest (a.put o.dst (.slice A' N c')) w') : wpList Tryz.prog ops Q (o :: rest) a w := by
  subst hN; subst hM
  refine wpList_plain hgd fun K hk => ?_
  obtain ⟨A', c', w', hrun, h1, h2, h3⟩ := run_appV L w B A n c l0 h S m d l Bs hr hl h1 hb hm hB
  unfold Oper.wp execOp
  simp only [ho, hty, resolve, invoke, builtin, Sem.run_bind, Sem.run_pure, Result.andThen_ok, List.map_toArray, List.map_cons, List.map_nil, hx, hy, hrun]
  exact hk _ _ (hK A' c' w' h1 h2 h3)
end Go.Proofs.YtgoeikihjffeoaaGreat

/- Tables as rows of nodes: plain mathematics. -/
namespace Go.Proofs.YtgoeikihjffeoaaGreat
namespace Tab

/-- A node: its kind, its partition, its number. -/
structure Nd where
  k : Int
  p : Int
  n : Int

/-- A row of tables: a node, what is below it, what stands behind. -/
inductive F where
  | nil
  | cons (x : Nd) (kids rest : F)

def fine (x : Nd) : Bool :=
  decide (1 ≤ x.n) && (if x.k = 1 then decide (0 ≤ x.p ∧ x.p < 6) else if x.k = 2 ∨ x.k = 4 then decide (x.p = 0) else if x.k = 3 then decide (x.p = 0 ∧ x.n ≤ 128) else false)
/-- How many children. -/
def kn (x : Nd) : Nat := if x.k = 3 then x.n.toNat else if x.k = 4 then 1 else 0
theorem kn_le {x : Nd} (h : fine x = true) : kn x ≤ 128 := by
  unfold fine at h
  unfold kn
  simp only [Bool.and_eq_true, decide_eq_true_eq] at h
  obtain ⟨h1, h2⟩ := h
  split at h2
  · rw [if_neg (by omega), if_neg (by omega)]; omega
  · split at h2
    · rw [if_neg (by omega)]; split <;> omega
    · split at h2
      · rename_i h3
        rw [if_pos h3]
        simp only [decide_eq_true_eq] at h2
        omega
      · cases h2
theorem fine_one {x : Nd} (h : fine x = true) : 1 ≤ x.n := by
  unfold fine at h
  simp only [Bool.and_eq_true, decide_eq_true_eq] at h
  exact h.1

namespace F
def flat : F → List Nd
  | nil => []
  | cons x k r => x :: (flat k ++ flat r)
def cnt : F → Nat
  | nil => 0
  | cons _ _ r => cnt r + 1
def ok : F → Prop
  | nil => True
  | cons x k r => fine x = true ∧ cnt k = kn x ∧ ok k ∧ ok r
/-- How many nodes. -/
def sz : F → Nat
  | nil => 0
  | cons _ k r => 1 + sz k + sz r
/-- One below the other. -/
def dep : F → Nat
  | nil => 0
  | cons _ k r => max (dep k + 1) (dep r)
/-- What one node's ticks are, those of all that is below it being s. -/
def tick (x : Nd) (s : Nat) : Nat := if x.k = 3 then s else if x.k = 4 then s * x.n.toNat else x.n.toNat
def len : F → Nat
  | nil => 0
  | cons x k r => tick x (len k) + len r
/-- Where its tables begin, the first at b. -/
def places (b : Nat) : F → List Nat
  | nil => []
  | cons _ k r => b :: places (b + 1 + sz k) r
def app : F → F → F
  | nil, g => g
  | cons x k r, g => cons x k (app r g)

theorem flat_length (f : F) : f.flat.length = f.sz := by
  induction f with
  | nil => rfl
  | cons x k r hk hr => simp [flat, sz, hk, hr]; omega
theorem cnt_zero {f : F} (h : f.cnt = 0) : f = nil := by
  cases f with
  | nil => rfl
  | cons x k r => simp [cnt] at h
theorem cnt_le_sz (f : F) : f.cnt ≤ f.sz := by
  induction f with
  | nil => simp [cnt, sz]
  | cons x k r _ hr => simp only [cnt, sz]; omega
theorem dep_le_sz (f : F) : f.dep ≤ f.sz := by
  induction f with
  | nil => simp [dep, sz]
  | cons x k r hk hr => simp only [dep, sz]; omega
theorem len_pos {f : F} (h : f.ok) (hc : 0 < f.cnt) : 0 < f.len := by
  induction f with
  | nil => simp [cnt] at hc
  | cons x k r hk _ =>
    obtain ⟨h1, h2, h3, _⟩ := h
    have hn := fine_one h1
    simp only [len, tick]
    split
    · rename_i h4
      have : 0 < k.cnt := by rw [h2]; unfold kn; rw [if_pos h4]; omega
      have := hk h3 this
      omega
    · split
      · rename_i h4 h5
        have : 0 < k.cnt := by rw [h2]; unfold kn; rw [if_neg h4, if_pos h5]; omega
        have h6 := hk h3 this
        have : 0 < k.len * x.n.toNat := Nat.mul_pos h6 (by omega)
        omega
      · omega
theorem app_flat (f g : F) : (f.app g).flat = f.flat ++ g.flat := by
  induction f with
  | nil => rfl
  | cons x k r _ hr => simp [app, flat, hr]
theorem app_cnt (f g : F) : (f.app g).cnt = f.cnt + g.cnt := by
  induction f with
  | nil => simp [app, cnt]
  | cons x k r _ hr => simp only [app, cnt, hr]; omega
theorem app_sz (f g : F) : (f.app g).sz = f.sz + g.sz := by
  induction f with
  | nil => simp [app, sz]
  | cons x k r _ hr => simp only [app, sz, hr]; omega
theorem app_ok {f g : F} (hf : f.ok) (hg : g.ok) : (f.app g).ok := by
  induction f with
  | nil => exact hg
  | cons x k r _ hr => exact ⟨hf.1, hf.2.1, hf.2.2.1, hr hf.2.2.2⟩
theorem app_dep (f g : F) : (f.app g).dep = max f.dep g.dep := by
  induction f with
  | nil => simp [app, dep]
  | cons x k r _ hr => simp only [app, dep, hr]; omega
theorem app_len (f g : F) : (f.app g).len = f.len + g.len := by
  induction f with
  | nil => simp [app, len]
  | cons x k r _ hr => simp only [app, len, hr]; omega
/-- A row of tables falls into its first so many and the others. -/
theorem split {f : F} (h : f.ok) (m : Nat) (hm : m ≤ f.cnt) : ∃ a b : F, a.ok ∧ b.ok ∧ a.cnt = m ∧ b.cnt = f.cnt - m ∧ f = a.app b := by
  induction m generalizing f with
  | zero => exact ⟨nil, f, trivial, h, rfl, rfl, rfl⟩
  | succ m ih =>
    cases f with
    | nil => simp [cnt] at hm
    | cons x k r =>
      simp only [cnt] at hm
      obtain ⟨a, b, ha, hb, hca, hcb, e⟩ := ih (f := r) h.2.2.2 (by omega)
      exact ⟨cons x k a, b, ⟨h.1, h.2.1, h.2.2.1, ha⟩, hb, by simp [cnt, hca], by simp only [cnt]; omega, by simp [app, e]⟩
end F

/-- How many nodes it takes until none is missing, m being so; none, where one is wrong or they end. -/
def scan : Nat → List Nd → Option Nat
  | _, [] => none
  | m, x :: l => if fine x = true then (if m + kn x = 1 then some 1 else (scan (m + kn x - 1) l).map (· + 1)) else none

theorem drop_cons {l : List Nd} {i : Nat} {x : Nd} (h : l[i]? = some x) : l.drop i = x :: l.drop (i + 1) := by
  obtain ⟨hi, e⟩ := List.getElem?_eq_some_iff.1 h
  rw [List.drop_eq_getElem_cons hi, e]
theorem scan_bad {m : Nat} {x : Nd} {l : List Nd} (h : ¬ fine x = true) : scan m (x :: l) = none := by
  simp only [scan]
  rw [if_neg h]
theorem scan_last {m : Nat} {x : Nd} {l : List Nd} (h : fine x = true) (hk : m + kn x = 1) : scan m (x :: l) = some 1 := by
  simp only [scan]
  rw [if_pos h, if_pos hk]
theorem scan_next {m : Nat} {x : Nd} {l : List Nd} (h : fine x = true) (hk : ¬ m + kn x = 1) : scan m (x :: l) = (scan (m + kn x - 1) l).map (· + 1) := by
  simp only [scan]
  rw [if_pos h, if_neg hk]
theorem scan_flat (f : F) (h : f.ok) (m : Nat) (hm : 0 < f.cnt) (t : List Nd) :
    scan (f.cnt + m) (f.flat ++ t) = if m = 0 then some f.sz else (scan m t).map (· + f.sz) := by
  induction f generalizing m t with
  | nil => simp [F.cnt] at hm
  | cons x k r hk hr =>
    obtain ⟨h1, h2, h3, h4⟩ := h
    simp only [F.flat, List.cons_append, scan, h1, if_true, F.cnt, F.sz]
    have hrest : ∀ m, 0 < r.cnt + m → scan (r.cnt + m) (r.flat ++ t) = if m = 0 then some r.sz else (scan m t).map (· + r.sz) := by
      intro m hm
      by_cases hr0 : r.cnt = 0
      · obtain rfl := F.cnt_zero hr0
        simp only [F.cnt, F.flat, F.sz, List.nil_append, Nat.zero_add] at hm ⊢
        rw [if_neg (by omega)]
        simp
      · exact hr h4 m (by omega) t
    by_cases hk0 : k.cnt = 0
    · have hkn : kn x = 0 := by omega
      obtain rfl := F.cnt_zero hk0
      simp only [hkn, F.flat, F.sz, List.nil_append, Nat.add_zero]
      by_cases hz : r.cnt + m = 0
      · rw [if_pos (by omega), if_pos (by omega)]
        have : r = .nil := F.cnt_zero (by omega)
        subst this
        rfl
      · rw [if_neg (by omega), show r.cnt + 1 + m - 1 = r.cnt + m by omega, hrest m (by omega)]
        split
        · simp; omega
        · cases scan m t <;> simp; omega
    · rw [if_neg (by omega), show r.cnt + 1 + m + kn x - 1 = k.cnt + (r.cnt + m) by omega, List.append_assoc, hk h3 _ (by omega)]
      by_cases hz : r.cnt + m = 0
      · rw [if_pos hz, if_pos (by omega)]
        have : r = .nil := F.cnt_zero (by omega)
        subst this
        simp [F.sz]; omega
      · rw [if_neg hz, hrest m (by omega)]
        split
        · simp; omega
        · cases scan m t <;> simp; omega

theorem scan_some (l : List Nd) (m n : Nat) (hm : 0 < m) (h : scan m l = some n) : ∃ (f : F) (t : List Nd), f.ok ∧ f.cnt = m ∧ f.sz = n ∧ l = f.flat ++ t := by
  induction l generalizing m n with
  | nil => simp [scan] at h
  | cons x l ih =>
    simp only [scan] at h
    split at h
    · rename_i hx
      split at h
      · rename_i h1
        simp only [Option.some.injEq] at h
        refine ⟨.cons x .nil .nil, l, ⟨hx, by simp [F.cnt]; omega, trivial, trivial⟩, by simp [F.cnt]; omega, by simp [F.sz]; omega, rfl⟩
      · cases hs : scan (m + kn x - 1) l with
        | none => rw [hs] at h; simp at h
        | some j =>
          rw [hs] at h
          simp only [Option.map_some, Option.some.injEq] at h
          obtain ⟨g, t, hg, hc, hz, e⟩ := ih _ _ (by omega) hs
          obtain ⟨a, b, ha, hb, hca, hcb, e2⟩ := F.split hg (kn x) (by omega)
          subst e2
          rw [F.app_sz] at hz
          refine ⟨.cons x a b, t, ⟨hx, hca, ha, hb⟩, by simp only [F.cnt]; omega, by simp only [F.sz]; omega, ?_⟩
          rw [e, F.app_flat]
          simp [F.flat]
    · cases h

/-- How many nodes the one at a place has, with all below it. -/
def size (l : List Nd) (at_ : Int) : Nat := if 0 ≤ at_ ∧ at_ < l.length then (scan 1 (l.drop at_.toNat)).getD 0 else 0
theorem size_def (l : List Nd) (a : Nat) (h : a < l.length) : size l (a : Int) = (scan 1 (l.drop a)).getD 0 := by
  unfold size
  rw [if_pos ⟨by omega, by omega⟩, Int.toNat_natCast]
theorem size_none (l : List Nd) (a : Int) (h : a < 0 ∨ (l.length : Int) ≤ a) : size l a = 0 := by
  unfold size
  rw [if_neg (by omega)]
theorem size_le (l : List Nd) (a : Int) : size l a ≤ l.length := by
  unfold size
  split
  · cases h : scan 1 (l.drop a.toNat) with
    | none => simp
    | some n =>
      obtain ⟨f, t, _, _, h3, h4⟩ := scan_some _ _ _ (by omega) h
      have := congrArg List.length h4
      rw [List.length_drop, List.length_append, F.flat_length, h3] at this
      simp; omega
  · omega
/-- A table at a place: one tree, with what is behind it. -/
theorem size_tree {l : List Nd} {a : Int} (h : size l a ≠ 0) : ∃ (x : Nd) (k : F) (t : List Nd), (F.cons x k .nil).ok ∧ 0 ≤ a ∧ a < l.length ∧ l.drop a.toNat = x :: (k.flat ++ t) ∧ size l a = 1 + k.sz := by
  unfold size at h ⊢
  split at h
  · rename_i ha
    rw [if_pos ha]
    cases hs : scan 1 (l.drop a.toNat) with
    | none => rw [hs] at h; simp at h
    | some n =>
      obtain ⟨f, t, h1, h2, h3, h4⟩ := scan_some _ _ _ (by omega) hs
      cases f with
      | nil => simp [F.cnt] at h2
      | cons x k r =>
        have : r = .nil := F.cnt_zero (by simp only [F.cnt] at h2; omega)
        subst this
        refine ⟨x, k, t, h1, ha.1, ha.2, ?_, ?_⟩
        · rw [h4]; simp [F.flat]
        · simp only [Option.getD_some]; rw [← h3]; simp [F.sz]
  · exact absurd rfl h
theorem size_at {l : List Nd} {a : Nat} {x : Nd} {k r : F} {t : List Nd} (h : (F.cons x k r).ok) (hl : l.drop a = (F.cons x k r).flat ++ t) : size l (a : Int) = 1 + k.sz := by
  have hlen : a < l.length := by
    rcases Nat.lt_or_ge a l.length with h' | h'
    · exact h'
    · rw [List.drop_eq_nil_of_le h'] at hl; simp [F.flat] at hl
  unfold size
  rw [if_pos ⟨by omega, by omega⟩, Int.toNat_natCast, hl]
  have e : (F.cons x k r).flat ++ t = (F.cons x k .nil).flat ++ (r.flat ++ t) := by simp [F.flat]
  have := scan_flat (F.cons x k .nil) ⟨h.1, h.2.1, h.2.2.1, trivial⟩ 0 (by simp [F.cnt]) (r.flat ++ t)
  rw [e]
  simp only [F.cnt] at this
  rw [this]
  simp [F.sz]
end Tab
end Go.Proofs.YtgoeikihjffeoaaGreat

/- What one node is to the program, and to the document's own answer. -/
namespace Go.Proofs.YtgoeikihjffeoaaGreat
open Go.RowKit Tab
set_option linter.unusedSimpArgs false
set_option linter.unusedVariables false

/-- It answers v, and leaves what was there. -/
def Ans (v : Value) (w : World) (e : Ending) (w' : World) : Prop := e = .returned v ∧ Below w.heap.size w w'
theorem Ans.mk {v u : Value} {w w' : World} (h : v = u) (hb : Below w.heap.size w w') : Ans v w (.returned u) w' := ⟨by rw [h], hb⟩
theorem bl1 (w : World) (o : Obj) : Below w.heap.size w (w.alloc o) := (Below.refl _ _).alloc (Nat.le_refl _) _
abbrev nd (k p n : Int) : Value := .agg #[.int .i64 k, .int .i64 p, .int .i64 n]
/-- How many children, as a number. -/
def kz (x : Nd) : Int := if x.k = 3 then x.n else if x.k = 4 then 1 else 0

theorem kz_kn {x : Nd} (h : fine x = true) : kz x = (kn x : Int) := by
  have h1 := fine_one h
  unfold kz kn
  split
  · omega
  · split <;> rfl

set_option maxHeartbeats 400000 in
theorem kids1_any (k p n : Int) (w : World) : Calls Tryz.prog 100 #[nd k p n] w (Ans (.int .i64 (kz ⟨k, p, n⟩)) w) := by
  go_enter Tryz.func100, Tryz.ntmps100
  go_wp2
  all_goals
    go_ret
    refine Ans.mk ?_ (bl1 _ _)
    simp only [beq_iff_eq, beq_eq_false_iff_ne, ne_eq] at *
    simp [kz, *]
theorem fine_iff (k p n : Int) : fine ⟨k, p, n⟩ = true ↔ 1 ≤ n ∧ ((k = 1 ∧ 0 ≤ p ∧ p < 6) ∨ (k = 2 ∧ p = 0) ∨ (k = 4 ∧ p = 0) ∨ (k = 3 ∧ p = 0 ∧ n ≤ 128)) := by
  unfold fine
  simp only [Bool.and_eq_true, decide_eq_true_eq]
  split
  · simp; omega
  · split
    · simp; omega
    · split
      · simp; omega
      · simp; omega
set_option maxHeartbeats 1600000 in
theorem right1_any (k p n : Int) (w : World) : Calls Tryz.prog 111 #[nd k p n] w (Ans (.bool (fine ⟨k, p, n⟩)) w) := by
  have hf := Lib.hid (fine_iff k p n)
  go_enter Tryz.func111, Tryz.ntmps111
  go_wp2
  all_goals
    go_ret
    refine Ans.mk (congrArg Value.bool ?_) (bl1 _ _)
    rw [Bool.eq_iff_iff, fine_iff]
    simp only [decide_eq_true_eq, beq_iff_eq, beq_eq_false_iff_ne, ne_eq, Bool.false_eq_true, iff_false] at *
    omega
set_option maxHeartbeats 1600000 in
theorem fine1_any (k p n : Int) (w : World) : Calls Tryz.prog 97 #[nd k p n] w (Ans (.bool (fine ⟨k, p, n⟩)) w) := by
  go_enter Tryz.func97, Tryz.ntmps97
  go_wp2
  all_goals
    go_ret
    refine Ans.mk (congrArg Value.bool ?_) (bl1 _ _)
    rw [Bool.eq_iff_iff, fine_iff]
    simp only [decide_eq_true_eq, beq_iff_eq, beq_eq_false_iff_ne, ne_eq, Bool.false_eq_true, iff_false] at *
    omega
/-- A product, held at 4097. -/
def hl (a b : Int) : Int := if 4096 < a * b then 4097 else a * b
set_option maxHeartbeats 400000 in
theorem held_any (a b : Int) (w : World) (ha : 1 ≤ a) (hb : 1 ≤ b) (hb2 : b ≤ 4097) (ha2 : a ≤ 9223372036854775807) : Calls Tryz.prog 101 #[.int .i64 a, .int .i64 b] w fun e w' => e = .returned (.int .i64 (hl a b)) ∧ w = w' := by
  by_cases h : 4096 / b < a
  · have h2 : 4096 < a * b := (Int.ediv_lt_iff_lt_mul (by omega)).1 h
    have hb0 : ¬ b = 0 := by omega
    have e : hl a b = 4097 := if_pos h2
    have H := Lib.hid e
    clear e h2
    go_enter Tryz.func101, Tryz.ntmps101
    go_wp2
    go_ret
    exact ⟨by rw [H.out]; rfl, rfl⟩
  · have h2 : ¬ 4096 < a * b := fun h' => h ((Int.ediv_lt_iff_lt_mul (by omega)).2 h')
    have hb0 : ¬ b = 0 := by omega
    have h3 : 0 < a * b := Int.mul_pos (by omega) (by omega)
    have e : hl a b = a * b := if_neg h2
    have H := Lib.hid e
    clear e
    go_enter Tryz.func101, Tryz.ntmps101
    go_wp2
    go_ret
    exact ⟨by rw [H.out]; rfl, rfl⟩
end Go.Proofs.YtgoeikihjffeoaaGreat

/- Rows of nodes in memory. -/
namespace Go.Proofs.YtgoeikihjffeoaaGreat
open Go.RowKit Tab

theorem elN : Elt 54 53 3 24 (.agg #[.int .i64 0, .int .i64 0, .int .i64 0]) := ⟨Tryz.underlying54, by kernel_rfl, rfl, by omega⟩
theorem elO : Elt 129 145 2 16 (.agg #[.int .i64 0, .int .i64 0]) := ⟨Tryz.underlying129, by kernel_rfl, rfl, by omega⟩
theorem elI : Elt 28 3 1 8 (.int .i64 0) := ⟨Tryz.underlying28, by kernel_rfl, rfl, by omega⟩
/-- Numbers that an int64 holds. -/
def In64 (z : Int) : Prop := -9223372036854775808 ≤ z ∧ z ≤ 9223372036854775807
def NdIn (x : Nd) : Prop := In64 x.k ∧ In64 x.p ∧ In64 x.n
/-- A row of nodes as cells. -/
def ns : List Nd → List Value
  | [] => []
  | x :: l => .int .i64 x.k :: .int .i64 x.p :: .int .i64 x.n :: ns l
theorem ns_length (l : List Nd) : (ns l).length = l.length * 3 := by
  induction l with
  | nil => rfl
  | cons x l ih => simp only [ns, List.length_cons, ih]; omega
theorem ns_append (l m : List Nd) : ns (l ++ m) = ns l ++ ns m := by
  induction l with
  | nil => rfl
  | cons x l ih => simp [ns, ih]
theorem ns_one (l : List Nd) : ∀ u ∈ ns l, u.oneCell' = true := by
  induction l with
  | nil => simp [ns]
  | cons x l ih =>
    intro u hu
    simp only [ns, List.mem_cons] at hu
    rcases hu with rfl | rfl | rfl | hu
    · rfl
    · rfl
    · rfl
    · exact ih u hu
theorem ns_get (l : List Nd) (i : Nat) (h : i < l.length) : (ns l)[i * 3]? = some (.int .i64 l[i].k) ∧ (ns l)[i * 3 + 1]? = some (.int .i64 l[i].p) ∧ (ns l)[i * 3 + 2]? = some (.int .i64 l[i].n) := by
  induction l generalizing i with
  | nil => simp at h
  | cons x l ih =>
    cases i with
    | zero => simp [ns]
    | succ i =>
      have := ih i (by simpa using h)
      have e : (i + 1) * 3 = i * 3 + 1 + 1 + 1 := by omega
      rw [e]
      simp only [ns, List.getElem?_cons_succ, List.getElem_cons_succ]
      exact this
theorem ns_drop (l : List Nd) (k : Nat) : ns (l.drop k) = (ns l).drop (k * 3) := by
  induction k generalizing l with
  | zero => simp
  | succ k ih =>
    cases l with
    | nil => simp [ns]
    | cons x l => rw [List.drop_succ_cons, ih, show (k + 1) * 3 = k * 3 + 3 by omega]; simp [ns]
theorem ns_take (l : List Nd) (k : Nat) : ns (l.take k) = (ns l).take (k * 3) := by
  induction k generalizing l with
  | zero => simp [ns]
  | succ k ih =>
    cases l with
    | nil => simp [ns]
    | cons x l => rw [List.take_succ_cons, show (k + 1) * 3 = k * 3 + 3 by omega]; simp [ns, ih]
/-- A slice at A, n long, holds the nodes l. -/
structure RdN (w : World) (B : Nat) (A : Option Addr) (n : Nat) (l : List Nd) : Prop where
  len : l.length = n
  rd : RdV w B A (ns l)
  bd : ∀ x ∈ l, NdIn x
section
variable {w w' : World} {B B' n : Nat} {A : Option Addr} {l : List Nd}
theorem RdN.below (h : RdN w B A n l) (hb : Below B w w') : RdN w' B A n l := ⟨h.len, h.rd.below hb, h.bd⟩
theorem RdN.more (h : RdN w B A n l) (hB : B ≤ B') : RdN w B' A n l := ⟨h.len, h.rd.more hB, h.bd⟩
theorem RdN.back {ad : Addr} (h : RdN w B (some ad) n l) (k : Nat) : RdN w B (some (ad.add (k * 3))) (n - k) (l.drop k) :=
  ⟨by rw [List.length_drop, h.len], by rw [ns_drop]; exact h.rd.back (k * 3), fun x hx => h.bd x (List.mem_of_mem_drop hx)⟩
theorem RdN.front (h : RdN w B A n l) (k : Nat) (hk : k ≤ n) : RdN w B A k (l.take k) :=
  ⟨by rw [List.length_take, h.len]; omega, by rw [ns_take]; exact h.rd.front (k * 3), fun x hx => h.bd x (List.mem_of_mem_take hx)⟩
/-- In a later world. -/
theorem RdN.on (h : RdN w w.heap.size A n l) (hb : Below w.heap.size w w') : RdN w' w'.heap.size A n l := (h.below hb).more hb.size
theorem RdN.at_ (h : RdN w B A n l) {i : Nat} (hi : i < n) : ∃ (ad : Addr) (x : Nd), A = some ad ∧ ad.block < B ∧ l[i]? = some x ∧ NdIn x ∧
    w.cell? (ad.add (i * 3)) = some (.int .i64 x.k) ∧ w.cell? ⟨(ad.add (i * 3)).block, (ad.add (i * 3)).off + 1, none⟩ = some (.int .i64 x.p) ∧ w.cell? ⟨(ad.add (i * 3)).block, (ad.add (i * 3)).off + 2, none⟩ = some (.int .i64 x.n) := by
  have hl : i < l.length := by rw [h.len]; exact hi
  obtain ⟨ad, e, hb, hc⟩ := h.rd (by rw [ns_length]; omega)
  obtain ⟨h1, h2, h3⟩ := ns_get l i hl
  have e1 : ∀ j, 0 < j → (⟨(ad.add (i * 3)).block, (ad.add (i * 3)).off + j, none⟩ : Addr) = ad.add (i * 3 + j) := fun j hj => by
    rw [← add_add]
    generalize ad.add (i * 3) = p
    unfold Addr.add
    rw [if_neg (by omega)]
  refine ⟨ad, l[i], e, hb, List.getElem?_eq_getElem hl, h.bd _ (List.getElem_mem hl), hc _ _ h1, ?_, ?_⟩
  · rw [e1 1 (by omega)]; exact hc _ _ h2
  · rw [e1 2 (by omega)]; exact hc _ _ h3
end
/-- A node's new block, in a later world. -/
theorem new_nd {w w1 : World} {k p n : Int} {t : TypeId} (hb : Below (w.alloc (.cells #[.int .i64 k, .int .i64 p, .int .i64 n] t)).heap.size (w.alloc (.cells #[.int .i64 k, .int .i64 p, .int .i64 n] t)) w1) :
    w1.cell? ⟨w.heap.size, 0, none⟩ = some (.int .i64 k) ∧ w1.cell? ⟨w.heap.size, 1, none⟩ = some (.int .i64 p) ∧ w1.cell? ⟨w.heap.size, 2, none⟩ = some (.int .i64 n) := by
  have h : ∀ o, w1.cell? ⟨w.heap.size, o, none⟩ = (w.alloc (.cells #[.int .i64 k, .int .i64 p, .int .i64 n] t)).cell? ⟨w.heap.size, o, none⟩ := fun o => hb.cell (by simp)
  refine ⟨?_, ?_, ?_⟩ <;> rw [h] <;> simp [World.cell?_alloc_mark]
end Go.Proofs.YtgoeikihjffeoaaGreat

/- A region that draws its order, by what each of its operations yields: whatever order is drawn. Named here: the model's regions alone, no program. -/
namespace Go.Proofs.YtgoeikihjffeoaaGreat
open Go Go.RowKit
namespace Reg
set_option linter.unusedSimpArgs false

def dstN (ops : Array Oper) (j : Nat) : Tmp := ((ops[j]?).bind (·.dst)).getD 0
def waits (o : Oper) (j : Nat) : Bool := o.after.toList.any fun e => e.on == j && Region.binds .any e
def writes (ops : Array Oper) (t : Tmp) : Bool := ops.toList.any fun o => o.dst == some t
/-- Every operation has a slot of its own, and waits for earlier ones alone. -/
def good (ops : Array Oper) (n : Nat) : Bool :=
  (List.range ops.size).all fun i => match ops[i]? with
    | some o => (match o.dst with
        | some d => decide (d < n) && (List.range ops.size).all fun j => j == i || (match ops[j]? with | some p => !(p.dst == some d) | none => true)
        | none => false) && o.after.toList.all fun e => decide (e.on < i)
    | none => false

theorem good_at {ops : Array Oper} {n : Nat} (h : good ops n = true) {i : Nat} {o : Oper} (hi : ops[i]? = some o) :
    ∃ d, o.dst = some d ∧ d < n ∧ (∀ j p, ops[j]? = some p → j ≠ i → p.dst ≠ some d) ∧ ∀ e ∈ o.after, e.on < i := by
  have hlt : i < ops.size := (Array.getElem?_eq_some_iff.1 hi).1
  have h1 := List.all_eq_true.1 h i (List.mem_range.2 hlt)
  rw [hi] at h1
  simp only [Bool.and_eq_true] at h1
  obtain ⟨h2, h3⟩ := h1
  cases hd : o.dst with
  | none => rw [hd] at h2; cases h2
  | some d =>
    rw [hd] at h2
    simp only [Bool.and_eq_true, decide_eq_true_iff] at h2
    refine ⟨d, rfl, h2.1, fun j p hj hne => ?_, fun e he => ?_⟩
    · have hjl : j < ops.size := (Array.getElem?_eq_some_iff.1 hj).1
      have h4 := List.all_eq_true.1 h2.2 j (List.mem_range.2 hjl)
      rw [hj] at h4
      simp only [Bool.or_eq_true, beq_iff_eq, Bool.not_eq_true', beq_eq_false_iff_ne] at h4
      exact h4.resolve_left hne
    · have := List.all_eq_true.1 h3 e (Array.mem_toList_iff.2 he)
      simpa using this

theorem dst_of {ops : Array Oper} {i : Nat} {o : Oper} {d : Tmp} (hi : ops[i]? = some o) (hd : o.dst = some d) : dstN ops i = d := by
  simp [dstN, hi, hd]

/-- Whoever has come up, those that it waits for have. -/
def Closed (ops : Array Oper) (live : Nat → Bool) : Prop := ∀ j p, ops[j]? = some p → live j = true → ∀ k, waits p k = true → live k = true
structure Inv (ops : Array Oper) (a0 : Act) (V : Nat → Value → World → Prop) (W : World → Prop) (listed : Array Bool) (a : Act) (w : World) : Prop where
  size : a.tmps.size = a0.tmps.size
  defers : a.defers = a0.defers
  env : ∀ t, writes ops t = false → a.eval (.tmp t) = a0.eval (.tmp t)
  val : ∀ j, j < ops.size → listed.getD j false = true → V j (a.eval (.tmp (dstN ops j))) w
  world : W w
  closed : Closed ops fun j => listed.getD j false

theorem eval_same (a : Act) (d : Tmp) (v : Value) (h : d < a.tmps.size) : (a.put (some d) v).eval (.tmp d) = v := by
  simp [Act.eval, Act.put, h]
theorem eval_other (a : Act) (d t : Tmp) (v : Value) (h : d ≠ t) : (a.put (some d) v).eval (.tmp t) = a.eval (.tmp t) := by
  simp [Act.eval, Act.put, Array.getElem?_setIfInBounds_ne h]

/-- What a step owes; live: who has come up. -/
def Owes (live : Nat → Bool) (V : Nat → Value → World → Prop) (W : World → Prop) (i : Nat) (o : Oper) (a : Act) (w : World) (a' : Act) (w' : World) : Prop :=
  ∃ v, a' = a.put o.dst v ∧ V i v w' ∧ W w' ∧ ∀ j v, live j = true → V j v w → V j v w'

theorem Inv.step {ops : Array Oper} {a0 : Act} {V : Nat → Value → World → Prop} {W : World → Prop} {listed : Array Bool} {a a' : Act} {w w' : World} (hg : good ops a0.tmps.size = true)
    {i : Nat} {o : Oper} (hi : ops[i]? = some o) (h : Inv ops a0 V W listed a w) (hr : ∀ k, waits o k = true → listed.getD k false = true) (hs : Owes (fun j => listed.getD j false) V W i o a w a' w') : Inv ops a0 V W (listed.setIfInBounds i true) a' w' := by
  obtain ⟨v, rfl, hv, hw, hm⟩ := hs
  obtain ⟨d, hd, hdn, hdist, _⟩ := good_at hg hi
  have hsz : d < a.tmps.size := by rw [h.size]; exact hdn
  rw [hd]
  refine ⟨by simp [Act.put, h.size], by simp [Act.put, h.defers], fun t ht => ?_, fun j hj hl => ?_, hw, fun j p hj hl k hk => ?_⟩
  · have hne : d ≠ t := by
      rintro rfl
      have : writes ops d = true := List.any_eq_true.2 ⟨o, Array.mem_toList_iff.2 (Array.mem_of_getElem? hi), by simp [hd]⟩
      rw [this] at ht; cases ht
    rw [eval_other _ _ _ _ hne]; exact h.env t ht
  · by_cases hji : j = i
    · subst hji
      rw [dst_of hi hd, eval_same _ _ _ hsz]; exact hv
    · obtain ⟨p, hp⟩ : ∃ p, ops[j]? = some p := ⟨_, Array.getElem?_eq_getElem hj⟩
      obtain ⟨e, he, _⟩ := good_at hg hp
      have hne : d ≠ dstN ops j := by
        rw [dst_of hp he]
        rintro rfl
        exact hdist j p hp hji he
      rw [eval_other _ _ _ _ hne]
      rw [getD_set_ne false (Ne.symm hji)] at hl
      exact hm j _ hl (h.val j hj hl)
  · by_cases hji : j = i
    · subst hji
      rw [hi] at hj
      injection hj with hj
      subst hj
      exact getD_set_true (hr k hk)
    · have hl' : (listed.setIfInBounds i true).getD j false = true := hl
      rw [getD_set_ne false (Ne.symm hji)] at hl'
      exact getD_set_true (h.closed j p hj hl' k hk)

/-- How many have not come up. -/
def left (listed : Array Bool) : Nat := listed.toList.countP (· == false)

theorem left_set {listed : Array Bool} {i : Nat} (h : listed.getD i true = false) : left (listed.setIfInBounds i true) + 1 = left listed := by
  have hlt : i < listed.size := by
    rcases Nat.lt_or_ge i listed.size with h' | h'
    · exact h'
    · simp [Array.getElem?_eq_none h'] at h
  have hi : listed.toList[i]'(by simpa using hlt) = false := by
    simpa [hlt] using h
  unfold left
  rw [Array.toList_setIfInBounds, List.countP_set (by simpa using hlt), hi]
  have : 0 < listed.toList.countP (· == false) := List.countP_pos_iff.2 ⟨false, by rw [← hi]; exact List.getElem_mem _, rfl⟩
  rw [if_pos (by decide), if_neg (by decide)]
  omega

theorem all_listed {ops : Array Oper} {n : Nat} (hg : good ops n = true) {listed : Array Bool} (hs : listed.size = ops.size) (hr : Region.ready .any ops listed = []) :
    ∀ j, j < ops.size → listed.getD j false = true := by
  intro j
  induction j using Nat.strongRecOn with
  | ind j ih =>
    intro hj
    have hjl : j < listed.size := by omega
    cases hb : listed.getD j false with
    | true => rfl
    | false =>
      have hb' : listed.getD j true = false := by
        simpa [hjl] using hb
      obtain ⟨o, ho⟩ : ∃ o, ops[j]? = some o := ⟨_, Array.getElem?_eq_getElem hj⟩
      obtain ⟨_, _, _, _, hacy⟩ := good_at hg ho
      have : j ∈ Region.ready .any ops listed := mem_ready.2 ⟨hb', o, ho, fun e he _ => ih e.on (hacy e he) (by have := hacy e he; omega)⟩
      rw [hr] at this; cases this

/-- What is asked of one operation. -/
def Goal (P : Program) (ops : Array Oper) (Q : Exit → Act → World → Prop) (V : Nat → Value → World → Prop) (W : World → Prop) (i : Nat) (o : Oper) (a : Act) (w : World) : Prop :=
  ∀ live : Nat → Bool, Closed ops live → live i = false → wpOp P ops Q i (Owes live V W i o a w) a w
/-- The whole obligation. -/
def Steps (P : Program) (ops : Array Oper) (Q : Exit → Act → World → Prop) (a0 : Act) (V : Nat → Value → World → Prop) (W : World → Prop) : Prop :=
  ∀ i o, ops[i]? = some o → ∀ (a : Act) (w : World), (∀ t, writes ops t = false → a.eval (.tmp t) = a0.eval (.tmp t)) →
    (∀ j, waits o j = true → V j (a.eval (.tmp (dstN ops j))) w) → W w → Goal P ops Q V W i o a w

theorem any_of {P : Program} {ops : Array Oper} {Q : Exit → Act → World → Prop} {a0 : Act} {V : Nat → Value → World → Prop} {W : World → Prop} (hg : good ops a0.tmps.size = true) (hst : Steps P ops Q a0 V W)
    (hend : ∀ listed a w, Inv ops a0 V W listed a w → (∀ j, j < ops.size → listed.getD j false = true) → Q .normal a w) :
    ∀ (fuel : Nat) (listed : Array Bool) (a : Act) (w : World), listed.size = ops.size → left listed ≤ fuel → Inv ops a0 V W listed a w → wpAny P .any ops Q fuel listed a w := by
  intro fuel
  induction fuel with
  | zero =>
    intro listed a w hs hl h
    have hr : Region.ready .any ops listed = [] := by
      cases hc : Region.ready .any ops listed with
      | nil => rfl
      | cons i r =>
        have hi : i ∈ Region.ready .any ops listed := by rw [hc]; exact List.mem_cons_self
        have := left_set (mem_ready.1 hi).1
        omega
    exact ⟨hr, hend listed a w h (all_listed hg hs hr)⟩
  | succ fuel ih =>
    intro listed a w hs hl h
    refine ⟨fun hr => hend listed a w h (all_listed hg hs hr), fun i hi => ?_⟩
    obtain ⟨h0, o, ho, hall⟩ := mem_ready.1 hi
    have hi' : i < ops.size := (Array.getElem?_eq_some_iff.1 ho).1
    have hwait : ∀ k, waits o k = true → k < i ∧ listed.getD k false = true := fun k hk => by
      obtain ⟨e, he, heq⟩ := List.any_eq_true.1 hk
      have he := Array.mem_toList_iff.1 he
      simp only [Bool.and_eq_true, beq_iff_eq] at heq
      obtain ⟨rfl, hb⟩ := heq
      obtain ⟨_, _, _, _, hacy⟩ := good_at hg ho
      exact ⟨hacy e he, hall e he hb⟩
    have hstep := hst i o ho a w h.env (fun j hj => h.val j (by have := (hwait j hj).1; omega) (hwait j hj).2) h.world (fun j => listed.getD j false) h.closed (by
      have hlt : i < listed.size := by omega
      simpa [hlt] using h0)
    refine wpOp_mono (fun a' w' hw => ?_) hstep
    refine ih _ a' w' (by simpa using hs) ?_ (h.step hg ho (fun k hk => (hwait k hk).2) hw)
    have := left_set h0
    omega

theorem region {P : Program} {id : Nat} {ops : Array Oper} {Q : Exit → Act → World → Prop} {a0 : Act} {w0 : World} (hm : P.follows .mixedOrders = true) (hg : good ops a0.tmps.size = true) (V : Nat → Value → World → Prop) (W : World → Prop)
    (hW : W w0.drew) (hst : Steps P ops Q a0 V W)
    (hend : ∀ a w, a.tmps.size = a0.tmps.size → a.defers = a0.defers → (∀ t, writes ops t = false → a.eval (.tmp t) = a0.eval (.tmp t)) → (∀ j, j < ops.size → V j (a.eval (.tmp (dstN ops j))) w) → W w → Q .normal a w) :
    (Code.region id ops true).wp P Q a0 w0 := by
  refine wp_region_any hm ?_
  refine any_of hg hst (fun listed a w h hall => hend a w h.size h.defers h.env (fun j hj => h.val j hj (hall j hj)) h.world) ops.size (Array.replicate ops.size false) a0 w0.drew (by simp) ?_ ?_
  · unfold left
    have := List.countP_le_length (p := (· == false)) (l := (Array.replicate ops.size false).toList)
    simpa using this
  · refine ⟨rfl, rfl, fun _ _ => rfl, fun j hj hl => ?_, hW, fun j p hj hl k hk => ?_⟩
    · simp [hj] at hl
    · have hjl : j < ops.size := (Array.getElem?_eq_some_iff.1 hj).1
      have hl' : (Array.replicate ops.size false).getD j false = true := hl
      simp [hjl] at hl'

/-- The obligations one by one. -/
def All (F : Nat → Oper → Prop) : Nat → List Oper → Prop
  | _, [] => True
  | i, o :: l => F i o ∧ All F (i + 1) l
theorem All.get {F : Nat → Oper → Prop} (l : List Oper) : ∀ (i : Nat), All F i l → ∀ j o, l[j]? = some o → F (i + j) o := by
  induction l with
  | nil => intro i _ j o hp; simp at hp
  | cons q l ih =>
    intro i h j o hp
    cases j with
    | zero => simp at hp; subst hp; exact h.1
    | succ j =>
      have := ih (i + 1) h.2 j o (by simpa using hp)
      rwa [Nat.add_assoc, Nat.add_comm 1] at this
theorem steps_of {P : Program} {l : List Oper} {Q : Exit → Act → World → Prop} {a0 : Act} {V : Nat → Value → World → Prop} {W : World → Prop}
    (h : All (fun i o => ∀ (a : Act) (w : World), (∀ t, writes l.toArray t = false → a.eval (.tmp t) = a0.eval (.tmp t)) →
      (∀ j, waits o j = true → V j (a.eval (.tmp (dstN l.toArray j))) w) → W w → Goal P l.toArray Q V W i o a w) 0 l) : Steps P l.toArray Q a0 V W := by
  intro i o hi
  have := All.get l 0 h i o (by simpa using hi)
  rwa [Nat.zero_add] at this

section
variable {P : Program} {ops : Array Oper} {Q : Exit → Act → World → Prop} {V : Nat → Value → World → Prop} {W : World → Prop} {i : Nat} {o : Oper} {a : Act} {w : World}
/-- An operation that yields a value, and does nothing else. -/
theorem val (hi : ops[i]? = some o) (hw : Region.wanted o (yielded ops a.tmps) = true) (hW : W w) (v : Value) (hr : (execOp a.eval o).run P w = .ok (.value v) w) (hv : V i v w) : Goal P ops Q V W i o a w := by
  intro live _ _
  unfold wpOp
  rw [hi]
  simp only [hw, if_true]
  refine .inl ?_
  unfold Oper.wp
  rw [hr]
  exact ⟨v, rfl, hv, hW, fun _ _ _ h => h⟩
/-- An operation that yields a value, in another world; what those that have come up yielded is to stand. -/
theorem growL (hi : ops[i]? = some o) (hw : Region.wanted o (yielded ops a.tmps) = true) (v : Value) (w' : World) (hr : (execOp a.eval o).run P w = .ok (.value v) w') (hv : V i v w') (hW : W w')
    (hm : ∀ live : Nat → Bool, Closed ops live → live i = false → ∀ j v, live j = true → V j v w → V j v w') : Goal P ops Q V W i o a w := by
  intro live hc h0
  unfold wpOp
  rw [hi]
  simp only [hw, if_true]
  refine .inl ?_
  unfold Oper.wp
  rw [hr]
  exact ⟨v, rfl, hv, hW, hm live hc h0⟩
theorem grow (hi : ops[i]? = some o) (hw : Region.wanted o (yielded ops a.tmps) = true) (v : Value) (w' : World) (hr : (execOp a.eval o).run P w = .ok (.value v) w') (hv : V i v w') (hW : W w') (hm : ∀ j v, j ≠ i → V j v w → V j v w') : Goal P ops Q V W i o a w :=
  growL hi hw v w' hr hv hW fun live _ h0 j v hj h => hm j v (fun e => by rw [e, h0] at hj; cases hj) h
/-- A call of a Go function. -/
theorem call (hi : ops[i]? = some o) (hw : Region.wanted o (yielded ops a.tmps) = true) (f : FuncId) (args : Array Value) (hr : (execOp a.eval o).run P w = .ok (.enter f args) w)
    (hc : Calls P f args w fun e w' => ∃ v, e = .returned v ∧ V i v w' ∧ W w' ∧ ∀ j v, V j v w → V j v w') : Goal P ops Q V W i o a w := by
  intro live _ _
  unfold wpOp
  rw [hi]
  simp only [hw, if_true]
  refine .inl ?_
  unfold Oper.wp
  rw [hr]
  refine hc.mono fun e w' he => ?_
  obtain ⟨v, rfl, h1, h2, h3⟩ := he
  exact ⟨v, rfl, h1, h2, fun j v _ => h3 j v⟩
/-- An operation whose guard says no. -/
theorem skip (hi : ops[i]? = some o) (hw : Region.wanted o (yielded ops a.tmps) = false) (hW : W w) (hv : V i undef w) : Goal P ops Q V W i o a w := by
  intro live _ _
  unfold wpOp
  rw [hi]
  simp only [hw]
  exact ⟨undef, rfl, hv, hW, fun _ _ _ h => h⟩
/-- Whoever waits for one that has not come up has not either. -/
theorem not_live {live : Nat → Bool} (hc : Closed ops live) {k : Nat} (h : live k = false) {j : Nat} {p : Oper} (hj : ops[j]? = some p) (hw : waits p k = true) : live j = false := by
  cases e : live j with
  | false => rfl
  | true => rw [hc j p hj e k hw] at h; cases h
theorem wanted_free (h : o.guard = none) : Region.wanted o (yielded ops a.tmps) = true := by simp [Region.wanted, h]
theorem wanted_if {g : Nat} {want b : Bool} (h : o.guard = some (g, want)) {t : Tmp} (ht : (ops[g]?).bind (·.dst) = some t) (hv : a.eval (.tmp t) = .bool b) (hb : (b == want) = true) : Region.wanted o (yielded ops a.tmps) = true := by
  have hlt : t < a.tmps.size := by
    rcases Nat.lt_or_ge t a.tmps.size with h' | h'
    · exact h'
    · simp [Act.eval, Array.getElem?_eq_none h', undef] at hv
  have h2 : a.tmps[t]? = some (.bool b) := by
    simpa [Act.eval, hlt] using hv
  simp only [Region.wanted, h, yielded, ht, Option.bind_some, h2]
  have : b = want := by simpa using hb
  simp [this]
end

/-- What a frame says of constants and functions. -/
theorem consts (a : Act) : (∀ v, a.eval (.const v) = v) ∧ (∀ f, a.eval (.func f) = .func (.func f) #[] #[]) := ⟨fun _ => rfl, fun _ => rfl⟩

/-- A frame by its slots. -/
theorem act_lit (a : Act) (n : Nat) (h : a.tmps.size = n) : a = ⟨((List.range n).map fun t => a.eval (.tmp t)).toArray, a.defers⟩ := by
  cases a with
  | mk tmps defers =>
    simp only at h
    congr 1
    apply Array.ext
    · simp [h]
    · intro i h1 h2
      simp [Act.eval, h1]
end Reg
end Go.Proofs.YtgoeikihjffeoaaGreat

/- Partitions and channels in memory; whether one of them may be, by the document's own answer (that it answers). -/
namespace Go.Proofs.YtgoeikihjffeoaaGreat
open Go.RowKit Tab
set_option linter.unusedSimpArgs false
set_option linter.unusedVariables false

/-- A channel, whole. -/
structure ChV where
  from_ : Int
  to_ : Int
  queue : Bool
  cap : Int
  max : Int
  late : Int
/-- A partition, whole; its processes as the slice that holds them. -/
structure PtV where
  name : ByteArray
  bud : Int
  per : Int
  sched : Bool
  stop : Bool
  pa : Option Addr
  pn : Nat
  pc : Nat
  h0 : Int
  h1 : Int
  h2 : Int
  h3 : Int
  h4 : Int
abbrev cv (x : ChV) : Value := .agg #[.int .i64 x.from_, .int .i64 x.to_, .bool x.queue, .int .i64 x.cap, .int .u32 x.max, .int .i64 x.late]
abbrev pv (x : PtV) : Value := .agg #[.string x.name, .int .i64 x.bud, .int .i64 x.per, .bool x.sched, .bool x.stop, .slice x.pa x.pn x.pc, .int .i64 x.h0, .int .i64 x.h1, .int .i64 x.h2, .int .i64 x.h3, .int .i64 x.h4]
/-- It answers yes or no, and leaves what was there. -/
def SomB (w : World) (e : Ending) (w' : World) : Prop := ∃ b, e = .returned (.bool b) ∧ Below w.heap.size w w'
set_option maxRecDepth 100000 in
set_option maxHeartbeats 4000000 in
theorem chanRight_any (x : ChV) (n : Int) (w : World) : Calls Tryz.prog 55 #[cv x, .int .i64 n] w (SomB w) := by
  obtain ⟨f, t, q, c, m, l⟩ := x
  go_enter Tryz.func55, Tryz.ntmps55
  cases q <;> go_wp2 <;> (go_ret; exact ⟨_, rfl, bl1 _ _⟩)
end Go.Proofs.YtgoeikihjffeoaaGreat

/- How many nodes the one at a place has. -/
namespace Go.Proofs.YtgoeikihjffeoaaGreat
open Go.RowKit Tab
set_option linter.unusedSimpArgs false
set_option linter.unusedVariables false

theorem ret_num {a b : Int} (h : a = b) : (Value.int .i64 a) = .int .i64 b := by rw [h]
set_option maxRecDepth 100000 in
set_option maxHeartbeats 1600000 in
theorem size_in (A : Option Addr) (n cap : Nat) (l : List Nd) (a : Nat) (w : World) (h : RdN w w.heap.size A n l) (hc : n ≤ cap) (hn : n ≤ 1099511627776) (ha : a < n) :
    Calls Tryz.prog 98 #[.slice A n cap, .int .i64 a] w (Ans (.int .i64 (size l a : Nat)) w) := by
  obtain ⟨ad, x0, rfl, _⟩ := h.at_ ha
  have hca : ¬ cap = a := by omega
  rw [size_def l a (by rw [h.len]; exact ha)]
  generalize hS : scan 1 (l.drop a) = S
  have HS := Lib.hid hS
  clear hS
  go_enter Tryz.func98, Tryz.ntmps98
  go_wp2_with fail
  have hr : RdN w w.heap.size (some (ad.add (a * 3))) (n - a) (l.drop a) := h.back a
  generalize ad.add (a * 3) = ad1 at hr ⊢
  have hN : n - a ≤ 1099511627776 := by omega
  generalize n - a = N at hr hN ⊢
  generalize l.drop a = L at hr HS
  clear h
  generalize decide ((a : Int) < 0) = q9
  generalize decide (n ≤ a) = q14
  go_loopw [5, 20] (fun m s wr => ∃ (i k : Nat), i ≤ N ∧ s = .int .i64 i ∧ m = .int .i64 k ∧ 1 ≤ k ∧ k ≤ 128 * i + 1 ∧ S = (scan k (L.drop i)).map (· + i) ∧ Below w.heap.size w wr) (fun _ s _ => N - (intOf s).toNat)
  case atStart => exact ⟨0, 1, by omega, rfl, rfl, by omega, by omega, by rw [← HS.out]; simp, Below.refl _ _⟩
  case round =>
    obtain ⟨i, k, hi, rfl, rfl, hk1, hk2, hs, hb⟩ := hrel
    have HK := Lib.hid hs
    clear hs
    by_cases hlt : i < N
    · obtain ⟨ad', x, e, _, hx, hin, c0, c1, c2⟩ := (hr.on hb).at_ hlt
      injection e with e
      subst e
      obtain ⟨xk, xp, xn⟩ := x
      have HX := Lib.hid hx
      have HI := Lib.hid hin
      clear hx hin
      have hdr := drop_cons HX.out
      have HD := Lib.hid hdr
      clear hdr
      by_cases hf : fine ⟨xk, xp, xn⟩ = true
      · have HF := Lib.hid hf
        have hK : kz ⟨xk, xp, xn⟩ = (kn ⟨xk, xp, xn⟩ : Int) := kz_kn hf
        have hK2 := kn_le hf
        clear hf
        generalize hKd : kn ⟨xk, xp, xn⟩ = K at hK hK2
        have HKD := Lib.hid hKd
        have HKZ := Lib.hid hK
        clear hKd hK
        go_wp2_with fail
        refine (right1_any _ _ _ _).mono ?_
        rw [HF.out]
        rintro e w1 ⟨rfl, hb1⟩
        obtain ⟨d0, d1, d2⟩ := new_nd hb1
        have k1 := (bl1 _ _).trans (hb1.mono (by simp))
        by_cases hz : k + K = 1
        · have hz1 : (k : Int) + ((K : Int) - 1) = 0 := by omega
          have HZ := Lib.hid hz
          clear hz
          go_wp2_with fail
          refine (kids1_any _ _ _ _).mono ?_
          rw [HKZ.out]
          rintro e w2 ⟨rfl, hb2⟩
          have k2 := k1.trans (hb2.mono k1.size)
          go_wp2_with fail
          go_ret
          refine Ans.mk ?_ (hb.trans (k2.mono hb.size))
          rw [HK.out, HD.out, scan_last HF.out (by rw [HKD.out]; exact HZ.out)]
          simp; omega
        · have hz1 : ¬ (k : Int) + ((K : Int) - 1) = 0 := by omega
          go_wp2_with fail
          refine (kids1_any _ _ _ _).mono ?_
          rw [HKZ.out]
          rintro e w2 ⟨rfl, hb2⟩
          have k2 := k1.trans (hb2.mono k1.size)
          go_wp2_with fail
          go_roundw
          case rel =>
            refine ⟨i + 1, k + K - 1, by omega, by go_num, ret_num (by omega), by omega, by omega, ?_, hb.trans (k2.mono hb.size)⟩
            rw [HK.out, HD.out, scan_next HF.out (by rw [HKD.out]; exact hz), HKD.out]
            cases scan (k + K - 1) (L.drop (i + 1)) <;> simp; omega
          case measure => simp [intOf]; omega
      · have HF := Lib.hid hf
        have hf0 : fine ⟨xk, xp, xn⟩ = false := by simpa using hf
        have HF0 := Lib.hid hf0
        clear hf hf0
        go_wp2_with fail
        refine (right1_any _ _ _ _).mono ?_
        rw [HF0.out]
        rintro e w1 ⟨rfl, hb1⟩
        have k1 := (bl1 _ _).trans (hb1.mono (by simp))
        go_wp2_with fail
        go_ret
        refine Ans.mk ?_ (hb.trans (k1.mono hb.size))
        rw [HK.out, HD.out, scan_bad HF.out]
        simp
    · have hge : N ≤ i := by omega
      have HL := Lib.hid hr.len
      go_wp2_with fail
      go_ret
      refine Ans.mk ?_ hb
      rw [HK.out, List.drop_eq_nil_of_le (by have := HL.out; omega)]
      simp [scan]
set_option maxHeartbeats 400000 in
theorem size_out (A : Option Addr) (n cap : Nat) (a : Int) (w : World) (ha : a < 0 ∨ (n : Int) ≤ a) (hn : n ≤ 1099511627776) :
    Calls Tryz.prog 98 #[.slice A n cap, .int .i64 a] w fun e w' => e = .returned (.int .i64 0) ∧ w = w' := by
  by_cases h0 : a < 0
  · go_enter Tryz.func98, Tryz.ntmps98
    go_wp2_with fail
    go_ret
    exact ⟨rfl, rfl⟩
  · have h1 : (n : Int) ≤ a := by omega
    go_enter Tryz.func98, Tryz.ntmps98
    go_wp2_with fail
    go_ret
    exact ⟨rfl, rfl⟩
theorem size_any (A : Option Addr) (n cap : Nat) (l : List Nd) (a : Int) (w : World) (h : RdN w w.heap.size A n l) (hc : n ≤ cap) (hn : n ≤ 1099511627776) :
    Calls Tryz.prog 98 #[.slice A n cap, .int .i64 a] w (Ans (.int .i64 (size l a : Nat)) w) := by
  by_cases ha : 0 ≤ a ∧ a < n
  · obtain ⟨a', rfl⟩ := Int.eq_ofNat_of_zero_le ha.1
    exact size_in A n cap l a' w h hc hn (by omega)
  · refine (size_out A n cap a w (by omega) hn).mono ?_
    rintro e w' ⟨rfl, rfl⟩
    rw [size_none l a (by have := h.len; omega)]
    exact ⟨rfl, Below.refl _ _⟩
end Go.Proofs.YtgoeikihjffeoaaGreat

/- How many nodes the one at a place has, by the document's own answer. -/
namespace Go.Proofs.YtgoeikihjffeoaaGreat
open Go.RowKit Tab
set_option linter.unusedSimpArgs false
set_option linter.unusedVariables false

theorem kz_seq {x : Nd} (h : x.k = 3) : kz x = x.n := if_pos h
theorem kz_rep {x : Nd} (h : x.k = 4) : kz x = 1 := by unfold kz; rw [if_neg (by omega), if_pos h]
theorem kz_leaf {x : Nd} (h : ¬ x.k = 3) (h' : ¬ x.k = 4) : kz x = 0 := by unfold kz; rw [if_neg h, if_neg h']
set_option maxRecDepth 100000 in
set_option maxHeartbeats 1600000 in
theorem rsize_in (A : Option Addr) (n cap : Nat) (l : List Nd) (a : Nat) (w : World) (h : RdN w w.heap.size A n l) (hc : n ≤ cap) (hn : n ≤ 1099511627776) (ha : a < n) :
    Calls Tryz.prog 84 #[.slice A n cap, .int .i64 a] w (Ans (.int .i64 (size l a : Nat)) w) := by
  obtain ⟨ad, x0, rfl, _⟩ := h.at_ ha
  rw [size_def l a (by rw [h.len]; exact ha)]
  generalize hS : scan 1 (l.drop a) = S
  have HS := Lib.hid hS
  clear hS
  go_enter Tryz.func84, Tryz.ntmps84
  go_wp2_with fail
  generalize decide ((a : Int) < 0) = q9
  generalize decide (n ≤ a) = q14
  go_loopw [5, 6] (fun m s wr => ∃ (i k : Nat), a ≤ i ∧ i ≤ n ∧ s = .int .i64 i ∧ m = .int .i64 k ∧ 1 ≤ k ∧ k ≤ 128 * (i - a) + 1 ∧ S = (scan k (l.drop i)).map (· + (i - a)) ∧ Below w.heap.size w wr) (fun _ s _ => n - (intOf s).toNat)
  case atStart => exact ⟨a, 1, by omega, by omega, rfl, rfl, by omega, by omega, by rw [HS.out]; simp, Below.refl _ _⟩
  case round =>
    obtain ⟨i, k, hai, hi, rfl, rfl, hk1, hk2, hs, hb⟩ := hrel
    have HK := Lib.hid hs
    clear hs
    by_cases hlt : i < n
    · obtain ⟨ad', x, e, _, hx, hin, c0, c1, c2⟩ := (h.on hb).at_ hlt
      injection e with e
      subst e
      obtain ⟨xk, xp, xn⟩ := x
      have hdr := drop_cons hx
      have HD := Lib.hid hdr
      have HI := Lib.hid hin
      clear hdr hx hin
      by_cases hf : fine ⟨xk, xp, xn⟩ = true
      · have HF := Lib.hid hf
        have hK : kz ⟨xk, xp, xn⟩ = (kn ⟨xk, xp, xn⟩ : Int) := kz_kn hf
        have hK2 := kn_le hf
        clear hf
        generalize hKd : kn ⟨xk, xp, xn⟩ = K at hK hK2
        have HKD := Lib.hid hKd
        have HKZ := Lib.hid hK
        clear hKd hK
        go_wp2_with fail
        refine (fine1_any _ _ _ _).mono ?_
        rw [HF.out]
        rintro e w1 ⟨rfl, hb1⟩
        have lt0 : (ad.add (i * 3)).block < wr.heap.size := by rw [add_block]; assumption
        have d0 := (hb1.cell lt0).trans c0
        have d2 := (hb1.cell (p := ⟨(ad.add (i * 3)).block, (ad.add (i * 3)).off + 2, none⟩) lt0).trans c2
        clear c0 c1 c2 lt0
        have k1 := hb.trans (hb1.mono hb.size)
        by_cases h3 : xk = 3
        · subst h3
          have e := HKZ.out
          rw [kz_seq rfl] at e
          dsimp only at e
          subst e
          clear HKZ
          by_cases hz : k + K = 1
          · have hz1 : ((k : Int) - 1 + K == 0) = true := beq_iff_eq.2 (by omega)
            have HZ := Lib.hid hz
            clear hz
            go_wp2_with fail
            go_ret
            refine Ans.mk ?_ k1
            rw [HK.out, HD.out, scan_last HF.out (by rw [HKD.out]; exact HZ.out)]
            refine ret_num (b := (i : Int) - a + 1) ?_
            simp only [Option.map_some, Option.getD_some]
            omega
          · have hz1 : ((k : Int) - 1 + K == 0) = false := beq_eq_false_iff_ne.2 (by omega)
            have HZ := Lib.hid hz
            clear hz
            go_wp2_with fail
            go_roundw
            case rel =>
              have hz := HZ.out
              refine ⟨i + 1, k + K - 1, by omega, by omega, by go_num, ret_num (by omega), by omega, by omega, ?_, k1⟩
              rw [HK.out, HD.out, scan_next HF.out (by rw [HKD.out]; exact hz), HKD.out, show i + 1 - a = 1 + (i - a) by omega]
              generalize i - a = q
              cases scan (k + K - 1) (l.drop (i + 1)) <;> simp [Nat.add_assoc]
            case measure => simp [intOf]; omega
        · by_cases h4 : xk = 4
          · subst h4
            have e := HKZ.out
            rw [kz_rep rfl] at e
            obtain rfl : K = 1 := by omega
            clear HKZ h3 e
            by_cases hz : k + 1 = 1
            · exact absurd hz (by omega)
            · have hz1 : ((k : Int) == 0) = false := beq_eq_false_iff_ne.2 (by omega)
              have HZ := Lib.hid hz
              clear hz
              go_wp2_with fail
              go_roundw
              case rel =>
                have hz := HZ.out
                refine ⟨i + 1, k + 1 - 1, by omega, by omega, by go_num, ret_num (by omega), by omega, by omega, ?_, k1⟩
                rw [HK.out, HD.out, scan_next HF.out (by rw [HKD.out]; exact hz), HKD.out, show i + 1 - a = 1 + (i - a) by omega]
                generalize i - a = q
                cases scan (k + 1 - 1) (l.drop (i + 1)) <;> simp [Nat.add_assoc]
              case measure => simp [intOf]; omega
          · have e := HKZ.out
            rw [kz_leaf h3 h4] at e
            obtain rfl : K = 0 := by omega
            have h3' : (xk == 3) = false := beq_eq_false_iff_ne.2 h3
            have h4' : (xk == 4) = false := beq_eq_false_iff_ne.2 h4
            clear HKZ e h3 h4
            by_cases hz : k + 0 = 1
            · have hz1 : ((k : Int) - 1 == 0) = true := beq_iff_eq.2 (by omega)
              have HZ := Lib.hid hz
              clear hz
              go_wp2_with fail
              go_ret
              refine Ans.mk ?_ k1
              rw [HK.out, HD.out, scan_last HF.out (by rw [HKD.out]; exact HZ.out)]
              refine ret_num (b := (i : Int) - a + 1) ?_
              simp only [Option.map_some, Option.getD_some]
              omega
            · have hz1 : ((k : Int) - 1 == 0) = false := beq_eq_false_iff_ne.2 (by omega)
              have HZ := Lib.hid hz
              clear hz
              go_wp2_with fail
              go_roundw
              case rel =>
                have hz := HZ.out
                refine ⟨i + 1, k + 0 - 1, by omega, by omega, by go_num, ret_num (by omega), by omega, by omega, ?_, k1⟩
                rw [HK.out, HD.out, scan_next HF.out (by rw [HKD.out]; exact hz), HKD.out, show i + 1 - a = 1 + (i - a) by omega]
                generalize i - a = q
                cases scan (k + 0 - 1) (l.drop (i + 1)) <;> simp [Nat.add_assoc]
              case measure => simp [intOf]; omega
      · have HF := Lib.hid hf
        have hf0 : fine ⟨xk, xp, xn⟩ = false := by simpa using hf
        have HF0 := Lib.hid hf0
        clear hf hf0
        go_wp2_with fail
        refine (fine1_any _ _ _ _).mono ?_
        rw [HF0.out]
        rintro e w1 ⟨rfl, hb1⟩
        go_wp2_with fail
        go_ret
        refine Ans.mk ?_ (hb.trans (hb1.mono hb.size))
        rw [HK.out, HD.out, scan_bad HF.out]
        simp
    · have hge : n ≤ i := by omega
      have HL := Lib.hid h.len
      go_wp2_with fail
      go_ret
      refine Ans.mk ?_ hb
      rw [HK.out, List.drop_eq_nil_of_le (by have := HL.out; omega)]
      simp [scan]
set_option maxHeartbeats 400000 in
theorem rsize_out (A : Option Addr) (n cap : Nat) (a : Int) (w : World) (ha : a < 0 ∨ (n : Int) ≤ a) (hn : n ≤ 1099511627776) :
    Calls Tryz.prog 84 #[.slice A n cap, .int .i64 a] w fun e w' => e = .returned (.int .i64 0) ∧ w = w' := by
  by_cases h0 : a < 0
  · go_enter Tryz.func84, Tryz.ntmps84
    go_wp2_with fail
    go_ret
    exact ⟨rfl, rfl⟩
  · have h1 : (n : Int) ≤ a := by omega
    go_enter Tryz.func84, Tryz.ntmps84
    go_wp2_with fail
    go_ret
    exact ⟨rfl, rfl⟩
theorem rsize_any (A : Option Addr) (n cap : Nat) (l : List Nd) (a : Int) (w : World) (h : RdN w w.heap.size A n l) (hc : n ≤ cap) (hn : n ≤ 1099511627776) :
    Calls Tryz.prog 84 #[.slice A n cap, .int .i64 a] w (Ans (.int .i64 (size l a : Nat)) w) := by
  by_cases ha : 0 ≤ a ∧ a < n
  · obtain ⟨a', rfl⟩ := Int.eq_ofNat_of_zero_le ha.1
    exact rsize_in A n cap l a' w h hc hn (by omega)
  · refine (rsize_out A n cap a w (by omega) hn).mono ?_
    rintro e w' ⟨rfl, rfl⟩
    rw [size_none l a (by have := h.len; omega)]
    exact ⟨rfl, Below.refl _ _⟩
end Go.Proofs.YtgoeikihjffeoaaGreat
