/- Contracts and mathematics that the texts behind it stand on: Base, MemG, Tree, Nod, Row, Size, Rsize, Path, Kids. -/
import Derived.Test.YtebcfiifaclniaaGreatRows
import Derived.WalkKit
import Derived.WalkSpells
import Derived.WalkLawsBesides
import Derived.Lib.Hide
import Derived.Maps.AppendAt
import Derived.Laws.IdiomStrings
import Derived.Deep.AppendLies
import Derived.Laws.CopyOwn
import Derived.OwnWalk
import Derived.LoopTactic
import Derived.Laws.MakeOwn
import Derived.BigQuiet
import Derived.Deep.QuietTactic
/- Rows of bytes that are read; a number held between two. -/
namespace Go.Proofs.YtebcfiifaclniaaGreat
open Go.RowKit

/-- A slice at A, of n bytes, holds the bytes l; where it holds any it lies below block B. -/
def Rd (w : World) (B : Nat) (A : Option Addr) (n : Nat) (l : List UInt8) : Prop :=
  l.length = n ∧ (0 < n → ∃ ad, A = some ad ∧ ad.block < B ∧ ∀ j (h : j < l.length), w.cell? (ad.add j) = some (.int .u8 (l[j].toNat : Int)))

section
variable {w w' : World} {B B' n : Nat} {A : Option Addr} {l : List UInt8}
theorem Rd.at_ {k : Nat} (h : Rd w B A n l) (hk : k < n) : ∃ ad x, A = some ad ∧ ad.block < B ∧ l[k]? = some x ∧ w.cell? (ad.add k) = some (.int .u8 (x.toNat : Int)) := by
  obtain ⟨ad, e, hb, hc⟩ := h.2 (by omega)
  have hl : k < l.length := by have := h.1; omega
  exact ⟨ad, l[k], e, hb, List.getElem?_eq_getElem hl, hc k hl⟩
theorem Rd.keep (h : Rd w B A n l) (hk : ∀ p : Addr, p.block < B → w'.cell? p = w.cell? p) : Rd w' B A n l :=
  ⟨h.1, fun hn => by
    obtain ⟨ad, e, hb, hc⟩ := h.2 hn
    refine ⟨ad, e, hb, fun j hj => ?_⟩
    have e1 : (ad.add j).block = ad.block := by unfold Addr.add; split <;> rfl
    exact (hk _ (by rw [e1]; exact hb)).trans (hc j hj)⟩
theorem Rd.more (h : Rd w B A n l) (hB : B ≤ B') : Rd w B' A n l :=
  ⟨h.1, fun hn => by
    obtain ⟨ad, e, hb, hc⟩ := h.2 hn
    exact ⟨ad, e, by omega, hc⟩⟩
theorem Rd.below (h : Rd w B A n l) (hb : Below B w w') : Rd w' B A n l := h.keep fun _ hp => hb.cell hp
theorem Rd.drew (h : Rd w B A n l) : Rd w.drew B A n l := h
theorem Rd.alloc (h : Rd w B A n l) (hB : B ≤ w.heap.size) (o : Obj) : Rd (w.alloc o) B A n l := h.keep fun p hp => World.cell?_alloc_lt w o p (by omega)
end

section
variable {w : World} {B n : Nat} {l : List UInt8}
theorem Rd.front {A : Option Addr} (h : Rd w B A n l) (k : Nat) (hk : k ≤ n) : Rd w B A k (l.take k) := by
  refine ⟨by rw [List.length_take, h.1]; omega, fun h0 => ?_⟩
  obtain ⟨ad, e, hb, hc⟩ := h.2 (by omega)
  refine ⟨ad, e, hb, fun j hj => ?_⟩
  rw [List.length_take] at hj
  rw [List.getElem_take]
  exact hc j (by omega)
theorem Rd.back {ad : Addr} (h : Rd w B (some ad) n l) (k m : Nat) (hk : k + m = n) : Rd w B (some (ad.add k)) m (l.drop k) := by
  refine ⟨by rw [List.length_drop, h.1]; omega, fun h0 => ?_⟩
  obtain ⟨ad', e, hb, hc⟩ := h.2 (by omega)
  injection e with e
  subst e
  refine ⟨_, rfl, ?_, fun j hj => ?_⟩
  · have e1 : (ad.add k).block = ad.block := by unfold Addr.add; split <;> rfl
    rw [e1]; exact hb
  · rw [List.length_drop] at hj
    have e2 : (ad.add k).add j = ad.add (k + j) := by
      unfold Addr.add
      by_cases hi : k = 0 <;> by_cases hj : j = 0 <;> simp [hi, hj, Nat.add_assoc]
    rw [e2, List.getElem_drop]
    exact hc (k + j) (by omega)
theorem Rd.drewN {A : Option Addr} (h : Rd w B A n l) (q : Nat) : Rd (w.drewN q) B A n l := h
end
/-- Of a number whatever, held between 0 and m. -/
def Between (m : Nat) (w : World) (e : Ending) (w' : World) : Prop := ∃ k : Nat, k ≤ m ∧ e = .returned (.int .i64 k) ∧ w = w'
theorem between_mk (m : Nat) (w : World) (e : Ending) (z : Int) (h0 : 0 ≤ z) (h1 : z ≤ m) (he : e = .returned (.int .i64 z)) : Between m w e w :=
  ⟨z.toNat, by omega, by rw [he]; congr 2; omega, rfl⟩
theorem tmod_low (n : Int) (m : Nat) (h : n < 0) : -(m : Int) ≤ n.tmod (m + 1) ∧ n.tmod (m + 1) ≤ 0 := by
  have h1 : n.tmod (m + 1) = -((-n) % ((m : Int) + 1)) := by
    rw [Int.tmod_eq_emod_of_nonneg (a := -n) (by omega) |>.symm, Int.neg_tmod, Int.neg_neg]
  have h2 := Int.emod_nonneg (-n) (b := (m : Int) + 1) (by omega)
  have h3 := Int.emod_lt_of_pos (-n) (b := (m : Int) + 1) (by omega)
  omega
set_option maxRecDepth 100000 in
set_option maxHeartbeats 400000 in
theorem within_any (n : Int) (m : Nat) (w : World) (hm : m < 4611686018427387904) :
    Calls Tryz.prog 30 #[.int .i64 n, .int .i64 0, .int .i64 m] w (Between m w) := by
  have hm0 : (0 : Int) ≤ (m : Int) := Int.natCast_nonneg _
  by_cases h0 : 0 ≤ n
  · by_cases h1 : n ≤ (m : Int)
    · go_enter Tryz.func30, Tryz.ntmps30
      go_wp2
      go_ret
      exact between_mk _ _ _ n h0 h1 rfl
    · have h2 := Int.emod_nonneg n (b := (m : Int) + 1) (by omega)
      have h3 : n % ((m : Int) + 1) ≤ m := by have := Int.emod_lt_of_pos n (b := (m : Int) + 1) (by omega); omega
      go_enter Tryz.func30, Tryz.ntmps30
      go_wp2
      go_ret
      exact between_mk _ _ _ _ h2 h3 (by simp)
  · obtain ⟨h2, h3⟩ := tmod_low n m (by omega)
    by_cases h4 : n.tmod ((m : Int) + 1) < 0
    · go_enter Tryz.func30, Tryz.ntmps30
      go_wp2
      go_ret
      refine between_mk _ _ _ (n.tmod ((m : Int) + 1) + m + 1) (by omega) (by omega) (by simp)
    · go_enter Tryz.func30, Tryz.ntmps30
      go_wp2
      go_ret
      refine between_mk _ _ _ (n.tmod ((m : Int) + 1)) (by omega) (by omega) (by simp)
theorem within_at (n M : Int) (m : Nat) (w : World) (hM : M = (m : Int)) (hm : m < 4611686018427387904) :
    Calls Tryz.prog 30 #[.int .i64 n, .int .i64 0, .int .i64 M] w (Between m w) := by
  subst hM
  exact within_any n m w hm
/-- A slice at A, of n cells, holds f; where it holds any it lies below block B. -/
def RdC (w : World) (B : Nat) (A : Option Addr) (n : Nat) (f : Nat → Value) : Prop :=
  0 < n → ∃ ad, A = some ad ∧ ad.block < B ∧ ∀ j, j < n → w.cell? (ad.add j) = some (f j)
section
variable {w w' : World} {B B' n : Nat} {A : Option Addr} {f : Nat → Value}
theorem RdC.at_ {k : Nat} (h : RdC w B A n f) (hk : k < n) : ∃ ad, A = some ad ∧ ad.block < B ∧ w.cell? (ad.add k) = some (f k) := by
  obtain ⟨ad, e, hb, hc⟩ := h (by omega)
  exact ⟨ad, e, hb, hc k hk⟩
theorem RdC.keep (h : RdC w B A n f) (hk : ∀ p : Addr, p.block < B → w'.cell? p = w.cell? p) : RdC w' B A n f := fun hn => by
  obtain ⟨ad, e, hb, hc⟩ := h hn
  refine ⟨ad, e, hb, fun j hj => ?_⟩
  have e1 : (ad.add j).block = ad.block := by unfold Addr.add; split <;> rfl
  exact (hk _ (by rw [e1]; exact hb)).trans (hc j hj)
theorem RdC.more (h : RdC w B A n f) (hB : B ≤ B') : RdC w B' A n f := fun hn => by
  obtain ⟨ad, e, hb, hc⟩ := h hn
  exact ⟨ad, e, by omega, hc⟩
theorem RdC.below (h : RdC w B A n f) (hb : Below B w w') : RdC w' B A n f := h.keep fun _ hp => hb.cell hp
end
end Go.Proofs.YtebcfiifaclniaaGreat

/- Rows in memory, whatever their elements: what a slice holds, cell by cell; what append makes of it. -/
namespace Go.Proofs.YtebcfiifaclniaaGreat
open Go.RowKit

/-- What is known of an element's type and of a slice's. -/
structure Elt (T E : TypeId) (s b : Nat) (z : Value) : Prop where
  ht : Tryz.prog.underlying T = some (.slice E)
  hi : (Tryz.prog.info? E).map (fun i => (i.zero, i.size, i.bytes)) = some (some z, s, b)
  hz : z.cells.size = s
  hs : 0 < s

/-- A slice at A holds the cells l; where it holds any it lies below block B. -/
def RdV (w : World) (B : Nat) (A : Option Addr) (l : List Value) : Prop :=
  0 < l.length → ∃ ad, A = some ad ∧ ad.block < B ∧ ∀ j v, l[j]? = some v → w.cell? (ad.add j) = some v
section
variable {w w' : World} {B B' : Nat} {A : Option Addr} {l : List Value}
theorem add_block (ad : Addr) (j : Nat) : (ad.add j).block = ad.block := by unfold Addr.add; split <;> rfl
theorem RdV.keep (h : RdV w B A l) (hk : ∀ p : Addr, p.block < B → w'.cell? p = w.cell? p) : RdV w' B A l := fun hn => by
  obtain ⟨ad, e, hb, hc⟩ := h hn
  exact ⟨ad, e, hb, fun j v hj => (hk _ (by rw [add_block]; exact hb)).trans (hc j v hj)⟩
theorem RdV.more (h : RdV w B A l) (hB : B ≤ B') : RdV w B' A l := fun hn => by
  obtain ⟨ad, e, hb, hc⟩ := h hn
  exact ⟨ad, e, by omega, hc⟩
theorem RdV.below (h : RdV w B A l) (hb : Below B w w') : RdV w' B A l := h.keep fun _ hp => hb.cell hp
theorem add_add (ad : Addr) (i j : Nat) : (ad.add i).add j = ad.add (i + j) := by
  unfold Addr.add
  by_cases hi : i = 0 <;> by_cases hj : j = 0 <;> simp [hi, hj, Nat.add_assoc]
theorem RdV.front (h : RdV w B A l) (k : Nat) : RdV w B A (l.take k) := fun hn => by
  rw [List.length_take] at hn
  obtain ⟨ad, e, hb, hc⟩ := h (by omega)
  refine ⟨ad, e, hb, fun j v hj => hc j v ?_⟩
  rw [List.getElem?_take] at hj
  split at hj
  · exact hj
  · cases hj
theorem RdV.back {ad : Addr} (h : RdV w B (some ad) l) (k : Nat) : RdV w B (some (ad.add k)) (l.drop k) := fun hn => by
  rw [List.length_drop] at hn
  obtain ⟨ad', e, hb, hc⟩ := h (by omega)
  injection e with e
  subst e
  refine ⟨_, rfl, by rw [add_block]; exact hb, fun j v hj => ?_⟩
  rw [add_add]
  rw [List.getElem?_drop] at hj
  exact hc _ v hj
theorem RdV.nil : RdV w B A [] := fun h => absurd h (by simp)
end

/-- The slice is a row of the call's own, block B or behind it; it holds l. -/
def OwnV (E s : Nat) (w : World) (B : Nat) (A : Option Addr) (n c : Nat) (l : List Value) : Prop := w.ownsRow B E s (.slice A n c) n l
section
variable {w w' : World} {E s B B' n c : Nat} {A : Option Addr} {l : List Value}
theorem OwnV.len (h : OwnV E s w B A n c l) : l.length = n * s := h.1
theorem OwnV.cap (h : OwnV E s w B A n c l) : n ≤ c := by
  rcases h.2 with ⟨hv, h0⟩ | ⟨g, cap, cur, hv, _, _, hnc, _⟩
  · omega
  · injection hv; omega
theorem OwnV.nil (w : World) (E s B : Nat) : OwnV E s w B none 0 0 [] := World.ownsRow_nil _ _ _ _
theorem OwnV.block (h : OwnV E s w B A n c l) (hn : 0 < n) : ∃ g, A = some ⟨g, 0, none⟩ ∧ B ≤ g ∧ g < w.heap.size := by
  rcases h.2 with ⟨_, h0⟩ | ⟨g, cap, cur, hv, hb, hg, _⟩
  · omega
  · injection hv with h1
    exact ⟨g, h1, hb, (Array.getElem?_eq_some_iff.1 hg).1⟩
theorem OwnV.rd (h : OwnV E s w B A n c l) : RdV w w.heap.size A l := fun hl => by
  have hn : 0 < n := by
    rcases Nat.eq_zero_or_pos n with h0 | h0
    · rw [h.1, h0] at hl; omega
    · exact h0
  obtain ⟨g, rfl, _, hlt⟩ := h.block hn
  exact ⟨_, rfl, hlt, fun j v hj => World.ownsRow.cells h (g := g) rfl j v hj⟩
theorem OwnV.keep (h : OwnV E s w B A n c l) (hk : ∀ b, B ≤ b → b < w.heap.size → w'.heap[b]? = w.heap[b]?) : OwnV E s w' B A n c l := by
  refine ⟨h.1, ?_⟩
  rcases h.2 with hv | ⟨g, cap, cur, hv, hbg, hg, r⟩
  · exact .inl hv
  · exact .inr ⟨g, cap, cur, hv, hbg, by rw [hk g hbg (Array.getElem?_eq_some_iff.1 hg).1]; exact hg, r⟩
theorem OwnV.below (h : OwnV E s w B A n c l) (hs : B' = w.heap.size) (hb : Below B' w w') : OwnV E s w' B A n c l := by
  subst hs
  exact h.keep fun b _ hlt => hb.block b hlt
theorem OwnV.weak (h : OwnV E s w B A n c l) (hB : B' ≤ B) : OwnV E s w B' A n c l :=
  ⟨h.1, h.2.elim .inl fun ⟨g, cap, cur, hv, hbg, r⟩ => .inr ⟨g, cap, cur, hv, Nat.le_trans hB hbg, r⟩⟩
/-- A literal's new block. -/
theorem ownV_lit (w : World) (E s B : Nat) (C : Array Value) (m : Nat) (hC : C.size = m * s) (hB : B ≤ w.heap.size) (hm : m ≤ maxLen) : OwnV E s (w.alloc (.cells C E)) B (some ⟨w.heap.size, 0, none⟩) m m C.toList := by
  refine ⟨by rw [Array.length_toList, hC], .inr ⟨w.heap.size, m, C, rfl, hB, heap_alloc_new w _, Nat.le_refl _, hm, hC, ?_⟩⟩
  rw [List.take_of_length_le (by rw [Array.length_toList, hC]; omega)]
end

theorem rdV_new (w : World) (C : Array Value) (t : TypeId) (l : List Value) (hC : C.toList = l) : RdV (w.alloc (.cells C t)) (w.alloc (.cells C t)).heap.size (some ⟨w.heap.size, 0, none⟩) l := fun _ => by
  refine ⟨_, rfl, by simp, fun j v hj => ?_⟩
  have e : (⟨w.heap.size, 0, none⟩ : Addr).add j = ⟨w.heap.size, j, none⟩ := by unfold Addr.add; split <;> simp_all
  rw [e, World.cell?_alloc_mark, ← Array.getElem?_toList, hC]
  exact hj
theorem append_nil_srcV {T E s b : Nat} {z : Value} (L : Elt T E s b z) (w : World) (B : Nat) (A : Option Addr) (n c c' : Nat) (l : List Value) (h : OwnV E s w B A n c l) (S : Option Addr) :
    (Builtin.append_ #[T, T] T #[.slice A n c, .slice S 0 c']).run Tryz.prog w = .ok (.slice A n c) w := by
  obtain ⟨i, hi, _⟩ := info_parts L.hi
  cases S with
  | none =>
    rcases h.2 with ⟨hv, _⟩ | ⟨g, cap, cur, hv, _, _, hnc, _⟩
    · simp only [Value.slice.injEq] at hv
      obtain ⟨rfl, rfl, rfl⟩ := hv
      simp [Builtin.append_, run_underlying L.ht, sizeOf, typeInfo, hi, Builtin.lenOf, Builtin.firstCells]
    · simp only [Value.slice.injEq] at hv
      obtain ⟨rfl, _, rfl⟩ := hv
      simp [Builtin.append_, run_underlying L.ht, sizeOf, typeInfo, hi, Builtin.lenOf, Builtin.firstCells, hnc, storeCells]
  | some ad =>
    rcases h.2 with ⟨hv, _⟩ | ⟨g, cap, cur, hv, _, _, hnc, _⟩
    · simp only [Value.slice.injEq] at hv
      obtain ⟨rfl, rfl, rfl⟩ := hv
      simp [Builtin.append_, run_underlying L.ht, sizeOf, typeInfo, hi, Builtin.lenOf, Builtin.firstCells, loadCells, loadCellsFrom]
    · simp only [Value.slice.injEq] at hv
      obtain ⟨rfl, _, rfl⟩ := hv
      simp [Builtin.append_, run_underlying L.ht, sizeOf, typeInfo, hi, Builtin.lenOf, Builtin.firstCells, hnc, storeCells, loadCells, loadCellsFrom]

/-- append onto a row of the call's own, from whatever slice holds l. -/
theorem run_appV {T E s b : Nat} {z : Value} (L : Elt T E s b z) (w : World) (B : Nat) (A : Option Addr) (n c : Nat) (l0 : List Value) (h : OwnV E s w B A n c l0) (S : Option Addr) (m d : Nat) (l : List Value) (Bs : Nat) (hr : RdV w Bs S l)
    (hl : l.length = m * s) (h1 : ∀ u ∈ l, u.oneCell' = true) (hb : (n + m) * b ≤ 140737488355328) (hm : n + m ≤ maxLen) (hB : B ≤ w.heap.size) :
    ∃ A' c' w', (Builtin.append_ #[T, T] T #[.slice A n c, .slice S m d]).run Tryz.prog w = .ok (.slice A' (n + m) c') w' ∧ OwnV E s w' B A' (n + m) c' (l0 ++ l) ∧ Below B w w' ∧
      ∀ Bb, (∀ g, A = some ⟨g, 0, none⟩ → g < Bb) → ∀ k, Bb ≤ k → k < w.heap.size → w'.heap[k]? = w.heap[k]? := by
  obtain ⟨i, hi, hz, hs, hby⟩ := info_parts L.hi
  rcases Nat.eq_zero_or_pos m with hm0 | hm0
  · subst hm0
    obtain rfl : l = [] := List.eq_nil_of_length_eq_zero (by omega)
    exact ⟨A, c, w, append_nil_srcV L w B A n c d l0 h S, by simpa using h, Below.refl _ _, fun _ _ _ _ _ => rfl⟩
  · have hpos : 0 < l.length := by rw [hl]; exact Nat.mul_pos hm0 L.hs
    obtain ⟨ad, rfl, _, hc⟩ := hr hpos
    obtain ⟨v', w', hrun, hown, hgr, hnil, hat⟩ := run_append_own_at (P := Tryz.prog) w B T T E i z s b L.ht hi hz hs hby L.hz L.hs (.slice A n c) n l0 h ad m d l hl hc h1 hm hb hB
    have hbel : Below B w w' := (Below.refl _ _).grown hgr hB (fun k hk => by
      rcases h.2 with ⟨hv, _⟩ | ⟨g, cap, cur, hv, hbg, _⟩
      · rw [hv] at hk; simp [Value.ownBlock] at hk
      · rw [hv] at hk; simp [Value.ownBlock] at hk; omega)
    have hoth : ∀ Bb, (∀ g, A = some ⟨g, 0, none⟩ → g < Bb) → ∀ k, Bb ≤ k → k < w.heap.size → w'.heap[k]? = w.heap[k]? := fun Bb hg k hb hlt => by
      refine hgr.block k hlt fun hk => ?_
      rcases h.2 with ⟨hv, _⟩ | ⟨g, cap, cur, hv, hbg, _⟩
      · rw [hv] at hk; simp [Value.ownBlock] at hk
      · have h1 : A = some ⟨g, 0, none⟩ := by injection hv
        have := hg g h1
        rw [hv] at hk
        simp [Value.ownBlock] at hk
        omega
    rcases hown.2 with ⟨hv, h0⟩ | ⟨g, cap, cur, hv, _⟩
    · omega
    · subst hv
      exact ⟨_, _, w', hrun, hown, hbel, hoth⟩

/-- append onto a row whose block is known: the row as it was is still there. -/
theorem run_appK {T E s b : Nat} {z : Value} (L : Elt T E s b z) (w : World) (B g n c : Nat) (l0 : List Value) (h : OwnV E s w B (some ⟨g, 0, none⟩) n c l0) (ad : Addr) (m d : Nat) (l : List Value) (hc : ∀ j u, l[j]? = some u → w.cell? (ad.add j) = some u)
    (hl : l.length = m * s) (h1 : ∀ u ∈ l, u.oneCell' = true) (hb : (n + m) * b ≤ 140737488355328) (hm : n + m ≤ maxLen) (hB : B ≤ w.heap.size) :
    ∃ A' c' w', (Builtin.append_ #[T, T] T #[.slice (some ⟨g, 0, none⟩) n c, .slice (some ad) m d]).run Tryz.prog w = .ok (.slice A' (n + m) c') w' ∧ OwnV E s w' B A' (n + m) c' (l0 ++ l) ∧ Below B w w' ∧ OwnV E s w' B (some ⟨g, 0, none⟩) n c l0 ∧
      ∀ k, k ≠ g → k < w.heap.size → w'.heap[k]? = w.heap[k]? := by
  obtain ⟨i, hi, hz, hs, hby⟩ := info_parts L.hi
  have hsmall : n + m ≤ 9223372036854775807 := by simp only [maxLen] at hm; omega
  have hlen : (l0 ++ l).length = (n + m) * s := by rw [List.length_append, h.1, hl, Nat.add_mul]
  rcases h.2 with ⟨hv, _⟩ | ⟨g', cap, cur, hv, hbg, hg, hnc, hcm, hcs, htake⟩
  · cases hv
  · simp only [Value.slice.injEq, Option.some.injEq, Addr.mk.injEq, and_true, true_and] at hv
    obtain ⟨rfl, rfl⟩ := hv
    subst hs; subst hby
    have ec : cur.toList.length = c * i.size := by rw [Array.length_toList]; exact hcs
    have hle : n * i.size ≤ c * i.size := Nat.mul_le_mul_right _ hnc
    by_cases hroom : n + m ≤ c
    · have hle2 : n * i.size + m * i.size ≤ c * i.size := by rw [← Nat.add_mul]; exact Nat.mul_le_mul_right _ hroom
      have hfit : n * i.size + l.length ≤ cur.size := by rw [hl, hcs]; exact hle2
      have hr := run_append_room (P := Tryz.prog) w T T E i L.ht hi g n c cur hg ad m d l hl hc h1 hroom hfit
      rw [htake] at hr
      have hl0 : l0.length = n * i.size := h.1
      have hsize : (l0 ++ l ++ cur.toList.drop (n * i.size + l.length)).toArray.size = c * i.size := by
        rw [List.size_toArray, List.length_append, List.length_append, List.length_drop, ec, hl0, hl]; omega
      refine ⟨_, _, _, hr, ⟨hlen, .inr ⟨g, c, _, rfl, hbg, setRow_heap w g cur _ _ _ hg, hroom, hcm, hsize, ?_⟩⟩, below_setRow (Below.refl _ _) hbg _, ⟨h.1, .inr ⟨g, c, _, rfl, hbg, setRow_heap w g cur _ _ _ hg, hnc, hcm, hsize, ?_⟩⟩, fun k hk _ => setRow_other w g k _ hk⟩
      · exact List.take_left' hlen
      · show (l0 ++ l ++ cur.toList.drop (n * i.size + l.length)).take (n * i.size) = l0
        rw [List.append_assoc]
        exact List.take_left' hl0
    · have holds : ∀ j u, l0[j]? = some u → w.cell? ((⟨g, 0, none⟩ : Addr).add j) = some u := World.ownsRow.cells h (g := g) rfl
      have hfit : Builtin.nextslicecap (n + m) c * i.bytes ≤ 281474976710656 := growslice_fits (by omega) hb
      have hrun := run_append_grow (P := Tryz.prog) w T T E i z L.ht hi hz ⟨g, 0, none⟩ n c l0 h.1 holds ad m d l hl hc (by omega) (by omega) hfit
      have hge := grownCap_ge w (n + m) c E
      have hcm' : grownCap w (n + m) c E ≤ maxLen := grownCap_le_maxLen w (n + m) c E hm
      refine ⟨_, _, _, hrun, ⟨hlen, .inr ⟨w.heap.size, _, _, rfl, hB, heap_alloc_new w.drew _, hge, hcm', ?_, ?_⟩⟩, ((Below.refl _ _).drew).alloc hB _, OwnV.keep (B := B) h fun k _ hk => Below.heap_alloc w.drew _ k hk, fun k _ hk => Below.heap_alloc w.drew _ k hk⟩
      · simp only [Array.size_append, List.size_toArray, size_zeroCells, L.hz, h.1, hl, ← Nat.add_mul]
        exact congrArg (· * i.size) (by omega)
      · simp only [Array.toList_append, List.append_assoc]
        rw [← List.append_assoc, ← hlen]
        exact List.take_left
theorem wpList_wanted {P : Program} {ops : Array Oper} {Q : Exit → Act → World → Prop} {a : Act} {w : World} {rest : List Oper} {o : Oper} (hw : Region.wanted o (yielded ops a.tmps) = true)
    (h : ∀ K : Act → World → Prop, (∀ a w, wpList P ops Q rest a w → K a w) → o.wp P a w K Q) : wpList P ops Q (o :: rest) a w :=
  wpList_step fun K hK => by rw [if_pos hw]; exact h K hK
theorem wpList_appV {T E s b : Nat} {z : Value} (L : Elt T E s b z) {ops : Array Oper} {rest : List Oper} {o : Oper} {a : Act} {Q : Exit → Act → World → Prop} {w : World} (hgd : o.guard = none) (x y : Operand)
    (ho : o.op = .call { callee := .builtin .append, args := #[x, y], argTypes := #[T, T] }) (hty : o.type = T)
    (B : Nat) (A : Option Addr) (n c : Nat) (l0 : List Value) (hx : a.eval x = .slice A n c) (h : OwnV E s w B A n c l0) (S : Option Addr) (m d : Nat) (l : List Value) (Bs : Nat) (hy : a.eval y = .slice S m d) (hr : RdV w Bs S l)
    (hl : l.length = m * s) (h1 : ∀ u ∈ l, u.oneCell' = true) (hb : (n + m) * b ≤ 140737488355328) (hm : n + m ≤ maxLen) (hB : B ≤ w.heap.size)
    (N : Nat) (hN : n + m = N) (M : List Value) (hM : l0 ++ l = M)
    (hK : ∀ A' c' w', OwnV E s w' B A' N c' M → Below B w w' → (∀ Bb, (∀ g, A = some ⟨g, 0, none⟩ → g < Bb) → ∀ k, Bb ≤ k → k < w.heap.size → w'.heap[k]? = w.heap[k]?) → wpList Tryz.prog ops Q rest (a.put o.dst (.slice A' N c')) w') : wpList Tryz.prog ops Q (o :: rest) a w := by
  subst hN; subst hM
  refine wpList_plain hgd fun K hk => ?_
  obtain ⟨A', c', w', hrun, h1, h2, h3⟩ := run_appV L w B A n c l0 h S m d l Bs hr hl h1 hb hm hB
  unfold Oper.wp execOp
  simp only [ho, hty, resolve, invoke, builtin, Sem.run_bind, Sem.run_pure, Result.andThen_ok, List.map_toArray, List.map_cons, List.map_nil, hx, hy, hrun]
  exact hk _ _ (hK A' c' w' h1 h2 h3)
end Go.Proofs.YtebcfiifaclniaaGreat

/- Tables as rows of nodes: plain mathematics. -/
namespace Go.Proofs.YtebcfiifaclniaaGreat
namespace Tab

/-- A node: its kind, its partition, its number. -/
structure Nd where
  k : Int
  p : Int
  n : Int

/-- A row of tables: a node, what is below it, what stands behind. -/
inductive F where
  | nil
  | cons (x : Nd) (kids rest : F)

def fine (x : Nd) : Bool :=
  decide (1 ≤ x.n) && (if x.k = 1 then decide (0 ≤ x.p ∧ x.p < 6) else if x.k = 2 ∨ x.k = 4 then decide (x.p = 0) else if x.k = 3 then decide (x.p = 0 ∧ x.n ≤ 128) else false)
/-- How many children. -/
def kn (x : Nd) : Nat := if x.k = 3 then x.n.toNat else if x.k = 4 then 1 else 0
theorem kn_le {x : Nd} (h : fine x = true) : kn x ≤ 128 := by
  unfold fine at h
  unfold kn
  simp only [Bool.and_eq_true, decide_eq_true_eq] at h
  obtain ⟨h1, h2⟩ := h
  split at h2
  · rw [if_neg (by omega), if_neg (by omega)]; omega
  · split at h2
    · rw [if_neg (by omega)]; split <;> omega
    · split at h2
      · rename_i h3
        rw [if_pos h3]
        simp only [decide_eq_true_eq] at h2
        omega
      · cases h2
theorem fine_one {x : Nd} (h : fine x = true) : 1 ≤ x.n := by
  unfold fine at h
  simp only [Bool.and_eq_true, decide_eq_true_eq] at h
  exact h.1

namespace F
def flat : F → List Nd
  | nil => []
  | cons x k r => x :: (flat k ++ flat r)
def cnt : F → Nat
  | nil => 0
  | cons _ _ r => cnt r + 1
def ok : F → Prop
  | nil => True
  | cons x k r => fine x = true ∧ cnt k = kn x ∧ ok k ∧ ok r
/-- How many nodes. -/
def sz : F → Nat
  | nil => 0
  | cons _ k r => 1 + sz k + sz r
/-- One below the other. -/
def dep : F → Nat
  | nil => 0
  | cons _ k r => max (dep k + 1) (dep r)
/-- What one node's ticks are, those of all that is below it being s. -/
def tick (x : Nd) (s : Nat) : Nat := if x.k = 3 then s else if x.k = 4 then s * x.n.toNat else x.n.toNat
def len : F → Nat
  | nil => 0
  | cons x k r => tick x (len k) + len r
/-- Where its tables begin, the first at b. -/
def places (b : Nat) : F → List Nat
  | nil => []
  | cons _ k r => b :: places (b + 1 + sz k) r
def app : F → F → F
  | nil, g => g
  | cons x k r, g => cons x k (app r g)

theorem flat_length (f : F) : f.flat.length = f.sz := by
  induction f with
  | nil => rfl
  | cons x k r hk hr => simp [flat, sz, hk, hr]; omega
theorem cnt_zero {f : F} (h : f.cnt = 0) : f = nil := by
  cases f with
  | nil => rfl
  | cons x k r => simp [cnt] at h
theorem cnt_le_sz (f : F) : f.cnt ≤ f.sz := by
  induction f with
  | nil => simp [cnt, sz]
  | cons x k r _ hr => simp only [cnt, sz]; omega
theorem dep_le_sz (f : F) : f.dep ≤ f.sz := by
  induction f with
  | nil => simp [dep, sz]
  | cons x k r hk hr => simp only [dep, sz]; omega
theorem len_pos {f : F} (h : f.ok) (hc : 0 < f.cnt) : 0 < f.len := by
  induction f with
  | nil => simp [cnt] at hc
  | cons x k r hk _ =>
    obtain ⟨h1, h2, h3, _⟩ := h
    have hn := fine_one h1
    simp only [len, tick]
    split
    · rename_i h4
      have : 0 < k.cnt := by rw [h2]; unfold kn; rw [if_pos h4]; omega
      have := hk h3 this
      omega
    · split
      · rename_i h4 h5
        have : 0 < k.cnt := by rw [h2]; unfold kn; rw [if_neg h4, if_pos h5]; omega
        have h6 := hk h3 this
        have : 0 < k.len * x.n.toNat := Nat.mul_pos h6 (by omega)
        omega
      · omega
theorem app_flat (f g : F) : (f.app g).flat = f.flat ++ g.flat := by
  induction f with
  | nil => rfl
  | cons x k r _ hr => simp [app, flat, hr]
theorem app_cnt (f g : F) : (f.app g).cnt = f.cnt + g.cnt := by
  induction f with
  | nil => simp [app, cnt]
  | cons x k r _ hr => simp only [app, cnt, hr]; omega
theorem app_sz (f g : F) : (f.app g).sz = f.sz + g.sz := by
  induction f with
  | nil => simp [app, sz]
  | cons x k r _ hr => simp only [app, sz, hr]; omega
theorem app_ok {f g : F} (hf : f.ok) (hg : g.ok) : (f.app g).ok := by
  induction f with
  | nil => exact hg
  | cons x k r _ hr => exact ⟨hf.1, hf.2.1, hf.2.2.1, hr hf.2.2.2⟩
theorem app_dep (f g : F) : (f.app g).dep = max f.dep g.dep := by
  induction f with
  | nil => simp [app, dep]
  | cons x k r _ hr => simp only [app, dep, hr]; omega
theorem app_len (f g : F) : (f.app g).len = f.len + g.len := by
  induction f with
  | nil => simp [app, len]
  | cons x k r _ hr => simp only [app, len, hr]; omega
/-- A row of tables falls into its first so many and the others. -/
theorem split {f : F} (h : f.ok) (m : Nat) (hm : m ≤ f.cnt) : ∃ a b : F, a.ok ∧ b.ok ∧ a.cnt = m ∧ b.cnt = f.cnt - m ∧ f = a.app b := by
  induction m generalizing f with
  | zero => exact ⟨nil, f, trivial, h, rfl, rfl, rfl⟩
  | succ m ih =>
    cases f with
    | nil => simp [cnt] at hm
    | cons x k r =>
      simp only [cnt] at hm
      obtain ⟨a, b, ha, hb, hca, hcb, e⟩ := ih (f := r) h.2.2.2 (by omega)
      exact ⟨cons x k a, b, ⟨h.1, h.2.1, h.2.2.1, ha⟩, hb, by simp [cnt, hca], by simp only [cnt]; omega, by simp [app, e]⟩
end F

/-- How many nodes it takes until none is missing, m being so; none, where one is wrong or they end. -/
def scan : Nat → List Nd → Option Nat
  | _, [] => none
  | m, x :: l => if fine x = true then (if m + kn x = 1 then some 1 else (scan (m + kn x - 1) l).map (· + 1)) else none

theorem drop_cons {l : List Nd} {i : Nat} {x : Nd} (h : l[i]? = some x) : l.drop i = x :: l.drop (i + 1) := by
  obtain ⟨hi, e⟩ := List.getElem?_eq_some_iff.1 h
  rw [List.drop_eq_getElem_cons hi, e]
theorem scan_bad {m : Nat} {x : Nd} {l : List Nd} (h : ¬ fine x = true) : scan m (x :: l) = none := by
  simp only [scan]
  rw [if_neg h]
theorem scan_last {m : Nat} {x : Nd} {l : List Nd} (h : fine x = true) (hk : m + kn x = 1) : scan m (x :: l) = some 1 := by
  simp only [scan]
  rw [if_pos h, if_pos hk]
theorem scan_next {m : Nat} {x : Nd} {l : List Nd} (h : fine x = true) (hk : ¬ m + kn x = 1) : scan m (x :: l) = (scan (m + kn x - 1) l).map (· + 1) := by
  simp only [scan]
  rw [if_pos h, if_neg hk]
theorem scan_flat (f : F) (h : f.ok) (m : Nat) (hm : 0 < f.cnt) (t : List Nd) :
    scan (f.cnt + m) (f.flat ++ t) = if m = 0 then some f.sz else (scan m t).map (· + f.sz) := by
  induction f generalizing m t with
  | nil => simp [F.cnt] at hm
  | cons x k r hk hr =>
    obtain ⟨h1, h2, h3, h4⟩ := h
    simp only [F.flat, List.cons_append, scan, h1, if_true, F.cnt, F.sz]
    have hrest : ∀ m, 0 < r.cnt + m → scan (r.cnt + m) (r.flat ++ t) = if m = 0 then some r.sz else (scan m t).map (· + r.sz) := by
      intro m hm
      by_cases hr0 : r.cnt = 0
      · obtain rfl := F.cnt_zero hr0
        simp only [F.cnt, F.flat, F.sz, List.nil_append, Nat.zero_add] at hm ⊢
        rw [if_neg (by omega)]
        simp
      · exact hr h4 m (by omega) t
    by_cases hk0 : k.cnt = 0
    · have hkn : kn x = 0 := by omega
      obtain rfl := F.cnt_zero hk0
      simp only [hkn, F.flat, F.sz, List.nil_append, Nat.add_zero]
      by_cases hz : r.cnt + m = 0
      · rw [if_pos (by omega), if_pos (by omega)]
        have : r = .nil := F.cnt_zero (by omega)
        subst this
        rfl
      · rw [if_neg (by omega), show r.cnt + 1 + m - 1 = r.cnt + m by omega, hrest m (by omega)]
        split
        · simp; omega
        · cases scan m t <;> simp; omega
    · rw [if_neg (by omega), show r.cnt + 1 + m + kn x - 1 = k.cnt + (r.cnt + m) by omega, List.append_assoc, hk h3 _ (by omega)]
      by_cases hz : r.cnt + m = 0
      · rw [if_pos hz, if_pos (by omega)]
        have : r = .nil := F.cnt_zero (by omega)
        subst this
        simp [F.sz]; omega
      · rw [if_neg hz, hrest m (by omega)]
        split
        · simp; omega
        · cases scan m t <;> simp; omega

theorem scan_some (l : List Nd) (m n : Nat) (hm : 0 < m) (h : scan m l = some n) : ∃ (f : F) (t : List Nd), f.ok ∧ f.cnt = m ∧ f.sz = n ∧ l = f.flat ++ t := by
  induction l generalizing m n with
  | nil => simp [scan] at h
  | cons x l ih =>
    simp only [scan] at h
    split at h
    · rename_i hx
      split at h
      · rename_i h1
        simp only [Option.some.injEq] at h
        refine ⟨.cons x .nil .nil, l, ⟨hx, by simp [F.cnt]; omega, trivial, trivial⟩, by simp [F.cnt]; omega, by simp [F.sz]; omega, rfl⟩
      · cases hs : scan (m + kn x - 1) l with
        | none => rw [hs] at h; simp at h
        | some j =>
          rw [hs] at h
          simp only [Option.map_some, Option.some.injEq] at h
          obtain ⟨g, t, hg, hc, hz, e⟩ := ih _ _ (by omega) hs
          obtain ⟨a, b, ha, hb, hca, hcb, e2⟩ := F.split hg (kn x) (by omega)
          subst e2
          rw [F.app_sz] at hz
          refine ⟨.cons x a b, t, ⟨hx, hca, ha, hb⟩, by simp only [F.cnt]; omega, by simp only [F.sz]; omega, ?_⟩
          rw [e, F.app_flat]
          simp [F.flat]
    · cases h

/-- How many nodes the one at a place has, with all below it. -/
def size (l : List Nd) (at_ : Int) : Nat := if 0 ≤ at_ ∧ at_ < l.length then (scan 1 (l.drop at_.toNat)).getD 0 else 0
theorem size_def (l : List Nd) (a : Nat) (h : a < l.length) : size l (a : Int) = (scan 1 (l.drop a)).getD 0 := by
  unfold size
  rw [if_pos ⟨by omega, by omega⟩, Int.toNat_natCast]
theorem size_none (l : List Nd) (a : Int) (h : a < 0 ∨ (l.length : Int) ≤ a) : size l a = 0 := by
  unfold size
  rw [if_neg (by omega)]
theorem size_le (l : List Nd) (a : Int) : size l a ≤ l.length := by
  unfold size
  split
  · cases h : scan 1 (l.drop a.toNat) with
    | none => simp
    | some n =>
      obtain ⟨f, t, _, _, h3, h4⟩ := scan_some _ _ _ (by omega) h
      have := congrArg List.length h4
      rw [List.length_drop, List.length_append, F.flat_length, h3] at this
      simp; omega
  · omega
/-- A table at a place: one tree, with what is behind it. -/
theorem size_tree {l : List Nd} {a : Int} (h : size l a ≠ 0) : ∃ (x : Nd) (k : F) (t : List Nd), (F.cons x k .nil).ok ∧ 0 ≤ a ∧ a < l.length ∧ l.drop a.toNat = x :: (k.flat ++ t) ∧ size l a = 1 + k.sz := by
  unfold size at h ⊢
  split at h
  · rename_i ha
    rw [if_pos ha]
    cases hs : scan 1 (l.drop a.toNat) with
    | none => rw [hs] at h; simp at h
    | some n =>
      obtain ⟨f, t, h1, h2, h3, h4⟩ := scan_some _ _ _ (by omega) hs
      cases f with
      | nil => simp [F.cnt] at h2
      | cons x k r =>
        have : r = .nil := F.cnt_zero (by simp only [F.cnt] at h2; omega)
        subst this
        refine ⟨x, k, t, h1, ha.1, ha.2, ?_, ?_⟩
        · rw [h4]; simp [F.flat]
        · simp only [Option.getD_some]; rw [← h3]; simp [F.sz]
  · exact absurd rfl h
theorem size_at {l : List Nd} {a : Nat} {x : Nd} {k r : F} {t : List Nd} (h : (F.cons x k r).ok) (hl : l.drop a = (F.cons x k r).flat ++ t) : size l (a : Int) = 1 + k.sz := by
  have hlen : a < l.length := by
    rcases Nat.lt_or_ge a l.length with h' | h'
    · exact h'
    · rw [List.drop_eq_nil_of_le h'] at hl; simp [F.flat] at hl
  unfold size
  rw [if_pos ⟨by omega, by omega⟩, Int.toNat_natCast, hl]
  have e : (F.cons x k r).flat ++ t = (F.cons x k .nil).flat ++ (r.flat ++ t) := by simp [F.flat]
  have := scan_flat (F.cons x k .nil) ⟨h.1, h.2.1, h.2.2.1, trivial⟩ 0 (by simp [F.cnt]) (r.flat ++ t)
  rw [e]
  simp only [F.cnt] at this
  rw [this]
  simp [F.sz]
end Tab
end Go.Proofs.YtebcfiifaclniaaGreat

/- What one node is to the program, and to the document's own answer. -/
namespace Go.Proofs.YtebcfiifaclniaaGreat
open Go.RowKit Tab
set_option linter.unusedSimpArgs false
set_option linter.unusedVariables false

/-- It answers v, and leaves what was there. -/
def Ans (v : Value) (w : World) (e : Ending) (w' : World) : Prop := e = .returned v ∧ Below w.heap.size w w'
theorem Ans.mk {v u : Value} {w w' : World} (h : v = u) (hb : Below w.heap.size w w') : Ans v w (.returned u) w' := ⟨by rw [h], hb⟩
theorem bl1 (w : World) (o : Obj) : Below w.heap.size w (w.alloc o) := (Below.refl _ _).alloc (Nat.le_refl _) _
abbrev nd (k p n : Int) : Value := .agg #[.int .i64 k, .int .i64 p, .int .i64 n]
/-- How many children, as a number. -/
def kz (x : Nd) : Int := if x.k = 3 then x.n else if x.k = 4 then 1 else 0

theorem kz_kn {x : Nd} (h : fine x = true) : kz x = (kn x : Int) := by
  have h1 := fine_one h
  unfold kz kn
  split
  · omega
  · split <;> rfl

set_option maxHeartbeats 400000 in
theorem kids1_any (k p n : Int) (w : World) : Calls Tryz.prog 90 #[nd k p n] w (Ans (.int .i64 (kz ⟨k, p, n⟩)) w) := by
  go_enter Tryz.func90, Tryz.ntmps90
  go_wp2
  all_goals
    go_ret
    refine Ans.mk ?_ (bl1 _ _)
    simp only [beq_iff_eq, beq_eq_false_iff_ne, ne_eq] at *
    simp [kz, *]
theorem fine_iff (k p n : Int) : fine ⟨k, p, n⟩ = true ↔ 1 ≤ n ∧ ((k = 1 ∧ 0 ≤ p ∧ p < 6) ∨ (k = 2 ∧ p = 0) ∨ (k = 4 ∧ p = 0) ∨ (k = 3 ∧ p = 0 ∧ n ≤ 128)) := by
  unfold fine
  simp only [Bool.and_eq_true, decide_eq_true_eq]
  split
  · simp; omega
  · split
    · simp; omega
    · split
      · simp; omega
      · simp; omega
set_option maxHeartbeats 1600000 in
theorem right1_any (k p n : Int) (w : World) : Calls Tryz.prog 101 #[nd k p n] w (Ans (.bool (fine ⟨k, p, n⟩)) w) := by
  have hf := Lib.hid (fine_iff k p n)
  go_enter Tryz.func101, Tryz.ntmps101
  go_wp2
  all_goals
    go_ret
    refine Ans.mk (congrArg Value.bool ?_) (bl1 _ _)
    rw [Bool.eq_iff_iff, fine_iff]
    simp only [decide_eq_true_eq, beq_iff_eq, beq_eq_false_iff_ne, ne_eq, Bool.false_eq_true, iff_false] at *
    omega
set_option maxHeartbeats 1600000 in
theorem fine1_any (k p n : Int) (w : World) : Calls Tryz.prog 87 #[nd k p n] w (Ans (.bool (fine ⟨k, p, n⟩)) w) := by
  go_enter Tryz.func87, Tryz.ntmps87
  go_wp2
  all_goals
    go_ret
    refine Ans.mk (congrArg Value.bool ?_) (bl1 _ _)
    rw [Bool.eq_iff_iff, fine_iff]
    simp only [decide_eq_true_eq, beq_iff_eq, beq_eq_false_iff_ne, ne_eq, Bool.false_eq_true, iff_false] at *
    omega
/-- A product, held at 4097. -/
def hl (a b : Int) : Int := if 4096 < a * b then 4097 else a * b
set_option maxHeartbeats 400000 in
theorem held_any (a b : Int) (w : World) (ha : 1 ≤ a) (hb : 1 ≤ b) (hb2 : b ≤ 4097) (ha2 : a ≤ 9223372036854775807) : Calls Tryz.prog 91 #[.int .i64 a, .int .i64 b] w fun e w' => e = .returned (.int .i64 (hl a b)) ∧ w = w' := by
  by_cases h : 4096 / b < a
  · have h2 : 4096 < a * b := (Int.ediv_lt_iff_lt_mul (by omega)).1 h
    have hb0 : ¬ b = 0 := by omega
    have e : hl a b = 4097 := if_pos h2
    have H := Lib.hid e
    clear e h2
    go_enter Tryz.func91, Tryz.ntmps91
    go_wp2
    go_ret
    exact ⟨by rw [H.out]; rfl, rfl⟩
  · have h2 : ¬ 4096 < a * b := fun h' => h ((Int.ediv_lt_iff_lt_mul (by omega)).2 h')
    have hb0 : ¬ b = 0 := by omega
    have h3 : 0 < a * b := Int.mul_pos (by omega) (by omega)
    have e : hl a b = a * b := if_neg h2
    have H := Lib.hid e
    clear e
    go_enter Tryz.func91, Tryz.ntmps91
    go_wp2
    go_ret
    exact ⟨by rw [H.out]; rfl, rfl⟩
end Go.Proofs.YtebcfiifaclniaaGreat

/- Rows of nodes in memory. -/
namespace Go.Proofs.YtebcfiifaclniaaGreat
open Go.RowKit Tab

theorem elN : Elt 44 43 3 24 (.agg #[.int .i64 0, .int .i64 0, .int .i64 0]) := ⟨Tryz.underlying44, by kernel_rfl, rfl, by omega⟩
theorem elO : Elt 123 140 2 16 (.agg #[.int .i64 0, .int .i64 0]) := ⟨Tryz.underlying123, by kernel_rfl, rfl, by omega⟩
theorem elI : Elt 22 3 1 8 (.int .i64 0) := ⟨Tryz.underlying22, by kernel_rfl, rfl, by omega⟩
/-- Numbers that an int64 holds. -/
def In64 (z : Int) : Prop := -9223372036854775808 ≤ z ∧ z ≤ 9223372036854775807
def NdIn (x : Nd) : Prop := In64 x.k ∧ In64 x.p ∧ In64 x.n
/-- A row of nodes as cells. -/
def ns : List Nd → List Value
  | [] => []
  | x :: l => .int .i64 x.k :: .int .i64 x.p :: .int .i64 x.n :: ns l
theorem ns_length (l : List Nd) : (ns l).length = l.length * 3 := by
  induction l with
  | nil => rfl
  | cons x l ih => simp only [ns, List.length_cons, ih]; omega
theorem ns_append (l m : List Nd) : ns (l ++ m) = ns l ++ ns m := by
  induction l with
  | nil => rfl
  | cons x l ih => simp [ns, ih]
theorem ns_one (l : List Nd) : ∀ u ∈ ns l, u.oneCell' = true := by
  induction l with
  | nil => simp [ns]
  | cons x l ih =>
    intro u hu
    simp only [ns, List.mem_cons] at hu
    rcases hu with rfl | rfl | rfl | hu
    · rfl
    · rfl
    · rfl
    · exact ih u hu
theorem ns_get (l : List Nd) (i : Nat) (h : i < l.length) : (ns l)[i * 3]? = some (.int .i64 l[i].k) ∧ (ns l)[i * 3 + 1]? = some (.int .i64 l[i].p) ∧ (ns l)[i * 3 + 2]? = some (.int .i64 l[i].n) := by
  induction l generalizing i with
  | nil => simp at h
  | cons x l ih =>
    cases i with
    | zero => simp [ns]
    | succ i =>
      have := ih i (by simpa using h)
      have e : (i + 1) * 3 = i * 3 + 1 + 1 + 1 := by omega
      rw [e]
      simp only [ns, List.getElem?_cons_succ, List.getElem_cons_succ]
      exact this
theorem ns_drop (l : List Nd) (k : Nat) : ns (l.drop k) = (ns l).drop (k * 3) := by
  induction k generalizing l with
  | zero => simp
  | succ k ih =>
    cases l with
    | nil => simp [ns]
    | cons x l => rw [List.drop_succ_cons, ih, show (k + 1) * 3 = k * 3 + 3 by omega]; simp [ns]
theorem ns_take (l : List Nd) (k : Nat) : ns (l.take k) = (ns l).take (k * 3) := by
  induction k generalizing l with
  | zero => simp [ns]
  | succ k ih =>
    cases l with
    | nil => simp [ns]
    | cons x l => rw [List.take_succ_cons, show (k + 1) * 3 = k * 3 + 3 by omega]; simp [ns, ih]
/-- A slice at A, n long, holds the nodes l. -/
structure RdN (w : World) (B : Nat) (A : Option Addr) (n : Nat) (l : List Nd) : Prop where
  len : l.length = n
  rd : RdV w B A (ns l)
  bd : ∀ x ∈ l, NdIn x
section
variable {w w' : World} {B B' n : Nat} {A : Option Addr} {l : List Nd}
theorem RdN.below (h : RdN w B A n l) (hb : Below B w w') : RdN w' B A n l := ⟨h.len, h.rd.below hb, h.bd⟩
theorem RdN.more (h : RdN w B A n l) (hB : B ≤ B') : RdN w B' A n l := ⟨h.len, h.rd.more hB, h.bd⟩
theorem RdN.back {ad : Addr} (h : RdN w B (some ad) n l) (k : Nat) : RdN w B (some (ad.add (k * 3))) (n - k) (l.drop k) :=
  ⟨by rw [List.length_drop, h.len], by rw [ns_drop]; exact h.rd.back (k * 3), fun x hx => h.bd x (List.mem_of_mem_drop hx)⟩
theorem RdN.front (h : RdN w B A n l) (k : Nat) (hk : k ≤ n) : RdN w B A k (l.take k) :=
  ⟨by rw [List.length_take, h.len]; omega, by rw [ns_take]; exact h.rd.front (k * 3), fun x hx => h.bd x (List.mem_of_mem_take hx)⟩
/-- In a later world. -/
theorem RdN.on (h : RdN w w.heap.size A n l) (hb : Below w.heap.size w w') : RdN w' w'.heap.size A n l := (h.below hb).more hb.size
theorem RdN.at_ (h : RdN w B A n l) {i : Nat} (hi : i < n) : ∃ (ad : Addr) (x : Nd), A = some ad ∧ ad.block < B ∧ l[i]? = some x ∧ NdIn x ∧
    w.cell? (ad.add (i * 3)) = some (.int .i64 x.k) ∧ w.cell? ⟨(ad.add (i * 3)).block, (ad.add (i * 3)).off + 1, none⟩ = some (.int .i64 x.p) ∧ w.cell? ⟨(ad.add (i * 3)).block, (ad.add (i * 3)).off + 2, none⟩ = some (.int .i64 x.n) := by
  have hl : i < l.length := by rw [h.len]; exact hi
  obtain ⟨ad, e, hb, hc⟩ := h.rd (by rw [ns_length]; omega)
  obtain ⟨h1, h2, h3⟩ := ns_get l i hl
  have e1 : ∀ j, 0 < j → (⟨(ad.add (i * 3)).block, (ad.add (i * 3)).off + j, none⟩ : Addr) = ad.add (i * 3 + j) := fun j hj => by
    rw [← add_add]
    generalize ad.add (i * 3) = p
    unfold Addr.add
    rw [if_neg (by omega)]
  refine ⟨ad, l[i], e, hb, List.getElem?_eq_getElem hl, h.bd _ (List.getElem_mem hl), hc _ _ h1, ?_, ?_⟩
  · rw [e1 1 (by omega)]; exact hc _ _ h2
  · rw [e1 2 (by omega)]; exact hc _ _ h3
end
/-- A node's new block, in a later world. -/
theorem new_nd {w w1 : World} {k p n : Int} {t : TypeId} (hb : Below (w.alloc (.cells #[.int .i64 k, .int .i64 p, .int .i64 n] t)).heap.size (w.alloc (.cells #[.int .i64 k, .int .i64 p, .int .i64 n] t)) w1) :
    w1.cell? ⟨w.heap.size, 0, none⟩ = some (.int .i64 k) ∧ w1.cell? ⟨w.heap.size, 1, none⟩ = some (.int .i64 p) ∧ w1.cell? ⟨w.heap.size, 2, none⟩ = some (.int .i64 n) := by
  have h : ∀ o, w1.cell? ⟨w.heap.size, o, none⟩ = (w.alloc (.cells #[.int .i64 k, .int .i64 p, .int .i64 n] t)).cell? ⟨w.heap.size, o, none⟩ := fun o => hb.cell (by simp)
  refine ⟨?_, ?_, ?_⟩ <;> rw [h] <;> simp [World.cell?_alloc_mark]
end Go.Proofs.YtebcfiifaclniaaGreat

/- How many nodes the one at a place has. -/
namespace Go.Proofs.YtebcfiifaclniaaGreat
open Go.RowKit Tab
set_option linter.unusedSimpArgs false
set_option linter.unusedVariables false

theorem ret_num {a b : Int} (h : a = b) : (Value.int .i64 a) = .int .i64 b := by rw [h]
set_option maxRecDepth 100000 in
set_option maxHeartbeats 1600000 in
theorem size_in (A : Option Addr) (n cap : Nat) (l : List Nd) (a : Nat) (w : World) (h : RdN w w.heap.size A n l) (hc : n ≤ cap) (hn : n ≤ 1099511627776) (ha : a < n) :
    Calls Tryz.prog 88 #[.slice A n cap, .int .i64 a] w (Ans (.int .i64 (size l a : Nat)) w) := by
  obtain ⟨ad, x0, rfl, _⟩ := h.at_ ha
  have hca : ¬ cap = a := by omega
  rw [size_def l a (by rw [h.len]; exact ha)]
  generalize hS : scan 1 (l.drop a) = S
  have HS := Lib.hid hS
  clear hS
  go_enter Tryz.func88, Tryz.ntmps88
  go_wp2_with fail
  have hr : RdN w w.heap.size (some (ad.add (a * 3))) (n - a) (l.drop a) := h.back a
  generalize ad.add (a * 3) = ad1 at hr ⊢
  have hN : n - a ≤ 1099511627776 := by omega
  generalize n - a = N at hr hN ⊢
  generalize l.drop a = L at hr HS
  clear h
  generalize decide ((a : Int) < 0) = q9
  generalize decide (n ≤ a) = q14
  go_loopw [5, 20] (fun m s wr => ∃ (i k : Nat), i ≤ N ∧ s = .int .i64 i ∧ m = .int .i64 k ∧ 1 ≤ k ∧ k ≤ 128 * i + 1 ∧ S = (scan k (L.drop i)).map (· + i) ∧ Below w.heap.size w wr) (fun _ s _ => N - (intOf s).toNat)
  case atStart => exact ⟨0, 1, by omega, rfl, rfl, by omega, by omega, by rw [← HS.out]; simp, Below.refl _ _⟩
  case round =>
    obtain ⟨i, k, hi, rfl, rfl, hk1, hk2, hs, hb⟩ := hrel
    have HK := Lib.hid hs
    clear hs
    by_cases hlt : i < N
    · obtain ⟨ad', x, e, _, hx, hin, c0, c1, c2⟩ := (hr.on hb).at_ hlt
      injection e with e
      subst e
      obtain ⟨xk, xp, xn⟩ := x
      have HX := Lib.hid hx
      have HI := Lib.hid hin
      clear hx hin
      have hdr := drop_cons HX.out
      have HD := Lib.hid hdr
      clear hdr
      by_cases hf : fine ⟨xk, xp, xn⟩ = true
      · have HF := Lib.hid hf
        have hK : kz ⟨xk, xp, xn⟩ = (kn ⟨xk, xp, xn⟩ : Int) := kz_kn hf
        have hK2 := kn_le hf
        clear hf
        generalize hKd : kn ⟨xk, xp, xn⟩ = K at hK hK2
        have HKD := Lib.hid hKd
        have HKZ := Lib.hid hK
        clear hKd hK
        go_wp2_with fail
        refine (right1_any _ _ _ _).mono ?_
        rw [HF.out]
        rintro e w1 ⟨rfl, hb1⟩
        obtain ⟨d0, d1, d2⟩ := new_nd hb1
        have k1 := (bl1 _ _).trans (hb1.mono (by simp))
        by_cases hz : k + K = 1
        · have hz1 : (k : Int) + ((K : Int) - 1) = 0 := by omega
          have HZ := Lib.hid hz
          clear hz
          go_wp2_with fail
          refine (kids1_any _ _ _ _).mono ?_
          rw [HKZ.out]
          rintro e w2 ⟨rfl, hb2⟩
          have k2 := k1.trans (hb2.mono k1.size)
          go_wp2_with fail
          go_ret
          refine Ans.mk ?_ (hb.trans (k2.mono hb.size))
          rw [HK.out, HD.out, scan_last HF.out (by rw [HKD.out]; exact HZ.out)]
          simp; omega
        · have hz1 : ¬ (k : Int) + ((K : Int) - 1) = 0 := by omega
          go_wp2_with fail
          refine (kids1_any _ _ _ _).mono ?_
          rw [HKZ.out]
          rintro e w2 ⟨rfl, hb2⟩
          have k2 := k1.trans (hb2.mono k1.size)
          go_wp2_with fail
          go_roundw
          case rel =>
            refine ⟨i + 1, k + K - 1, by omega, by go_num, ret_num (by omega), by omega, by omega, ?_, hb.trans (k2.mono hb.size)⟩
            rw [HK.out, HD.out, scan_next HF.out (by rw [HKD.out]; exact hz), HKD.out]
            cases scan (k + K - 1) (L.drop (i + 1)) <;> simp; omega
          case measure => simp [intOf]; omega
      · have HF := Lib.hid hf
        have hf0 : fine ⟨xk, xp, xn⟩ = false := by simpa using hf
        have HF0 := Lib.hid hf0
        clear hf hf0
        go_wp2_with fail
        refine (right1_any _ _ _ _).mono ?_
        rw [HF0.out]
        rintro e w1 ⟨rfl, hb1⟩
        have k1 := (bl1 _ _).trans (hb1.mono (by simp))
        go_wp2_with fail
        go_ret
        refine Ans.mk ?_ (hb.trans (k1.mono hb.size))
        rw [HK.out, HD.out, scan_bad HF.out]
        simp
    · have hge : N ≤ i := by omega
      have HL := Lib.hid hr.len
      go_wp2_with fail
      go_ret
      refine Ans.mk ?_ hb
      rw [HK.out, List.drop_eq_nil_of_le (by have := HL.out; omega)]
      simp [scan]
set_option maxHeartbeats 400000 in
theorem size_out (A : Option Addr) (n cap : Nat) (a : Int) (w : World) (ha : a < 0 ∨ (n : Int) ≤ a) (hn : n ≤ 1099511627776) :
    Calls Tryz.prog 88 #[.slice A n cap, .int .i64 a] w fun e w' => e = .returned (.int .i64 0) ∧ w = w' := by
  by_cases h0 : a < 0
  · go_enter Tryz.func88, Tryz.ntmps88
    go_wp2_with fail
    go_ret
    exact ⟨rfl, rfl⟩
  · have h1 : (n : Int) ≤ a := by omega
    go_enter Tryz.func88, Tryz.ntmps88
    go_wp2_with fail
    go_ret
    exact ⟨rfl, rfl⟩
theorem size_any (A : Option Addr) (n cap : Nat) (l : List Nd) (a : Int) (w : World) (h : RdN w w.heap.size A n l) (hc : n ≤ cap) (hn : n ≤ 1099511627776) :
    Calls Tryz.prog 88 #[.slice A n cap, .int .i64 a] w (Ans (.int .i64 (size l a : Nat)) w) := by
  by_cases ha : 0 ≤ a ∧ a < n
  · obtain ⟨a', rfl⟩ := Int.eq_ofNat_of_zero_le ha.1
    exact size_in A n cap l a' w h hc hn (by omega)
  · refine (size_out A n cap a w (by omega) hn).mono ?_
    rintro e w' ⟨rfl, rfl⟩
    rw [size_none l a (by have := h.len; omega)]
    exact ⟨rfl, Below.refl _ _⟩
end Go.Proofs.YtebcfiifaclniaaGreat

/- How many nodes the one at a place has, by the document's own answer. -/
namespace Go.Proofs.YtebcfiifaclniaaGreat
open Go.RowKit Tab
set_option linter.unusedSimpArgs false
set_option linter.unusedVariables false

theorem kz_seq {x : Nd} (h : x.k = 3) : kz x = x.n := if_pos h
theorem kz_rep {x : Nd} (h : x.k = 4) : kz x = 1 := by unfold kz; rw [if_neg (by omega), if_pos h]
theorem kz_leaf {x : Nd} (h : ¬ x.k = 3) (h' : ¬ x.k = 4) : kz x = 0 := by unfold kz; rw [if_neg h, if_neg h']
set_option maxRecDepth 100000 in
set_option maxHeartbeats 1600000 in
theorem rsize_in (A : Option Addr) (n cap : Nat) (l : List Nd) (a : Nat) (w : World) (h : RdN w w.heap.size A n l) (hc : n ≤ cap) (hn : n ≤ 1099511627776) (ha : a < n) :
    Calls Tryz.prog 74 #[.slice A n cap, .int .i64 a] w (Ans (.int .i64 (size l a : Nat)) w) := by
  obtain ⟨ad, x0, rfl, _⟩ := h.at_ ha
  rw [size_def l a (by rw [h.len]; exact ha)]
  generalize hS : scan 1 (l.drop a) = S
  have HS := Lib.hid hS
  clear hS
  go_enter Tryz.func74, Tryz.ntmps74
  go_wp2_with fail
  generalize decide ((a : Int) < 0) = q9
  generalize decide (n ≤ a) = q14
  go_loopw [5, 6] (fun m s wr => ∃ (i k : Nat), a ≤ i ∧ i ≤ n ∧ s = .int .i64 i ∧ m = .int .i64 k ∧ 1 ≤ k ∧ k ≤ 128 * (i - a) + 1 ∧ S = (scan k (l.drop i)).map (· + (i - a)) ∧ Below w.heap.size w wr) (fun _ s _ => n - (intOf s).toNat)
  case atStart => exact ⟨a, 1, by omega, by omega, rfl, rfl, by omega, by omega, by rw [HS.out]; simp, Below.refl _ _⟩
  case round =>
    obtain ⟨i, k, hai, hi, rfl, rfl, hk1, hk2, hs, hb⟩ := hrel
    have HK := Lib.hid hs
    clear hs
    by_cases hlt : i < n
    · obtain ⟨ad', x, e, _, hx, hin, c0, c1, c2⟩ := (h.on hb).at_ hlt
      injection e with e
      subst e
      obtain ⟨xk, xp, xn⟩ := x
      have hdr := drop_cons hx
      have HD := Lib.hid hdr
      have HI := Lib.hid hin
      clear hdr hx hin
      by_cases hf : fine ⟨xk, xp, xn⟩ = true
      · have HF := Lib.hid hf
        have hK : kz ⟨xk, xp, xn⟩ = (kn ⟨xk, xp, xn⟩ : Int) := kz_kn hf
        have hK2 := kn_le hf
        clear hf
        generalize hKd : kn ⟨xk, xp, xn⟩ = K at hK hK2
        have HKD := Lib.hid hKd
        have HKZ := Lib.hid hK
        clear hKd hK
        go_wp2_with fail
        refine (fine1_any _ _ _ _).mono ?_
        rw [HF.out]
        rintro e w1 ⟨rfl, hb1⟩
        have lt0 : (ad.add (i * 3)).block < wr.heap.size := by rw [add_block]; assumption
        have d0 := (hb1.cell lt0).trans c0
        have d2 := (hb1.cell (p := ⟨(ad.add (i * 3)).block, (ad.add (i * 3)).off + 2, none⟩) lt0).trans c2
        clear c0 c1 c2 lt0
        have k1 := hb.trans (hb1.mono hb.size)
        by_cases h3 : xk = 3
        · subst h3
          have e := HKZ.out
          rw [kz_seq rfl] at e
          dsimp only at e
          subst e
          clear HKZ
          by_cases hz : k + K = 1
          · have hz1 : ((k : Int) - 1 + K == 0) = true := beq_iff_eq.2 (by omega)
            have HZ := Lib.hid hz
            clear hz
            go_wp2_with fail
            go_ret
            refine Ans.mk ?_ k1
            rw [HK.out, HD.out, scan_last HF.out (by rw [HKD.out]; exact HZ.out)]
            refine ret_num (b := (i : Int) - a + 1) ?_
            simp only [Option.map_some, Option.getD_some]
            omega
          · have hz1 : ((k : Int) - 1 + K == 0) = false := beq_eq_false_iff_ne.2 (by omega)
            have HZ := Lib.hid hz
            clear hz
            go_wp2_with fail
            go_roundw
            case rel =>
              have hz := HZ.out
              refine ⟨i + 1, k + K - 1, by omega, by omega, by go_num, ret_num (by omega), by omega, by omega, ?_, k1⟩
              rw [HK.out, HD.out, scan_next HF.out (by rw [HKD.out]; exact hz), HKD.out, show i + 1 - a = 1 + (i - a) by omega]
              generalize i - a = q
              cases scan (k + K - 1) (l.drop (i + 1)) <;> simp [Nat.add_assoc]
            case measure => simp [intOf]; omega
        · by_cases h4 : xk = 4
          · subst h4
            have e := HKZ.out
            rw [kz_rep rfl] at e
            obtain rfl : K = 1 := by omega
            clear HKZ h3 e
            by_cases hz : k + 1 = 1
            · exact absurd hz (by omega)
            · have hz1 : ((k : Int) == 0) = false := beq_eq_false_iff_ne.2 (by omega)
              have HZ := Lib.hid hz
              clear hz
              go_wp2_with fail
              go_roundw
              case rel =>
                have hz := HZ.out
                refine ⟨i + 1, k + 1 - 1, by omega, by omega, by go_num, ret_num (by omega), by omega, by omega, ?_, k1⟩
                rw [HK.out, HD.out, scan_next HF.out (by rw [HKD.out]; exact hz), HKD.out, show i + 1 - a = 1 + (i - a) by omega]
                generalize i - a = q
                cases scan (k + 1 - 1) (l.drop (i + 1)) <;> simp [Nat.add_assoc]
              case measure => simp [intOf]; omega
          · have e := HKZ.out
            rw [kz_leaf h3 h4] at e
            obtain rfl : K = 0 := by omega
            have h3' : (xk == 3) = false := beq_eq_false_iff_ne.2 h3
            have h4' : (xk == 4) = false := beq_eq_false_iff_ne.2 h4
            clear HKZ e h3 h4
            by_cases hz : k + 0 = 1
            · have hz1 : ((k : Int) - 1 == 0) = true := beq_iff_eq.2 (by omega)
              have HZ := Lib.hid hz
              clear hz
              go_wp2_with fail
              go_ret
              refine Ans.mk ?_ k1
              rw [HK.out, HD.out, scan_last HF.out (by rw [HKD.out]; exact HZ.out)]
              refine ret_num (b := (i : Int) - a + 1) ?_
              simp only [Option.map_some, Option.getD_some]
              omega
            · have hz1 : ((k : Int) - 1 == 0) = false := beq_eq_false_iff_ne.2 (by omega)
              have HZ := Lib.hid hz
              clear hz
              go_wp2_with fail
              go_roundw
              case rel =>
                have hz := HZ.out
                refine ⟨i + 1, k + 0 - 1, by omega, by omega, by go_num, ret_num (by omega), by omega, by omega, ?_, k1⟩
                rw [HK.out, HD.out, scan_next HF.out (by rw [HKD.out]; exact hz), HKD.out, show i + 1 - a = 1 + (i - a) by omega]
                generalize i - a = q
                cases scan (k + 0 - 1) (l.drop (i + 1)) <;> simp [Nat.add_assoc]
              case measure => simp [intOf]; omega
      · have HF := Lib.hid hf
        have hf0 : fine ⟨xk, xp, xn⟩ = false := by simpa using hf
        have HF0 := Lib.hid hf0
        clear hf hf0
        go_wp2_with fail
        refine (fine1_any _ _ _ _).mono ?_
        rw [HF0.out]
        rintro e w1 ⟨rfl, hb1⟩
        go_wp2_with fail
        go_ret
        refine Ans.mk ?_ (hb.trans (hb1.mono hb.size))
        rw [HK.out, HD.out, scan_bad HF.out]
        simp
    · have hge : n ≤ i := by omega
      have HL := Lib.hid h.len
      go_wp2_with fail
      go_ret
      refine Ans.mk ?_ hb
      rw [HK.out, List.drop_eq_nil_of_le (by have := HL.out; omega)]
      simp [scan]
set_option maxHeartbeats 400000 in
theorem rsize_out (A : Option Addr) (n cap : Nat) (a : Int) (w : World) (ha : a < 0 ∨ (n : Int) ≤ a) (hn : n ≤ 1099511627776) :
    Calls Tryz.prog 74 #[.slice A n cap, .int .i64 a] w fun e w' => e = .returned (.int .i64 0) ∧ w = w' := by
  by_cases h0 : a < 0
  · go_enter Tryz.func74, Tryz.ntmps74
    go_wp2_with fail
    go_ret
    exact ⟨rfl, rfl⟩
  · have h1 : (n : Int) ≤ a := by omega
    go_enter Tryz.func74, Tryz.ntmps74
    go_wp2_with fail
    go_ret
    exact ⟨rfl, rfl⟩
theorem rsize_any (A : Option Addr) (n cap : Nat) (l : List Nd) (a : Int) (w : World) (h : RdN w w.heap.size A n l) (hc : n ≤ cap) (hn : n ≤ 1099511627776) :
    Calls Tryz.prog 74 #[.slice A n cap, .int .i64 a] w (Ans (.int .i64 (size l a : Nat)) w) := by
  by_cases ha : 0 ≤ a ∧ a < n
  · obtain ⟨a', rfl⟩ := Int.eq_ofNat_of_zero_le ha.1
    exact rsize_in A n cap l a' w h hc hn (by omega)
  · refine (rsize_out A n cap a w (by omega) hn).mono ?_
    rintro e w' ⟨rfl, rfl⟩
    rw [size_none l a (by have := h.len; omega)]
    exact ⟨rfl, Below.refl _ _⟩
end Go.Proofs.YtebcfiifaclniaaGreat

/- Walking a row of nodes with a path of open ones: plain mathematics. -/
namespace Go.Proofs.YtebcfiifaclniaaGreat
namespace Tab

/-- Where the j-th of the tables lies that begin at p. -/
def pos (l : List Nd) (p : Nat) : Nat → Nat
  | 0 => p
  | j + 1 => pos l p j + size l (pos l p j : Nat)
/-- The tables behind the first j. -/
def F.dr : Nat → F → F
  | 0, f => f
  | _ + 1, .nil => .nil
  | j + 1, .cons _ _ r => F.dr j r
theorem dr_nil (j : Nat) : F.dr j .nil = .nil := by cases j <;> rfl
theorem dr_succ {f : F} {j : Nat} {y : Nd} {k r : F} (h : F.dr j f = .cons y k r) : F.dr (j + 1) f = r := by
  induction j generalizing f with
  | zero => subst h; rfl
  | succ j ih =>
    cases f with
    | nil => simp [F.dr] at h
    | cons x k' r' => exact ih (f := r') h
theorem dr_ok {f : F} (h : f.ok) (j : Nat) : (F.dr j f).ok := by
  induction j generalizing f with
  | zero => exact h
  | succ j ih =>
    cases f with
    | nil => trivial
    | cons x k r => exact ih h.2.2.2
theorem dr_cnt (f : F) (j : Nat) : (F.dr j f).cnt = f.cnt - j := by
  induction j generalizing f with
  | zero => rfl
  | succ j ih =>
    cases f with
    | nil => simp [F.dr, F.cnt]
    | cons x k r => simp only [F.dr, F.cnt]; rw [ih]; omega
theorem dr_cons {f : F} {j : Nat} (h : j < f.cnt) : ∃ y k r, F.dr j f = .cons y k r := by
  cases hd : F.dr j f with
  | nil =>
    have := dr_cnt f j
    rw [hd] at this
    simp only [F.cnt] at this
    omega
  | cons y k r => exact ⟨y, k, r, rfl⟩
theorem dr_all (f : F) : F.dr f.cnt f = .nil := F.cnt_zero (by rw [dr_cnt]; omega)
theorem dr_dep_le (f : F) (j : Nat) : (F.dr j f).dep ≤ f.dep := by
  induction j generalizing f with
  | zero => exact Nat.le_refl _
  | succ j ih =>
    cases f with
    | nil => exact Nat.le_refl _
    | cons x k r => have := ih r; simp only [F.dr, F.dep]; omega
/-- What lies at the j-th table's place. -/
theorem pos_dr {l t : List Nd} {p : Nat} {f : F} (h : f.ok) (hl : l.drop p = f.flat ++ t) (hp : p ≤ l.length) (j : Nat) (hj : j ≤ f.cnt) :
    l.drop (pos l p j) = (F.dr j f).flat ++ t ∧ pos l p j + (F.dr j f).sz = p + f.sz ∧ p ≤ pos l p j ∧ pos l p j ≤ l.length := by
  induction j with
  | zero => exact ⟨hl, rfl, Nat.le_refl _, hp⟩
  | succ j ih =>
    obtain ⟨h1, h2, h3, h4⟩ := ih (by omega)
    obtain ⟨y, k, r, e⟩ := dr_cons (f := f) (j := j) (by omega)
    have hok := dr_ok h j
    rw [e] at h1 h2 hok
    have hs : size l (pos l p j : Nat) = 1 + k.sz := size_at hok h1
    have e2 := dr_succ e
    have hlen := congrArg List.length h1
    rw [List.length_drop, List.length_append, F.flat_length] at hlen
    simp only [F.sz] at h2 hlen
    simp only [pos]
    rw [hs, e2]
    refine ⟨?_, by omega, by omega, by omega⟩
    rw [← List.drop_drop, h1]
    simp only [F.flat, List.cons_append]
    rw [show 1 + k.sz = k.sz + 1 by omega, List.drop_succ_cons, List.append_assoc, List.drop_left' (F.flat_length k)]
/-- The places of the children of the node at a place. -/
def kids (l : List Nd) (a : Int) : List Int :=
  if size l a = 0 then [] else (List.range (((l[a.toNat]?).map kn).getD 0)).map fun j => (pos l (a.toNat + 1) j : Int)

/-- Above a place: how many are still to come, and how often it is gone through; the innermost first. -/
def Path := List (Nat × Nat)
def times : List (Nat × Nat) → Nat
  | [] => 1
  | (_, t) :: _ => t
theorem times_cons (a t : Nat) (o : List (Nat × Nat)) : times ((a, t) :: o) = t := rfl
/-- A product, held. -/
def hold (a b : Nat) : Nat := if 4096 < a * b then 4097 else a * b
def pops : List (Nat × Nat) → List (Nat × Nat)
  | [] => []
  | (a, t) :: o => if 1 < a then (a - 1, t) :: o else pops o
def behind (st : List (Nat × Nat)) (x : Nd) : List (Nat × Nat) :=
  if x.k = 3 then (x.n.toNat, times st) :: st else if x.k = 4 then (1, hold x.n.toNat (times st)) :: st else pops st
/-- The outer ones, each with what stands behind the table that is gone through there. -/
def Outer : List (Nat × Nat) → List F → Prop
  | [], [] => True
  | (a, t) :: o, f :: fs => a = f.cnt + 1 ∧ 1 ≤ t ∧ t ≤ 4097 ∧ f.ok ∧ Outer o fs
  | _, _ => False
def InvP (st : List (Nat × Nat)) (cur : F) (fs : List F) : Prop :=
  cur.ok ∧ match st with
  | [] => fs = [] ∧ cur.cnt ≤ 1
  | (a, t) :: o => a = cur.cnt ∧ 1 ≤ a ∧ 1 ≤ t ∧ t ≤ 4097 ∧ Outer o fs
def flats : List F → List Nd
  | [] => []
  | f :: fs => f.flat ++ flats fs
/-- Ticks still to come in the outer ones. -/
def remO : List (Nat × Nat) → List F → Nat
  | (_, t) :: o, f :: fs => t * f.len + remO o fs
  | _, _ => 0
def rem (st : List (Nat × Nat)) (cur : F) (fs : List F) : Nat := times st * cur.len + remO st.tail fs
/-- How deep it still goes in the outer ones. -/
def deepO : List (Nat × Nat) → List F → Nat
  | (_, _) :: o, f :: fs => max (if f.cnt = 0 then 0 else o.length + 1 + f.dep) (deepO o fs)
  | _, _ => 0
def deepR (st : List (Nat × Nat)) (cur : F) (fs : List F) : Nat := max (if cur.cnt = 0 then 0 else st.length + cur.dep) (deepO st.tail fs)

theorem hold_le (a b : Nat) : hold a b ≤ 4097 := by unfold hold; split <;> omega
theorem hold_pos {a b : Nat} (ha : 1 ≤ a) (hb : 1 ≤ b) : 1 ≤ hold a b := by
  have : 0 < a * b := Nat.mul_pos (by omega) (by omega)
  unfold hold; split <;> omega
theorem pops_spec (o : List (Nat × Nat)) (fs : List F) (h : Outer o fs) :
    ∃ (cur : F) (fs' : List F), InvP (pops o) cur fs' ∧ flats fs = cur.flat ++ flats fs' ∧ rem (pops o) cur fs' = remO o fs ∧ deepR (pops o) cur fs' = deepO o fs ∧ (pops o = [] → cur = .nil) := by
  induction o generalizing fs with
  | nil =>
    cases fs with
    | nil => exact ⟨.nil, [], ⟨trivial, rfl, by simp [F.cnt]⟩, rfl, rfl, rfl, fun _ => rfl⟩
    | cons f fs => exact h.elim
  | cons e o ih =>
    obtain ⟨a, t⟩ := e
    cases fs with
    | nil => exact h.elim
    | cons f fs =>
      obtain ⟨h1, h2, h3, h4, h5⟩ := h
      simp only [pops]
      by_cases ha : 1 < a
      · rw [if_pos ha]
        refine ⟨f, fs, ⟨h4, by omega, by omega, h2, h3, h5⟩, rfl, rfl, ?_, fun h => by cases h⟩
        simp only [deepR, deepO, List.tail_cons, List.length_cons]
      · rw [if_neg ha]
        obtain rfl : f = .nil := F.cnt_zero (by omega)
        obtain ⟨cur, fs', i1, i2, i3, i4, i5⟩ := ih fs h5
        refine ⟨cur, fs', i1, by simpa [flats, F.flat] using i2, by simp [remO, F.len, i3], by simp [deepO, F.cnt, i4], i5⟩

theorem InvP.times {st : List (Nat × Nat)} {cur : F} {fs : List F} (h : InvP st cur fs) : 1 ≤ times st ∧ times st ≤ 4097 := by
  cases st with
  | nil => exact ⟨Nat.le_refl _, by simp [Tab.times]⟩
  | cons e o => exact ⟨h.2.2.2.1, h.2.2.2.2.1⟩
theorem InvP.pos {st : List (Nat × Nat)} {cur : F} {fs : List F} (h : InvP st cur fs) : st = [] ∧ fs = [] ∨ 0 < cur.cnt := by
  cases st with
  | nil => exact .inl ⟨rfl, h.2.1⟩
  | cons e o => exact .inr (by have := h.2.1; have := h.2.2.1; omega)
theorem hold_min (s a b c : Nat) : min 4097 (s + hold a b + c) = min 4097 (s + a * b + c) := by
  unfold hold
  split <;> omega
theorem hold_mul (s a b m c : Nat) (hm : 1 ≤ m) : min 4097 (s + hold a b * m + c) = min 4097 (s + a * b * m + c) := by
  unfold hold
  split
  · have h1 : 4097 * 1 ≤ 4097 * m := Nat.mul_le_mul_left _ hm
    have h2 : 4097 * m ≤ a * b * m := Nat.mul_le_mul_right _ (by omega)
    omega
  · rfl
/-- What a walk still has to see, on the way into a node. -/
theorem down {st : List (Nat × Nat)} {x : Nd} {k r : F} {fs : List F} (h : InvP st (.cons x k r) fs) :
    ∃ fs', Outer st fs' ∧ r.flat ++ flats fs = flats fs' ∧ remO st fs' = times st * r.len + remO st.tail fs ∧ deepO st fs' = max (if r.cnt = 0 then 0 else st.length + r.dep) (deepO st.tail fs) := by
  obtain ⟨⟨_, _, _, hrok⟩, h2⟩ := h
  cases st with
  | nil =>
    obtain ⟨rfl, hc⟩ := h2
    obtain rfl : r = .nil := F.cnt_zero (by simp only [F.cnt] at hc; omega)
    exact ⟨[], trivial, rfl, by simp [remO, F.len], by simp [deepO, F.cnt]⟩
  | cons e o =>
    obtain ⟨a, t⟩ := e
    obtain ⟨h3, h4, h5, h6, h7⟩ := h2
    exact ⟨r :: fs, ⟨h3, h5, h6, hrok, h7⟩, rfl, rfl, by simp [deepO]⟩
theorem deepR_cons (st : List (Nat × Nat)) (y : Nd) (k r : F) (fs : List F) : deepR st (.cons y k r) fs = max (st.length + max (k.dep + 1) r.dep) (deepO st.tail fs) := by
  unfold deepR
  rw [if_neg (show ¬ (F.cons y k r).cnt = 0 from Nat.succ_ne_zero _)]
  rfl
theorem deepR_in (a t : Nat) (st : List (Nat × Nat)) (k : F) (fs : List F) (h : ¬ k.cnt = 0) : deepR ((a, t) :: st) k fs = max (st.length + 1 + k.dep) (deepO st fs) := by
  unfold deepR
  rw [if_neg h]
  rfl
/-- One node on: leaves give their ticks. -/
theorem step {st : List (Nat × Nat)} {cur : F} {fs : List F} (h : InvP st cur fs) {x : Nd} {tl : List Nd} (hr : cur.flat ++ flats fs = x :: tl) :
    fine x = true ∧ ∃ (cur' : F) (fs' : List F), InvP (behind st x) cur' fs' ∧ tl = cur'.flat ++ flats fs' ∧
      (∀ s, min 4097 (s + (if kn x = 0 then hold x.n.toNat (times st) else 0) + rem (behind st x) cur' fs') = min 4097 (s + rem st cur fs)) ∧
      max (st.length + 1) (deepR (behind st x) cur' fs') = max (st.length + 1) (deepR st cur fs) := by
  have hc : 0 < cur.cnt := by
    rcases h.pos with ⟨_, rfl⟩ | h0
    · rcases Nat.eq_zero_or_pos cur.cnt with h0 | h0
      · rw [F.cnt_zero h0] at hr; simp [F.flat, flats] at hr
      · exact h0
    · exact h0
  cases cur with
  | nil => simp [F.cnt] at hc
  | cons y k r =>
    simp only [F.flat, List.cons_append, List.cons.injEq, List.append_assoc] at hr
    obtain ⟨rfl, rfl⟩ := hr
    have hok := h.1
    obtain ⟨hf, hk, hkok, hrok⟩ := hok
    have hn1 := fine_one hf
    refine ⟨hf, ?_⟩
    obtain ⟨ht1, ht2⟩ := h.times
    obtain ⟨fs', d1, d2, d3, d4⟩ := down h
    by_cases h3 : y.k = 3
    · have ek : kn y = y.n.toNat := if_pos h3
      have eb : behind st y = (y.n.toNat, times st) :: st := if_pos h3
      have hkc : 0 < k.cnt := by omega
      have et : F.tick y k.len = k.len := if_pos h3
      rw [eb]
      refine ⟨k, fs', ⟨hkok, by omega, by omega, ht1, ht2, d1⟩, by rw [d2], fun s => ?_, ?_⟩
      · rw [if_neg (by omega)]
        simp only [rem, times_cons, List.tail_cons, d3, F.len, et, Nat.mul_add]
        congr 1
        omega
      · rw [deepR_cons, deepR_in _ _ _ _ _ (by omega), d4]
        split
        · rename_i h0
          rw [F.cnt_zero h0]
          simp only [F.dep]
          omega
        · omega
    · by_cases h4 : y.k = 4
      · have ek : kn y = 1 := by unfold kn; rw [if_neg h3, if_pos h4]
        have eb : behind st y = (1, hold y.n.toNat (times st)) :: st := by unfold behind; rw [if_neg h3, if_pos h4]
        have et : F.tick y k.len = k.len * y.n.toNat := by unfold F.tick; rw [if_neg h3, if_pos h4]
        have hl : 1 ≤ k.len := F.len_pos hkok (by omega)
        rw [eb]
        refine ⟨k, fs', ⟨hkok, by omega, by omega, hold_pos (by omega) ht1, hold_le _ _, d1⟩, by rw [d2], fun s => ?_, ?_⟩
        · rw [if_neg (by omega)]
          simp only [rem, times_cons, List.tail_cons, d3, F.len, et, Nat.add_zero]
          rw [← Nat.add_assoc, hold_mul _ _ _ _ _ hl, Nat.mul_add]
          have : times st * (k.len * y.n.toNat) = y.n.toNat * times st * k.len := by
            rw [← Nat.mul_assoc, Nat.mul_comm (times st) k.len, Nat.mul_assoc, Nat.mul_comm k.len, Nat.mul_comm (times st)]
          rw [this]
          congr 1
          omega
        · rw [deepR_cons, deepR_in _ _ _ _ _ (by omega), d4]
          split
          · rename_i h0
            rw [F.cnt_zero h0]
            simp only [F.dep]
            omega
          · omega
      · have ek : kn y = 0 := by unfold kn; rw [if_neg h3, if_neg h4]
        have eb : behind st y = pops st := by unfold behind; rw [if_neg h3, if_neg h4]
        have et : F.tick y k.len = y.n.toNat := by unfold F.tick; rw [if_neg h3, if_neg h4]
        obtain rfl : k = .nil := F.cnt_zero (by omega)
        -- behind a leaf
        obtain ⟨cur', fs'', p1, p2, p3, p4⟩ : ∃ (cur' : F) (fs'' : List F), InvP (pops st) cur' fs'' ∧ r.flat ++ flats fs = cur'.flat ++ flats fs'' ∧ rem (pops st) cur' fs'' = remO st fs' ∧ deepR (pops st) cur' fs'' = deepO st fs' := by
          obtain ⟨c, f, q1, q2, q3, q4, _⟩ := pops_spec st fs' d1
          exact ⟨c, f, q1, by rw [d2, q2], q3, q4⟩
        rw [eb]
        refine ⟨cur', fs'', p1, by simpa [F.flat] using p2, fun s => ?_, ?_⟩
        · rw [if_pos ek, p3, d3, hold_min]
          have et' : F.tick y 0 = y.n.toNat := et
          simp only [rem, F.len, et', Nat.mul_add]
          rw [Nat.mul_comm (times st) y.n.toNat]
          congr 1
          omega
        · rw [p4, d4, deepR_cons]
          simp only [F.dep]
          split
          · rename_i h0
            rw [F.cnt_zero h0]
            simp only [F.dep]
            omega
          · omega
theorem deep_ge {st : List (Nat × Nat)} {cur : F} {fs : List F} (h : InvP st cur fs) {x : Nd} {tl : List Nd} (hr : cur.flat ++ flats fs = x :: tl) : st.length + 1 ≤ deepR st cur fs := by
  cases cur with
  | nil =>
    rcases h.pos with ⟨_, rfl⟩ | h0
    · simp [F.flat, flats] at hr
    · simp [F.cnt] at h0
  | cons y k r => rw [deepR_cons]; omega
/-- Behind the last node nothing is open. -/
theorem InvP.done {st : List (Nat × Nat)} {cur : F} {fs : List F} (h : InvP st cur fs) (hr : cur.flat ++ flats fs = []) : rem st cur fs = 0 ∧ deepR st cur fs = 0 := by
  rcases h.pos with ⟨rfl, rfl⟩ | h0
  · cases cur with
    | nil => exact ⟨rfl, rfl⟩
    | cons x k r => simp [F.flat] at hr
  · cases cur with
    | nil => simp [F.cnt] at h0
    | cons x k r => simp [F.flat] at hr
theorem InvP.start {f : F} (h : f.ok) (hc : f.cnt = 1) : InvP [] f [] ∧ f.flat ++ flats [] = f.flat ∧ rem [] f [] = f.len ∧ deepR [] f [] = f.dep :=
  ⟨⟨h, rfl, by omega⟩, by simp [flats], by simp [rem, show Tab.times [] = 1 from rfl, remO], by simp [deepR, deepO, hc]⟩
end Tab
end Go.Proofs.YtebcfiifaclniaaGreat

/- A table that is whole; the places of a node's children. -/
namespace Go.Proofs.YtebcfiifaclniaaGreat
open Go.RowKit Tab
set_option linter.unusedSimpArgs false
set_option linter.unusedVariables false

def wholeB (l : List Nd) : Bool := decide (0 < l.length) && decide (size l 0 = l.length)
set_option maxHeartbeats 400000 in
theorem whole_any (A : Option Addr) (n cap : Nat) (l : List Nd) (w : World) (h : RdN w w.heap.size A n l) (hc : n ≤ cap) (hn : n ≤ 1099511627776) :
    Calls Tryz.prog 78 #[.slice A n cap] w (Ans (.bool (wholeB l)) w) := by
  generalize hb : wholeB l = b
  have HL := Lib.hid h.len
  have HB := Lib.hid hb
  clear hb
  by_cases h0 : 0 < n
  · generalize hS : size l 0 = S
    have HS := Lib.hid hS
    clear hS
    go_enter Tryz.func78, Tryz.ntmps78
    go_wp2_with fail
    refine (size_any A n cap l 0 w h hc hn).mono ?_
    rw [HS.out]
    rintro e w1 ⟨rfl, hb1⟩
    go_wp2_with fail
    go_ret
    refine Ans.mk (congrArg Value.bool (a₂ := ((S : Int) == (n : Int))) ?_) hb1
    rw [← HB.out, wholeB, HL.out, HS.out, Bool.eq_iff_iff]
    simp
    omega
  · have h0' : n ≤ 0 := by omega
    go_enter Tryz.func78, Tryz.ntmps78
    go_wp2_with fail
    go_ret
    refine Ans.mk ?_ (Below.refl _ _)
    rw [← HB.out, wholeB, HL.out, show n = 0 by omega]
    rfl
/-- A whole table is a tree. -/
theorem whole_tree {l : List Nd} (h : wholeB l = true) : ∃ (x : Nd) (k : F), (F.cons x k .nil).ok ∧ l = x :: k.flat := by
  unfold wholeB at h
  simp only [Bool.and_eq_true, decide_eq_true_eq] at h
  obtain ⟨x, k, t, h1, _, _, h4, h5⟩ := size_tree (l := l) (a := 0) (by omega)
  have hlen := congrArg List.length h4
  simp only [Int.toNat_zero, List.drop_zero, List.length_cons, List.length_append, F.flat_length] at hlen
  have ht : t = [] := List.eq_nil_of_length_eq_zero (by omega)
  subst ht
  exact ⟨x, k, h1, by simpa using h4⟩
theorem tree_whole {x : Nd} {k : F} (h : (F.cons x k .nil).ok) : wholeB (x :: k.flat) = true := by
  have h1 : size (x :: k.flat) 0 = 1 + k.sz := size_at (l := x :: k.flat) (a := 0) (t := []) h (by simp [F.flat])
  unfold wholeB
  simp only [Bool.and_eq_true, decide_eq_true_eq]
  exact ⟨by simp, by rw [h1]; simp only [List.length_cons, F.flat_length]; omega⟩

def lenOf : Value → Nat
  | .slice _ n _ => n
  | _ => 0
/-- Numbers as cells. -/
def is (l : List Int) : List Value := l.map (.int .i64)
theorem is_length (l : List Int) : (is l).length = l.length := by simp [is]
theorem is_append (l m : List Int) : is (l ++ m) = is l ++ is m := by simp [is]
theorem is_one (l : List Int) : ∀ u ∈ is l, u.oneCell' = true := by
  intro u hu
  obtain ⟨z, _, rfl⟩ := List.mem_map.1 hu
  rfl
/-- A slice at A, n long, holds the numbers l. -/
structure RdI (w : World) (B : Nat) (A : Option Addr) (n : Nat) (l : List Int) : Prop where
  len : l.length = n
  rd : RdV w B A (is l)
section
variable {w w' : World} {B B' n : Nat} {A : Option Addr} {l : List Int}
theorem RdI.below (h : RdI w B A n l) (hb : Below B w w') : RdI w' B A n l := ⟨h.len, h.rd.below hb⟩
theorem RdI.more (h : RdI w B A n l) (hB : B ≤ B') : RdI w B' A n l := ⟨h.len, h.rd.more hB⟩
theorem RdI.on (h : RdI w w.heap.size A n l) (hb : Below w.heap.size w w') : RdI w' w'.heap.size A n l := (h.below hb).more hb.size
theorem RdI.at_ (h : RdI w B A n l) {i : Nat} (hi : i < n) : ∃ (ad : Addr) (x : Int), A = some ad ∧ ad.block < B ∧ l[i]? = some x ∧ w.cell? (ad.add i) = some (.int .i64 x) := by
  have hl : i < l.length := by rw [h.len]; exact hi
  obtain ⟨ad, e, hb, hc⟩ := h.rd (by rw [is_length]; omega)
  exact ⟨ad, l[i], e, hb, List.getElem?_eq_getElem hl, hc _ _ (by simp [is, hl])⟩
end
/-- It answers a row of numbers, new. -/
def MadeI (l : List Int) (w : World) (e : Ending) (w' : World) : Prop := ∃ A n c, e = .returned (.slice A n c) ∧ RdI w' w'.heap.size A n l ∧ n ≤ c ∧ Below w.heap.size w w'
theorem MadeI.mk {l : List Int} {w w' : World} {A : Option Addr} {n c : Nat} {B : Nat} (h : OwnV 3 1 w' B A n c (is l)) (hb : Below w.heap.size w w') : MadeI l w (.returned (.slice A n c)) w' :=
  ⟨A, n, c, rfl, ⟨by have := h.len; rw [is_length] at this; omega, h.rd⟩, h.cap, hb⟩

/-- The first j places. -/
def plc (l : List Nd) (p j : Nat) : List Int := (List.range j).map fun j => (pos l p j : Int)
theorem plc_succ (l : List Nd) (p j : Nat) : plc l p (j + 1) = plc l p j ++ [(pos l p j : Int)] := by simp [plc, List.range_succ]
theorem plc_set (l : List Nd) (p m i : Nat) (hi : i < m) : (is (plc l p i ++ List.replicate (m - i) 0)).set i (.int .i64 (pos l p i : Int)) = is (plc l p (i + 1) ++ List.replicate (m - (i + 1)) 0) := by
  have e : m - i = (m - (i + 1)) + 1 := by omega
  have el : (is (plc l p i)).length = i := by rw [is_length]; simp [plc]
  rw [plc_succ, e, List.replicate_succ]
  rw [is_append, List.set_append_right _ _ (by omega), el, Nat.sub_self]
  simp [is, List.map_append]
theorem made_ints (n : Nat) : (madeCells #[Value.int .i64 0] n).toList = is (List.replicate n 0) := by
  apply List.ext_getElem
  · simp [size_madeCells, is]
  · intro i h1 h2
    simp [madeCells, is]
    rw [Nat.mod_one]
    simp
theorem run_makeI (m : Nat) (hm : m ≤ 1048576) (W : World) : (Instr.makeSlice 22 (.int .i64 (m : Int)) (.int .i64 (m : Int))).run Tryz.prog W = .ok (.slice (some ⟨W.heap.size, 0, none⟩) m m) (W.alloc (.cells (madeCells #[.int .i64 0] m) 3)) := by
  obtain ⟨i, hi, hz, hs, hby⟩ := info_parts elI.hi
  have hr := run_make (P := Tryz.prog) W 22 3 i _ elI.ht hi hz .i64 .i64 m m (by omega) (by omega) (by rw [hby]; omega) (by omega)
  rw [hs] at hr
  simp only [Int.toNat_natCast, Nat.mul_one] at hr
  exact hr
end Go.Proofs.YtebcfiifaclniaaGreat
