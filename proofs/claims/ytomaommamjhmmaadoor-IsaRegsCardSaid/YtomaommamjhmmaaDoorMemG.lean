/- Rows in memory, whatever their elements: what a slice holds, cell by cell; what append makes of it. -/
import Derived.Test.YtomaommamjhmmaaDoorBase
import Derived.Maps.AppendAt
import Derived.Laws.IdiomStrings
import Derived.Deep.AppendLies
import Derived.Laws.CopyOwn
import Derived.OwnWalk
namespace Go.Proofs.YtomaommamjhmmaaDoor
open Go.RowKit

/-- What is known of an element's type and of a slice's. -/
structure Elt (T E : TypeId) (s b : Nat) (z : Value) : Prop where
  ht : Tryd.prog.underlying T = some (.slice E)
  hi : (Tryd.prog.info? E).map (fun i => (i.zero, i.size, i.bytes)) = some (some z, s, b)
  hz : z.cells.size = s
  hs : 0 < s

/-- A slice at A holds the cells l; where it holds any it lies below block B. -/
def RdV (w : World) (B : Nat) (A : Option Addr) (l : List Value) : Prop :=
  0 < l.length → ∃ ad, A = some ad ∧ ad.block < B ∧ ∀ j v, l[j]? = some v → w.cell? (ad.add j) = some v
section
variable {w w' : World} {B B' : Nat} {A : Option Addr} {l : List Value}
theorem add_block (ad : Addr) (j : Nat) : (ad.add j).block = ad.block := by unfold Addr.add; split <;> rfl
theorem RdV.keep (h : RdV w B A l) (hk : ∀ p : Addr, p.block < B → w'.cell? p = w.cell? p) : RdV w' B A l := fun hn => by
  obtain ⟨ad, e, hb, hc⟩ := h hn
  exact ⟨ad, e, hb, fun j v hj => (hk _ (by rw [add_block]; exact hb)).trans (hc j v hj)⟩
theorem RdV.more (h : RdV w B A l) (hB : B ≤ B') : RdV w B' A l := fun hn => by
  obtain ⟨ad, e, hb, hc⟩ := h hn
  exact ⟨ad, e, by omega, hc⟩
theorem RdV.below (h : RdV w B A l) (hb : Below B w w') : RdV w' B A l := h.keep fun _ hp => hb.cell hp
theorem add_add (ad : Addr) (i j : Nat) : (ad.add i).add j = ad.add (i + j) := by
  unfold Addr.add
  by_cases hi : i = 0 <;> by_cases hj : j = 0 <;> simp [hi, hj, Nat.add_assoc]
theorem RdV.front (h : RdV w B A l) (k : Nat) : RdV w B A (l.take k) := fun hn => by
  rw [List.length_take] at hn
  obtain ⟨ad, e, hb, hc⟩ := h (by omega)
  refine ⟨ad, e, hb, fun j v hj => hc j v ?_⟩
  rw [List.getElem?_take] at hj
  split at hj
  · exact hj
  · cases hj
theorem RdV.back {ad : Addr} (h : RdV w B (some ad) l) (k : Nat) : RdV w B (some (ad.add k)) (l.drop k) := fun hn => by
  rw [List.length_drop] at hn
  obtain ⟨ad', e, hb, hc⟩ := h (by omega)
  injection e with e
  subst e
  refine ⟨_, rfl, by rw [add_block]; exact hb, fun j v hj => ?_⟩
  rw [add_add]
  rw [List.getElem?_drop] at hj
  exact hc _ v hj
theorem RdV.nil : RdV w B A [] := fun h => absurd h (by simp)
end

/-- The slice is a row of the call's own, block B or behind it; it holds l. -/
def OwnV (E s : Nat) (w : World) (B : Nat) (A : Option Addr) (n c : Nat) (l : List Value) : Prop := w.ownsRow B E s (.slice A n c) n l
section
variable {w w' : World} {E s B B' n c : Nat} {A : Option Addr} {l : List Value}
theorem OwnV.len (h : OwnV E s w B A n c l) : l.length = n * s := h.1
theorem OwnV.cap (h : OwnV E s w B A n c l) : n ≤ c := by
  rcases h.2 with ⟨hv, h0⟩ | ⟨g, cap, cur, hv, _, _, hnc, _⟩
  · omega
  · injection hv; omega
theorem OwnV.nil (w : World) (E s B : Nat) : OwnV E s w B none 0 0 [] := World.ownsRow_nil _ _ _ _
theorem OwnV.block (h : OwnV E s w B A n c l) (hn : 0 < n) : ∃ g, A = some ⟨g, 0, none⟩ ∧ B ≤ g ∧ g < w.heap.size := by
  rcases h.2 with ⟨_, h0⟩ | ⟨g, cap, cur, hv, hb, hg, _⟩
  · omega
  · injection hv with h1
    exact ⟨g, h1, hb, (Array.getElem?_eq_some_iff.1 hg).1⟩
theorem OwnV.rd (h : OwnV E s w B A n c l) : RdV w w.heap.size A l := fun hl => by
  have hn : 0 < n := by
    rcases Nat.eq_zero_or_pos n with h0 | h0
    · rw [h.1, h0] at hl; omega
    · exact h0
  obtain ⟨g, rfl, _, hlt⟩ := h.block hn
  exact ⟨_, rfl, hlt, fun j v hj => World.ownsRow.cells h (g := g) rfl j v hj⟩
theorem OwnV.keep (h : OwnV E s w B A n c l) (hk : ∀ b, B ≤ b → b < w.heap.size → w'.heap[b]? = w.heap[b]?) : OwnV E s w' B A n c l := by
  refine ⟨h.1, ?_⟩
  rcases h.2 with hv | ⟨g, cap, cur, hv, hbg, hg, r⟩
  · exact .inl hv
  · exact .inr ⟨g, cap, cur, hv, hbg, by rw [hk g hbg (Array.getElem?_eq_some_iff.1 hg).1]; exact hg, r⟩
theorem OwnV.below (h : OwnV E s w B A n c l) (hs : B' = w.heap.size) (hb : Below B' w w') : OwnV E s w' B A n c l := by
  subst hs
  exact h.keep fun b _ hlt => hb.block b hlt
theorem OwnV.weak (h : OwnV E s w B A n c l) (hB : B' ≤ B) : OwnV E s w B' A n c l :=
  ⟨h.1, h.2.elim .inl fun ⟨g, cap, cur, hv, hbg, r⟩ => .inr ⟨g, cap, cur, hv, Nat.le_trans hB hbg, r⟩⟩
/-- A literal's new block. -/
theorem ownV_lit (w : World) (E s B : Nat) (C : Array Value) (m : Nat) (hC : C.size = m * s) (hB : B ≤ w.heap.size) (hm : m ≤ maxLen) : OwnV E s (w.alloc (.cells C E)) B (some ⟨w.heap.size, 0, none⟩) m m C.toList := by
  refine ⟨by rw [Array.length_toList, hC], .inr ⟨w.heap.size, m, C, rfl, hB, heap_alloc_new w _, Nat.le_refl _, hm, hC, ?_⟩⟩
  rw [List.take_of_length_le (by rw [Array.length_toList, hC]; omega)]
end

theorem rdV_new (w : World) (C : Array Value) (t : TypeId) (l : List Value) (hC : C.toList = l) : RdV (w.alloc (.cells C t)) (w.alloc (.cells C t)).heap.size (some ⟨w.heap.size, 0, none⟩) l := fun _ => by
  refine ⟨_, rfl, by simp, fun j v hj => ?_⟩
  have e : (⟨w.heap.size, 0, none⟩ : Addr).add j = ⟨w.heap.size, j, none⟩ := by unfold Addr.add; split <;> simp_all
  rw [e, World.cell?_alloc_mark, ← Array.getElem?_toList, hC]
  exact hj
theorem append_nil_srcV {T E s b : Nat} {z : Value} (L : Elt T E s b z) (w : World) (B : Nat) (A : Option Addr) (n c c' : Nat) (l : List Value) (h : OwnV E s w B A n c l) (S : Option Addr) :
    (Builtin.append_ #[T, T] T #[.slice A n c, .slice S 0 c']).run Tryd.prog w = .ok (.slice A n c) w := by
  obtain ⟨i, hi, _⟩ := info_parts L.hi
  cases S with
  | none =>
    rcases h.2 with ⟨hv, _⟩ | ⟨g, cap, cur, hv, _, _, hnc, _⟩
    · simp only [Value.slice.injEq] at hv
      obtain ⟨rfl, rfl, rfl⟩ := hv
      simp [Builtin.append_, run_underlying L.ht, sizeOf, typeInfo, hi, Builtin.lenOf, Builtin.firstCells]
    · simp only [Value.slice.injEq] at hv
      obtain ⟨rfl, _, rfl⟩ := hv
      simp [Builtin.append_, run_underlying L.ht, sizeOf, typeInfo, hi, Builtin.lenOf, Builtin.firstCells, hnc, storeCells]
  | some ad =>
    rcases h.2 with ⟨hv, _⟩ | ⟨g, cap, cur, hv, _, _, hnc, _⟩
    · simp only [Value.slice.injEq] at hv
      obtain ⟨rfl, rfl, rfl⟩ := hv
      simp [Builtin.append_, run_underlying L.ht, sizeOf, typeInfo, hi, Builtin.lenOf, Builtin.firstCells, loadCells, loadCellsFrom]
    · simp only [Value.slice.injEq] at hv
      obtain ⟨rfl, _, rfl⟩ := hv
      simp [Builtin.append_, run_underlying L.ht, sizeOf, typeInfo, hi, Builtin.lenOf, Builtin.firstCells, hnc, storeCells, loadCells, loadCellsFrom]

/-- append onto a row of the call's own, from whatever slice holds l. -/
theorem run_appV {T E s b : Nat} {z : Value} (L : Elt T E s b z) (w : World) (B : Nat) (A : Option Addr) (n c : Nat) (l0 : List Value) (h : OwnV E s w B A n c l0) (S : Option Addr) (m d : Nat) (l : List Value) (Bs : Nat) (hr : RdV w Bs S l)
    (hl : l.length = m * s) (h1 : ∀ u ∈ l, u.oneCell' = true) (hb : (n + m) * b ≤ 140737488355328) (hm : n + m ≤ maxLen) (hB : B ≤ w.heap.size) :
    ∃ A' c' w', (Builtin.append_ #[T, T] T #[.slice A n c, .slice S m d]).run Tryd.prog w = .ok (.slice A' (n + m) c') w' ∧ OwnV E s w' B A' (n + m) c' (l0 ++ l) ∧ Below B w w' ∧
      ∀ Bb, (∀ g, A = some ⟨g, 0, none⟩ → g < Bb) → ∀ k, Bb ≤ k → k < w.heap.size → w'.heap[k]? = w.heap[k]? := by
  obtain ⟨i, hi, hz, hs, hby⟩ := info_parts L.hi
  rcases Nat.eq_zero_or_pos m with hm0 | hm0
  · subst hm0
    obtain rfl : l = [] := List.eq_nil_of_length_eq_zero (by omega)
    exact ⟨A, c, w, append_nil_srcV L w B A n c d l0 h S, by simpa using h, Below.refl _ _, fun _ _ _ _ _ => rfl⟩
  · have hpos : 0 < l.length := by rw [hl]; exact Nat.mul_pos hm0 L.hs
    obtain ⟨ad, rfl, _, hc⟩ := hr hpos
    obtain ⟨v', w', hrun, hown, hgr, hnil, hat⟩ := run_append_own_at (P := Tryd.prog) w B T T E i z s b L.ht hi hz hs hby L.hz L.hs (.slice A n c) n l0 h ad m d l hl hc h1 hm hb hB
    have hbel : Below B w w' := (Below.refl _ _).grown hgr hB (fun k hk => by
      rcases h.2 with ⟨hv, _⟩ | ⟨g, cap, cur, hv, hbg, _⟩
      · rw [hv] at hk; simp [Value.ownBlock] at hk
      · rw [hv] at hk; simp [Value.ownBlock] at hk; omega)
    have hoth : ∀ Bb, (∀ g, A = some ⟨g, 0, none⟩ → g < Bb) → ∀ k, Bb ≤ k → k < w.heap.size → w'.heap[k]? = w.heap[k]? := fun Bb hg k hb hlt => by
      refine hgr.block k hlt fun hk => ?_
      rcases h.2 with ⟨hv, _⟩ | ⟨g, cap, cur, hv, hbg, _⟩
      · rw [hv] at hk; simp [Value.ownBlock] at hk
      · have h1 : A = some ⟨g, 0, none⟩ := by injection hv
        have := hg g h1
        rw [hv] at hk
        simp [Value.ownBlock] at hk
        omega
    rcases hown.2 with ⟨hv, h0⟩ | ⟨g, cap, cur, hv, _⟩
    · omega
    · subst hv
      exact ⟨_, _, w', hrun, hown, hbel, hoth⟩

/-- append onto a row whose block is known: the row as it was is still there. -/
theorem run_appK {T E s b : Nat} {z : Value} (L : Elt T E s b z) (w : World) (B g n c : Nat) (l0 : List Value) (h : OwnV E s w B (some ⟨g, 0, none⟩) n c l0) (ad : Addr) (m d : Nat) (l : List Value) (hc : ∀ j u, l[j]? = some u → w.cell? (ad.add j) = some u)
    (hl : l.length = m * s) (h1 : ∀ u ∈ l, u.oneCell' = true) (hb : (n + m) * b ≤ 140737488355328) (hm : n + m ≤ maxLen) (hB : B ≤ w.heap.size) :
    ∃ A' c' w', (Builtin.append_ #[T, T] T #[.slice (some ⟨g, 0, none⟩) n c, .slice (some ad) m d]).run Tryd.prog w = .ok (.slice A' (n + m) c') w' ∧ OwnV E s w' B A' (n + m) c' (l0 ++ l) ∧ Below B w w' ∧ OwnV E s w' B (some ⟨g, 0, none⟩) n c l0 ∧
      ∀ k, k ≠ g → k < w.heap.size → w'.heap[k]? = w.heap[k]? := by
  obtain ⟨i, hi, hz, hs, hby⟩ := info_parts L.hi
  have hsmall : n + m ≤ 9223372036854775807 := by simp only [maxLen] at hm; omega
  have hlen : (l0 ++ l).length = (n + m) * s := by rw [List.length_append, h.1, hl, Nat.add_mul]
  rcases h.2 with ⟨hv, _⟩ | ⟨g', cap, cur, hv, hbg, hg, hnc, hcm, hcs, htake⟩
  · cases hv
  · simp only [Value.slice.injEq, Option.some.injEq, Addr.mk.injEq, and_true, true_and] at hv
    obtain ⟨rfl, rfl⟩ := hv
    subst hs; subst hby
    have ec : cur.toList.length = c * i.size := by rw [Array.length_toList]; exact hcs
    have hle : n * i.size ≤ c * i.size := Nat.mul_le_mul_right _ hnc
    by_cases hroom : n + m ≤ c
    · have hle2 : n * i.size + m * i.size ≤ c * i.size := by rw [← Nat.add_mul]; exact Nat.mul_le_mul_right _ hroom
      have hfit : n * i.size + l.length ≤ cur.size := by rw [hl, hcs]; exact hle2
      have hr := run_append_room (P := Tryd.prog) w T T E i L.ht hi g n c cur hg ad m d l hl hc h1 hroom hfit
      rw [htake] at hr
      have hl0 : l0.length = n * i.size := h.1
      have hsize : (l0 ++ l ++ cur.toList.drop (n * i.size + l.length)).toArray.size = c * i.size := by
        rw [List.size_toArray, List.length_append, List.length_append, List.length_drop, ec, hl0, hl]; omega
      refine ⟨_, _, _, hr, ⟨hlen, .inr ⟨g, c, _, rfl, hbg, setRow_heap w g cur _ _ _ hg, hroom, hcm, hsize, ?_⟩⟩, below_setRow (Below.refl _ _) hbg _, ⟨h.1, .inr ⟨g, c, _, rfl, hbg, setRow_heap w g cur _ _ _ hg, hnc, hcm, hsize, ?_⟩⟩, fun k hk _ => setRow_other w g k _ hk⟩
      · exact List.take_left' hlen
      · show (l0 ++ l ++ cur.toList.drop (n * i.size + l.length)).take (n * i.size) = l0
        rw [List.append_assoc]
        exact List.take_left' hl0
    · have holds : ∀ j u, l0[j]? = some u → w.cell? ((⟨g, 0, none⟩ : Addr).add j) = some u := World.ownsRow.cells h (g := g) rfl
      have hfit : Builtin.nextslicecap (n + m) c * i.bytes ≤ 281474976710656 := growslice_fits (by omega) hb
      have hrun := run_append_grow (P := Tryd.prog) w T T E i z L.ht hi hz ⟨g, 0, none⟩ n c l0 h.1 holds ad m d l hl hc (by omega) (by omega) hfit
      have hge := grownCap_ge w (n + m) c E
      have hcm' : grownCap w (n + m) c E ≤ maxLen := grownCap_le_maxLen w (n + m) c E hm
      refine ⟨_, _, _, hrun, ⟨hlen, .inr ⟨w.heap.size, _, _, rfl, hB, heap_alloc_new w.drew _, hge, hcm', ?_, ?_⟩⟩, ((Below.refl _ _).drew).alloc hB _, OwnV.keep (B := B) h fun k _ hk => Below.heap_alloc w.drew _ k hk, fun k _ hk => Below.heap_alloc w.drew _ k hk⟩
      · simp only [Array.size_append, List.size_toArray, size_zeroCells, L.hz, h.1, hl, ← Nat.add_mul]
        exact congrArg (· * i.size) (by omega)
      · simp only [Array.toList_append, List.append_assoc]
        rw [← List.append_assoc, ← hlen]
        exact List.take_left
theorem wpList_wanted {P : Program} {ops : Array Oper} {Q : Exit → Act → World → Prop} {a : Act} {w : World} {rest : List Oper} {o : Oper} (hw : Region.wanted o (yielded ops a.tmps) = true)
    (h : ∀ K : Act → World → Prop, (∀ a w, wpList P ops Q rest a w → K a w) → o.wp P a w K Q) : wpList P ops Q (o :: rest) a w :=
  wpList_step fun K hK => by rw [if_pos hw]; exact h K hK
theorem wpList_appV {T E s b : Nat} {z : Value} (L : Elt T E s b z) {ops : Array Oper} {rest : List Oper} {o : Oper} {a : Act} {Q : Exit → Act → World → Prop} {w : World} (hgd : o.guard = none) (x y : Operand)
    (ho : o.op = .call { callee := .builtin .append, args := #[x, y], argTypes := #[T, T] }) (hty : o.type = T)
    (B : Nat) (A : Option Addr) (n c : Nat) (l0 : List Value) (hx : a.eval x = .slice A n c) (h : OwnV E s w B A n c l0) (S : Option Addr) (m d : Nat) (l : List Value) (Bs : Nat) (hy : a.eval y = .slice S m d) (hr : RdV w Bs S l)
    (hl : l.length = m * s) (h1 : ∀ u ∈ l, u.oneCell' = true) (hb : (n + m) * b ≤ 140737488355328) (hm : n + m ≤ maxLen) (hB : B ≤ w.heap.size)
    (N : Nat) (hN : n + m = N) (M : List Value) (hM : l0 ++ l = M)
    (hK : ∀ A' c' w', OwnV E s w' B A' N c' M → Below B w w' → (∀ Bb, (∀ g, A = some ⟨g, 0, none⟩ → g < Bb) → ∀ k, Bb ≤ k → k < w.heap.size → w'.heap[k]? = w.heap[k]?) → wpList Tryd.prog ops Q rest (a.put o.dst (.slice A' N c')) w') : wpList Tryd.prog ops Q (o :: rest) a w := by
  subst hN; subst hM
  refine wpList_plain hgd fun K hk => ?_
  obtain ⟨A', c', w', hrun, h1, h2, h3⟩ := run_appV L w B A n c l0 h S m d l Bs hr hl h1 hb hm hB
  unfold Oper.wp execOp
  simp only [ho, hty, resolve, invoke, builtin, Sem.run_bind, Sem.run_pure, Result.andThen_ok, List.map_toArray, List.map_cons, List.map_nil, hx, hy, hrun]
  exact hk _ _ (hK A' c' w' h1 h2 h3)
end Go.Proofs.YtomaommamjhmmaaDoor
