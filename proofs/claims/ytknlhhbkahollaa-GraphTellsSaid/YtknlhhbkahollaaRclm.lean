/- Rows of bools that a call lays one by one; closing in place. -/
import Derived.Test.YtknlhhbkahollaaGdep
namespace Go.Proofs.Ytknlhhbkahollaa
open Go.RowKit Tab
set_option linter.unusedSimpArgs false
set_option linter.unusedVariables false

def bls (n : Nat) (f : Nat → Bool) : List Value := (List.range n).map fun j => .bool (f j)
theorem bls_len (n : Nat) (f : Nat → Bool) : (bls n f).length = n := by simp [bls]
theorem bls_get (n : Nat) (f : Nat → Bool) {j : Nat} (hj : j < n) : (bls n f)[j]? = some (.bool (f j)) := by simp [bls, hj]
theorem bls_one (n : Nat) (f : Nat → Bool) : ∀ u ∈ bls n f, u.oneCell' = true := by
  intro u hu
  obtain ⟨s, _, rfl⟩ := List.mem_map.1 hu
  rfl
theorem rdc_bls {w : World} {B n : Nat} {R : Option Addr} {f : Nat → Bool} (h : RdC w B R n fun j => .bool (f j)) : RdV w B R (bls n f) := fun hl => by
  rw [bls_len] at hl
  obtain ⟨ad, e, hb, hc⟩ := h hl
  refine ⟨ad, e, hb, fun j v hj => ?_⟩
  have hjn : j < n := by have := (List.getElem?_eq_some_iff.1 hj).1; rwa [bls_len] at this
  rw [bls_get n f hjn] at hj
  injection hj with hj
  subst hj
  exact hc j hjn
theorem own_bls {w : World} {E B g n c : Nat} {f : Nat → Bool} (h : OwnV E 1 w B (some ⟨g, 0, none⟩) n c (bls n f)) (hn : 0 < n) : Vec w g n fun j => .bool (f j) := by
  refine ⟨fun j hj => ?_, fun j => World.ownsRow.frozenAt h _, (h.obk_ge (b := g) rfl).2⟩
  rw [World.ownsRow.cellAt h j (by omega), bls_get n f hj]
def rws (n i : Nat) (G K : Nat → Nat) : List Value := (List.range i).map fun j => .slice (some ⟨G j, 0, none⟩) n (K j)
theorem rws_one (n i : Nat) (G K : Nat → Nat) : ∀ u ∈ rws n i G K, u.oneCell' = true := by
  intro u hu
  obtain ⟨s, _, rfl⟩ := List.mem_map.1 hu
  rfl
/-- Rows so far: i of them, of n bools each, in blocks of their own. -/
structure Rws (w : World) (B : Nat) (A : Option Addr) (n i c : Nat) (G K : Nat → Nat) (m : Nat → Nat → Bool) : Prop where
  out : OwnV 40 1 w B A i c (rws n i G K)
  rows : ∀ j, j < i → Vec w (G j) n fun y => .bool (m j y)
  ge : ∀ j, j < i → B ≤ G j
  ne : ∀ j, j < i → obk A ≠ some (G j)
  cap : ∀ j, j < i → n ≤ K j
  inj : ∀ j j', j < i → j' < i → G j = G j' → j = j'
section
variable {w w' : World} {B n i c : Nat} {A : Option Addr} {G K : Nat → Nat} {m m' : Nat → Nat → Bool}
theorem Rws.nil (w : World) (B n : Nat) (m : Nat → Nat → Bool) : Rws w B none n 0 0 (fun _ => 0) (fun _ => 0) m := ⟨OwnV.nil _ _ _ _, fun j h => by omega, fun j h => by omega, fun j h => by omega, fun j h => by omega, fun j j' h => by omega⟩
theorem Rws.on (h : Rws w B A n i c G K m) (hb : Below w.heap.size w w') : Rws w' B A n i c G K m := ⟨h.out.below rfl hb, fun j hj => (h.rows j hj).on hb, h.ge, h.ne, h.cap, h.inj⟩
theorem Rws.congr (h : Rws w B A n i c G K m) (e : ∀ x y, x < i → y < n → m x y = m' x y) : Rws w B A n i c G K m' := ⟨h.out, fun j hj => (h.rows j hj).congr fun y hy => by rw [e j y hj hy], h.ge, h.ne, h.cap, h.inj⟩
/-- A row more, in a block that is newer. -/
theorem Rws.more (h : Rws w B A n i c G K m) {x k c' : Nat} {A' : Option Addr} (hx : Vec w x n fun y => .bool (m i y)) (hxB : B ≤ x) (hxn : ∀ j, j < i → G j ≠ x) (hxa : obk A ≠ some x) (hk : n ≤ k) (hg : Grew A A' w w')
    (ho : OwnV 40 1 w' B A' (i + 1) c' (rws n i G K ++ [.slice (some ⟨x, 0, none⟩) n k])) : Rws w' B A' n (i + 1) c' (put1 G i x) (put1 K i k) m := by
  have hlt : ∀ j, j < i + 1 → j ≠ i → j < i := fun j _ _ => by omega
  refine ⟨?_, fun j hj => ?_, fun j hj => ?_, fun j hj => ?_, fun j hj => ?_, fun j j' hj hj' e => ?_⟩
  · have e : rws n (i + 1) (put1 G i x) (put1 K i k) = rws n i G K ++ [.slice (some ⟨x, 0, none⟩) n k] := by
      unfold rws
      rw [List.range_succ, List.map_append]
      congr 1
      · apply List.map_congr_left
        intro j hj
        have := List.mem_range.1 hj
        rw [put1_other (by omega), put1_other (by omega)]
      · simp [put1_same]
    rw [e]; exact ho
  · by_cases e : j = i
    · subst e
      rw [put1_same]
      exact hx.keep (hg.gb.block x hx.lt fun e => hxa e.symm) hg.gb.size
    · rw [put1_other e]
      have := h.rows j (hlt j hj e)
      exact this.keep (hg.gb.block _ this.lt fun e2 => h.ne j (hlt j hj e) e2.symm) hg.gb.size
  · by_cases e : j = i
    · subst e; rw [put1_same]; exact hxB
    · rw [put1_other e]; exact h.ge j (hlt j hj e)
  · have ap : ∀ z, z < w.heap.size → obk A ≠ some z → obk A' ≠ some z := fun z hz hne => by
      rcases hg.at_ with e | ⟨g, e, hge⟩
      · rw [e]; exact hne
      · rw [e]; intro e2; injection e2 with e2; omega
    by_cases e : j = i
    · subst e; rw [put1_same]; exact ap x hx.lt hxa
    · rw [put1_other e]; exact ap _ (h.rows j (hlt j hj e)).lt (h.ne j (hlt j hj e))
  · by_cases e : j = i
    · subst e; rw [put1_same]; exact hk
    · rw [put1_other e]; exact h.cap j (hlt j hj e)
  · by_cases e1 : j = i
    · by_cases e2 : j' = i
      · omega
      · subst e1
        rw [put1_same, put1_other e2] at e
        exact absurd e.symm (hxn j' (hlt j' hj' e2))
    · by_cases e2 : j' = i
      · subst e2
        rw [put1_same, put1_other e1] at e
        exact absurd e (hxn j (hlt j hj e1))
      · rw [put1_other e1, put1_other e2] at e
        exact h.inj j j' (hlt j hj e1) (hlt j' hj' e2) e
/-- One place of it, and a store there. -/
theorem Rws.at_ (h : Rws w B A n i c G K m) {a b : Nat} (ha : a < i) (hb : b < n) : ∃ g x k, A = some ⟨g, 0, none⟩ ∧ w.cell? ⟨g, a, none⟩ = some (.slice (some ⟨x, 0, none⟩) n k) ∧ w.cell? ⟨x, b, none⟩ = some (.bool (m a b)) ∧ w.frozen? ⟨x, b, none⟩ = false ∧
    ∀ v, Rws (w.setCell ⟨x, b, none⟩ (.bool v)) B A n i c G K (put2 m a b v) ∧ ∀ V, Below B V w → Below B V (w.setCell ⟨x, b, none⟩ (.bool v)) := by
  obtain ⟨g, rfl, hBg, hgl⟩ := h.out.block (by omega)
  have hc : w.cell? ⟨g, a, none⟩ = some (.slice (some ⟨G a, 0, none⟩) n (K a)) := by
    rw [World.ownsRow.cellAt h.out a (by omega)]
    simp [rws, ha]
  refine ⟨g, G a, K a, rfl, hc, (h.rows a ha).cell b hb, (h.rows a ha).thaw b, fun v => ⟨⟨h.out.other ⟨G a, b, none⟩ (.bool v) fun g' e e2 => h.ne a ha (by rw [e]; exact congrArg some e2), fun j hj => ?_, h.ge, h.ne, h.cap, h.inj⟩, fun V hV => hV.setCell (p := ⟨G a, b, none⟩) (h.ge a ha) _⟩⟩
  by_cases e : j = a
  · subst e
    refine ((h.rows j hj).set b (.bool v)).congr fun y _ => ?_
    unfold put1 put2
    by_cases e2 : y = b <;> simp [e2]
  · refine ((h.rows j hj).other ⟨G a, b, none⟩ (.bool v) fun e2 => e (h.inj j a hj ha e2)).congr fun y _ => ?_
    unfold put2
    simp [e]
/-- Rows a, b, and places in them, to be read. -/
theorem Rws.get {g : Nat} (h : Rws w B (some ⟨g, 0, none⟩) n i c G K m) {a b : Nat} (ha : a < i) (hb : b < n) : w.cell? ⟨g, a, none⟩ = some (.slice (some ⟨G a, 0, none⟩) n (K a)) ∧ w.cell? ⟨G a, b, none⟩ = some (.bool (m a b)) := by
  refine ⟨?_, (h.rows a ha).cell b hb⟩
  rw [World.ownsRow.cellAt h.out a (by omega)]
  simp [rws, ha]
theorem Rws.rdm (h : Rws w B A n n c G K m) : RdM w w.heap.size A n (fun _ => n) m := by
  refine ⟨fun j => (some ⟨G j, 0, none⟩, K j), fun hn => ?_, fun j hj => ⟨h.cap j hj, (h.rows j hj).rdc⟩⟩
  obtain ⟨g, rfl, hBg, hgl⟩ := h.out.block hn
  refine ⟨_, rfl, hgl, fun j hj => ?_⟩
  have e : (⟨g, 0, none⟩ : Addr).add j = ⟨g, j, none⟩ := by unfold Addr.add; split <;> simp_all
  rw [e, World.ownsRow.cellAt h.out j (by omega)]
  simp [rws, hj]
end
/-- Closing in place: round k, rows ahead of a, and of row a the places ahead of b, are done. -/
def mW (m : Nat → Nat → Bool) (k a b x y : Nat) : Bool := if x < a ∨ (x = a ∧ y < b) then War m (k + 1) x y else War m k x y
theorem mW_here (m : Nat → Nat → Bool) (k a b : Nat) : mW m k a b a b = War m k a b := by
  unfold mW
  rw [if_neg (by omega)]
theorem mW_col (m : Nat → Nat → Bool) (k a b x : Nat) : mW m k a b x k = War m k x k := by
  unfold mW
  split
  · exact war_col m k x
  · rfl
theorem mW_row (m : Nat → Nat → Bool) (k a b y : Nat) : mW m k a b k y = War m k k y := by
  unfold mW
  split
  · exact war_row m k y
  · rfl
theorem mW_put (m : Nat → Nat → Bool) (k a b x y : Nat) : put2 (mW m k a b) a b (War m k a b || (War m k a k && War m k k b)) x y = mW m k a (b + 1) x y := by
  unfold put2
  by_cases h : x = a ∧ y = b
  · rw [if_pos h, h.1, h.2]
    unfold mW
    rw [if_pos (by omega)]
    rfl
  · rw [if_neg h]
    unfold mW
    by_cases h2 : x < a ∨ (x = a ∧ y < b)
    · rw [if_pos h2, if_pos (by omega)]
    · rw [if_neg h2, if_neg (by omega)]
theorem mW_turn {m : Nat → Nat → Bool} {k a n x y : Nat} (hy : y < n) : mW m k a n x y = mW m k (a + 1) 0 x y := by
  unfold mW
  by_cases h2 : x < a ∨ (x = a ∧ y < n)
  · rw [if_pos h2, if_pos (by omega)]
  · rw [if_neg h2, if_neg (by omega)]
theorem mW_done {m : Nat → Nat → Bool} {k n x y : Nat} (hx : x < n) : mW m k n 0 x y = mW m (k + 1) 0 0 x y := by
  unfold mW
  rw [if_pos (by omega), if_neg (by omega)]
theorem mW_zero {m : Nat → Nat → Bool} (k x y : Nat) : mW m k 0 0 x y = War m k x y := by
  unfold mW
  rw [if_neg (by omega)]
end Go.Proofs.Ytknlhhbkahollaa
