/- A row of runs as a table, folded or plain: a table that may be, whose leaves the row is. -/
import Derived.Test.YtjbflndlfdekiaaKnown6
import Derived.Test.YtjbflndlfdekiaaOfg
namespace Go.Proofs.Ytjbflndlfdekiaa
open Go.RowKit Tab
set_option linter.unusedSimpArgs false
set_option linter.unusedVariables false

/-- How many nodes a row takes, laid out plainly. -/
def pz (L : List Rn) : Nat := (wrapF (itemsF L)).sz
/-- A row of nodes that is a table of L. -/
structure TabR (L : List Rn) (w : World) (A : Option Addr) (m c : Nat) : Prop where
  ex : ∃ x k, RdN w w.heap.size A m (x :: k.flat) ∧ (F.cons x k .nil).ok ∧ one x k.lvs = L ∧ k.dep + 1 ≤ 16
  cap : m ≤ c
  pl : m ≤ pz L
  le : m ≤ L.length + 1
theorem TabR.on {L : List Rn} {w w' : World} {A : Option Addr} {m c : Nat} (h : TabR L w A m c) (hb : Below w.heap.size w w') : TabR L w' A m c := by
  obtain ⟨x, k, hr, h2⟩ := h.ex
  exact ⟨⟨x, k, hr.on hb, h2⟩, h.cap, h.pl, h.le⟩
theorem tabR_of {L : List Rn} {f : F} {n m c : Nat} {A : Option Addr} {w : World} (hit : Items L f) (hL : L.length ≤ 96) (hr : RdN w w.heap.size A m (wrapF f).flat) (hc : m ≤ c) : TabR L w A m c := by
  obtain ⟨x, k, e, hok, ho, hd, _, h1, h2⟩ := hit.table hL
  rw [e] at hr
  have e2 : (F.cons x k .nil).flat = x :: k.flat := by simp [F.flat]
  rw [e2] at hr
  have hl := hr.len
  rw [List.length_cons, F.flat_length] at hl
  exact ⟨⟨x, k, hr, hok, ho, hd⟩, hc, by unfold pz; omega, by omega⟩
/-- It answers a table of L. -/
def TabA (L : List Rn) (w : World) (e : Ending) (w' : World) : Prop := ∃ A m c, e = .returned (.slice A m c) ∧ TabR L w' A m c ∧ Below w.heap.size w w'
/-- It answers a table of L, of as many nodes as plainly. -/
def PlnA (L : List Rn) (w : World) (e : Ending) (w' : World) : Prop := ∃ A m c, e = .returned (.slice A m c) ∧ TabR L w' A m c ∧ m = pz L ∧ Below w.heap.size w w'
theorem tabl_any (A : Option Addr) (n cap : Nat) (L : List Rn) (w : World) (h : RdR w w.heap.size A n L) (hc : n ≤ cap) (hL : Frm L n) :
    Calls Try.prog 10 #[.slice A n cap] w (TabA L w) := by
  have hl : L.length ≤ 96 := by rw [h.len]; exact hL.le
  obtain ⟨f', hit, e⟩ := tab_items (L := L) (by omega) n (itemsF L) (Items.start hL.all (by rw [h.len]; exact hL.pos))
  rw [itemsI_parts] at e
  refine (table_any6 A n cap L w h hc hL).mono fun e1 w1 hR => ?_
  obtain ⟨A1, m1, c1, he, hr, hc1, hb⟩ := hR
  rw [e] at hr
  exact ⟨A1, m1, c1, he, tabR_of (n := n) hit hl hr hc1, hb⟩
theorem plan_any (A : Option Addr) (n cap : Nat) (L : List Rn) (w : World) (h : RdR w w.heap.size A n L) (hc : n ≤ cap) (hL : Frm L n) :
    Calls Try.prog 12 #[.slice A n cap] w (PlnA L w) := by
  have hl : L.length ≤ 96 := by rw [h.len]; exact hL.le
  have hit := Items.start hL.all (by rw [h.len]; exact hL.pos)
  have e := joinI_parts (itemsF L)
  rw [itemsI_parts] at e
  refine (plain_any A n cap L w h hc hL).mono fun e1 w1 hR => ?_
  obtain ⟨A1, m1, c1, he, hr, hc1, hb⟩ := hR
  rw [e] at hr
  have hm := hr.len
  rw [F.flat_length] at hm
  exact ⟨A1, m1, c1, he, tabR_of (n := n) hit hl hr hc1, by unfold pz; omega, hb⟩
theorem ofz_zero {n D : Nat} {L : List Rn} (h1 : n ≤ 128) (h2 : D ≤ 16) (h3 : ticks L ≤ 4096) (h4 : (tidy L).length ≤ 96) : ofz n D L = 0 := by
  have e : rt n D (ticks L) = 0 := by
    unfold rt
    rw [if_neg (by omega), if_neg (by omega), if_neg (by omega)]
  unfold ofz
  rw [if_pos e, if_neg (by omega)]
/-- It answers the runs L, and no refusal. -/
def OfL (L : List Rn) (w : World) (e : Ending) (w' : World) : Prop := ∃ A m c, e = .returned (.tuple #[.slice A m c, .int .i64 0]) ∧ RdR w' w'.heap.size A m L ∧ m ≤ c ∧ Below w.heap.size w w'
theorem TabR.of {L : List Rn} {w : World} {A : Option Addr} {m c : Nat} (h : TabR L w A m c) (ht : ticks L ≤ 4096) (hl : L.length ≤ 96) (hT : tidy L = L) :
    Calls Try.prog 13 #[.slice A m c] w (OfL L w) := by
  obtain ⟨x, k, hr, hok, ho, hd⟩ := h.ex
  have h1 := h.le
  refine (rof_any A m c x k w hr h.cap hok (by omega)).mono fun e w1 hR => ?_
  rw [ho, hT, ofz_zero (by omega) hd ht (by rw [hT]; exact hl)] at hR
  obtain ⟨A1, m1, c1, he, hc1, hrr, hb⟩ := hR
  exact ⟨A1, m1, c1, he, hrr rfl, hc1, hb⟩
theorem sameR_self (L : List Rn) : sameR L L = true := (sameR_iff L L).2 rfl
/-- Two rows of the same runs, by the document's own answer. -/
theorem xself_any (A1 A2 : Option Addr) (n m c1 c2 : Nat) (L : List Rn) (w : World) (h1 : RdR w w.heap.size A1 n L) (h2 : RdR w w.heap.size A2 m L) (hn : n ≤ 1048576) :
    Calls Try.prog 14 #[.slice A1 n c1, .slice A2 m c2] w (Ans (.bool true) w) := by
  have := xsame_any A1 A2 n m c1 c2 L L w h1 h2 hn
  rw [sameR_self] at this
  exact this.mono fun _ _ h => Qui.ans h
theorem ticks_bound {L : List Rn} {b : Nat} (h : ∀ r ∈ L, r.n ≤ b) : ticks L ≤ b * L.length := by
  induction L with
  | nil => simp [ticks]
  | cons x L ih =>
    have h1 := h x (by simp)
    have h2 := ih fun r hr => h r (by simp [hr])
    simp only [ticks, List.length_cons, Nat.mul_succ]
    omega
end Go.Proofs.Ytjbflndlfdekiaa
