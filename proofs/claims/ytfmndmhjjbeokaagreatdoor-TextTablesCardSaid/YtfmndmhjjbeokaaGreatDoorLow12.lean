import Derived.Test.YtfmndmhjjbeokaaGreatDoorLow11
import Derived.Test.YtfmndmhjjbeokaaGreatDoorLow5
namespace Go.Proofs.YtfmndmhjjbeokaaGreatDoor
open Go.RowKit Tab
set_option linter.unusedSimpArgs false
set_option linter.unusedVariables false
def MadeJ (l : List Int) (w : World) (e : Ending) (w' : World) : Prop := ∃ A n c, e = .returned (.slice A n c) ∧ RdI w' w'.heap.size A n l ∧ n ≤ c ∧ Below w.heap.size w w' ∧ ∀ ad, A = some ad → w.heap.size ≤ ad.block
theorem OwnV.newer {E s : Nat} {w : World} {B n c : Nat} {A : Option Addr} {l : List Value} (h : OwnV E s w B A n c l) : ∀ ad, A = some ad → B ≤ ad.block := fun ad e => by
  rcases h.2 with ⟨hv, _⟩ | ⟨g, cap, cur, hv, hbg, _⟩
  · injection hv with h1; rw [e] at h1; cases h1
  · injection hv with h1; rw [e] at h1; injection h1 with h1; rw [h1]; exact hbg
theorem MadeJ.mk {l : List Int} {w w' : World} {A : Option Addr} {n c : Nat} (h : OwnV 3 1 w' w.heap.size A n c (is l)) (hb : Below w.heap.size w w') : MadeJ l w (.returned (.slice A n c)) w' :=
  ⟨A, n, c, rfl, ⟨by have := h.len; rw [is_length] at this; omega, h.rd⟩, h.cap, hb, h.newer⟩
end Go.Proofs.YtfmndmhjjbeokaaGreatDoor
namespace Go.Proofs.YtfmndmhjjbeokaaGreatDoor
open Go.RowKit Tab
set_option linter.unusedSimpArgs false
set_option linter.unusedVariables false
theorem kids_at {l t : List Nd} {p : Nat} {x : Nd} {k r : F} (hok : (F.cons x k r).ok) (hl : l.drop p = (F.cons x k r).flat ++ t) : kids l (p : Int) = plc l (p + 1) k.cnt ∧ p + 1 + k.sz ≤ l.length ∧ l.drop (p + 1) = k.flat ++ (r.flat ++ t) ∧ l[p]? = some x := by
  have hs := size_at hok hl
  have hx : l[p]? = some x := by
    have : (l.drop p)[0]? = some x := by rw [hl]; rfl
    simpa using this
  have hd : l.drop (p + 1) = k.flat ++ (r.flat ++ t) := by
    rw [← List.drop_drop, hl]
    simp [F.flat]
  refine ⟨?_, ?_, hd, hx⟩
  · unfold kids
    rw [if_neg (by omega), Int.toNat_natCast, hx, hok.2.1]
    rfl
  · have := congrArg List.length hl
    rw [List.length_drop, List.length_append, F.flat_length] at this
    simp only [F.sz] at this
    omega
def hl4 (a : Nat) : Nat := min a 4097
end Go.Proofs.YtfmndmhjjbeokaaGreatDoor
namespace Go.Proofs.YtfmndmhjjbeokaaGreatDoor
open Go.RowKit Tab
set_option linter.unusedSimpArgs false
set_option linter.unusedVariables false
def MoreR (B : Nat) (A0 : Option Addr) (L : List Rn) (w : World) (e : Ending) (w' : World) : Prop := ∃ A c, e = .returned (.slice A L.length c) ∧ OwnV 129 2 w' B A L.length c (rs L) ∧ Below B w w' ∧ Grew A0 A w w'
theorem MoreR.mk {B : Nat} {L L' : List Rn} {w w' : World} {A0 A : Option Addr} {n c : Nat} (hL : L = L') (hn : n = L.length) (h : OwnV 129 2 w' B A n c (rs L)) (hb : Below B w w') (hg : Grew A0 A w w') : MoreR B A0 L' w (.returned (.slice A n c)) w' := by
  subst hL; subst hn
  exact ⟨A, c, rfl, h, hb, hg⟩
theorem OwnV.older {E s : Nat} {w : World} {B n c : Nat} {A : Option Addr} {l : List Value} (h : OwnV E s w B A n c l) {g : Nat} (e : obk A = some g) : g < w.heap.size := by
  rcases h.2 with ⟨hv, _⟩ | ⟨g', cap, cur, hv, _, hg, _⟩
  · injection hv with h1
    rw [h1] at e
    cases e
  · injection hv with h1
    rw [h1] at e
    injection e with e
    rw [← e]
    exact (Array.getElem?_eq_some_iff.1 hg).1
end Go.Proofs.YtfmndmhjjbeokaaGreatDoor
