import Derived.Test.YtfmndmhjjbeokaaGreatDoorLow21
import Derived.Test.YtfmndmhjjbeokaaGreatDoorLow18
import Derived.Test.YtfmndmhjjbeokaaGreatDoorLow20
import Derived.Test.YtfmndmhjjbeokaaGreatDoorLow6
namespace Go.Proofs.YtfmndmhjjbeokaaGreatDoor
open Go.RowKit Tab
set_option linter.unusedSimpArgs false
set_option linter.unusedVariables false
def ofz (n D : Nat) (L : List Rn) : Int := if rt n D (ticks L) = 0 then (if 96 < (tidy L).length then 3 else 0) else rt n D (ticks L)
theorem ofz_ok {n D : Nat} {L : List Rn} (h : ofz n D L = 0) : n ≤ 128 ∧ D ≤ 16 ∧ ticks L ≤ 4096 ∧ (tidy L).length ≤ 96 := by
  unfold ofz at h
  rcases rt_cases n D (ticks L) with ⟨h0, h1, h2, h3⟩ | h0
  · rw [if_pos h0] at h
    split at h
    · omega
    · exact ⟨h1, h2, h3, by omega⟩
  · rw [if_neg h0] at h
    exact absurd h h0
def OfG (z : Int) (T : List Rn) (w : World) (e : Ending) (w' : World) : Prop :=
  ∃ (A : Option Addr) (m c : Nat), e = .returned (.tuple #[.slice A m c, .int .i64 z]) ∧ m ≤ c ∧ (z = 0 → RdR w' w'.heap.size A m T) ∧ Below w.heap.size w w'
theorem ofg_of {n D : Nat} {L : List Rn} {w w' : World} {e : Ending} (h0 : rt n D (ticks L) = 0) (h : OfR (tidy L) w e w') : OfG (ofz n D L) (tidy L) w e w' := by
  unfold OfR at h
  unfold OfG ofz
  rw [if_pos h0]
  split at h
  · rename_i h1
    rw [if_pos h1]
    exact ⟨none, 0, 0, h.1, Nat.le_refl _, fun h => by omega, h.2⟩
  · rename_i h1
    rw [if_neg h1]
    obtain ⟨A, c, rfl, hr, hc, hb, _⟩ := h
    exact ⟨A, _, c, rfl, hc, fun _ => hr, hb⟩
theorem ofg_wrong {n D : Nat} {L : List Rn} {w w' : World} {e : Ending} (h0 : ¬ rt n D (ticks L) = 0) (h : Ans (.tuple #[.slice none 0 0, .int .i64 (rt n D (ticks L))]) w e w') : OfG (ofz n D L) (tidy L) w e w' := by
  unfold OfG ofz
  rw [if_neg h0]
  exact ⟨none, 0, 0, h.1, Nat.le_refl _, fun h => absurd h h0, h.2⟩
theorem of_any (A : Option Addr) (n cap : Nat) (x : Nd) (k : F) (w : World) (h : RdN w w.heap.size A n (x :: k.flat)) (hc : n ≤ cap) (hok : (F.cons x k .nil).ok) (hn : n ≤ 1048576) :
    Calls Tryz.prog 125 #[.slice A n cap] w (OfG (ofz n (k.dep + 1) (one x k.lvs)) (tidy (one x k.lvs)) w) := by
  have hR := right_tree A n cap _ x k w h hc hn hok rfl
  have e : F.tick x k.len = ticks (one x k.lvs) := by rw [one_ticks, lvs_ticks]
  rcases rt_cases n (k.dep + 1) (F.tick x k.len) with ⟨h0, h1, h2, h3⟩ | h0
  · rw [h0] at hR
    rw [e] at h0
    exact (of_tree A n cap x k w h hc hok h1 h2 h3 hR).mono fun _ _ h => ofg_of h0 h
  · rw [e] at h0 hR
    exact (of_wrong A n cap w _ hR h0).mono fun _ _ h => ofg_wrong h0 h
end Go.Proofs.YtfmndmhjjbeokaaGreatDoor
namespace Go.Proofs.YtfmndmhjjbeokaaGreatDoor
open Go.RowKit Tab
set_option linter.unusedSimpArgs false
set_option linter.unusedVariables false
structure TbV where
  A : Option Addr
  n : Nat
  c : Nat
  x : Nd
  k : F
def tcl (t : TbV) : List Value := [.slice t.A t.n t.c]
structure TbAt (w : World) (B : Nat) (t : TbV) : Prop where
  rd : RdN w B t.A t.n (t.x :: t.k.flat)
  cap : t.n ≤ t.c
  ok : (F.cons t.x t.k .nil).ok
  few : t.n ≤ 1048576
theorem TbAt.on {w w' : World} {t : TbV} (h : TbAt w w.heap.size t) (hb : Below w.heap.size w w') : TbAt w' w'.heap.size t := ⟨h.rd.on hb, h.cap, h.ok, h.few⟩
structure PtAt (w : World) (B : Nat) (x : PtV) : Prop where
  per : In64 x.per
  name : x.name.size ≤ 1048576
  few : x.pn ≤ 1048576
  procs : ProcsAt w B x.pa x.pn
theorem PtAt.on {w w' : World} {x : PtV} (h : PtAt w w.heap.size x) (hb : Below w.heap.size w w') : PtAt w' w'.heap.size x := ⟨h.per, h.name, h.few, h.procs.on hb⟩
end Go.Proofs.YtfmndmhjjbeokaaGreatDoor
namespace Go.Proofs.YtfmndmhjjbeokaaGreatDoor
open Go.RowKit Tab
set_option linter.unusedSimpArgs false
set_option linter.unusedVariables false
end Go.Proofs.YtfmndmhjjbeokaaGreatDoor
