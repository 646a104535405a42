/- Of, of any table: by the program and by the document's own answer. -/
import Derived.Test.YtoaocdmcjjohgaaRof
namespace Go.Proofs.Ytoaocdmcjjohgaa
open Go.RowKit Tab
set_option linter.unusedSimpArgs false
set_option linter.unusedVariables false

/-- Why a table of n nodes, so deep, of these leaves, has no runs; 0 if it has. -/
def ofz (n D : Nat) (L : List Rn) : Int := if rt n D (ticks L) = 0 then (if 96 < (tidy L).length then 3 else 0) else rt n D (ticks L)
theorem ofz_ok {n D : Nat} {L : List Rn} (h : ofz n D L = 0) : n ≤ 128 ∧ D ≤ 16 ∧ ticks L ≤ 4096 ∧ (tidy L).length ≤ 96 := by
  unfold ofz at h
  rcases rt_cases n D (ticks L) with ⟨h0, h1, h2, h3⟩ | h0
  · rw [if_pos h0] at h
    split at h
    · omega
    · exact ⟨h1, h2, h3, by omega⟩
  · rw [if_neg h0] at h
    exact absurd h h0
theorem ofz_rep {n D m : Nat} {L : List Rn} (h : ofz n D L = 0) (hD : D ≤ 15) (h2 : ¬ ofz (1 + n) (D + 1) (reps m L) = 0) : 4096 < ticks L * m ∨ 96 < (tidy L).length * m ∨ 128 ≤ n := by
  obtain ⟨k1, k2, k3, k4⟩ := ofz_ok h
  by_cases h1 : 128 ≤ n
  · exact .inr (.inr h1)
  · by_cases h3 : 4096 < ticks L * m
    · exact .inl h3
    · have e : rt (1 + n) (D + 1) (ticks (reps m L)) = 0 := by
        unfold rt
        rw [ticks_reps, Nat.mul_comm, if_neg (by omega), if_neg (by omega), if_neg (by omega)]
      unfold ofz at h2
      rw [if_pos e] at h2
      have := tidy_reps_le m L
      split at h2
      · exact .inr (.inl (by omega))
      · exact absurd rfl h2
/-- It answers so much, and where it is 0 a row of runs, new. -/
def OfG (z : Int) (T : List Rn) (w : World) (e : Ending) (w' : World) : Prop :=
  ∃ (A : Option Addr) (m c : Nat), e = .returned (.tuple #[.slice A m c, .int .i64 z]) ∧ m ≤ c ∧ (z = 0 → RdR w' w'.heap.size A m T) ∧ Below w.heap.size w w'
theorem ofg_of {n D : Nat} {L : List Rn} {w w' : World} {e : Ending} (h0 : rt n D (ticks L) = 0) (h : OfR (tidy L) w e w') : OfG (ofz n D L) (tidy L) w e w' := by
  unfold OfR at h
  unfold OfG ofz
  rw [if_pos h0]
  split at h
  · rename_i h1
    rw [if_pos h1]
    exact ⟨none, 0, 0, h.1, Nat.le_refl _, fun h => by omega, h.2⟩
  · rename_i h1
    rw [if_neg h1]
    obtain ⟨A, c, rfl, hr, hc, hb, _⟩ := h
    exact ⟨A, _, c, rfl, hc, fun _ => hr, hb⟩
theorem ofg_wrong {n D : Nat} {L : List Rn} {w w' : World} {e : Ending} (h0 : ¬ rt n D (ticks L) = 0) (h : Ans (.tuple #[.slice none 0 0, .int .i64 (rt n D (ticks L))]) w e w') : OfG (ofz n D L) (tidy L) w e w' := by
  unfold OfG ofz
  rw [if_neg h0]
  exact ⟨none, 0, 0, h.1, Nat.le_refl _, fun h => absurd h h0, h.2⟩
theorem rof_any (A : Option Addr) (n cap : Nat) (x : Nd) (k : F) (w : World) (h : RdN w w.heap.size A n (x :: k.flat)) (hc : n ≤ cap) (hok : (F.cons x k .nil).ok) (hn : n ≤ 1048576) :
    Calls Try.prog 13 #[.slice A n cap] w (OfG (ofz n (k.dep + 1) (one x k.lvs)) (tidy (one x k.lvs)) w) := by
  have hR := rright_tree A n cap _ x k w h hc hn hok rfl
  have e : F.tick x k.len = ticks (one x k.lvs) := by rw [one_ticks, lvs_ticks]
  rcases rt_cases n (k.dep + 1) (F.tick x k.len) with ⟨h0, h1, h2, h3⟩ | h0
  · rw [h0] at hR
    rw [e] at h0
    exact (rof_tree A n cap x k w h hc hok h1 h2 h3 hR).mono fun _ _ h => ofg_of h0 h
  · rw [e] at h0 hR
    exact (rof_wrong A n cap w _ hR h0).mono fun _ _ h => ofg_wrong h0 h
/-- What the runs of a table that may be are. -/
theorem ofz_runs {x : Nd} {k : F} (hok : (F.cons x k .nil).ok) : 0 < (tidy (one x k.lvs)).length ∧ ∀ r ∈ tidy (one x k.lvs), 1 ≤ r.n ∧ -1 ≤ r.p ∧ r.p ≤ 5 := by
  constructor
  · have h1 := F.len_pos hok (by simp [F.cnt])
    have h2 : ticks (tidy (one x k.lvs)) = F.tick x k.len := by rw [ticks_tidy, one_ticks, lvs_ticks]
    rcases Nat.eq_zero_or_pos (tidy (one x k.lvs)).length with h | h
    · have e := List.eq_nil_of_length_eq_zero h
      rw [e] at h2
      simp only [ticks, F.len] at h1 h2
      omega
    · exact h
  · intro r hr
    refine ⟨(tidy_apart _).pos r hr, ?_⟩
    obtain ⟨q, hq, e⟩ := tidy_part hr
    have := lvs_parts hok q (by simpa [F.lvs] using hq)
    rw [e] at this
    exact this
end Go.Proofs.Ytoaocdmcjjohgaa
