/- Tidying a row of runs in memory, by the program. -/
import Derived.Test.YtjbflndlfdekiaaMore
import Derived.Test.YtjbflndlfdekiaaLow3
import Derived.Test.YtjbflndlfdekiaaRunl
import Derived.StillTailTactics
import Derived.Laws.OwnMore
namespace Go.Proofs.Ytjbflndlfdekiaa
open Go.RowKit Tab
set_option linter.unusedSimpArgs false
set_option linter.unusedVariables false

theorem tidy_take_ticks (L : List Rn) (i : Nat) : ticks (tidy (L.take i)) ≤ ticks L := by rw [ticks_tidy]; exact take_ticks L i
theorem tidy_one {L : List Rn} {i : Nat} {o : List Rn} {y r : Rn} (hr : L[i]? = some r) (ho : tidy (L.take i) = o ++ [y]) : y.n + r.n ≤ ticks L := by
  have h1 := tidy_take_ticks L (i + 1)
  rw [tidy_more hr, ho, ticks_push, ticks_append] at h1
  simp only [ticks] at h1
  omega
/-- The last run of a row of the call's own. -/
structure LastR (W : World) (B : Nat) (ad : Addr) (k c : Nat) (o : List Rn) (y : Rn) : Prop where
  g : ∃ g, ad = ⟨g, 0, none⟩ ∧ OwnV 41 2 W B (some ⟨g, 0, none⟩) (k + 1) c (rs (o ++ [y]))
  len : o.length = k
  c0 : W.cell? (ad.add (k * 2)) = some (.int .i64 y.p)
  c1 : W.cell? ⟨(ad.add (k * 2)).block, (ad.add (k * 2)).off + 1, none⟩ = some (.int .i64 (y.n : Int))
  f1 : W.frozen? ⟨(ad.add (k * 2)).block, (ad.add (k * 2)).off + 1, none⟩ = false
  lt : ad.block < W.heap.size
theorem add_two (g k : Nat) : (⟨((⟨g, 0, none⟩ : Addr).add (k * 2)).block, ((⟨g, 0, none⟩ : Addr).add (k * 2)).off + 1, none⟩ : Addr) = ⟨g, k * 2 + 1, none⟩ := by
  unfold Addr.add
  split
  · rename_i h
    rw [h]
  · simp
theorem add_one' (g k : Nat) : (⟨g, 0, none⟩ : Addr).add k = ⟨g, k, none⟩ := by
  unfold Addr.add
  split
  · rename_i h
    rw [h]
  · simp
theorem LastR.of {W : World} {B m c : Nat} {A : Option Addr} {o : List Rn} {y : Rn} (h : OwnV 41 2 W B A m c (rs (o ++ [y]))) : ∃ (ad : Addr) (k : Nat), A = some ad ∧ m = k + 1 ∧ LastR W B ad k c o y := by
  have hl := h.len
  rw [rs_length, List.length_append, List.length_singleton] at hl
  obtain ⟨k, hk⟩ : ∃ k, o.length = k := ⟨_, rfl⟩
  have hm : m = k + 1 := by omega
  subst hm
  obtain ⟨g, rfl, hg, hlt⟩ := h.block (by omega)
  have hget : (o ++ [y])[k]'(by simp; omega) = y := by
    simp [← hk]
  obtain ⟨e0, e1⟩ := rs_get (o ++ [y]) k (by simp; omega)
  rw [hget] at e0 e1
  refine ⟨_, k, rfl, rfl, ⟨g, rfl, h⟩, hk, ?_, ?_, ?_, hlt⟩
  · rw [add_one']
    exact (World.ownsRow.cellAt h (k * 2) (by omega)).trans e0
  · rw [add_two]
    exact (World.ownsRow.cellAt h (k * 2 + 1) (by omega)).trans e1
  · rw [add_two]
    exact World.ownsRow.frozenAt h _
/-- More ticks for the last one. -/
theorem LastR.stored {W : World} {B k c : Nat} {ad : Addr} {o : List Rn} {y : Rn} (h : LastR W B ad k c o y) (N : Nat) :
    OwnV 41 2 (W.setCell ⟨(ad.add (k * 2)).block, (ad.add (k * 2)).off + 1, none⟩ (.int .i64 (N : Int))) B (some ad) (k + 1) c (rs (o ++ [⟨y.p, N⟩])) ∧
      ∀ V, Below B V W → Below B V (W.setCell ⟨(ad.add (k * 2)).block, (ad.add (k * 2)).off + 1, none⟩ (.int .i64 (N : Int))) := by
  obtain ⟨g, rfl, hw⟩ := h.g
  rw [add_two]
  have h1 := (World.ownsRow.stored hw (k * 2 + 1) (.int .i64 (N : Int))).1
  have e : (rs (o ++ [y])).set (k * 2 + 1) (.int .i64 (N : Int)) = rs (o ++ [⟨y.p, N⟩]) := by
    rw [rs_append, rs_append, List.set_append_right _ _ (by rw [rs_length, h.len]; omega), rs_length, h.len]
    have : k * 2 + 1 - k * 2 = 1 := by omega
    rw [this]
    rfl
  rw [e] at h1
  refine ⟨h1, fun V hV => ?_⟩
  have hge : B ≤ g := by
    obtain ⟨g', e', hb, _⟩ := OwnV.block hw (by omega)
    injection e' with e'
    injection e' with e'
    omega
  exact hV.setCell (p := ⟨g, k * 2 + 1, none⟩) hge _
theorem LastR.drewN {W : World} {B k c : Nat} {ad : Addr} {o : List Rn} {y : Rn} (h : LastR W B ad k c o y) (q : Nat) : LastR (W.drewN q) B ad k c o y := ⟨h.g, h.len, h.c0, h.c1, h.f1, h.lt⟩
theorem LastR.drew {W : World} {B k c : Nat} {ad : Addr} {o : List Rn} {y : Rn} (h : LastR W B ad k c o y) : LastR W.drew B ad k c o y := ⟨h.g, h.len, h.c0, h.c1, h.f1, h.lt⟩

end Go.Proofs.Ytjbflndlfdekiaa
