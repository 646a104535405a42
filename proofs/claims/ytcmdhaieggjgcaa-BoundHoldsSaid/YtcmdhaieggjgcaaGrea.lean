/- Who sways one by any number of steps: by the program. -/
import Derived.Test.YtcmdhaieggjgcaaGfre
namespace Go.Proofs.Ytcmdhaieggjgcaa
open Go.RowKit Tab
set_option linter.unusedSimpArgs false
set_option linter.unusedVariables false

/-- A row of it grows by one. -/
theorem Stp.grow {w w1 : World} {g n B : Nat} {R : Nat → Option Addr × Nat} {S : Nat → List Nat} (h : Stp w B g n n R S) {t f c' : Nat} {A' : Option Addr} (ht : t < n)
    (ho : OwnV 3 1 w1 B A' ((S t).length + 1) c' (is (cast (S t ++ [f])))) (hg : Grew (R t).1 A' w w1) :
    Stp (w1.setCell ⟨g, t, none⟩ (.slice A' ((S t).length + 1) c')) B g n n (put1 R t (A', c')) (put1 S t (S t ++ [f])) := by
  obtain ⟨F, h1, h2⟩ := h.outer
  have hgne : some g ≠ obk (R t).1 := fun e => h.ne t ht e.symm
  have hV : Vec w1 g n F := h1.keep (hg.gb.block g h1.lt hgne) hg.gb.size
  have hAg : obk A' ≠ some g := by
    rcases hg.at_ with e | ⟨x, e, hx⟩
    · rw [e]; exact h.ne t ht
    · rw [e]; intro e2; injection e2 with e2; have := h1.lt; omega
  have hset : ∀ A n c l, OwnV 3 1 w1 B A n c l → obk A ≠ some g → ∀ v, OwnV 3 1 (w1.setCell ⟨g, t, none⟩ v) B A n c l := fun A n c l ho hne v =>
    ho.keep' fun b hb => Below.heap_setCell _ _ _ _ fun e => hne (by rw [hb]; exact congrArg some e)
  have hold : ∀ i, i < n → i ≠ t → OwnV 3 1 w1 B (R i).1 (S i).length (R i).2 (is (cast (S i))) := fun i hi hne =>
    (h.rows i hi).keep' fun b hb => hg.gb.block b ((h.rows i hi).obk_ge hb).2 fun e => h.inj t i b ht hi (fun e => hne e.symm) e.symm hb
  refine ⟨⟨_, hV.set t _, fun i hi => ?_⟩, fun i hi => ?_, h.low, fun i hi => ?_, fun i j b hi hj hij e => ?_⟩
  · by_cases e : i = t
    · subst e; rw [put1_same, put1_same, put1_same, List.length_append]; rfl
    · rw [put1_other e, put1_other e, put1_other e]; exact h2 i hi
  · by_cases e : i = t
    · subst e; rw [put1_same, put1_same, List.length_append]; exact hset _ _ _ _ ho hAg _
    · rw [put1_other e, put1_other e]; exact hset _ _ _ _ (hold i hi e) (h.ne i hi) _
  · by_cases e : i = t
    · subst e; rw [put1_same]; exact hAg
    · rw [put1_other e]; exact h.ne i hi
  · by_cases e1 : i = t
    · subst e1
      have e2 : j ≠ i := fun e => hij e.symm
      rw [put1_same] at e
      rw [put1_other e2]
      intro e3
      rcases hg.at_ with e4 | ⟨x, e4, hx⟩
      · exact h.inj i j b hi hj hij (by rw [← e4]; exact e) e3
      · have h3 := ((h.rows j hj).obk_ge e3).2
        rw [e4] at e
        injection e with e
        omega
    · rw [put1_other e1] at e
      by_cases e2 : j = t
      · subst e2
        rw [put1_same]
        intro e3
        rcases hg.at_ with e4 | ⟨x, e4, hx⟩
        · exact h.inj i j b hi hj hij e (by rw [← e4]; exact e3)
        · have h3 := ((h.rows i hi).obk_ge e).2
          rw [e4] at e3
          injection e3 with e3
          omega
      · rw [put1_other e2]; exact h.inj i j b hi hj hij e
theorem Stp.congr {w : World} {g n k B : Nat} {R : Nat → Option Addr × Nat} {S T : Nat → List Nat} (h : Stp w B g n k R S) (e : ∀ i, i < k → S i = T i) : Stp w B g n k R T := by
  obtain ⟨f, h1, h2⟩ := h.outer
  exact ⟨⟨f, h1, fun i hi => by rw [← e i hi]; exact h2 i hi⟩, fun i hi => by rw [← e i hi]; exact h.rows i hi, h.low, h.ne, h.inj⟩
theorem backL_more {L : List (Nat × Nat)} {i f t : Nat} (h : L[i]? = some (f, t)) (x : Nat) : put1 (backL (L.take i)) t (backL (L.take i) t ++ [f]) x = backL (L.take (i + 1)) x := by
  rw [take_one h, backL_snoc]
  by_cases e : x = t
  · subst e; rw [put1_same, if_pos rfl]
  · rw [put1_other e, if_neg (fun e2 => e e2.symm)]
theorem backL_len (L : List (Nat × Nat)) (x : Nat) : (backL L x).length ≤ L.length := by
  unfold backL
  rw [List.length_map]
  exact List.length_filter_le _ _
end Go.Proofs.Ytcmdhaieggjgcaa
