/- A slice of structs among a law's arguments, whatever the structs. -/
import Derived.Test.YtomaommamjhmmaaDoorGen
import Derived.Deep.Slices
import Derived.Deep.Grids
import Derived.ProofKit
import Derived.OpenShut
import Derived.ChangeOld
import Derived.SizedLaws
namespace Go.Proofs.YtomaommamjhmmaaDoor
open Go.ChangeShapes Go.WideShapes Go.ChangeAt Go.RowKit Go.Deep

/-- A slice of structs, each read by its cells. -/
theorem rows_view {α : Type} [Inhabited α] (f : α → List Value) (s : Nat) (hf : ∀ x, (f x).length = s) (hs : 0 < s) {H : Type} {enc : TypeId × Value → H} {W : World} {t e : TypeId} (ht : Tryd.prog.underlying t = some (.slice e)) (hc : Tryd.prog.cellsOf e = s)
    (key : ∀ (n : Nat) (cs : List Value) (y : DataW H × List MemPlace), DataW.trod enc Tryd.prog W 0 (fun _ => true) true n e cs = some y → ∃ x, cs = f x) {fuel : Nat} {cs : List Value} {y : DataW H × List MemPlace} (h : DataW.trod enc Tryd.prog W 0 (fun _ => true) true fuel t cs = some y) :
    ∃ (A : Option Addr) (n k : Nat) (L : List α), cs = [.slice A n k] ∧ RdB f W W.heap.size A n L ∧ n ≤ k ∧ k ≤ maxLen := by
  rcases open_slice ht h with ⟨hcs, _⟩ | ⟨a, len, cap, m, q, D, Pl, hcs, hb, hl, hm, hmm, hx, hi⟩
  · exact ⟨none, 0, 0, [], hcs, ⟨rfl, RdV.nil⟩, Nat.le_refl _, Nat.zero_le _⟩
  · have hmc : m = cap := by rw [hmm]; simp
    obtain ⟨g, hg⟩ := choose_lt (α := α) (n := len) (p := fun i x => ∀ j, j < s → W.cell? (a.add (i * s + j)) = (f x)[j]?) (fun i hin => by
      obtain ⟨cs', h1, h2⟩ := hi i (by omega)
      rw [hc] at h1
      obtain ⟨_, hcl, hat⟩ := World.cells?_some h1
      obtain ⟨x, rfl⟩ := key _ _ _ h2
      exact ⟨x, fun j hj => by rw [← Go.Proofs.YtomaommamjhmmaaDoor.add_add]; exact hat j hj⟩)
    refine ⟨some a, len, cap, (List.range len).map g, hcs, ⟨by simp, fun h0 => ⟨a, rfl, ?_, fun j v hj => ?_⟩⟩, hl, hm⟩
    · have hlen : 0 < len := by
        rw [flat_len hf, List.length_map, List.length_range] at h0
        exact Nat.pos_of_mul_pos_right h0
      have h1 := hg 0 hlen 0 hs
      have hne : (f (g 0))[0]? ≠ none := by
        rw [List.getElem?_eq_getElem (by rw [hf]; exact hs)]
        exact fun e => by cases e
      obtain ⟨u, hu⟩ := Option.ne_none_iff_exists'.1 hne
      rw [hu] at h1
      have h2 := World.block_lt_of_cell? W _ h1
      rwa [Go.Proofs.YtomaommamjhmmaaDoor.add_block] at h2
    · have hjl := (List.getElem?_eq_some_iff.1 hj).1
      rw [flat_len hf, List.length_map, List.length_range] at hjl
      have hi1 : j / s < len := Nat.div_lt_of_lt_mul (by rw [Nat.mul_comm]; exact hjl)
      have hr1 : j % s < s := Nat.mod_lt _ hs
      have ej : j / s * s + j % s = j := by rw [Nat.mul_comm]; exact Nat.div_add_mod j s
      have h3 := flat_get hf ((List.range len).map g) (j / s) (j % s) (g (j / s)) (by simp [hi1]) hr1
      rw [ej, hj] at h3
      have h4 := hg (j / s) hi1 (j % s) hr1
      rw [ej] at h4
      rw [h4, ← h3]
end Go.Proofs.YtomaommamjhmmaaDoor
