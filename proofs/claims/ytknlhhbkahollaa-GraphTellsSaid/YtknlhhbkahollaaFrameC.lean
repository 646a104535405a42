/- A configuration among a law's arguments. -/
import Derived.Test.YtknlhhbkahollaaFrameM
import Derived.Test.YtknlhhbkahollaaGway
import Derived.Deep.Slices
namespace Go.Proofs.Ytknlhhbkahollaa
open Go.ChangeShapes Go.WideShapes Go.ChangeAt Go.RowKit Go.Deep Tab

instance : Inhabited PtV := ⟨⟨⟨#[]⟩, 0, 0, false, false, none, 0, 0, 0, 0, 0, 0, 0⟩⟩
instance : Inhabited ChV := ⟨⟨0, 0, false, 0, 0, 0⟩⟩
theorem slice_form {H : Type} {enc : TypeId × Value → H} {W : World} {n : Nat} {t e : TypeId} {cs : List Value} {y : DataW H × List MemPlace} (ht : Try.prog.underlying t = some (.slice e)) (h : DataW.trod enc Try.prog W 0 (fun _ => true) true n t cs = some y) : ∃ A m k, cs = [.slice A m k] := by
  rcases open_slice ht h with ⟨hcs, _⟩ | ⟨a, len, cap, m, q, D, Pl, hcs, _⟩
  · exact ⟨none, 0, 0, hcs⟩
  · exact ⟨some a, len, cap, hcs⟩
/-- A slice of structs, each read by its cells. -/
theorem rows_view {α : Type} [Inhabited α] (f : α → List Value) (s : Nat) (hf : ∀ x, (f x).length = s) (hs : 0 < s) {H : Type} {enc : TypeId × Value → H} {W : World} {t e : TypeId} (ht : Try.prog.underlying t = some (.slice e)) (hc : Try.prog.cellsOf e = s)
    (key : ∀ (n : Nat) (cs : List Value) (y : DataW H × List MemPlace), DataW.trod enc Try.prog W 0 (fun _ => true) true n e cs = some y → ∃ x, cs = f x) {fuel : Nat} {cs : List Value} {y : DataW H × List MemPlace} (h : DataW.trod enc Try.prog W 0 (fun _ => true) true fuel t cs = some y) :
    ∃ (A : Option Addr) (n k : Nat) (L : List α), cs = [.slice A n k] ∧ RdB f W W.heap.size A n L ∧ n ≤ k ∧ k ≤ maxLen := by
  rcases open_slice ht h with ⟨hcs, _⟩ | ⟨a, len, cap, m, q, D, Pl, hcs, hb, hl, hm, hmm, hx, hi⟩
  · exact ⟨none, 0, 0, [], hcs, ⟨rfl, RdV.nil⟩, Nat.le_refl _, Nat.zero_le _⟩
  · have hmc : m = cap := by rw [hmm]; simp
    obtain ⟨g, hg⟩ := choose_lt (α := α) (n := len) (p := fun i x => ∀ j, j < s → W.cell? (a.add (i * s + j)) = (f x)[j]?) (fun i hin => by
      obtain ⟨cs', h1, h2⟩ := hi i (by omega)
      rw [hc] at h1
      obtain ⟨_, hcl, hat⟩ := World.cells?_some h1
      obtain ⟨x, rfl⟩ := key _ _ _ h2
      exact ⟨x, fun j hj => by rw [← Go.Proofs.Ytknlhhbkahollaa.add_add]; exact hat j hj⟩)
    refine ⟨some a, len, cap, (List.range len).map g, hcs, ⟨by simp, fun h0 => ⟨a, rfl, ?_, fun j v hj => ?_⟩⟩, hl, hm⟩
    · have hlen : 0 < len := by
        rw [flat_len hf, List.length_map, List.length_range] at h0
        exact Nat.pos_of_mul_pos_right h0
      have h1 := hg 0 hlen 0 hs
      have hne : (f (g 0))[0]? ≠ none := by
        rw [List.getElem?_eq_getElem (by rw [hf]; exact hs)]
        exact fun e => by cases e
      obtain ⟨u, hu⟩ := Option.ne_none_iff_exists'.1 hne
      rw [hu] at h1
      have h2 := World.block_lt_of_cell? W _ h1
      rwa [Go.Proofs.Ytknlhhbkahollaa.add_block] at h2
    · have hjl := (List.getElem?_eq_some_iff.1 hj).1
      rw [flat_len hf, List.length_map, List.length_range] at hjl
      have hi1 : j / s < len := Nat.div_lt_of_lt_mul (by rw [Nat.mul_comm]; exact hjl)
      have hr1 : j % s < s := Nat.mod_lt _ hs
      have ej : j / s * s + j % s = j := by rw [Nat.mul_comm]; exact Nat.div_add_mod j s
      have h3 := flat_get hf ((List.range len).map g) (j / s) (j % s) (g (j / s)) (by simp [hi1]) hr1
      rw [ej, hj] at h3
      have h4 := hg (j / s) hi1 (j % s) hr1
      rw [ej] at h4
      rw [h4, ← h3]
set_option maxRecDepth 100000 in
theorem part_key {H : Type} {enc : TypeId × Value → H} {W : World} {n : Nat} {cs : List Value} {y : DataW H × List MemPlace} (h : DataW.trod enc Try.prog W 0 (fun _ => true) true n 54 cs = some y) : ∃ x : PtV, cs = pcl x := by
  obtain ⟨ys, n', _, _, hcl, hyl, hfd⟩ := DataW.trod_struct Try.underlying54 h
  rw [show Try.prog.cellsOf 54 = 11 by kernel_rfl] at hcl
  match cs, hcl with
  | [v0, v1, v2, v3, v4, v5, v6, v7, v8, v9, v10], _ =>
    have hyl' : ys.length = 7 := hyl
    have f0 := hfd 0 _ rfl
    change DataW.trod enc Try.prog W 0 (fun _ => true) true n' 9 (List.take (Try.prog.cellsOf 9) [v0, v1, v2, v3, v4, v5, v6, v7, v8, v9, v10]) = ys[0]? at f0
    rw [show Try.prog.cellsOf 9 = 1 by kernel_rfl] at f0
    simp only [List.take_succ_cons, List.take_zero] at f0
    rw [List.getElem?_eq_getElem (by omega)] at f0
    obtain ⟨z0, e0, _, _⟩ := DataW.trod_string Try.underlying9 f0
    simp only [List.cons.injEq, and_true] at e0
    subst e0
    have f1 := hfd 1 _ rfl
    change DataW.trod enc Try.prog W 0 (fun _ => true) true n' 2 (List.take (Try.prog.cellsOf 2) [v1, v2, v3, v4, v5, v6, v7, v8, v9, v10]) = ys[1]? at f1
    rw [show Try.prog.cellsOf 2 = 1 by kernel_rfl] at f1
    simp only [List.take_succ_cons, List.take_zero] at f1
    rw [List.getElem?_eq_getElem (by omega)] at f1
    obtain ⟨z1, e1, _, _⟩ := DataW.trod_int Try.underlying2 f1
    simp only [List.cons.injEq, and_true] at e1
    subst e1
    have f2 := hfd 2 _ rfl
    change DataW.trod enc Try.prog W 0 (fun _ => true) true n' 2 (List.take (Try.prog.cellsOf 2) [v2, v3, v4, v5, v6, v7, v8, v9, v10]) = ys[2]? at f2
    rw [show Try.prog.cellsOf 2 = 1 by kernel_rfl] at f2
    simp only [List.take_succ_cons, List.take_zero] at f2
    rw [List.getElem?_eq_getElem (by omega)] at f2
    obtain ⟨z2, e2, _, _⟩ := DataW.trod_int Try.underlying2 f2
    simp only [List.cons.injEq, and_true] at e2
    subst e2
    have f3 := hfd 3 _ rfl
    change DataW.trod enc Try.prog W 0 (fun _ => true) true n' 4 (List.take (Try.prog.cellsOf 4) [v3, v4, v5, v6, v7, v8, v9, v10]) = ys[3]? at f3
    rw [show Try.prog.cellsOf 4 = 1 by kernel_rfl] at f3
    simp only [List.take_succ_cons, List.take_zero] at f3
    rw [List.getElem?_eq_getElem (by omega)] at f3
    obtain ⟨z3, e3, _⟩ := DataW.trod_bool Try.underlying4 f3
    simp only [List.cons.injEq, and_true] at e3
    subst e3
    have f4 := hfd 4 _ rfl
    change DataW.trod enc Try.prog W 0 (fun _ => true) true n' 4 (List.take (Try.prog.cellsOf 4) [v4, v5, v6, v7, v8, v9, v10]) = ys[4]? at f4
    rw [show Try.prog.cellsOf 4 = 1 by kernel_rfl] at f4
    simp only [List.take_succ_cons, List.take_zero] at f4
    rw [List.getElem?_eq_getElem (by omega)] at f4
    obtain ⟨z4, e4, _⟩ := DataW.trod_bool Try.underlying4 f4
    simp only [List.cons.injEq, and_true] at e4
    subst e4
    have f5 := hfd 5 _ rfl
    change DataW.trod enc Try.prog W 0 (fun _ => true) true n' 51 (List.take (Try.prog.cellsOf 51) [v5, v6, v7, v8, v9, v10]) = ys[5]? at f5
    rw [show Try.prog.cellsOf 51 = 1 by kernel_rfl] at f5
    simp only [List.take_succ_cons, List.take_zero] at f5
    rw [List.getElem?_eq_getElem (by omega)] at f5
    obtain ⟨A5, n5, k5, e5⟩ := slice_form Try.underlying51 f5
    simp only [List.cons.injEq, and_true] at e5
    subst e5
    have f6 := hfd 6 _ rfl
    change DataW.trod enc Try.prog W 0 (fun _ => true) true n' 52 (List.take (Try.prog.cellsOf 52) [v6, v7, v8, v9, v10]) = ys[6]? at f6
    rw [show Try.prog.cellsOf 52 = 5 by kernel_rfl] at f6
    simp only [List.take_succ_cons, List.take_zero] at f6
    rw [List.getElem?_eq_getElem (by omega)] at f6
    obtain ⟨zs, m', _, _, _, hzl, hzd⟩ := DataW.trod_array Try.underlying52 f6
    have g0 := hzd 0 (by omega)
    rw [show Try.prog.cellsOf 3 = 1 by kernel_rfl] at g0
    rw [List.getElem?_eq_getElem (by omega)] at g0
    change DataW.trod enc Try.prog W 0 (fun _ => true) true m' 3 [v6] = _ at g0
    obtain ⟨z6, e6_0, _, _⟩ := DataW.trod_int Try.underlying3 g0
    simp only [List.cons.injEq, and_true] at e6_0
    subst e6_0
    have g1 := hzd 1 (by omega)
    rw [show Try.prog.cellsOf 3 = 1 by kernel_rfl] at g1
    rw [List.getElem?_eq_getElem (by omega)] at g1
    change DataW.trod enc Try.prog W 0 (fun _ => true) true m' 3 [v7] = _ at g1
    obtain ⟨z7, e6_1, _, _⟩ := DataW.trod_int Try.underlying3 g1
    simp only [List.cons.injEq, and_true] at e6_1
    subst e6_1
    have g2 := hzd 2 (by omega)
    rw [show Try.prog.cellsOf 3 = 1 by kernel_rfl] at g2
    rw [List.getElem?_eq_getElem (by omega)] at g2
    change DataW.trod enc Try.prog W 0 (fun _ => true) true m' 3 [v8] = _ at g2
    obtain ⟨z8, e6_2, _, _⟩ := DataW.trod_int Try.underlying3 g2
    simp only [List.cons.injEq, and_true] at e6_2
    subst e6_2
    have g3 := hzd 3 (by omega)
    rw [show Try.prog.cellsOf 3 = 1 by kernel_rfl] at g3
    rw [List.getElem?_eq_getElem (by omega)] at g3
    change DataW.trod enc Try.prog W 0 (fun _ => true) true m' 3 [v9] = _ at g3
    obtain ⟨z9, e6_3, _, _⟩ := DataW.trod_int Try.underlying3 g3
    simp only [List.cons.injEq, and_true] at e6_3
    subst e6_3
    have g4 := hzd 4 (by omega)
    rw [show Try.prog.cellsOf 3 = 1 by kernel_rfl] at g4
    rw [List.getElem?_eq_getElem (by omega)] at g4
    change DataW.trod enc Try.prog W 0 (fun _ => true) true m' 3 [v10] = _ at g4
    obtain ⟨z10, e6_4, _, _⟩ := DataW.trod_int Try.underlying3 g4
    simp only [List.cons.injEq, and_true] at e6_4
    subst e6_4
    exact ⟨⟨z0, z1, z2, z3, z4, A5, n5, k5, z6, z7, z8, z9, z10⟩, rfl⟩
set_option maxRecDepth 100000 in
theorem chan_key {H : Type} {enc : TypeId × Value → H} {W : World} {n : Nat} {cs : List Value} {y : DataW H × List MemPlace} (h : DataW.trod enc Try.prog W 0 (fun _ => true) true n 36 cs = some y) : ∃ x : ChV, cs = cc x := by
  obtain ⟨ys, n', _, _, hcl, hyl, hfd⟩ := DataW.trod_struct Try.underlying36 h
  rw [show Try.prog.cellsOf 36 = 6 by kernel_rfl] at hcl
  match cs, hcl with
  | [v0, v1, v2, v3, v4, v5], _ =>
    have hyl' : ys.length = 6 := hyl
    have f0 := hfd 0 _ rfl
    change DataW.trod enc Try.prog W 0 (fun _ => true) true n' 3 (List.take (Try.prog.cellsOf 3) [v0, v1, v2, v3, v4, v5]) = ys[0]? at f0
    rw [show Try.prog.cellsOf 3 = 1 by kernel_rfl] at f0
    simp only [List.take_succ_cons, List.take_zero] at f0
    rw [List.getElem?_eq_getElem (by omega)] at f0
    obtain ⟨z0, e0, _, _⟩ := DataW.trod_int Try.underlying3 f0
    simp only [List.cons.injEq, and_true] at e0
    subst e0
    have f1 := hfd 1 _ rfl
    change DataW.trod enc Try.prog W 0 (fun _ => true) true n' 3 (List.take (Try.prog.cellsOf 3) [v1, v2, v3, v4, v5]) = ys[1]? at f1
    rw [show Try.prog.cellsOf 3 = 1 by kernel_rfl] at f1
    simp only [List.take_succ_cons, List.take_zero] at f1
    rw [List.getElem?_eq_getElem (by omega)] at f1
    obtain ⟨z1, e1, _, _⟩ := DataW.trod_int Try.underlying3 f1
    simp only [List.cons.injEq, and_true] at e1
    subst e1
    have f2 := hfd 2 _ rfl
    change DataW.trod enc Try.prog W 0 (fun _ => true) true n' 4 (List.take (Try.prog.cellsOf 4) [v2, v3, v4, v5]) = ys[2]? at f2
    rw [show Try.prog.cellsOf 4 = 1 by kernel_rfl] at f2
    simp only [List.take_succ_cons, List.take_zero] at f2
    rw [List.getElem?_eq_getElem (by omega)] at f2
    obtain ⟨z2, e2, _⟩ := DataW.trod_bool Try.underlying4 f2
    simp only [List.cons.injEq, and_true] at e2
    subst e2
    have f3 := hfd 3 _ rfl
    change DataW.trod enc Try.prog W 0 (fun _ => true) true n' 3 (List.take (Try.prog.cellsOf 3) [v3, v4, v5]) = ys[3]? at f3
    rw [show Try.prog.cellsOf 3 = 1 by kernel_rfl] at f3
    simp only [List.take_succ_cons, List.take_zero] at f3
    rw [List.getElem?_eq_getElem (by omega)] at f3
    obtain ⟨z3, e3, _, _⟩ := DataW.trod_int Try.underlying3 f3
    simp only [List.cons.injEq, and_true] at e3
    subst e3
    have f4 := hfd 4 _ rfl
    change DataW.trod enc Try.prog W 0 (fun _ => true) true n' 34 (List.take (Try.prog.cellsOf 34) [v4, v5]) = ys[4]? at f4
    rw [show Try.prog.cellsOf 34 = 1 by kernel_rfl] at f4
    simp only [List.take_succ_cons, List.take_zero] at f4
    rw [List.getElem?_eq_getElem (by omega)] at f4
    obtain ⟨z4, e4, _, _⟩ := DataW.trod_int Try.underlying34 f4
    simp only [List.cons.injEq, and_true] at e4
    subst e4
    have f5 := hfd 5 _ rfl
    change DataW.trod enc Try.prog W 0 (fun _ => true) true n' 2 (List.take (Try.prog.cellsOf 2) [v5]) = ys[5]? at f5
    rw [show Try.prog.cellsOf 2 = 1 by kernel_rfl] at f5
    simp only [List.take_succ_cons, List.take_zero] at f5
    rw [List.getElem?_eq_getElem (by omega)] at f5
    obtain ⟨z5, e5, _, _⟩ := DataW.trod_int Try.underlying2 f5
    simp only [List.cons.injEq, and_true] at e5
    subst e5
    exact ⟨⟨z0, z1, z2, z3, z4, z5⟩, rfl⟩
set_option maxRecDepth 100000 in
theorem config_view {H : Type} {enc : TypeId × Value → H} {W : World} {v : Value} {d : DataW H} {p : List MemPlace} {base : Nat} (hv : Value.okWide Try.prog W .any base 26 v)
    (h : DataW.Trod enc Try.prog W 0 (fun _ => true) true 26 v d p) : ∃ (A1 A2 A3 : Option Addr) (n1 n2 n3 k1 k2 k3 : Nat) (P : List PtV) (C : List ChV), v = .agg #[.slice A1 n1 k1, .slice A2 n2 k2, .slice A3 n3 k3] ∧ CfW W W.heap.size A1 A2 n1 n2 P C ∧ n1 ≤ k1 ∧ n2 ≤ k2 ∧ k1 ≤ maxLen ∧ k2 ≤ maxLen := by
  obtain ⟨cs, rfl, hsz⟩ := okWide_struct Try.underlying26 hv
  obtain ⟨fuel, hf⟩ := h
  obtain ⟨ys, n', _, _, hcl, hyl, hfd⟩ := DataW.trod_struct Try.underlying26 hf
  rw [show Try.prog.cellsOf 26 = 3 by kernel_rfl] at hsz
  obtain ⟨l, rfl⟩ : ∃ l : List Value, cs = l.toArray := ⟨cs.toList, by simp⟩
  have hl : l.length = 3 := by simpa using hsz
  match l, hl with
  | [v0, v1, v2], _ =>
    have hyl' : ys.length = 3 := hyl
    have f0 := hfd 0 _ rfl
    have f1 := hfd 1 _ rfl
    have f2 := hfd 2 _ rfl
    change DataW.trod enc Try.prog W 0 (fun _ => true) true n' 22 (List.take (Try.prog.cellsOf 22) [v0, v1, v2]) = ys[0]? at f0
    change DataW.trod enc Try.prog W 0 (fun _ => true) true n' 23 (List.take (Try.prog.cellsOf 23) [v1, v2]) = ys[1]? at f1
    change DataW.trod enc Try.prog W 0 (fun _ => true) true n' 24 (List.take (Try.prog.cellsOf 24) [v2]) = ys[2]? at f2
    rw [show Try.prog.cellsOf 22 = 1 by kernel_rfl] at f0
    rw [show Try.prog.cellsOf 23 = 1 by kernel_rfl] at f1
    rw [show Try.prog.cellsOf 24 = 1 by kernel_rfl] at f2
    simp only [List.take_succ_cons, List.take_zero] at f0 f1 f2
    rw [List.getElem?_eq_getElem (by omega)] at f0 f1 f2
    obtain ⟨A1, n1, k1, P, e0, hP, b1, b2⟩ := rows_view pcl 11 pcl_len (by omega) Try.underlying22 (by kernel_rfl) (fun n cs y h => part_key h) f0
    obtain ⟨A2, n2, k2, C, e1, hC, b3, b4⟩ := rows_view cc 6 cc_len (by omega) Try.underlying23 (by kernel_rfl) (fun n cs y h => chan_key h) f1
    obtain ⟨A3, n3, k3, e2⟩ := slice_form Try.underlying24 f2
    simp only [List.cons.injEq, and_true] at e0 e1 e2
    subst e0 e1 e2
    exact ⟨A1, A2, A3, n1, n2, n3, k1, k2, k3, P, C, rfl, ⟨hP, hC⟩, b1, b3, b2, b4⟩
end Go.Proofs.Ytknlhhbkahollaa
