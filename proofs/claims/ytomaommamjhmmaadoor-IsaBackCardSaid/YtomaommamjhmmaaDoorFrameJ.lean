/- The ops' names, that the program's text lays, among a law's premises; instructions among its arguments. -/
import Derived.Test.YtomaommamjhmmaaDoorFrame
import Derived.Test.YtomaommamjhmmaaDoorJd
import Derived.Test.YtomaommamjhmmaaDoorGenF
import Derived.Deep.Slices
import Derived.LaidMore
import Derived.Stop.LaidErr
import Derived.MakeChecks
import Derived.OpenShut
import Derived.Lib.LaidTab
namespace Go.Proofs.YtomaommamjhmmaaDoor
open Go.ChangeShapes Go.WideShapes Go.ChangeAt Go.RowKit Go.Deep

def laid15 : List (String × DataW Unit) := [("horarium/isa.names", Rows.laid_horarium_isa_names)]
theorem door_met (os : Os) (args : Array Value) : laidMetH Tryd.prog laid15 ((World.doorLaid Tryd.prog 24 os).forCall (fun _ _ => 0) ⟨#[], args, []⟩).memory :=
  laidMetH_of_parts3 (fuel := 8) (laidMet_of_run' 8 (by kernel_rfl) (by kernel_rfl)) (by kernel_rfl) (by kernel_rfl)
theorem names_num : Tryd.prog.globalNamed "horarium/isa.names" = some 0 := by kernel_rfl
theorem names_type : (Tryd.prog.globals[0]?).map (·.type) = some 45 := by kernel_rfl
theorem namW_of_laid {W : World} (h : laidMetH Tryd.prog laid15 W) : NamW W := by
  rw [MakeChecks.laidMetH_plain _ _ _ (by kernel_rfl)] at h
  obtain ⟨ps, ⟨g', t', cs, fuel, p, q, hg', ht', hvar, hd, _, _⟩, _⟩ := h
  obtain rfl := Option.some.inj (names_num.symm.trans hg')
  obtain rfl := Option.some.inj (names_type.symm.trans ht')
  obtain ⟨xs, m, _, hx, hcl, hxl, hall⟩ := DataW.trod_array Tryd.underlying45 hd
  have hxs : xs.map (·.1) = opL.map fun s => (DataW.lit (.string s.data.toList) : DataW Unit) := by
    have h1 := congrArg Prod.fst hx
    have h2 : (Rows.laid_horarium_isa_names : DataW Unit) = .agg (opL.map fun s => (DataW.lit (.string s.data.toList) : DataW Unit)) := rfl
    rw [h2] at h1
    injection h1 with h1
    exact h1.symm
  intro i s hs
  have hi : i < 18 := by have := (List.getElem?_eq_some_iff.1 hs).1; exact this
  have ha := hall i hi
  rw [show Tryd.prog.cellsOf 9 = 1 by kernel_rfl, Nat.mul_one] at ha
  rw [List.getElem?_eq_getElem (by omega)] at ha
  obtain ⟨u, hc, hxu, _⟩ := DataW.trod_string Tryd.underlying9 ha
  have h3 : (xs.map (·.1))[i]? = some (DataW.lit (.string u.data.toList)) := by
    rw [List.getElem?_map, List.getElem?_eq_getElem (by omega), hxu]
    rfl
  rw [hxs, List.getElem?_map, hs] at h3
  have h4 : s = u := by
    simp only [Option.map_some, Option.some.injEq, DataW.lit.injEq, Lit.string.injEq] at h3
    obtain ⟨⟨a⟩⟩ := s
    obtain ⟨⟨b⟩⟩ := u
    have h3 : a = b := h3
    rw [h3]
  subst h4
  rw [World.var?_cell names_num hvar i]
  have h5 := congrArg (·[0]?) hc
  simpa [List.getElem?_take, List.getElem?_drop] using h5
set_option maxRecDepth 100000 in
theorem inst_key {H : Type} {enc : TypeId × Value → H} {W : World} {n : Nat} {cs : List Value} {y : DataW H × List MemPlace} (h : DataW.trod enc Tryd.prog W 0 (fun _ => true) true n 26 cs = some y) : ∃ x : InsV, cs = ic x := by
  obtain ⟨ys, n', _, _, hcl, hyl, hfd⟩ := DataW.trod_struct Tryd.underlying26 h
  rw [show Tryd.prog.cellsOf 26 = 4 by kernel_rfl] at hcl
  match cs, hcl with
  | [v0, v1, v2, v3], _ =>
    have hyl' : ys.length = 4 := hyl
    have f0 := hfd 0 _ rfl
    have f1 := hfd 1 _ rfl
    have f2 := hfd 2 _ rfl
    have f3 := hfd 3 _ rfl
    change DataW.trod enc Tryd.prog W 0 (fun _ => true) true n' 3 (List.take (Tryd.prog.cellsOf 3) [v0, v1, v2, v3]) = ys[0]? at f0
    change DataW.trod enc Tryd.prog W 0 (fun _ => true) true n' 3 (List.take (Tryd.prog.cellsOf 3) [v1, v2, v3]) = ys[1]? at f1
    change DataW.trod enc Tryd.prog W 0 (fun _ => true) true n' 3 (List.take (Tryd.prog.cellsOf 3) [v2, v3]) = ys[2]? at f2
    change DataW.trod enc Tryd.prog W 0 (fun _ => true) true n' 3 (List.take (Tryd.prog.cellsOf 3) [v3]) = ys[3]? at f3
    rw [show Tryd.prog.cellsOf 3 = 1 by kernel_rfl] at f0 f1 f2 f3
    simp only [List.take_succ_cons, List.take_zero] at f0 f1 f2 f3
    rw [List.getElem?_eq_getElem (by omega)] at f0 f1 f2 f3
    obtain ⟨z0, e0, _, w0⟩ := DataW.trod_int Tryd.underlying3 f0
    obtain ⟨z1, e1, _, w1⟩ := DataW.trod_int Tryd.underlying3 f1
    obtain ⟨z2, e2, _, w2⟩ := DataW.trod_int Tryd.underlying3 f2
    obtain ⟨z3, e3, _, w3⟩ := DataW.trod_int Tryd.underlying3 f3
    simp only [List.cons.injEq, and_true] at e0 e1 e2 e3
    subst e0 e1 e2 e3
    exact ⟨⟨z0, z1, z2, z3⟩, rfl⟩
/-- An instruction among the arguments. -/
theorem inst_open {H : Type} {enc : TypeId × Value → H} {W : World} {v : Value} {d : DataW H} {p : List MemPlace} {base : Nat} (hv : Value.okWide Tryd.prog W .any base 26 v)
    (h : DataW.Trod enc Tryd.prog W 0 (fun _ => true) true 26 v d p) : ∃ x : InsV, v = iv x := by
  obtain ⟨cs, rfl, hsz⟩ := okWide_struct Tryd.underlying26 hv
  obtain ⟨fuel, hf⟩ := h
  obtain ⟨x, hx⟩ := inst_key hf
  refine ⟨x, ?_⟩
  unfold iv
  congr 1
  have hx : cs.toList = ic x := hx
  rw [← Array.toArray_toList (xs := cs), hx]
  rfl
theorem okWide_sliceI {W : World} {base : Nat} {v : Value} (hv : Value.okWide Tryd.prog W .any base 30 v) : ∃ A n k, v = .slice A n k := okWide_slice Tryd.underlying30 hv
instance : Inhabited InsV := ⟨⟨0, 0, 0, 0⟩⟩
/-- A slice of instructions among the arguments. -/
theorem insts_view {H : Type} {enc : TypeId × Value → H} {W : World} {A : Option Addr} {n k : Nat} {d : DataW H} {p : List MemPlace}
    (h : DataW.Trod enc Tryd.prog W 0 (fun _ => true) true 30 (.slice A n k) d p) : ∃ L : List InsV, RdB ic W W.heap.size A n L ∧ n ≤ k := by
  obtain ⟨fuel, hf⟩ := h
  obtain ⟨A', n', k', L, e, hr, h1, _⟩ := rows_view ic 4 (fun _ => rfl) (by omega) Tryd.underlying30 (by kernel_rfl) (fun n cs y h => inst_key h) hf
  simp [Value.cells] at e
  obtain ⟨rfl, rfl, rfl⟩ := e
  exact ⟨L, hr, h1⟩
end Go.Proofs.YtomaommamjhmmaaDoor
