/- A table that is whole; the places of a node's children. -/
import Derived.Test.YtpjppglaieohlaaRsize
import Derived.Test.YtpjppglaieohlaaPath
import Derived.Laws.MakeOwn
import Derived.BigQuiet
import Derived.Deep.QuietTactic
namespace Go.Proofs.Ytpjppglaieohlaa
open Go.RowKit Tab
set_option linter.unusedSimpArgs false
set_option linter.unusedVariables false

def wholeB (l : List Nd) : Bool := decide (0 < l.length) && decide (size l 0 = l.length)
set_option maxHeartbeats 400000 in
theorem whole_any (A : Option Addr) (n cap : Nat) (l : List Nd) (w : World) (h : RdN w w.heap.size A n l) (hc : n ≤ cap) (hn : n ≤ 1099511627776) :
    Calls Try.prog 27 #[.slice A n cap] w (Ans (.bool (wholeB l)) w) := by
  generalize hb : wholeB l = b
  have HL := Lib.hid h.len
  have HB := Lib.hid hb
  clear hb
  by_cases h0 : 0 < n
  · generalize hS : size l 0 = S
    have HS := Lib.hid hS
    clear hS
    go_enter Try.func27, Try.ntmps27
    go_wp2_with fail
    refine (size_any A n cap l 0 w h hc hn).mono ?_
    rw [HS.out]
    rintro e w1 ⟨rfl, hb1⟩
    go_wp2_with fail
    go_ret
    refine Ans.mk (congrArg Value.bool (a₂ := ((S : Int) == (n : Int))) ?_) hb1
    rw [← HB.out, wholeB, HL.out, HS.out, Bool.eq_iff_iff]
    simp
    omega
  · have h0' : n ≤ 0 := by omega
    go_enter Try.func27, Try.ntmps27
    go_wp2_with fail
    go_ret
    refine Ans.mk ?_ (Below.refl _ _)
    rw [← HB.out, wholeB, HL.out, show n = 0 by omega]
    rfl
/-- A whole table is a tree. -/
theorem whole_tree {l : List Nd} (h : wholeB l = true) : ∃ (x : Nd) (k : F), (F.cons x k .nil).ok ∧ l = x :: k.flat := by
  unfold wholeB at h
  simp only [Bool.and_eq_true, decide_eq_true_eq] at h
  obtain ⟨x, k, t, h1, _, _, h4, h5⟩ := size_tree (l := l) (a := 0) (by omega)
  have hlen := congrArg List.length h4
  simp only [Int.toNat_zero, List.drop_zero, List.length_cons, List.length_append, F.flat_length] at hlen
  have ht : t = [] := List.eq_nil_of_length_eq_zero (by omega)
  subst ht
  exact ⟨x, k, h1, by simpa using h4⟩
theorem tree_whole {x : Nd} {k : F} (h : (F.cons x k .nil).ok) : wholeB (x :: k.flat) = true := by
  have h1 : size (x :: k.flat) 0 = 1 + k.sz := size_at (l := x :: k.flat) (a := 0) (t := []) h (by simp [F.flat])
  unfold wholeB
  simp only [Bool.and_eq_true, decide_eq_true_eq]
  exact ⟨by simp, by rw [h1]; simp only [List.length_cons, F.flat_length]; omega⟩

def lenOf : Value → Nat
  | .slice _ n _ => n
  | _ => 0
/-- Numbers as cells. -/
def is (l : List Int) : List Value := l.map (.int .i64)
theorem is_length (l : List Int) : (is l).length = l.length := by simp [is]
theorem is_append (l m : List Int) : is (l ++ m) = is l ++ is m := by simp [is]
theorem is_one (l : List Int) : ∀ u ∈ is l, u.oneCell' = true := by
  intro u hu
  obtain ⟨z, _, rfl⟩ := List.mem_map.1 hu
  rfl
/-- A slice at A, n long, holds the numbers l. -/
structure RdI (w : World) (B : Nat) (A : Option Addr) (n : Nat) (l : List Int) : Prop where
  len : l.length = n
  rd : RdV w B A (is l)
section
variable {w w' : World} {B B' n : Nat} {A : Option Addr} {l : List Int}
theorem RdI.below (h : RdI w B A n l) (hb : Below B w w') : RdI w' B A n l := ⟨h.len, h.rd.below hb⟩
theorem RdI.more (h : RdI w B A n l) (hB : B ≤ B') : RdI w B' A n l := ⟨h.len, h.rd.more hB⟩
theorem RdI.on (h : RdI w w.heap.size A n l) (hb : Below w.heap.size w w') : RdI w' w'.heap.size A n l := (h.below hb).more hb.size
theorem RdI.at_ (h : RdI w B A n l) {i : Nat} (hi : i < n) : ∃ (ad : Addr) (x : Int), A = some ad ∧ ad.block < B ∧ l[i]? = some x ∧ w.cell? (ad.add i) = some (.int .i64 x) := by
  have hl : i < l.length := by rw [h.len]; exact hi
  obtain ⟨ad, e, hb, hc⟩ := h.rd (by rw [is_length]; omega)
  exact ⟨ad, l[i], e, hb, List.getElem?_eq_getElem hl, hc _ _ (by simp [is, hl])⟩
end
/-- It answers a row of numbers, new. -/
def MadeI (l : List Int) (w : World) (e : Ending) (w' : World) : Prop := ∃ A n c, e = .returned (.slice A n c) ∧ RdI w' w'.heap.size A n l ∧ n ≤ c ∧ Below w.heap.size w w'
theorem MadeI.mk {l : List Int} {w w' : World} {A : Option Addr} {n c : Nat} {B : Nat} (h : OwnV 3 1 w' B A n c (is l)) (hb : Below w.heap.size w w') : MadeI l w (.returned (.slice A n c)) w' :=
  ⟨A, n, c, rfl, ⟨by have := h.len; rw [is_length] at this; omega, h.rd⟩, h.cap, hb⟩

/-- The first j places. -/
def plc (l : List Nd) (p j : Nat) : List Int := (List.range j).map fun j => (pos l p j : Int)
theorem plc_succ (l : List Nd) (p j : Nat) : plc l p (j + 1) = plc l p j ++ [(pos l p j : Int)] := by simp [plc, List.range_succ]
theorem plc_set (l : List Nd) (p m i : Nat) (hi : i < m) : (is (plc l p i ++ List.replicate (m - i) 0)).set i (.int .i64 (pos l p i : Int)) = is (plc l p (i + 1) ++ List.replicate (m - (i + 1)) 0) := by
  have e : m - i = (m - (i + 1)) + 1 := by omega
  have el : (is (plc l p i)).length = i := by rw [is_length]; simp [plc]
  rw [plc_succ, e, List.replicate_succ]
  rw [is_append, List.set_append_right _ _ (by omega), el, Nat.sub_self]
  simp [is, List.map_append]
theorem made_ints (n : Nat) : (madeCells #[Value.int .i64 0] n).toList = is (List.replicate n 0) := by
  apply List.ext_getElem
  · simp [size_madeCells, is]
  · intro i h1 h2
    simp [madeCells, is]
    rw [Nat.mod_one]
    simp
theorem run_makeI (m : Nat) (hm : m ≤ 1048576) (W : World) : (Instr.makeSlice 22 (.int .i64 (m : Int)) (.int .i64 (m : Int))).run Try.prog W = .ok (.slice (some ⟨W.heap.size, 0, none⟩) m m) (W.alloc (.cells (madeCells #[.int .i64 0] m) 3)) := by
  obtain ⟨i, hi, hz, hs, hby⟩ := info_parts elI.hi
  have hr := run_make (P := Try.prog) W 22 3 i _ elI.ht hi hz .i64 .i64 m m (by omega) (by omega) (by rw [hby]; omega) (by omega)
  rw [hs] at hr
  simp only [Int.toNat_natCast, Nat.mul_one] at hr
  exact hr
end Go.Proofs.Ytpjppglaieohlaa
