/- Rows of partitions, of channels in memory; whether a row of runs holds what is asked, by the document's own answer (that it answers). -/
import Derived.Test.YtcdgofdnafbacaaBudg
import Derived.Test.YtcdgofdnafbacaaConf
namespace Go.Proofs.Ytcdgofdnafbacaa
open Go.RowKit Tab
set_option linter.unusedSimpArgs false
set_option linter.unusedVariables false

section
variable {α : Type} {f : α → List Value} {s : Nat}
theorem flat_get (hf : ∀ x, (f x).length = s) (l : List α) (i k : Nat) (x : α) (hx : l[i]? = some x) (hk : k < s) : (l.flatMap f)[i * s + k]? = (f x)[k]? := by
  induction l generalizing i with
  | nil => simp at hx
  | cons y l ih =>
    rw [List.flatMap_cons]
    cases i with
    | zero =>
      simp at hx
      subst hx
      rw [Nat.zero_mul, Nat.zero_add, List.getElem?_append_left (by rw [hf]; exact hk)]
    | succ i =>
      rw [List.getElem?_append_right (by rw [hf, Nat.succ_mul]; omega), hf]
      have := ih i (by simpa using hx)
      rw [← this]
      congr 1
      rw [Nat.succ_mul]
      omega
end
/-- A slice at A, n long, of structs, each in s cells, holds l. -/
structure RdB {α : Type} (f : α → List Value) (w : World) (B : Nat) (A : Option Addr) (n : Nat) (l : List α) : Prop where
  len : l.length = n
  rd : RdV w B A (l.flatMap f)
section
variable {α : Type} {f : α → List Value} {s : Nat} {w w' : World} {B n : Nat} {A : Option Addr} {l : List α}
theorem RdB.on (h : RdB f w w.heap.size A n l) (hb : Below w.heap.size w w') : RdB f w' w'.heap.size A n l := ⟨h.len, (h.rd.below hb).more hb.size⟩
theorem RdB.at_ (h : RdB f w B A n l) (hf : ∀ x, (f x).length = s) (hs : 0 < s) {i : Nat} (hi : i < n) : ∃ (ad : Addr) (x : α), A = some ad ∧ ad.block < B ∧ l[i]? = some x ∧ (∀ v, (f x)[0]? = some v → w.cell? (ad.add (i * s)) = some v) ∧
    ∀ k v, 0 < k → (f x)[k]? = some v → w.cell? ⟨(ad.add (i * s)).block, (ad.add (i * s)).off + k, none⟩ = some v := by
  have hl : i < l.length := by rw [h.len]; exact hi
  have hx : l[i]? = some l[i] := List.getElem?_eq_getElem hl
  have hpos : 0 < (l.flatMap f).length := by
    cases l with
    | nil => simp at hl
    | cons y l => rw [List.flatMap_cons, List.length_append, hf]; omega
  obtain ⟨ad, e, hb, hc⟩ := h.rd hpos
  refine ⟨ad, l[i], e, hb, hx, fun v hv => ?_, fun k v hk hv => ?_⟩
  · have := flat_get hf l i 0 _ hx hs
    rw [Nat.add_zero] at this
    exact hc _ v (this.trans hv)
  · have hks : k < s := by rw [← hf l[i]]; exact (List.getElem?_eq_some_iff.1 hv).1
    have := flat_get hf l i k _ hx hks
    have e1 : (⟨(ad.add (i * s)).block, (ad.add (i * s)).off + k, none⟩ : Addr) = ad.add (i * s + k) := by
      rw [← add_add]
      generalize ad.add (i * s) = p
      unfold Addr.add
      rw [if_neg (by omega)]
    rw [e1]
    exact hc _ v (this.trans hv)
end
def cc (x : ChV) : List Value := [.int .i64 x.from_, .int .i64 x.to_, .bool x.queue, .int .i64 x.cap, .int .u32 x.max, .int .i64 x.late]
def pcl (x : PtV) : List Value := [.string x.name, .int .i64 x.bud, .int .i64 x.per, .bool x.sched, .bool x.stop, .slice x.pa x.pn x.pc, .int .i64 x.h0, .int .i64 x.h1, .int .i64 x.h2, .int .i64 x.h3, .int .i64 x.h4]
theorem cc_len (x : ChV) : (cc x).length = 6 := rfl
theorem pcl_len (x : PtV) : (pcl x).length = 11 := rfl
/-- It answers a number, and leaves what was there. -/
def SomI (w : World) (e : Ending) (w' : World) : Prop := ∃ z, e = .returned (.int .i64 z) ∧ Below w.heap.size w w'
end Go.Proofs.Ytcdgofdnafbacaa
