/- What the document's Bytes writes of a configuration, piece by piece; how long it is. -/
import Derived.Test.YtebcfiifaclniaaGreatBya
namespace Go.Proofs.YtebcfiifaclniaaGreat
set_option maxRecDepth 100000
open Go.RowKit Tab
set_option linter.unusedSimpArgs false
set_option linter.unusedVariables false

def headB (l : List UInt8) (y : PtV) : List UInt8 := l ++ Num.enc y.name.size ++ y.name.data.toList ++ Num.enc y.bud ++ Num.enc y.per
def flagB (l : List UInt8) (y : PtV) : List UInt8 := l ++ Num.enc (fl y.sched) ++ Num.enc (fl y.stop) ++ Num.enc y.pn
def procB (l : List UInt8) (q : Int × Int) : List UInt8 := l ++ Num.enc q.1 ++ Num.enc q.2
def healB (l : List UInt8) (y : PtV) (k : Nat) : List UInt8 := (List.range k).foldl (fun m j => m ++ Num.enc (hv5 y j)) l
def partB (l : List UInt8) (y : Pq) : List UInt8 := healB (y.2.foldl procB (flagB (headB l y.1) y.1)) y.1 5
def chanA (l : List UInt8) (x : ChV) : List UInt8 := l ++ Num.enc x.from_ ++ Num.enc x.to_ ++ Num.enc (fl x.queue)
def chanB (l : List UInt8) (x : ChV) : List UInt8 := chanA l x ++ Num.enc x.cap ++ Num.enc (IntKind.i64.wrap x.max) ++ Num.enc x.late
def nodeB (l : List UInt8) (z : Nd) : List UInt8 := l ++ Num.enc z.k ++ Num.enc z.p ++ Num.enc z.n
def tabB (l : List UInt8) (t : NdT) : List UInt8 := t.l.foldl nodeB (l ++ Num.enc t.n)
def horaB : List UInt8 := [72, 79, 82, 65]
/-- What is written of a configuration. -/
def bytesB (x : Cf) : List UInt8 := Crc.seal4 (x.T.foldl tabB (x.C.foldl chanB (x.P.foldl partB (horaB ++ Num.enc x.n1) ++ Num.enc x.n2) ++ Num.enc x.n3))
/-- Numbers that a row bears. -/
structure PartIn (y : Pq) : Prop where
  name : y.1.name.size ≤ 12
  bud : In64 y.1.bud
  per : In64 y.1.per
  few : y.1.pn ≤ 3
  len : y.2.length = y.1.pn
  pr : ∀ q ∈ y.2, In64 q.1 ∧ In64 q.2
  hl : ∀ j, In64 (hv5 y.1 j)
structure ChanIn (x : ChV) : Prop where
  fr : In64 x.from_
  tt : In64 x.to_
  cap : In64 x.cap
  late : In64 x.late
theorem foldl_few {α : Type} (f : List UInt8 → α → List UInt8) (k : Nat) : ∀ (L : List α), (∀ x ∈ L, ∀ l, (f l x).length ≤ l.length + k) → ∀ l, (L.foldl f l).length ≤ l.length + L.length * k
  | [], _, l => by simp
  | x :: L, h, l => by
    have h1 := h x (by simp) l
    have h2 := foldl_few f k L (fun y hy => h y (by simp [hy])) (f l x)
    rw [List.foldl_cons, List.length_cons, Nat.succ_mul]
    omega
theorem headB_few {y : Pq} (h : PartIn y) (l : List UInt8) : (headB l y.1).length ≤ l.length + 39 := by
  have e1 := enc_few y.1.name.size (by have := h.name; unfold In64; omega)
  have e2 := enc_few _ h.bud
  have e3 := enc_few _ h.per
  have e4 : y.1.name.data.toList.length = y.1.name.size := by rw [Array.length_toList]; rfl
  have := h.name
  unfold headB
  simp only [List.length_append]
  omega
theorem flagB_few {y : Pq} (h : PartIn y) (l : List UInt8) : (flagB l y.1).length ≤ l.length + 27 := by
  have e1 := enc_few _ (fl_in y.1.sched)
  have e2 := enc_few _ (fl_in y.1.stop)
  have e3 := enc_few y.1.pn (by have := h.few; unfold In64; omega)
  unfold flagB
  simp only [List.length_append]
  omega
theorem procB_few {q : Int × Int} (h : In64 q.1 ∧ In64 q.2) (l : List UInt8) : (procB l q).length ≤ l.length + 18 := by
  have e1 := enc_few _ h.1
  have e2 := enc_few _ h.2
  unfold procB
  simp only [List.length_append]
  omega
theorem healB_few {y : Pq} (h : PartIn y) (k : Nat) (l : List UInt8) : (healB l y.1 k).length ≤ l.length + k * 9 := by
  have := foldl_few (fun (m : List UInt8) (j : Nat) => m ++ Num.enc (hv5 y.1 j)) 9 (List.range k) (fun j _ l => by have := enc_few _ (h.hl j); simp only [List.length_append]; omega) l
  rwa [List.length_range] at this
theorem partB_few {y : Pq} (h : PartIn y) (l : List UInt8) : (partB l y).length ≤ l.length + 165 := by
  have h1 := headB_few h l
  have h2 := flagB_few h (headB l y.1)
  have h3 := foldl_few procB 18 y.2 (fun q hq l => procB_few (h.pr q hq) l) (flagB (headB l y.1) y.1)
  have h4 := healB_few h 5 (y.2.foldl procB (flagB (headB l y.1) y.1))
  have h5 := h.few
  have h6 := h.len
  have h7 : y.2.length * 18 ≤ 3 * 18 := Nat.mul_le_mul_right _ (by omega)
  unfold partB
  omega
theorem wrap_in (z : Int) : In64 (IntKind.i64.wrap z) := by
  unfold In64
  simp only [IntKind.wrap_i64]
  omega
theorem chanA_few {x : ChV} (h : ChanIn x) (l : List UInt8) : (chanA l x).length ≤ l.length + 27 := by
  have e1 := enc_few _ h.fr
  have e2 := enc_few _ h.tt
  have e3 := enc_few _ (fl_in x.queue)
  unfold chanA
  simp only [List.length_append]
  omega
theorem chanB_few {x : ChV} (h : ChanIn x) (l : List UInt8) : (chanB l x).length ≤ l.length + 54 := by
  have h1 := chanA_few h l
  have e1 := enc_few _ h.cap
  have e2 := enc_few _ (wrap_in x.max)
  have e3 := enc_few _ h.late
  unfold chanB
  simp only [List.length_append]
  omega
theorem nodeB_few {z : Nd} (h : NdIn z) (l : List UInt8) : (nodeB l z).length ≤ l.length + 27 := by
  have e1 := enc_few _ h.1
  have e2 := enc_few _ h.2.1
  have e3 := enc_few _ h.2.2
  unfold nodeB
  simp only [List.length_append]
  omega
theorem ptE_rightB {P : List Pq} {k : Nat} {x : Pq} (hx : P[k]? = some x) (h : ptE P k = 0) : nameF x.1.name = true ∧ (P.take k).any (fun y => decide (y.1.name = x.1.name)) = false ∧ partF x.1 x.2 = true := by
  unfold ptE at h
  rw [hx] at h
  have h : ptW P k x = 0 := h
  unfold ptW at h
  split at h
  · cases h
  · rename_i h1
    split at h
    · rename_i h2
      simp only [Bool.or_eq_true, Bool.not_eq_true', not_or] at h1
      exact ⟨by simpa using h1.1, by simpa using h1.2, h2⟩
    · cases h
theorem PartIn.of {P : List Pq} {k : Nat} {y : Pq} (hy : P[k]? = some y) (h : ptE P k = 0) (hl : y.2.length = y.1.pn) : PartIn y := by
  obtain ⟨h1, _, h3⟩ := ptE_rightB hy h
  unfold nameF at h1
  simp only [Bool.and_eq_true, decide_eq_true_eq] at h1
  unfold partF at h3
  simp only [Bool.and_eq_true, decide_eq_true_eq, List.all_eq_true, List.mem_range] at h3
  obtain ⟨⟨h4, h5⟩, h6, h7, h8⟩ := h3
  unfold pbF at h8
  simp only [Bool.or_eq_true, Bool.and_eq_true, decide_eq_true_eq] at h8
  have hh : ∀ j, j < 5 → In64 (hv5 y.1 j) := fun j hj => by
    have := h7 j hj
    unfold hlF at this
    simp only [Bool.and_eq_true, decide_eq_true_eq] at this
    unfold In64
    omega
  refine ⟨h1.2.2, by unfold In64; omega, by unfold In64; omega, h5, hl, fun q hq => ?_, fun j => ?_⟩
  · have := h6 q hq
    unfold prcF at this
    simp only [Bool.and_eq_true, decide_eq_true_eq] at this
    unfold In64
    omega
  · rcases Nat.lt_or_ge j 5 with h | h
    · exact hh j h
    · have e : hv5 y.1 j = hv5 y.1 4 := by
        unfold hv5
        rw [if_neg (by omega), if_neg (by omega), if_neg (by omega), if_neg (by omega)]
        rfl
      rw [e]
      exact hh 4 (by omega)
theorem ChanIn.of {C : List ChV} {n : Nat} {k : Nat} {x : ChV} (hx : C[k]? = some x) (h : chE C n k = 0) (hn : n ≤ 6) : ChanIn x := by
  unfold chE at h
  rw [hx] at h
  have h : (if chanF x (n : Int) = true then (0 : Int) else 17) = 0 := h
  split at h
  · rename_i h1
    unfold chanF at h1
    simp only [Bool.and_eq_true, Bool.or_eq_true, decide_eq_true_eq] at h1
    obtain ⟨⟨a1, a2, a3, a4, a5, a6, a7⟩, b⟩ := h1
    refine ⟨by unfold In64; omega, by unfold In64; omega, ?_, by unfold In64; omega⟩
    rcases b with ⟨_, b⟩ | ⟨_, b⟩
    · unfold In64; omega
    · unfold In64; omega
  · cases h
end Go.Proofs.YtebcfiifaclniaaGreat
