import Derived.Test.YtfmndmhjjbeokaaGreatDoorLow17
import Derived.Test.YtfmndmhjjbeokaaGreatDoorLow10
namespace Go.Proofs.YtfmndmhjjbeokaaGreatDoor
open Go.RowKit Tab
set_option linter.unusedSimpArgs false
set_option linter.unusedVariables false
def distF (W : List Int) (q : Int) (t : Nat) : Nat → Nat → Nat
  | 0, d => d
  | f + 1, d => if W[(t + d) % W.length]? = some q then d else distF W q t f (d + 1)
def dist (W : List Int) (q : Int) (t : Nat) : Nat := distF W q t W.length 1
def lateW (W : List Int) (p q : Int) : Nat → Nat
  | 0 => 0
  | k + 1 => if W[k]? = some p then max (lateW W p q k) (dist W q k) else lateW W p q k
def hasL (q : Int) : List Int → Bool
  | [] => false
  | x :: l => decide (x = q) || hasL q l
def lateL (W : List Int) (p q : Int) : Int := if hasL p W = false then 0 else if hasL q W = false then -1 else (lateW W p q W.length : Int)
theorem hasL_append (q : Int) (a b : List Int) : hasL q (a ++ b) = (hasL q a || hasL q b) := by
  induction a with
  | nil => rfl
  | cons x a ih => simp only [List.cons_append, hasL, ih, Bool.or_assoc]
theorem hasL_get {W : List Int} {q : Int} (h : hasL q W = true) : ∃ i, i < W.length ∧ W[i]? = some q := by
  induction W with
  | nil => cases h
  | cons x W ih =>
    simp only [hasL, Bool.or_eq_true, decide_eq_true_eq] at h
    rcases h with rfl | h
    · exact ⟨0, by simp, rfl⟩
    · obtain ⟨i, hi, e⟩ := ih h
      exact ⟨i + 1, by simp only [List.length_cons]; omega, by simpa using e⟩
theorem dist_ex {W : List Int} {q : Int} (h : hasL q W = true) (t : Nat) : ∃ e, 1 ≤ e ∧ e ≤ W.length ∧ W[(t + e) % W.length]? = some q := by
  obtain ⟨i, hi, e⟩ := hasL_get h
  have hn : 0 < W.length := by omega
  have h1 := Nat.mod_lt t hn
  have h2 := Nat.div_add_mod t W.length
  by_cases hlt : t % W.length < i
  · refine ⟨i - t % W.length, by omega, by omega, ?_⟩
    have h3 : (t + (i - t % W.length)) % W.length = i := by
      have h4 : t + (i - t % W.length) = i + W.length * (t / W.length) := by omega
      rw [h4, Nat.add_mul_mod_self_left, Nat.mod_eq_of_lt hi]
    rw [h3]
    exact e
  · refine ⟨W.length + i - t % W.length, by omega, by omega, ?_⟩
    have h3 : (t + (W.length + i - t % W.length)) % W.length = i := by
      have h4 : t + (W.length + i - t % W.length) = i + W.length * (t / W.length + 1) := by
        rw [Nat.mul_add, Nat.mul_one]
        omega
      rw [h4, Nat.add_mul_mod_self_left, Nat.mod_eq_of_lt hi]
    rw [h3]
    exact e
theorem distF_yes {W : List Int} {q : Int} {t f d : Nat} (h : W[(t + d) % W.length]? = some q) : distF W q t f d = d := by
  cases f with
  | zero => rfl
  | succ f => simp only [distF]; rw [if_pos h]
theorem distF_no {W : List Int} {q : Int} {t f d : Nat} (h : ¬ W[(t + d) % W.length]? = some q) : distF W q t (f + 1) d = distF W q t f (d + 1) := by simp only [distF]; rw [if_neg h]
end Go.Proofs.YtfmndmhjjbeokaaGreatDoor
namespace Go.Proofs.YtfmndmhjjbeokaaGreatDoor
open Go.RowKit Tab
set_option linter.unusedSimpArgs false
set_option linter.unusedVariables false
def cntF (p : Int) : List Int → Nat
  | [] => 0
  | x :: l => (if x = p then 1 else 0) + cntF p l
theorem cntF_append (p : Int) (a b : List Int) : cntF p (a ++ b) = cntF p a + cntF p b := by
  induction a with
  | nil => simp [cntF]
  | cons x a ih => simp only [List.cons_append, cntF, ih]; omega
theorem cntF_le (p : Int) (a : List Int) : cntF p a ≤ a.length := by
  induction a with
  | nil => simp [cntF]
  | cons x a ih => simp only [cntF, List.length_cons]; split <;> omega
def budW (W : List Int) (p : Int) (P : Nat) : Nat → Nat
  | 0 => P + 1
  | k + 1 => min (budW W p P k) (cntF p ((W.drop (k * P)).take P))
def budL (W : List Int) (p z : Int) : Int := if z < 1 then -1 else if W.length = 0 then -1 else if W.length % z.toNat ≠ 0 then -1 else (budW W p z.toNat (W.length / z.toNat) : Int)
end Go.Proofs.YtfmndmhjjbeokaaGreatDoor
namespace Go.Proofs.YtfmndmhjjbeokaaGreatDoor
open Go.RowKit Tab
set_option linter.unusedSimpArgs false
set_option linter.unusedVariables false
section
variable {α : Type} {f : α → List Value} {s : Nat}
theorem flat_get (hf : ∀ x, (f x).length = s) (l : List α) (i k : Nat) (x : α) (hx : l[i]? = some x) (hk : k < s) : (l.flatMap f)[i * s + k]? = (f x)[k]? := by
  induction l generalizing i with
  | nil => simp at hx
  | cons y l ih =>
    rw [List.flatMap_cons]
    cases i with
    | zero =>
      simp at hx
      subst hx
      rw [Nat.zero_mul, Nat.zero_add, List.getElem?_append_left (by rw [hf]; exact hk)]
    | succ i =>
      rw [List.getElem?_append_right (by rw [hf, Nat.succ_mul]; omega), hf]
      have := ih i (by simpa using hx)
      rw [← this]
      congr 1
      rw [Nat.succ_mul]
      omega
end
structure RdB {α : Type} (f : α → List Value) (w : World) (B : Nat) (A : Option Addr) (n : Nat) (l : List α) : Prop where
  len : l.length = n
  rd : RdV w B A (l.flatMap f)
section
variable {α : Type} {f : α → List Value} {s : Nat} {w w' : World} {B n : Nat} {A : Option Addr} {l : List α}
theorem RdB.on (h : RdB f w w.heap.size A n l) (hb : Below w.heap.size w w') : RdB f w' w'.heap.size A n l := ⟨h.len, (h.rd.below hb).more hb.size⟩
theorem RdB.at_ (h : RdB f w B A n l) (hf : ∀ x, (f x).length = s) (hs : 0 < s) {i : Nat} (hi : i < n) : ∃ (ad : Addr) (x : α), A = some ad ∧ ad.block < B ∧ l[i]? = some x ∧ (∀ v, (f x)[0]? = some v → w.cell? (ad.add (i * s)) = some v) ∧
    ∀ k v, 0 < k → (f x)[k]? = some v → w.cell? ⟨(ad.add (i * s)).block, (ad.add (i * s)).off + k, none⟩ = some v := by
  have hl : i < l.length := by rw [h.len]; exact hi
  have hx : l[i]? = some l[i] := List.getElem?_eq_getElem hl
  have hpos : 0 < (l.flatMap f).length := by
    cases l with
    | nil => simp at hl
    | cons y l => rw [List.flatMap_cons, List.length_append, hf]; omega
  obtain ⟨ad, e, hb, hc⟩ := h.rd hpos
  refine ⟨ad, l[i], e, hb, hx, fun v hv => ?_, fun k v hk hv => ?_⟩
  · have := flat_get hf l i 0 _ hx hs
    rw [Nat.add_zero] at this
    exact hc _ v (this.trans hv)
  · have hks : k < s := by rw [← hf l[i]]; exact (List.getElem?_eq_some_iff.1 hv).1
    have := flat_get hf l i k _ hx hks
    have e1 : (⟨(ad.add (i * s)).block, (ad.add (i * s)).off + k, none⟩ : Addr) = ad.add (i * s + k) := by
      rw [← add_add]
      generalize ad.add (i * s) = p
      unfold Addr.add
      rw [if_neg (by omega)]
    rw [e1]
    exact hc _ v (this.trans hv)
end
def cc (x : ChV) : List Value := [.int .i64 x.from_, .int .i64 x.to_, .bool x.queue, .int .i64 x.cap, .int .u32 x.max, .int .i64 x.late]
def pcl (x : PtV) : List Value := [.string x.name, .int .i64 x.bud, .int .i64 x.per, .bool x.sched, .bool x.stop, .slice x.pa x.pn x.pc, .int .i64 x.h0, .int .i64 x.h1, .int .i64 x.h2, .int .i64 x.h3, .int .i64 x.h4]
theorem cc_len (x : ChV) : (cc x).length = 6 := rfl
theorem pcl_len (x : PtV) : (pcl x).length = 11 := rfl
end Go.Proofs.YtfmndmhjjbeokaaGreatDoor
