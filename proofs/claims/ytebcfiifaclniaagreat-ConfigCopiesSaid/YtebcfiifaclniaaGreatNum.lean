/- Numbers as bytes: a length with the sign, and the bytes, the highest first. Plain mathematics: no program. -/
import Derived.Test.YtebcfiifaclniaaGreatRows
namespace Go.Proofs.YtebcfiifaclniaaGreat.Num

def be (u : Nat) : List UInt8 := if u = 0 then [] else be (u / 256) ++ [UInt8.ofNat u]
termination_by u
decreasing_by omega
def val (l : List UInt8) : Nat := l.foldl (fun a x => a * 256 + x.toNat) 0
def wid (u : Nat) : Nat := (be u).length
def sgn (n : Int) : Nat := if n < 0 then 128 else 0
def enc (n : Int) : List UInt8 := UInt8.ofNat (sgn n + wid n.natAbs) :: be n.natAbs

theorem be_zero : be 0 = [] := by unfold be; rfl
theorem be_pos (u : Nat) (h : u ≠ 0) : be u = be (u / 256) ++ [UInt8.ofNat u] := by rw [be, if_neg h]
theorem wid_zero : wid 0 = 0 := by unfold wid; rw [be_zero]; rfl
theorem wid_pos (u : Nat) (h : u ≠ 0) : wid u = wid (u / 256) + 1 := by unfold wid; rw [be_pos u h]; simp
theorem lt_wid (u k : Nat) : k < wid u ↔ 0 < u / 256 ^ k := by
  induction k generalizing u with
  | zero =>
    by_cases h : u = 0
    · subst h; simp [wid_zero]
    · rw [wid_pos u h]; simp; omega
  | succ k ih =>
    by_cases h : u = 0
    · subst h; simp [wid_zero]
    · rw [wid_pos u h, Nat.pow_succ, Nat.mul_comm, ← Nat.div_div_eq_div_mul, ← ih]; omega
theorem wid_le (u k : Nat) (h : u < 256 ^ k) : wid u ≤ k := by
  rcases Nat.lt_or_ge k (wid u) with h1 | h1
  · have := (lt_wid u k).1 h1
    rw [Nat.div_eq_of_lt h] at this; omega
  · exact h1
theorem be_get (u i : Nat) (h : i < wid u) : (be u)[i]? = some (UInt8.ofNat (u / 256 ^ (wid u - 1 - i))) := by
  induction u using Nat.strongRecOn with
  | ind u ih =>
    by_cases h0 : u = 0
    · subst h0; rw [wid_zero] at h; omega
    · have hw := wid_pos u h0
      rw [be_pos u h0]
      rcases Nat.lt_or_ge i (wid (u / 256)) with h1 | h1
      · rw [List.getElem?_append_left h1, ih (u / 256) (by omega) h1, Nat.div_div_eq_div_mul, ← Nat.pow_succ']
        congr 4; omega
      · have : i = (be (u / 256)).length := by unfold wid at *; omega
        have e : wid u - 1 - i = 0 := by unfold wid at *; omega
        rw [e, this]; simp
theorem val_snoc (l : List UInt8) (x : UInt8) : val (l ++ [x]) = val l * 256 + x.toNat := by unfold val; rw [List.foldl_append]; rfl
theorem val_nil : val [] = 0 := rfl
theorem val_be (u : Nat) : val (be u) = u := by
  induction u using Nat.strongRecOn with
  | ind u ih =>
    by_cases h0 : u = 0
    · subst h0; rw [be_zero]; rfl
    · rw [be_pos u h0, val_snoc, ih (u / 256) (by omega)]
      simp; omega
theorem rev_ind {α : Type} {P : List α → Prop} (h0 : P []) (h1 : ∀ l x, P l → P (l ++ [x])) (l : List α) : P l := by
  have : ∀ r : List α, P r.reverse := fun r => by
    induction r with
    | nil => exact h0
    | cons x r ih => rw [List.reverse_cons]; exact h1 _ _ ih
  rw [← List.reverse_reverse l]; exact this _
theorem val_lt (l : List UInt8) : val l < 256 ^ l.length := by
  refine rev_ind (P := fun l => val l < 256 ^ l.length) (by simp [val]) (fun l x ih => ?_) l
  rw [val_snoc, List.length_append, List.length_singleton, Nat.pow_succ]
  have : x.toNat < 256 := x.toBitVec.isLt
  omega
theorem val_inj (l : List UInt8) : ∀ m : List UInt8, l.length = m.length → val l = val m → l = m := by
  refine rev_ind (P := fun l => ∀ m : List UInt8, l.length = m.length → val l = val m → l = m) (fun m h _ => (List.eq_nil_of_length_eq_zero h.symm).symm) (fun l x ih m => ?_) l
  refine rev_ind (P := fun m => (l ++ [x]).length = m.length → val (l ++ [x]) = val m → l ++ [x] = m) (fun h _ => by simp at h) (fun m' y _ h hv => ?_) m
  rw [val_snoc, val_snoc] at hv
  have hx : x.toNat < 256 := x.toBitVec.isLt
  have hy : y.toNat < 256 := y.toBitVec.isLt
  have e1 : x.toNat = y.toNat := by omega
  rw [ih m' (by simpa using h) (by omega), UInt8.toNat_inj.1 e1]
theorem be_val (l : List UInt8) (h : wid (val l) = l.length) : be (val l) = l := val_inj _ _ h (val_be _)
theorem val_take (l : List UInt8) (k : Nat) (x : UInt8) (h : l[k]? = some x) : val (l.take (k + 1)) = val (l.take k) * 256 + x.toNat := by
  have : l.take (k + 1) = l.take k ++ [x] := by rw [List.take_add_one, h]; rfl
  rw [this, val_snoc]
theorem enc_length (n : Int) : (enc n).length = wid n.natAbs + 1 := by simp [enc, wid]
theorem wid_int (n : Int) (h1 : -9223372036854775808 ≤ n) (h2 : n ≤ 9223372036854775807) : wid n.natAbs ≤ 8 := by
  refine wid_le _ _ ?_
  have : (256 : Nat) ^ 8 = 18446744073709551616 := by decide
  omega

/-- Is a number at the front: its first byte, and the rest. -/
def num (x : UInt8) (r : List UInt8) : Int := if 128 ≤ x.toNat then -(val (r.take (x.toNat % 128)) : Int) else val (r.take (x.toNat % 128))
def ok (x : UInt8) (r : List UInt8) : Prop :=
  x.toNat % 128 ≤ 8 ∧ x.toNat % 128 ≤ r.length ∧ wid (val (r.take (x.toNat % 128))) = x.toNat % 128 ∧ -9223372036854775808 ≤ num x r ∧ num x r ≤ 9223372036854775807 ∧ (128 ≤ x.toNat → num x r < 0)
instance (x : UInt8) (r : List UInt8) : Decidable (ok x r) := by unfold ok; infer_instance
def dec : List UInt8 → Int × Nat
  | [] => (0, 0)
  | x :: r => if ok x r then (num x r, x.toNat % 128 + 1) else (0, 0)
theorem dec_nil : dec [] = (0, 0) := rfl
theorem dec_yes {x : UInt8} {r : List UInt8} (h : ok x r) : dec (x :: r) = (num x r, x.toNat % 128 + 1) := if_pos h
theorem dec_no {x : UInt8} {r : List UInt8} (h : ¬ ok x r) : dec (x :: r) = (0, 0) := if_neg h
theorem take_len {r : List UInt8} {k : Nat} (h : k ≤ r.length) : (r.take k).length = k := by rw [List.length_take]; omega
theorem u8_ext {a b : UInt8} (h : a.toNat = b.toNat) : a = b := UInt8.toNat_inj.1 h
theorem num_abs (x : UInt8) (r : List UInt8) : (num x r).natAbs = val (r.take (x.toNat % 128)) := by unfold num; split <;> omega
/-- What is at the front is as it would be written. -/
theorem ok_enc {x : UInt8} {r : List UInt8} (h : ok x r) : enc (num x r) = x :: r.take (x.toNat % 128) := by
  obtain ⟨h1, h2, h3, h4, h5, h6⟩ := h
  have hx : x.toNat < 256 := x.toBitVec.isLt
  unfold enc
  rw [num_abs, be_val _ (by rw [h3, take_len h2]), h3]
  have : UInt8.ofNat (sgn (num x r) + x.toNat % 128) = x := by
    apply u8_ext
    unfold sgn
    by_cases hs : 128 ≤ x.toNat
    · rw [if_pos (h6 hs)]; simp; omega
    · have : ¬ num x r < 0 := by unfold num; rw [if_neg hs]; omega
      rw [if_neg this]; simp; omega
  rw [this]
theorem enc_dec (n : Int) (h1 : -9223372036854775808 ≤ n) (h2 : n ≤ 9223372036854775807) (m : List UInt8) : dec (enc n ++ m) = (n, wid n.natAbs + 1) := by
  have hw := wid_int n h1 h2
  have hx : (UInt8.ofNat (sgn n + wid n.natAbs)).toNat = sgn n + wid n.natAbs := by
    have : sgn n ≤ 128 := by unfold sgn; split <;> omega
    simp; omega
  have hk : (sgn n + wid n.natAbs) % 128 = wid n.natAbs := by unfold sgn; split <;> omega
  have ht : (be n.natAbs ++ m).take (wid n.natAbs) = be n.natAbs := List.take_left' rfl
  have hnum : num (UInt8.ofNat (sgn n + wid n.natAbs)) (be n.natAbs ++ m) = n := by
    unfold num
    rw [hx, hk, ht, val_be]
    unfold sgn
    split <;> split <;> omega
  have hok : ok (UInt8.ofNat (sgn n + wid n.natAbs)) (be n.natAbs ++ m) := by
    unfold ok
    rw [hnum, hx, hk, ht, val_be]
    refine ⟨hw, ?_, rfl, h1, h2, fun h => ?_⟩
    · rw [List.length_append]; unfold wid; omega
    · unfold sgn at h; split at h <;> omega
  show dec (UInt8.ofNat (sgn n + wid n.natAbs) :: (be n.natAbs ++ m)) = _
  rw [dec_yes hok, hnum, hx, hk]
/-- Whatever is got lies in the bounds, and behind it is no more than there was. -/
theorem dec_bounds (l : List UInt8) : (-9223372036854775808 ≤ (dec l).1 ∧ (dec l).1 ≤ 9223372036854775807) ∧ (dec l).2 ≤ l.length ∧ (dec l).2 ≤ 9 := by
  cases l with
  | nil => simp [dec]
  | cons x r =>
    by_cases h : ok x r
    · rw [dec_yes h]
      obtain ⟨h1, h2, h3, h4, h5, h6⟩ := h
      refine ⟨⟨h4, h5⟩, ?_, ?_⟩ <;> simp <;> omega
    · rw [dec_no h]; simp
/-- None, where fewer bytes are left than it takes. -/
theorem dec_cut (n : Int) (h1 : -9223372036854775808 ≤ n) (h2 : n ≤ 9223372036854775807) (k : Nat) (hk : k < wid n.natAbs + 1) : dec ((enc n).take k) = (0, 0) := by
  have hw := wid_int n h1 h2
  have hx : (UInt8.ofNat (sgn n + wid n.natAbs)).toNat = sgn n + wid n.natAbs := by
    have : sgn n ≤ 128 := by unfold sgn; split <;> omega
    simp; omega
  have hk2 : (sgn n + wid n.natAbs) % 128 = wid n.natAbs := by unfold sgn; split <;> omega
  cases k with
  | zero => rfl
  | succ k =>
    refine dec_no fun h => ?_
    have := h.2.1
    rw [hx, hk2, List.length_take] at this
    omega
/-- A text at the front. -/
def cutok (most : Int) (l : List UInt8) : Prop := (dec l).2 ≠ 0 ∧ 0 ≤ (dec l).1 ∧ (dec l).1 ≤ most ∧ (dec l).1 ≤ (l.length : Int) - (dec l).2
instance (most : Int) (l : List UInt8) : Decidable (cutok most l) := by unfold cutok; infer_instance
def cut (most : Int) (l : List UInt8) : List UInt8 × Nat :=
  if cutok most l then ((l.drop (dec l).2).take (dec l).1.toNat, (dec l).2 + (dec l).1.toNat) else ([], 0)
theorem cut_yes {most : Int} {l : List UInt8} (h : cutok most l) : cut most l = ((l.drop (dec l).2).take (dec l).1.toNat, (dec l).2 + (dec l).1.toNat) := if_pos h
theorem cut_no {most : Int} {l : List UInt8} (h : ¬ cutok most l) : cut most l = ([], 0) := if_neg h
end Go.Proofs.YtebcfiifaclniaaGreat.Num
