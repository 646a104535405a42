/- Contracts and mathematics that the texts behind it stand on: Ltm, Bm, War, Gram, Vec, Bwa, Rsum, Blg, Bfw. -/
import Derived.Test.YtcmdhaieggjgcaaLow4
import Derived.Test.YtcmdhaieggjgcaaLow1
import Derived.Test.YtcmdhaieggjgcaaLow2
import Derived.Laws.StructEq
import Derived.BigQuiet
import Derived.Deep.CutBlock
/- How late, round: frames that are the same circle. Plain mathematics. -/
namespace Go.Proofs.Ytcmdhaieggjgcaa
open Go.RowKit Tab
set_option linter.unusedSimpArgs false
set_option linter.unusedVariables false

/-- Whose tick it is, round. -/
def rnd (W : List Int) (t : Nat) : Option Int := W[t % W.length]?
theorem rnd_add (W : List Int) (t k : Nat) : rnd W (t + W.length * k) = rnd W t := by
  unfold rnd
  rw [Nat.add_mul_mod_self_left]
theorem rnd_lt {W : List Int} {t : Nat} (h : t < W.length) : rnd W t = W[t]? := by
  unfold rnd
  rw [Nat.mod_eq_of_lt h]
theorem hasL_iff {W : List Int} {q : Int} : hasL q W = true ↔ ∃ i, i < W.length ∧ W[i]? = some q := by
  refine ⟨hasL_get, ?_⟩
  induction W with
  | nil => rintro ⟨i, hi, _⟩; simp at hi
  | cons x W ih =>
    rintro ⟨i, hi, e⟩
    simp only [hasL, Bool.or_eq_true, decide_eq_true_eq]
    cases i with
    | zero => left; simpa using e
    | succ i => right; exact ih ⟨i, by simpa using hi, by simpa using e⟩
theorem hasL_rnd {W : List Int} {q : Int} : hasL q W = true ↔ ∃ t, rnd W t = some q := by
  rw [hasL_iff]
  constructor
  · rintro ⟨i, hi, e⟩
    exact ⟨i, by rw [rnd_lt hi]; exact e⟩
  · rintro ⟨t, e⟩
    unfold rnd at e
    have h := (List.getElem?_eq_some_iff.1 e).1
    exact ⟨_, h, e⟩
/-- The next tick of q behind t is d away. -/
def Dst (W : List Int) (q : Int) (t d : Nat) : Prop := 1 ≤ d ∧ rnd W (t + d) = some q ∧ ∀ e, 1 ≤ e → e < d → ¬ rnd W (t + e) = some q
theorem Dst.eq {W : List Int} {q : Int} {t d e : Nat} (h : Dst W q t d) (k : Dst W q t e) : d = e := by
  rcases Nat.lt_trichotomy d e with hl | hl | hl
  · exact absurd h.2.1 (k.2.2 d h.1 hl)
  · exact hl
  · exact absurd k.2.1 (h.2.2 e k.1 hl)
theorem distF_dst {W : List Int} {q : Int} {t : Nat} : ∀ f d, 1 ≤ d → (∀ e, 1 ≤ e → e < d → ¬ rnd W (t + e) = some q) → (∃ e, d ≤ e ∧ e < d + f ∧ rnd W (t + e) = some q) → Dst W q t (distF W q t f d) := by
  intro f
  induction f with
  | zero => rintro d _ _ ⟨e, h1, h2, _⟩; omega
  | succ f ih =>
    intro d hd hno hex
    by_cases hh : rnd W (t + d) = some q
    · rw [distF_yes (by unfold rnd at hh; exact hh)]
      exact ⟨hd, hh, hno⟩
    · rw [distF_no (by unfold rnd at hh; exact hh)]
      refine ih (d + 1) (by omega) (fun e h1 h2 => ?_) ?_
      · by_cases hed : e = d
        · subst hed; exact hh
        · exact hno e h1 (by omega)
      · obtain ⟨e, h1, h2, h3⟩ := hex
        refine ⟨e, ?_, by omega, h3⟩
        rcases Nat.lt_or_ge d e with h4 | h4
        · omega
        · have : e = d := by omega
          subst this
          exact absurd h3 hh
theorem dist_dst {W : List Int} {q : Int} (h : hasL q W = true) (t : Nat) : Dst W q t (dist W q t) := by
  obtain ⟨e, h1, h2, h3⟩ := dist_ex h t
  exact distF_dst W.length 1 (Nat.le_refl _) (fun e h1 h2 => by omega) ⟨e, h1, by omega, h3⟩
theorem dist_le {W : List Int} {q : Int} (h : hasL q W = true) (t : Nat) : dist W q t ≤ W.length := by
  obtain ⟨e, h1, h2, h3⟩ := dist_ex h t
  have k := dist_dst h t
  rcases Nat.lt_or_ge e (dist W q t) with hl | hl
  · exact absurd h3 (k.2.2 e h1 hl)
  · omega
theorem lateW_le {W : List Int} {p q : Int} {M : Nat} : ∀ k, lateW W p q k ≤ M ↔ ∀ t, t < k → W[t]? = some p → dist W q t ≤ M := by
  intro k
  induction k with
  | zero => exact ⟨fun _ t h => by omega, fun _ => Nat.zero_le _⟩
  | succ k ih =>
    unfold lateW
    by_cases hp : W[k]? = some p
    · rw [if_pos hp]
      constructor
      · intro h t ht hpt
        by_cases htk : t = k
        · subst htk; omega
        · exact (ih.1 (by omega)) t (by omega) hpt
      · intro h
        have h1 := ih.2 fun t ht hpt => h t (by omega) hpt
        have h2 := h k (by omega) hp
        omega
    · rw [if_neg hp, ih]
      constructor
      · intro h t ht hpt
        by_cases htk : t = k
        · subst htk; exact absurd hpt hp
        · exact h t (by omega) hpt
      · exact fun h t ht hpt => h t (by omega) hpt
/-- Round, for each tick. -/
theorem lateW_rnd {W : List Int} {p q : Int} {M : Nat} (hq : hasL q W = true) : lateW W p q W.length ≤ M ↔ ∀ t d, rnd W t = some p → Dst W q t d → d ≤ M := by
  rw [lateW_le]
  constructor
  · intro h t d hp hd
    have hpos : 0 < W.length := by
      unfold rnd at hp
      have := (List.getElem?_eq_some_iff.1 hp).1
      omega
    have hlt : t % W.length < W.length := Nat.mod_lt _ hpos
    have h1 := h (t % W.length) hlt hp
    have e : ∀ x, rnd W (t % W.length + x) = rnd W (t + x) := fun x => by
      have h2 := Nat.div_add_mod t W.length
      have h3 : t + x = (t % W.length + x) + W.length * (t / W.length) := by omega
      rw [h3, rnd_add]
    have hd2 : Dst W q (t % W.length) d := ⟨hd.1, by rw [e]; exact hd.2.1, fun x hx hx2 => by rw [e]; exact hd.2.2 x hx hx2⟩
    rw [(dist_dst hq (t % W.length)).eq hd2] at h1
    exact h1
  · intro h t ht hp
    exact h t _ (by rw [rnd_lt ht]; exact hp) (dist_dst hq t)
theorem nat_eq_of_le {a b : Nat} (h : ∀ M, a ≤ M ↔ b ≤ M) : a = b := Nat.le_antisymm ((h b).2 (Nat.le_refl _)) ((h a).1 (Nat.le_refl _))
/-- The same circle, begun a ticks later. -/
structure Circ (V W : List Int) (a : Nat) : Prop where
  pos : 0 < W.length
  eq : ∀ i, rnd V i = rnd W (i + a)
theorem Circ.back {V W : List Int} {a : Nat} (h : Circ V W a) (j : Nat) : ∃ i, ∀ x, rnd W (j + x) = rnd V (i + x) := by
  refine ⟨j + (W.length - 1) * a, fun x => ?_⟩
  rw [h.eq]
  have hp := h.pos
  have e : j + (W.length - 1) * a + x + a = (j + x) + W.length * a := by
    have : W.length * a = (W.length - 1) * a + a := by
      conv => lhs; rw [show W.length = (W.length - 1) + 1 by omega]
      rw [Nat.add_mul, Nat.one_mul]
    omega
  rw [e, rnd_add]
theorem Circ.has {V W : List Int} {a : Nat} (h : Circ V W a) (q : Int) : hasL q V = hasL q W := by
  rw [Bool.eq_iff_iff, hasL_rnd, hasL_rnd]
  constructor
  · rintro ⟨t, e⟩
    exact ⟨t + a, by rw [← h.eq]; exact e⟩
  · rintro ⟨t, e⟩
    obtain ⟨i, hi⟩ := h.back t
    exact ⟨i, by have := hi 0; simp only [Nat.add_zero] at this; rw [← this]; exact e⟩
theorem Circ.late {V W : List Int} {a : Nat} (h : Circ V W a) (p q : Int) : lateL V p q = lateL W p q := by
  unfold lateL
  rw [h.has p, h.has q]
  by_cases hp : hasL p W = false
  · rw [if_pos hp, if_pos hp]
  · rw [if_neg hp, if_neg hp]
    by_cases hq : hasL q W = false
    · rw [if_pos hq, if_pos hq]
    · rw [if_neg hq, if_neg hq]
      have hqW : hasL q W = true := by simpa using hq
      have hqV : hasL q V = true := by rw [h.has]; exact hqW
      congr 1
      refine nat_eq_of_le fun M => ?_
      rw [lateW_rnd hqV, lateW_rnd hqW]
      constructor
      · intro H t d hpt hd
        obtain ⟨i, hi⟩ := h.back t
        have h0 := hi 0
        simp only [Nat.add_zero] at h0
        exact H i d (by rw [← h0]; exact hpt) ⟨hd.1, by rw [← hi]; exact hd.2.1, fun x h1 h2 => by rw [← hi]; exact hd.2.2 x h1 h2⟩
      · intro H t d hpt hd
        have e : ∀ x, rnd V (t + x) = rnd W (t + a + x) := fun x => by rw [h.eq, Nat.add_right_comm]
        have e0 := e 0
        simp only [Nat.add_zero] at e0
        exact H (t + a) d (by rw [← e0]; exact hpt) ⟨hd.1, by rw [← e]; exact hd.2.1, fun x h1 h2 => by rw [← e]; exact hd.2.2 x h1 h2⟩
theorem circ_two (W : List Int) (h : 0 < W.length) : Circ (W ++ W) W 0 := by
  refine ⟨h, fun i => ?_⟩
  unfold rnd
  rw [List.length_append, Nat.add_zero]
  have h1 : i % (W.length + W.length) < W.length + W.length := Nat.mod_lt _ (by omega)
  have h2 := Nat.div_add_mod i (W.length + W.length)
  generalize hr : i % (W.length + W.length) = r at h1 h2
  have h3 : i % W.length = r % W.length := by
    have : i = r + W.length * (2 * (i / (W.length + W.length))) := by
      rw [← Nat.mul_assoc, Nat.mul_two]
      omega
    conv => lhs; rw [this]
    rw [Nat.add_mul_mod_self_left]
  rw [h3]
  by_cases hl : r < W.length
  · rw [List.getElem?_append_left hl, Nat.mod_eq_of_lt hl]
  · rw [List.getElem?_append_right (by omega)]
    have : r % W.length = r - W.length := by
      rw [Nat.mod_eq_sub_mod (by omega), Nat.mod_eq_of_lt (by omega)]
    rw [this]
theorem circ_turn (X Y : List Int) (h : 0 < (X ++ Y).length) : Circ (Y ++ X) (X ++ Y) X.length := by
  refine ⟨h, fun i => ?_⟩
  unfold rnd
  have hn : (Y ++ X).length = (X ++ Y).length := by simp only [List.length_append]; omega
  rw [hn]
  have hl : (X ++ Y).length = X.length + Y.length := List.length_append
  generalize hN : (X ++ Y).length = N at *
  have h1 : i % N < N := Nat.mod_lt _ h
  have h2 : (i + X.length) % N = (i % N + X.length) % N := by rw [Nat.mod_add_mod]
  rw [h2]
  generalize i % N = r at h1
  by_cases hr : r < Y.length
  · rw [List.getElem?_append_left hr, Nat.mod_eq_of_lt (by omega), List.getElem?_append_right (by omega)]
    congr 1
    omega
  · rw [List.getElem?_append_right (by omega)]
    have : (r + X.length) % N = r + X.length - N := by rw [Nat.mod_eq_sub_mod (by omega), Nat.mod_eq_of_lt (by omega)]
    rw [this, List.getElem?_append_left (by omega)]
    congr 1
    omega
/-- The most ticks that go by between two of p's, round. -/
def gapL (W : List Int) (p : Int) : Int := if lateL W p p < 1 then -1 else lateL W p p - 1
theorem lateL_le (W : List Int) (p q : Int) : lateL W p q ≤ W.length := by
  unfold lateL
  split
  · omega
  · split
    · omega
    · rename_i h
      have hq : hasL q W = true := by simpa using h
      have := (lateW_le (W := W) (p := p) (q := q) (M := W.length) W.length).2 fun t _ _ => dist_le hq t
      omega
theorem gapL_lt (W : List Int) (p : Int) (h : 0 < W.length) : gapL W p < W.length := by
  have := lateL_le W p p
  unfold gapL
  split <;> omega
theorem lateL_neg (W : List Int) (p q : Int) : lateL W p q < 0 ↔ hasL p W = true ∧ hasL q W = false := by
  unfold lateL
  split
  · rename_i h
    simp [h]
  · rename_i h
    split
    · rename_i h2
      simp [h2]
      simpa using h
    · rename_i h2
      simp [h2]
theorem cnt_has {W : List Int} {p : Int} : 0 < cntF p W ↔ hasL p W = true := by
  induction W with
  | nil => simp [cntF, hasL]
  | cons x W ih =>
    simp only [cntF, hasL, Bool.or_eq_true, decide_eq_true_eq, ← ih]
    by_cases hx : x = p
    · simp [hx]; omega
    · simp [hx]
theorem cnt_rep (p x : Int) (n : Nat) : cntF p (List.replicate n x) = if x = p then n else 0 := by
  induction n with
  | zero => simp [cntF]
  | succ n ih =>
    simp only [List.replicate_succ, cntF, ih]
    by_cases h : x = p
    · simp [h]; omega
    · simp [h]
theorem cnt_words (p : Int) (L : List Rn) : cntF p (wordsL L) = tkOf p L := by
  induction L with
  | nil => rfl
  | cons r s ih => simp only [wordsL, cntF_append, cnt_rep, tkOf, ih]
/-- A budget of the whole frame: how many are p's. -/
theorem budL_all (W : List Int) (p : Int) (h : 0 < W.length) : budL W p W.length = cntF p W := by
  unfold budL
  rw [if_neg (by omega), if_neg (by omega), Int.toNat_natCast, if_neg (by rw [Nat.mod_self]; simp), Nat.div_self h]
  have h1 := cntF_le p W
  simp only [budW, Nat.zero_mul, List.drop_zero, List.take_length]
  omega
theorem budL_two (W : List Int) (p : Int) (h : 0 < W.length) : budL (W ++ W) p W.length = cntF p W := by
  have hl : (W ++ W).length = W.length * 2 := by rw [List.length_append]; omega
  unfold budL
  rw [hl, if_neg (by omega), if_neg (by omega), Int.toNat_natCast, if_neg (by rw [Nat.mul_mod_right]; simp), Nat.mul_div_cancel_left 2 h]
  have h1 := cntF_le p W
  have e1 : (W ++ W).take W.length = W := List.take_left' rfl
  have e2 : (W ++ W).drop W.length = W := List.drop_left' rfl
  simp only [budW, Nat.zero_mul, Nat.one_mul, List.drop_zero, e1, e2, List.take_length]
  omega
theorem budL_ge (W : List Int) (p z : Int) : -1 ≤ budL W p z := by
  unfold budL
  split
  · omega
  · split
    · omega
    · split <;> omega
theorem cnt_turn (p : Int) (X Y : List Int) : cntF p (Y ++ X) = cntF p (X ++ Y) := by rw [cntF_append, cntF_append, Nat.add_comm]
end Go.Proofs.Ytcmdhaieggjgcaa

/- How long each run of a tidy row waits for the next tick of one, round; how few ticks in each period, run by run: plain mathematics. -/
namespace Go.Proofs.Ytcmdhaieggjgcaa
open Go.RowKit Tab
set_option linter.unusedSimpArgs false
set_option linter.unusedVariables false

theorem wordsL_push (out : List Rn) (x : Rn) : wordsL (tpush out x) = wordsL out ++ List.replicate x.n x.p := by
  rcases tpush_cases out x with ⟨h, e⟩ | ⟨h, rfl, e⟩ | ⟨o, y, h, rfl, hp, e⟩ | ⟨o, y, h, rfl, hp, e⟩
  · rw [e, h]; simp
  · rw [e]; simp [wordsL]
  · rw [e, wordsL_append, wordsL_append]
    simp only [wordsL, hp, List.append_nil, List.append_assoc]
    rw [List.replicate_append_replicate]
  · rw [e, wordsL_append]; simp [wordsL]
theorem wordsL_tidyOn (l : List Rn) : ∀ out, wordsL (tidyOn out l) = wordsL out ++ wordsL l := by
  induction l with
  | nil => intro out; simp [tidyOn, wordsL]
  | cons x l ih =>
    intro out
    have := ih (tpush out x)
    unfold tidyOn at this ⊢
    rw [List.foldl_cons, this, wordsL_push]
    simp only [wordsL, List.append_assoc]
theorem wordsL_tidy (l : List Rn) : wordsL (tidy l) = wordsL l := by
  unfold tidy
  rw [wordsL_tidyOn]
  rfl
/-- Where the first tick of q is. -/
def fi (q : Int) : List Int → Nat
  | [] => 0
  | x :: l => if x = q then 0 else fi q l + 1
theorem fi_get {q : Int} {Z : List Int} (h : hasL q Z = true) : Z[fi q Z]? = some q := by
  induction Z with
  | nil => cases h
  | cons x Z ih =>
    simp only [hasL, Bool.or_eq_true, decide_eq_true_eq] at h
    by_cases hx : x = q
    · simp [fi, hx]
    · simp only [fi, if_neg hx, List.getElem?_cons_succ]
      exact ih (h.resolve_left hx)
theorem fi_no {q : Int} {Z : List Int} : ∀ {i : Nat}, i < fi q Z → ¬ Z[i]? = some q := by
  induction Z with
  | nil => intro i h; simp [fi] at h
  | cons x Z ih =>
    intro i h
    by_cases hx : x = q
    · simp [fi, hx] at h
    · simp only [fi, if_neg hx] at h
      cases i with
      | zero => simpa using hx
      | succ i => simpa using ih (by omega)
theorem fi_lt {q : Int} {Z : List Int} (h : hasL q Z = true) : fi q Z < Z.length := (List.getElem?_eq_some_iff.1 (fi_get h)).1
theorem fi_rep_ne {x q : Int} (h : x ≠ q) (k : Nat) (Z : List Int) : fi q (List.replicate k x ++ Z) = k + fi q Z := by
  induction k with
  | zero => simp
  | succ k ih =>
    simp only [List.replicate_succ, List.cons_append, fi, if_neg h, ih]
    omega
theorem fi_rep_eq (q : Int) (k : Nat) (Z : List Int) (h : 1 ≤ k) : fi q (List.replicate k q ++ Z) = 0 := by
  obtain ⟨k, rfl⟩ : ∃ j, k = j + 1 := ⟨k - 1, by omega⟩
  simp [List.replicate_succ, fi]
/-- What is carried on, from the last run to the first one. -/
def wc (q : Int) : List Rn → Nat → Nat
  | [], n => n
  | r :: s, n => if r.p = q then 0 else wc q s n + r.n
theorem wc_fi {q : Int} {S : List Rn} (h : ∀ r ∈ S, 1 ≤ r.n) (Y : List Int) : wc q S (fi q Y) = fi q (wordsL S ++ Y) := by
  induction S with
  | nil => rfl
  | cons r s ih =>
    have ih := ih fun x hx => h x (by simp [hx])
    have h1 := h r (by simp)
    simp only [wc, wordsL, List.append_assoc]
    by_cases hp : r.p = q
    · rw [if_pos hp, hp, fi_rep_eq q _ _ h1]
    · rw [if_neg hp, fi_rep_ne hp, ih]
      omega
theorem wc_le (q : Int) (S : List Rn) (n : Nat) : wc q S n ≤ ticks S + n := by
  induction S with
  | nil => simp [wc, ticks]
  | cons r s ih =>
    simp only [wc, ticks]
    split <;> omega
theorem wc_at {q : Int} {L : List Rn} {i : Nat} {r : Rn} (h : L[i]? = some r) (n : Nat) : wc q (L.drop i) n = if r.p = q then 0 else wc q (L.drop (i + 1)) n + r.n := by
  obtain ⟨hi, e⟩ := List.getElem?_eq_some_iff.1 h
  rw [List.drop_eq_getElem_cons hi, e]
  rfl
/-- How long run i waits for q. -/
def wt (q : Int) (L : List Rn) (i : Nat) : Nat := wc q (L.drop (i + 1)) (wc q L 0)
theorem ticks_drop_le (L : List Rn) (i : Nat) : ticks (L.drop i) ≤ ticks L := by
  have h : ticks (L.take i ++ L.drop i) = ticks L := by rw [List.take_append_drop]
  rw [ticks_append] at h
  omega
theorem wc0_le (q : Int) (L : List Rn) : wc q L 0 ≤ ticks L := by
  have := wc_le q L 0
  omega
theorem wt_le (q : Int) (L : List Rn) (i : Nat) : wt q L i ≤ 2 * ticks L := by
  have h1 := wc_le q (L.drop (i + 1)) (wc q L 0)
  have h2 := wc0_le q L
  have h3 := ticks_drop_le L (i + 1)
  unfold wt
  omega
theorem wt_fi {q : Int} {L : List Rn} (h : ∀ r ∈ L, 1 ≤ r.n) (i : Nat) : wt q L i = fi q (wordsL (L.drop (i + 1)) ++ wordsL L) := by
  unfold wt
  have e : wc q L 0 = fi q (wordsL L) := by
    have := wc_fi (q := q) h []
    rw [List.append_nil] at this
    exact this
  rw [e, wc_fi fun r hr => h r (List.mem_of_mem_drop hr)]
theorem rnd_split {X Y W : List Int} {x : Int} (hW : W = X ++ x :: Y) {m : Nat} (hm : m < (Y ++ W).length) : rnd W (X.length + (1 + m)) = (Y ++ W)[m]? := by
  have hl : W.length = X.length + 1 + Y.length := by rw [hW, List.length_append, List.length_cons]; omega
  rw [List.length_append] at hm
  by_cases h : m < Y.length
  · rw [rnd_lt (by omega), List.getElem?_append_left h, hW, List.getElem?_append_right (by omega)]
    rw [show X.length + (1 + m) - X.length = m + 1 by omega, List.getElem?_cons_succ]
  · rw [List.getElem?_append_right (by omega)]
    have e : X.length + (1 + m) = (m - Y.length) + W.length * 1 := by omega
    rw [e, rnd_add, rnd_lt (by omega)]
theorem dist_split {X Y W : List Int} {x q : Int} (hW : W = X ++ x :: Y) (h : hasL q W = true) : dist W q X.length = 1 + fi q (Y ++ W) := by
  have hZ : hasL q (Y ++ W) = true := by rw [hasL_append, h, Bool.or_true]
  have hlt := fi_lt hZ
  refine (dist_dst h X.length).eq ⟨by omega, ?_, fun e h1 h2 => ?_⟩
  · rw [rnd_split hW hlt]
    exact fi_get hZ
  · obtain ⟨m, rfl⟩ : ∃ m, e = 1 + m := ⟨e - 1, by omega⟩
    rw [rnd_split hW (by omega)]
    exact fi_no (by omega)
theorem run_at {L : List Rn} {i : Nat} {r : Rn} (hr : L[i]? = some r) : wordsL L = wordsL (L.take i) ++ (List.replicate r.n r.p ++ wordsL (L.drop (i + 1))) := by
  have h := congrArg wordsL (List.take_append_drop (i + 1) L)
  rw [wordsL_append, wordsL_more hr, List.append_assoc] at h
  exact h.symm
theorem dist_run {L : List Rn} {i j : Nat} {r : Rn} {q : Int} (hr : L[i]? = some r) (h : hasL q (wordsL L) = true) (hj : j < r.n) :
    dist (wordsL L) q ((wordsL (L.take i)).length + j) = 1 + fi q (List.replicate (r.n - 1 - j) r.p ++ (wordsL (L.drop (i + 1)) ++ wordsL L)) := by
  have e : wordsL L = (wordsL (L.take i) ++ List.replicate j r.p) ++ r.p :: (List.replicate (r.n - 1 - j) r.p ++ wordsL (L.drop (i + 1))) := by
    refine (run_at hr).trans ?_
    have e2 : List.replicate r.n r.p = List.replicate j r.p ++ r.p :: List.replicate (r.n - 1 - j) r.p := by
      rw [← List.replicate_succ, List.replicate_append_replicate]
      congr 1
      omega
    rw [e2]
    simp only [List.append_assoc, List.cons_append]
  have k := dist_split e h
  rw [List.length_append, List.length_replicate, List.append_assoc] at k
  exact k
theorem get_run : ∀ (L : List Rn) (t : Nat), t < (wordsL L).length → ∃ i r j, L[i]? = some r ∧ j < r.n ∧ t = (wordsL (L.take i)).length + j ∧ (wordsL L)[t]? = some r.p := by
  intro L
  induction L with
  | nil => intro t h; simp [wordsL] at h
  | cons x L ih =>
    intro t h
    by_cases hx : t < x.n
    · refine ⟨0, x, t, rfl, hx, by simp [wordsL], ?_⟩
      simp only [wordsL]
      rw [List.getElem?_append_left (by simpa using hx), List.getElem?_replicate, if_pos hx]
    · simp only [wordsL, List.length_append, List.length_replicate] at h
      obtain ⟨i, r, j, h1, h2, h3, h4⟩ := ih (t - x.n) (by omega)
      refine ⟨i + 1, r, j, h1, h2, ?_, ?_⟩
      · simp only [List.take_succ_cons, wordsL, List.length_append, List.length_replicate]
        omega
      · simp only [wordsL]
        rw [List.getElem?_append_right (by simp; omega), List.length_replicate]
        exact h4
theorem run_get {L : List Rn} {i j : Nat} {r : Rn} (hr : L[i]? = some r) (hj : j < r.n) : (wordsL L)[(wordsL (L.take i)).length + j]? = some r.p ∧ (wordsL (L.take i)).length + j < (wordsL L).length := by
  have e := run_at hr
  have h1 : (wordsL L)[(wordsL (L.take i)).length + j]? = some r.p := by
    rw [e, List.getElem?_append_right (by omega), Nat.add_sub_cancel_left, List.getElem?_append_left (by simpa using hj), List.getElem?_replicate, if_pos hj]
  exact ⟨h1, (List.getElem?_eq_some_iff.1 h1).1⟩
/-- The greatest of the first k runs of p. -/
def mo (p : Int) (g : Nat → Nat → Nat) (L : List Rn) : Nat → Nat
  | 0 => 0
  | k + 1 => match L[k]? with
    | some r => if r.p = p then max (mo p g L k) (g k r.n) else mo p g L k
    | none => mo p g L k
theorem mo_yes {p : Int} {g : Nat → Nat → Nat} {L : List Rn} {k : Nat} {r : Rn} (h : L[k]? = some r) (hp : r.p = p) : mo p g L (k + 1) = max (mo p g L k) (g k r.n) := by simp only [mo, h, if_pos hp]
theorem mo_no {p : Int} {g : Nat → Nat → Nat} {L : List Rn} {k : Nat} {r : Rn} (h : L[k]? = some r) (hp : r.p ≠ p) : mo p g L (k + 1) = mo p g L k := by simp only [mo, h, if_neg hp]
theorem mo_le {p : Int} {g : Nat → Nat → Nat} {L : List Rn} {M : Nat} : ∀ k, mo p g L k ≤ M ↔ ∀ i r, i < k → L[i]? = some r → r.p = p → g i r.n ≤ M := by
  intro k
  induction k with
  | zero => exact ⟨fun _ i r h => by omega, fun _ => Nat.zero_le _⟩
  | succ k ih =>
    have low : (∀ i r, i < k + 1 → L[i]? = some r → r.p = p → g i r.n ≤ M) ↔ mo p g L k ≤ M ∧ ∀ r, L[k]? = some r → r.p = p → g k r.n ≤ M := by
      constructor
      · exact fun h => ⟨ih.2 fun i r hi => h i r (by omega), fun r => h k r (by omega)⟩
      · rintro ⟨h1, h2⟩ i r hi hr hp
        by_cases e : i = k
        · subst e; exact h2 r hr hp
        · exact ih.1 h1 i r (by omega) hr hp
    rw [low]
    cases hk : L[k]? with
    | none => simp [mo, hk]
    | some x =>
      by_cases hp : x.p = p
      · rw [mo_yes hk hp]
        constructor
        · intro h
          exact ⟨by omega, fun r hr _ => by injection hr with hr; subst hr; omega⟩
        · rintro ⟨h1, h2⟩
          have := h2 x rfl hp
          omega
      · rw [mo_no hk hp]
        exact ⟨fun h => ⟨h, fun r hr hrp => by injection hr with hr; subst hr; exact absurd hrp hp⟩, fun h => h.1⟩
theorem lateW_run {L : List Rn} {p q : Int} {M : Nat} : lateW (wordsL L) p q (wordsL L).length ≤ M ↔ ∀ i r j, L[i]? = some r → r.p = p → j < r.n → dist (wordsL L) q ((wordsL (L.take i)).length + j) ≤ M := by
  rw [lateW_le]
  constructor
  · intro h i r j hr hp hj
    obtain ⟨h1, h2⟩ := run_get hr hj
    exact h _ h2 (by rw [h1, hp])
  · intro h t ht hp
    obtain ⟨i, r, j, hr, hj, rfl, e⟩ := get_run L t ht
    rw [e] at hp
    injection hp with hp
    exact h i r j hr hp hj
theorem late_mo {L : List Rn} {p q : Int} (h : ∀ r ∈ L, 1 ≤ r.n) (hq : hasL q (wordsL L) = true) (hne : p ≠ q) : lateW (wordsL L) p q (wordsL L).length = mo p (fun i n => wt q L i + n) L L.length := by
  refine nat_eq_of_le fun M => ?_
  rw [lateW_run, mo_le]
  constructor
  · intro H i r _ hr hp
    have h1 := h r (List.mem_of_getElem? hr)
    have k := H i r 0 hr hp (by omega)
    rw [dist_run hr hq (by omega), fi_rep_ne (by rw [hp]; exact hne), ← wt_fi h] at k
    omega
  · intro H i r j hr hp hj
    have k := H i r (List.getElem?_eq_some_iff.1 hr).1 hr hp
    rw [dist_run hr hq hj, fi_rep_ne (by rw [hp]; exact hne), ← wt_fi h]
    omega
theorem gap_mo {L : List Rn} {p : Int} (h : ∀ r ∈ L, 1 ≤ r.n) (hp : hasL p (wordsL L) = true) : lateW (wordsL L) p p (wordsL L).length = mo p (fun i _ => wt p L i) L L.length + 1 := by
  have h1 : 1 ≤ lateW (wordsL L) p p (wordsL L).length := by
    obtain ⟨t, ht, e⟩ := hasL_get hp
    have k := (lateW_le (W := wordsL L) (p := p) (q := p) (wordsL L).length).1 (Nat.le_refl _) t ht e
    have := (dist_dst hp t).1
    omega
  have key : lateW (wordsL L) p p (wordsL L).length - 1 = mo p (fun i _ => wt p L i) L L.length := by
    refine nat_eq_of_le fun M => ?_
    rw [show (lateW (wordsL L) p p (wordsL L).length - 1 ≤ M) ↔ lateW (wordsL L) p p (wordsL L).length ≤ M + 1 by omega, lateW_run, mo_le]
    constructor
    · intro H i r _ hr hrp
      have h1 := h r (List.mem_of_getElem? hr)
      have k := H i r (r.n - 1) hr hrp (by omega)
      rw [dist_run hr hp (by omega), show r.n - 1 - (r.n - 1) = 0 by omega, List.replicate_zero, List.nil_append, ← wt_fi h] at k
      omega
    · intro H i r j hr hrp hj
      have k := H i r (List.getElem?_eq_some_iff.1 hr).1 hr hrp
      rw [dist_run hr hp hj]
      by_cases hl : r.n - 1 - j = 0
      · rw [hl, List.replicate_zero, List.nil_append, ← wt_fi h]
        omega
      · rw [hrp, fi_rep_eq p _ _ (by omega)]
        omega
  omega
theorem has_tk {L : List Rn} {p : Int} : hasL p (wordsL L) = true ↔ 0 < tkOf p L := by rw [← cnt_has, cnt_words]
theorem has_tk0 {L : List Rn} {p : Int} : hasL p (wordsL L) = false ↔ tkOf p L = 0 := by
  have h := has_tk (L := L) (p := p)
  cases hh : hasL p (wordsL L) with
  | true =>
    rw [hh] at h
    have := h.1 rfl
    exact ⟨fun e => (by cases e), fun e => by omega⟩
  | false =>
    have h2 : ¬ 0 < tkOf p L := fun k => by
      have := h.2 k
      rw [hh] at this
      cases this
    exact ⟨fun _ => by omega, fun _ => rfl⟩
/-- Where the reckoning of a budget stands: the least so far, how many ticks the period still has, how many of them were p's. -/
structure Bst where
  a : Nat
  l : Nat
  m : Nat
def stp (p : Int) (P : Nat) (s : Bst) (x : Int) : Bst := if s.l = 1 then ⟨min s.a (s.m + if x = p then 1 else 0), P, 0⟩ else ⟨s.a, s.l - 1, s.m + if x = p then 1 else 0⟩
theorem stp_one {p x : Int} {P a m : Nat} : stp p P ⟨a, 1, m⟩ x = ⟨min a (m + if x = p then 1 else 0), P, 0⟩ := rfl
theorem stp_many {p x : Int} {P a l m : Nat} (h : ¬ l = 1) : stp p P ⟨a, l, m⟩ x = ⟨a, l - 1, m + if x = p then 1 else 0⟩ := if_neg h
def stpL (p : Int) (P : Nat) (s : Bst) (X : List Int) : Bst := X.foldl (stp p P) s
theorem stpL_append (p : Int) (P : Nat) (s : Bst) (X Y : List Int) : stpL p P s (X ++ Y) = stpL p P (stpL p P s X) Y := List.foldl_append
theorem stpL_lt {p : Int} {P : Nat} : ∀ (X : List Int) (a l m : Nat), X.length < l → stpL p P ⟨a, l, m⟩ X = ⟨a, l - X.length, m + cntF p X⟩ := by
  intro X
  induction X with
  | nil => intro a l m _; rfl
  | cons x X ih =>
    intro a l m h
    rw [List.length_cons] at h
    have e : stpL p P ⟨a, l, m⟩ (x :: X) = stpL p P (stp p P ⟨a, l, m⟩ x) X := rfl
    rw [e, stp_many (by omega), ih _ _ _ (by omega)]
    simp only [List.length_cons, cntF]
    congr 1 <;> omega
theorem stpL_eq {p : Int} {P : Nat} : ∀ (X : List Int) (a l m : Nat), X.length = l → 1 ≤ l → stpL p P ⟨a, l, m⟩ X = ⟨min a (m + cntF p X), P, 0⟩ := by
  intro X
  induction X with
  | nil => intro a l m h h1; simp at h; omega
  | cons x X ih =>
    intro a l m h h1
    rw [List.length_cons] at h
    have e : stpL p P ⟨a, l, m⟩ (x :: X) = stpL p P (stp p P ⟨a, l, m⟩ x) X := rfl
    rw [e]
    by_cases hl : l = 1
    · have hX : X = [] := List.length_eq_zero_iff.1 (by omega)
      subst hX
      subst hl
      rw [stp_one]
      rfl
    · rw [stp_many hl, ih _ _ _ (by omega) (by omega)]
      simp only [cntF]
      congr 2
      omega
/-- A run within the period. -/
theorem stp_part {p x : Int} {P a l m n : Nat} (h : n < l) : stpL p P ⟨a, l, m⟩ (List.replicate n x) = ⟨a, l - n, m + if x = p then n else 0⟩ := by
  rw [stpL_lt _ _ _ _ (by simpa using h), List.length_replicate, cnt_rep]
/-- A run that ends the period. -/
theorem stp_full {p x : Int} {P a l m n : Nat} (h : l ≤ n) (h1 : 1 ≤ l) : stpL p P ⟨a, l, m⟩ (List.replicate n x) = stpL p P ⟨min a (m + if x = p then l else 0), P, 0⟩ (List.replicate (n - l) x) := by
  obtain ⟨k, rfl⟩ : ∃ k, n = l + k := ⟨n - l, by omega⟩
  rw [← List.replicate_append_replicate, stpL_append, stpL_eq _ _ _ _ (by simp) h1, cnt_rep, Nat.add_sub_cancel_left]
/-- Whole periods within a run are all alike. -/
theorem stp_jump {p x : Int} {P : Nat} (hP : 1 ≤ P) (r : Nat) : ∀ (k a : Nat), stpL p P ⟨a, P, 0⟩ (List.replicate (P * (k + 1) + r) x) = stpL p P ⟨a, P, 0⟩ (List.replicate (P + r) x) := by
  intro k
  induction k with
  | zero => intro a; rw [Nat.zero_add, Nat.mul_one]
  | succ k ih =>
    intro a
    rw [stp_full (by rw [Nat.mul_add]; omega) hP, show P * (k + 1 + 1) + r - P = P * (k + 1) + r by rw [Nat.mul_add P (k + 1) 1]; omega, ih,
      stp_full (n := P + r) (a := a) (by omega) hP, stp_full (n := P + r) (by omega) hP]
    congr 2
    simp only [Nat.zero_add]
    omega
theorem stp_mod {p x : Int} {P a n : Nat} (hP : 1 ≤ P) (h : 1 < n / P) : stpL p P ⟨a, P, 0⟩ (List.replicate n x) = stpL p P ⟨a, P, 0⟩ (List.replicate (P + n % P) x) := by
  obtain ⟨k, hk⟩ : ∃ k, n / P = k + 1 := ⟨n / P - 1, by omega⟩
  have e := Nat.div_add_mod n P
  rw [hk] at e
  rw [← stp_jump hP (n % P) k a, e]
theorem stp_bud {p : Int} {P : Nat} {W : List Int} (hP : 1 ≤ P) : ∀ k, P * k ≤ W.length → stpL p P ⟨P, P, 0⟩ (W.take (P * k)) = ⟨min P (budW W p P k), P, 0⟩ := by
  intro k
  induction k with
  | zero =>
    intro _
    rw [Nat.mul_zero, List.take_zero]
    show (⟨P, P, 0⟩ : Bst) = _
    congr 1
    simp only [budW]
    omega
  | succ k ih =>
    intro h
    rw [Nat.mul_add, Nat.mul_one] at h ⊢
    rw [List.take_add, stpL_append, ih (by omega), stpL_eq _ _ _ _ (by rw [List.length_take, List.length_drop]; omega) hP]
    simp only [budW, Nat.zero_add, Nat.mul_comm k P]
    congr 1
    omega
theorem stp_all {p : Int} {P : Nat} {W : List Int} (hP : 1 ≤ P) (hW : 1 ≤ W.length) (hm : W.length % P = 0) : (stpL p P ⟨P, P, 0⟩ W).a = budW W p P (W.length / P) := by
  have e := Nat.div_add_mod W.length P
  rw [hm, Nat.add_zero] at e
  have h := stp_bud (p := p) (W := W) hP (W.length / P) (by omega)
  rw [e, List.take_length] at h
  rw [h]
  show min P (budW W p P (W.length / P)) = _
  have hd : W.length / P ≠ 0 := fun h0 => by
    rw [h0, Nat.mul_zero] at e
    omega
  obtain ⟨k, hk⟩ : ∃ k, W.length / P = k + 1 := Nat.exists_eq_succ_of_ne_zero hd
  rw [hk]
  simp only [budW]
  have h1 := cntF_le p ((W.drop (k * P)).take P)
  have h2 : ((W.drop (k * P)).take P).length ≤ P := by rw [List.length_take]; omega
  omega
/-- What holds of a reckoning under way. -/
def BOk (P : Nat) (s : Bst) : Prop := s.a ≤ P ∧ 1 ≤ s.l ∧ s.l ≤ P ∧ s.m + s.l ≤ P
theorem bok_step {p : Int} {P : Nat} {s : Bst} (hP : 1 ≤ P) (h : BOk P s) (x : Int) : BOk P (stp p P s x) := by
  obtain ⟨h1, h2, h3, h4⟩ := h
  unfold stp
  by_cases hl : s.l = 1
  · rw [if_pos hl]
    exact ⟨by show min _ _ ≤ P; omega, hP, Nat.le_refl _, by show 0 + P ≤ P; omega⟩
  · rw [if_neg hl]
    refine ⟨h1, by show 1 ≤ s.l - 1; omega, by show s.l - 1 ≤ P; omega, ?_⟩
    show s.m + _ + (s.l - 1) ≤ P
    split <;> omega
theorem bok_all {p : Int} {P : Nat} (hP : 1 ≤ P) : ∀ (X : List Int) (s : Bst), BOk P s → BOk P (stpL p P s X) := by
  intro X
  induction X with
  | nil => intro s h; exact h
  | cons x X ih => intro s h; exact ih _ (bok_step hP h x)
theorem bok_start {P : Nat} (hP : 1 ≤ P) : BOk P ⟨P, P, 0⟩ := ⟨Nat.le_refl _, hP, Nat.le_refl _, by show 0 + P ≤ P; omega⟩
end Go.Proofs.Ytcmdhaieggjgcaa

/- Closing a matrix: Warshall's recurrence, what it is (the least that is closed), what grows with it; who depends on whom, who sways whom, out of partitions and channels: plain mathematics. -/
namespace Go.Proofs.Ytcmdhaieggjgcaa
namespace Tab

/-- What is reached by ways through those below k. -/
def War (m : Nat → Nat → Bool) : Nat → Nat → Nat → Bool
  | 0, a, b => m a b
  | k + 1, a, b => War m k a b || (War m k a k && War m k k b)
theorem war_ge (m : Nat → Nat → Bool) (k a b : Nat) (h : War m k a b = true) : War m (k + 1) a b = true := by
  simp only [War, h, Bool.true_or]
theorem war_up (m : Nat → Nat → Bool) (k d a b : Nat) (h : War m k a b = true) : War m (k + d) a b = true := by
  induction d with
  | zero => exact h
  | succ d ih => exact war_ge m (k + d) a b ih
theorem war_from (m : Nat → Nat → Bool) (n a b : Nat) (h : m a b = true) : War m n a b = true := by
  have := war_up m 0 n a b h
  rwa [Nat.zero_add] at this
/-- Row and column k stay in step k: so it may be done in place. -/
theorem war_col (m : Nat → Nat → Bool) (k a : Nat) : War m (k + 1) a k = War m k a k := by
  simp only [War]
  cases War m k a k <;> simp
theorem war_row (m : Nat → Nat → Bool) (k b : Nat) : War m (k + 1) k b = War m k k b := by
  simp only [War]
  cases War m k k k <;> cases War m k k b <;> simp
theorem war_step {m : Nat → Nat → Bool} {k a b : Nat} : War m (k + 1) a b = true ↔ War m k a b = true ∨ (War m k a k = true ∧ War m k k b = true) := by
  simp only [War, Bool.or_eq_true, Bool.and_eq_true]
theorem war_trans (m : Nat → Nat → Bool) (k : Nat) : ∀ a b c, c < k → War m k a c = true → War m k c b = true → War m k a b = true := by
  induction k with
  | zero => intro a b c h; omega
  | succ k ih =>
    intro a b c hc h1 h2
    by_cases hk : c = k
    · subst hk
      rw [war_col] at h1
      rw [war_row] at h2
      exact war_step.2 (.inr ⟨h1, h2⟩)
    · have hlt : c < k := by omega
      rw [war_step] at h1 h2 ⊢
      rcases h1 with h1 | ⟨h1, h1'⟩ <;> rcases h2 with h2 | ⟨h2, h2'⟩
      · exact .inl (ih a b c hlt h1 h2)
      · exact .inr ⟨ih a k c hlt h1 h2, h2'⟩
      · exact .inr ⟨h1, ih k b c hlt h1' h2⟩
      · exact .inr ⟨h1, h2'⟩
/-- Closed below n. -/
def Shut (n : Nat) (M : Nat → Nat → Bool) : Prop := ∀ a b c, a < n → b < n → c < n → M a c = true → M c b = true → M a b = true
theorem war_shut (m : Nat → Nat → Bool) (n : Nat) : Shut n (War m n) := fun a b c _ _ hc h1 h2 => war_trans m n a b c hc h1 h2
/-- No closed one that has m has less. -/
theorem war_least {m M : Nat → Nat → Bool} {n : Nat} (hM : Shut n M) (hm : ∀ a b, a < n → b < n → m a b = true → M a b = true) (k : Nat) (hk : k ≤ n) : ∀ a b, a < n → b < n → War m k a b = true → M a b = true := by
  induction k with
  | zero => intro a b ha hb h; exact hm a b ha hb h
  | succ k ih =>
    intro a b ha hb h
    rcases war_step.1 h with h | ⟨h1, h2⟩
    · exact ih (by omega) a b ha hb h
    · exact hM a b k ha hb (by omega) (ih (by omega) a k ha (by omega) h1) (ih (by omega) k b (by omega) hb h2)
/-- What is closed stays. -/
theorem war_stays {M : Nat → Nat → Bool} {n : Nat} (hM : Shut n M) (a b : Nat) (ha : a < n) (hb : b < n) : War M n a b = M a b := by
  rw [Bool.eq_iff_iff]
  exact ⟨war_least hM (fun _ _ _ _ h => h) n (Nat.le_refl _) a b ha hb, war_from M n a b⟩
/-- Whatever closes m to the least is this. -/
theorem war_is {m M : Nat → Nat → Bool} {n : Nat} (hM : Shut n M) (hm : ∀ a b, a < n → b < n → m a b = true → M a b = true) (hl : ∀ a b, a < n → b < n → M a b = true → War m n a b = true) (a b : Nat) (ha : a < n) (hb : b < n) : M a b = War m n a b := by
  rw [Bool.eq_iff_iff]
  exact ⟨hl a b ha hb, war_least hM hm n (Nat.le_refl _) a b ha hb⟩
/-- More is reached by more. -/
theorem war_more {m M : Nat → Nat → Bool} {n : Nat} (hm : ∀ a b, a < n → b < n → m a b = true → M a b = true) : ∀ a b, a < n → b < n → War m n a b = true → War M n a b = true :=
  war_least (war_shut M n) (fun a b ha hb h => war_from M n a b (hm a b ha hb h)) n (Nat.le_refl _)
/-- It hangs on what is below n alone. -/
theorem war_congr {m M : Nat → Nat → Bool} {n : Nat} (h : ∀ a b, a < n → b < n → m a b = M a b) (k : Nat) (hk : k ≤ n) : ∀ a b, a < n → b < n → War m k a b = War M k a b := by
  induction k with
  | zero => intro a b ha hb; exact h a b ha hb
  | succ k ih =>
    intro a b ha hb
    simp only [War]
    rw [ih (by omega) a b ha hb, ih (by omega) a k ha (by omega), ih (by omega) k b (by omega) hb]

/-- A partition: may it change the schedule, stop all. -/
structure Pt where
  sched : Bool
  stop : Bool
/-- A channel: from whom, to whom, is it a queue. -/
structure Ch where
  from_ : Int
  to_ : Int
  queue : Bool
def inP (n : Nat) (p : Int) : Bool := decide (0 ≤ p) && decide (p < n)
def schedOf (P : List Pt) (a : Nat) : Bool := (P[a]?.map (·.sched)).getD false
def stopOf (P : List Pt) (a : Nat) : Bool := (P[a]?.map (·.stop)).getD false
/-- Does a channel join a and b, this way? -/
def joins (n : Nat) (x : Ch) (a b : Nat) : Bool := inP n x.from_ && inP n x.to_ && decide (x.from_ = a) && decide (x.to_ = b)
def depF (P : List Pt) (C : List Ch) (a b : Nat) : Bool := decide (a = b) || (schedOf P a && schedOf P b) || C.any fun x => joins P.length x a b || joins P.length x b a
def swayF (P : List Pt) (C : List Ch) (a b : Nat) : Bool := decide (a = b) || schedOf P a || stopOf P a || C.any fun x => joins P.length x a b || (x.queue && joins P.length x b a)
theorem depF_sym (P : List Pt) (C : List Ch) (a b : Nat) : depF P C a b = depF P C b a := by
  unfold depF
  congr 1
  · congr 1
    · exact decide_eq_decide.2 eq_comm
    · exact Bool.and_comm _ _
  · congr 1
    funext x
    exact Bool.or_comm _ _
theorem depF_self (P : List Pt) (C : List Ch) (a : Nat) : depF P C a a = true := by simp [depF]
theorem swayF_self (P : List Pt) (C : List Ch) (a : Nat) : swayF P C a a = true := by simp [swayF]
theorem depF_chan {P : List Pt} {C : List Ch} {x : Ch} {a b : Nat} (hx : x ∈ C) (h : joins P.length x a b = true) : depF P C a b = true ∧ depF P C b a = true := by
  have h1 : depF P C a b = true := by
    unfold depF
    simp only [Bool.or_eq_true, List.any_eq_true]
    exact .inr ⟨x, hx, .inl h⟩
  exact ⟨h1, by rw [depF_sym]; exact h1⟩
theorem swayF_chan {P : List Pt} {C : List Ch} {x : Ch} {a b : Nat} (hx : x ∈ C) (h : joins P.length x a b = true) : swayF P C a b = true ∧ (x.queue = true → swayF P C b a = true) := by
  unfold swayF
  simp only [Bool.or_eq_true, List.any_eq_true, Bool.and_eq_true]
  exact ⟨.inr ⟨x, hx, .inl h⟩, fun hq => .inr ⟨x, hx, .inr ⟨hq, h⟩⟩⟩
/-- With a channel more nobody sways fewer. -/
theorem swayF_more (P : List Pt) (C D : List Ch) (a b : Nat) (h : swayF P C a b = true) : swayF P (C ++ D) a b = true := by
  unfold swayF at h ⊢
  rw [List.any_append]
  revert h
  cases decide (a = b) <;> cases schedOf P a <;> cases stopOf P a <;> cases (C.any fun x => joins P.length x a b || (x.queue && joins P.length x b a)) <;> simp
/-- The channels one by one, from the first on: what a loop over them has done. -/
theorem depF_snoc (P : List Pt) (C : List Ch) (x : Ch) (a b : Nat) : depF P (C ++ [x]) a b = (depF P C a b || (joins P.length x a b || joins P.length x b a)) := by
  unfold depF
  rw [List.any_append, List.any_cons, List.any_nil, Bool.or_false, Bool.or_assoc _ _ (joins P.length x a b || joins P.length x b a)]
theorem swayF_snoc (P : List Pt) (C : List Ch) (x : Ch) (a b : Nat) : swayF P (C ++ [x]) a b = (swayF P C a b || (joins P.length x a b || (x.queue && joins P.length x b a))) := by
  unfold swayF
  rw [List.any_append, List.any_cons, List.any_nil, Bool.or_false, Bool.or_assoc _ _ (joins P.length x a b || (x.queue && joins P.length x b a))]
/-- Who reaches p, rising. -/
def reachL (P : List Pt) (C : List Ch) (p : Nat) : List Nat := (List.range P.length).filter fun a => War (swayF P C) P.length a p
theorem reachL_self (P : List Pt) (C : List Ch) (p : Nat) (h : p < P.length) : p ∈ reachL P C p := by
  unfold reachL
  rw [List.mem_filter, List.mem_range]
  exact ⟨h, war_from _ _ _ _ (swayF_self P C p)⟩
theorem filter_sub {q r : Nat → Bool} (l : List Nat) (h : ∀ a ∈ l, q a = true → r a = true) : (l.filter q).Sublist (l.filter r) := by
  induction l with
  | nil => exact List.Sublist.refl _
  | cons x l ih =>
    have h1 := ih fun a ha => h a (by simp [ha])
    cases hq : q x with
    | true => rw [List.filter_cons_of_pos hq, List.filter_cons_of_pos (h x (by simp) hq)]; exact h1.cons_cons x
    | false =>
      rw [List.filter_cons_of_neg (by simp [hq])]
      cases hr : r x with
      | true => rw [List.filter_cons_of_pos hr]; exact h1.cons x
      | false => rw [List.filter_cons_of_neg (by simp [hr])]; exact h1
/-- With channels more it is reached by those, and others between them. -/
theorem reachL_more (P : List Pt) (C D : List Ch) (p : Nat) (hp : p < P.length) : (reachL P C p).Sublist (reachL P (C ++ D) p) := by
  unfold reachL
  refine filter_sub _ fun a ha h => ?_
  rw [List.mem_range] at ha
  exact war_more (fun x y _ _ h => swayF_more P C D x y h) a p ha hp h
end Tab
end Go.Proofs.Ytcmdhaieggjgcaa

/- Searching a graph by a list of things to do; closing by searches; who reaches by channels, back from one: plain mathematics. -/
namespace Go.Proofs.Ytcmdhaieggjgcaa
namespace Tab

/-- What is led to: the first ones, and whom a step leads to from there. -/
inductive Rch (S : Nat → List Nat) (F : List Nat) : Nat → Prop
  | base {a : Nat} : a ∈ F → Rch S F a
  | step {a b : Nat} : Rch S F b → a ∈ S b → Rch S F a
theorem Rch.from {S : Nat → List Nat} {F G : List Nat} (h : ∀ a ∈ F, Rch S G a) {a : Nat} (ha : Rch S F a) : Rch S G a := by
  induction ha with
  | base h1 => exact h _ h1
  | step _ h2 ih => exact .step ih h2
def put1 {α : Type} (f : Nat → α) (i : Nat) (v : α) : Nat → α := fun j => if j = i then v else f j
theorem put1_same {α : Type} (f : Nat → α) (i : Nat) (v : α) : put1 f i v i = v := if_pos rfl
theorem put1_other {α : Type} {f : Nat → α} {i j : Nat} {v : α} (h : j ≠ i) : put1 f i v j = f j := if_neg h
/-- Those below n that are not marked. -/
def un : Nat → (Nat → Bool) → Nat
  | 0, _ => 0
  | n + 1, M => un n M + if M n = true then 0 else 1
theorem un_congr {n : Nat} {M N : Nat → Bool} (h : ∀ j, j < n → M j = N j) : un n M = un n N := by
  induction n with
  | zero => rfl
  | succ n ih => simp only [un]; rw [ih fun j hj => h j (by omega), h n (by omega)]
theorem un_put {n : Nat} {M : Nat → Bool} {x : Nat} (hx : x < n) (h : M x = false) : un n (put1 M x true) + 1 = un n M := by
  induction n with
  | zero => omega
  | succ n ih =>
    simp only [un]
    by_cases e : x = n
    · subst e
      rw [put1_same, h, if_pos rfl, if_neg (by simp), un_congr (N := M) fun j hj => put1_other (by omega)]
    · have := ih (by omega)
      rw [put1_other (j := n) (by omega)]
      omega
/-- Whatever must be marked is, or is yet to come. -/
structure Cov (n : Nat) (S : Nat → List Nat) (F : List Nat) (M : Nat → Bool) (T : List (List Nat)) : Prop where
  first : ∀ x ∈ F, M x = true ∨ ∃ L ∈ T, x ∈ L
  next : ∀ b, b < n → M b = true → ∀ y ∈ S b, M y = true ∨ ∃ L ∈ T, y ∈ L
  snd : ∀ a, M a = true → Rch S F a
  todo : ∀ L ∈ T, ∀ x ∈ L, x < n ∧ Rch S F x
section
variable {n : Nat} {S : Nat → List Nat} {F : List Nat} {M : Nat → Bool} {T : List (List Nat)}
theorem Cov.start (hF : ∀ x ∈ F, x < n) : Cov n S F (fun _ => false) [F] :=
  ⟨fun x hx => .inr ⟨F, by simp, hx⟩, fun b _ h => by simp at h, fun a h => by simp at h, fun L hL x hx => by simp at hL; subst hL; exact ⟨hF x hx, .base hx⟩⟩
theorem Cov.pop {L : List Nat} (h : Cov n S F M (T ++ [L])) : Cov n S F M (L :: T) := by
  have e : ∀ K : List Nat, K ∈ T ++ [L] ↔ K ∈ L :: T := fun K => by simp [or_comm]
  refine ⟨fun x hx => (h.first x hx).imp id fun ⟨K, hK, h2⟩ => ⟨K, (e K).1 hK, h2⟩, fun b hb hm y hy => (h.next b hb hm y hy).imp id fun ⟨K, hK, h2⟩ => ⟨K, (e K).1 hK, h2⟩, h.snd, fun K hK => h.todo K ((e K).2 hK)⟩
theorem Cov.drop (h : Cov n S F M ([] :: T)) : Cov n S F M T := by
  refine ⟨fun x hx => (h.first x hx).imp id ?_, fun b hb hm y hy => (h.next b hb hm y hy).imp id ?_, h.snd, fun K hK => h.todo K (by simp [hK])⟩
  all_goals
    rintro ⟨K, hK, h2⟩
    rcases List.mem_cons.1 hK with e | hK
    · subst e; cases h2
    · exact ⟨K, hK, h2⟩
theorem Cov.skip {x : Nat} {L : List Nat} (h : Cov n S F M ((x :: L) :: T)) (hx : M x = true) : Cov n S F M (L :: T) := by
  have key : ∀ y, (M y = true ∨ ∃ K ∈ (x :: L) :: T, y ∈ K) → (M y = true ∨ ∃ K ∈ L :: T, y ∈ K) := by
    rintro y (h1 | ⟨K, hK, h2⟩)
    · exact .inl h1
    · rcases List.mem_cons.1 hK with e | hK
      · subst e
        rcases List.mem_cons.1 h2 with e | h2
        · subst e; exact .inl hx
        · exact .inr ⟨L, by simp, h2⟩
      · exact .inr ⟨K, by simp [hK], h2⟩
  refine ⟨fun y hy => key y (h.first y hy), fun b hb hm y hy => key y (h.next b hb hm y hy), h.snd, fun K hK y hy => ?_⟩
  rcases List.mem_cons.1 hK with e | hK
  · subst e; exact h.todo _ List.mem_cons_self y (List.mem_cons_of_mem _ hy)
  · exact h.todo K (by simp [hK]) y hy
theorem Cov.mark {x : Nat} {L : List Nat} (h : Cov n S F M ((x :: L) :: T)) (hS : ∀ b, b < n → ∀ y ∈ S b, y < n) : Cov n S F (put1 M x true) (L :: (T ++ [S x])) := by
  have hx := h.todo (x :: L) (by simp) x (by simp)
  have mono : ∀ y, M y = true → put1 M x true y = true := fun y hy => by
    by_cases e : y = x
    · subst e; exact put1_same _ _ _
    · rw [put1_other e]; exact hy
  have key : ∀ y, (M y = true ∨ ∃ K ∈ (x :: L) :: T, y ∈ K) → (put1 M x true y = true ∨ ∃ K ∈ L :: (T ++ [S x]), y ∈ K) := by
    rintro y (h1 | ⟨K, hK, h2⟩)
    · exact .inl (mono y h1)
    · rcases List.mem_cons.1 hK with e | hK
      · subst e
        rcases List.mem_cons.1 h2 with e | h2
        · subst e; exact .inl (put1_same _ _ _)
        · exact .inr ⟨L, by simp, h2⟩
      · exact .inr ⟨K, by simp [hK], h2⟩
  refine ⟨fun y hy => key y (h.first y hy), fun b hb hm y hy => ?_, fun a ha => ?_, fun K hK y hy => ?_⟩
  · by_cases e : b = x
    · subst e; exact .inr ⟨S b, by simp, hy⟩
    · rw [put1_other e] at hm
      exact key y (h.next b hb hm y hy)
  · by_cases e : a = x
    · subst e; exact hx.2
    · rw [put1_other e] at ha
      exact h.snd a ha
  · rcases List.mem_cons.1 hK with e | hK
    · subst e; exact h.todo _ List.mem_cons_self y (List.mem_cons_of_mem _ hy)
    · rcases List.mem_append.1 hK with hK | hK
      · exact h.todo K (by simp [hK]) y hy
      · simp at hK
        subst hK
        exact ⟨hS x hx.1 y hy, .step hx.2 hy⟩
theorem Cov.done (h : Cov n S F M []) (hF : ∀ x ∈ F, x < n) (hS : ∀ b, b < n → ∀ y ∈ S b, y < n) (a : Nat) : M a = true ↔ Rch S F a := by
  refine ⟨h.snd a, fun ha => ?_⟩
  have key : M a = true ∧ a < n := by
    induction ha with
    | base h1 =>
      rcases h.first _ h1 with h2 | ⟨K, hK, _⟩
      · exact ⟨h2, hF _ h1⟩
      · cases hK
    | step _ h2 ih =>
      rcases h.next _ ih.2 ih.1 _ h2 with h3 | ⟨K, hK, _⟩
      · exact ⟨h3, hS _ ih.2 _ h2⟩
      · cases hK
  exact key.1
end
/-- Where a row is true, rising. -/
def plcs (n : Nat) (r : Nat → Bool) : List Nat := (List.range n).filter r
theorem mem_plcs {n : Nat} {r : Nat → Bool} {a : Nat} : a ∈ plcs n r ↔ a < n ∧ r a = true := by simp [plcs, List.mem_filter]
theorem plcs_succ (n : Nat) (r : Nat → Bool) : plcs (n + 1) r = if r n = true then plcs n r ++ [n] else plcs n r := by
  unfold plcs
  rw [List.range_succ, List.filter_append]
  split <;> simp_all
theorem plcs_len (n : Nat) (r : Nat → Bool) : (plcs n r).length ≤ n := by
  unfold plcs
  have := List.length_filter_le r (List.range n)
  rwa [List.length_range] at this
theorem plcs_congr {n : Nat} {r s : Nat → Bool} (h : ∀ a, a < n → r a = s a) : plcs n r = plcs n s := by
  unfold plcs
  exact List.filter_congr fun a ha => h a (by simpa using ha)
/-- Searches from everywhere close a matrix. -/
theorem rch_war {n : Nat} {m M : Nat → Nat → Bool} (h : ∀ a, a < n → ∀ b, M a b = true ↔ Rch (fun x => plcs n (m x)) (plcs n (m a)) b) (a b : Nat) (ha : a < n) (hb : b < n) : M a b = War m n a b := by
  refine war_is (fun a b c ha hb hc h1 h2 => ?_) (fun a b ha hb h1 => ?_) (fun a b ha hb h1 => ?_) a b ha hb
  · rw [h a ha] at h1 ⊢
    rw [h c hc] at h2
    exact Rch.from (fun x hx => .step h1 hx) h2
  · rw [h a ha]
    exact .base (mem_plcs.2 ⟨hb, h1⟩)
  · rw [h a ha] at h1
    have key : b < n ∧ War m n a b = true := by
      clear hb
      induction h1 with
      | base h2 => exact ⟨(mem_plcs.1 h2).1, war_from m n _ _ (mem_plcs.1 h2).2⟩
      | step _ h2 ih =>
        have h3 := mem_plcs.1 h2
        exact ⟨h3.1, war_shut m n a _ _ ha h3.1 ih.1 ih.2 (war_from m n _ _ h3.2)⟩
    exact key.2
/-- The ways between partitions: what a loop over the channels gives. -/
def wayOf (n : Nat) (x : Ch) : List (Nat × Nat) := if inP n x.from_ && inP n x.to_ then (x.from_.toNat, x.to_.toNat) :: (if x.queue then [(x.to_.toNat, x.from_.toNat)] else []) else []
def wayL (n : Nat) (C : List Ch) : List (Nat × Nat) := C.flatMap (wayOf n)
theorem inP_iff {n : Nat} {p : Int} : inP n p = true ↔ 0 ≤ p ∧ p < n := by simp [inP]
theorem joins_iff {n : Nat} {x : Ch} {a b : Nat} : joins n x a b = true ↔ (inP n x.from_ = true ∧ inP n x.to_ = true) ∧ x.from_ = a ∧ x.to_ = b := by
  simp only [joins, Bool.and_eq_true, decide_eq_true_eq, and_assoc]
theorem mem_wayOf {n : Nat} {x : Ch} {a b : Nat} : (a, b) ∈ wayOf n x ↔ (joins n x a b || (x.queue && joins n x b a)) = true := by
  rw [Bool.or_eq_true, Bool.and_eq_true, joins_iff, joins_iff]
  unfold wayOf
  by_cases h1 : inP n x.from_ = true
  · by_cases h2 : inP n x.to_ = true
    · have k1 := inP_iff.1 h1
      have k2 := inP_iff.1 h2
      rw [h1, h2]
      simp only [Bool.and_self, if_true, List.mem_cons, Prod.mk.injEq, true_and]
      cases x.queue with
      | true =>
        simp only [if_true, List.mem_singleton, Prod.mk.injEq, true_and]
        omega
      | false =>
        simp only [Bool.false_eq_true, if_false, List.not_mem_nil, or_false, false_and]
        omega
    · simp only [Bool.not_eq_true] at h2
      rw [h2]
      simp
  · simp only [Bool.not_eq_true] at h1
    rw [h1]
    simp
theorem mem_wayL {n : Nat} {C : List Ch} {a b : Nat} : (a, b) ∈ wayL n C ↔ (C.any fun x => joins n x a b || (x.queue && joins n x b a)) = true := by
  unfold wayL
  rw [List.mem_flatMap, List.any_eq_true]
  exact ⟨fun ⟨x, h1, h2⟩ => ⟨x, h1, mem_wayOf.1 h2⟩, fun ⟨x, h1, h2⟩ => ⟨x, h1, mem_wayOf.2 h2⟩⟩
theorem wayL_lt {n : Nat} {C : List Ch} {a b : Nat} (h : (a, b) ∈ wayL n C) : a < n ∧ b < n := by
  rw [mem_wayL, List.any_eq_true] at h
  obtain ⟨x, _, h⟩ := h
  rw [Bool.or_eq_true, Bool.and_eq_true, joins_iff, joins_iff, inP_iff, inP_iff] at h
  omega
theorem swayF_iff {P : List Pt} {C : List Ch} {a b : Nat} : swayF P C a b = true ↔ a = b ∨ schedOf P a = true ∨ stopOf P a = true ∨ (a, b) ∈ wayL P.length C := by
  unfold swayF
  rw [mem_wayL]
  simp only [Bool.or_eq_true, decide_eq_true_eq, or_assoc]
theorem depF_iff {P : List Pt} {C : List Ch} {a b : Nat} : depF P C a b = true ↔ a = b ∨ (schedOf P a = true ∧ schedOf P b = true) ∨ (a, b) ∈ wayL P.length C ∨ (b, a) ∈ wayL P.length C := by
  unfold depF
  rw [mem_wayL, mem_wayL]
  simp only [Bool.or_eq_true, Bool.and_eq_true, decide_eq_true_eq, List.any_eq_true, or_assoc]
  constructor
  · rintro (h | h | ⟨x, hx, h | h⟩)
    · exact .inl h
    · exact .inr (.inl h)
    · exact .inr (.inr (.inl ⟨x, hx, .inl h⟩))
    · exact .inr (.inr (.inr ⟨x, hx, .inl h⟩))
  · rintro (h | h | ⟨x, hx, h | h⟩ | ⟨x, hx, h | h⟩)
    · exact .inl h
    · exact .inr (.inl h)
    · exact .inr (.inr ⟨x, hx, .inl h⟩)
    · exact .inr (.inr ⟨x, hx, .inr h.2⟩)
    · exact .inr (.inr ⟨x, hx, .inr h⟩)
    · exact .inr (.inr ⟨x, hx, .inl h.2⟩)
/-- The partitions that sway all. -/
def rulL (P : List Pt) : List Nat := plcs P.length fun a => schedOf P a || stopOf P a
/-- From whom a way leads to x, in the order of the ways. -/
def backL (W : List (Nat × Nat)) (x : Nat) : List Nat := (W.filter fun y => decide (y.2 = x)).map (·.1)
theorem mem_backL {W : List (Nat × Nat)} {x a : Nat} : a ∈ backL W x ↔ (a, x) ∈ W := by
  unfold backL
  rw [List.mem_map]
  constructor
  · rintro ⟨⟨p, q⟩, h1, rfl⟩
    rw [List.mem_filter] at h1
    simp only [decide_eq_true_eq] at h1
    obtain ⟨h1, rfl⟩ := h1
    exact h1
  · intro h
    exact ⟨(a, x), by rw [List.mem_filter]; exact ⟨h, by simp⟩, rfl⟩
theorem backL_snoc (W : List (Nat × Nat)) (y : Nat × Nat) (x : Nat) : backL (W ++ [y]) x = if y.2 = x then backL W x ++ [y.1] else backL W x := by
  unfold backL
  rw [List.filter_append, List.map_append]
  by_cases h : y.2 = x
  · simp [h]
  · simp [h]
/-- Back from p by the ways, and from those that sway all. -/
theorem rch_reach (P : List Pt) (C : List Ch) (p : Nat) (hp : p < P.length) (a : Nat) (ha : a < P.length) : Rch (backL (wayL P.length C)) (rulL P ++ [p]) a ↔ War (swayF P C) P.length a p = true := by
  constructor
  · intro h
    have key : a < P.length ∧ War (swayF P C) P.length a p = true := by
      induction h with
      | base h1 =>
        rename_i x
        rcases List.mem_append.1 h1 with h1 | h1
        · obtain ⟨h2, h3⟩ := mem_plcs.1 h1
          refine ⟨h2, war_from _ _ _ _ (swayF_iff.2 ?_)⟩
          rw [Bool.or_eq_true] at h3
          exact .inr (h3.imp id .inl)
        · simp at h1
          subst h1
          exact ⟨hp, war_from _ _ _ _ (swayF_self P C _)⟩
      | step _ h2 ih =>
        rw [mem_backL] at h2
        have h3 := wayL_lt h2
        have h4 := ih h3.2
        exact ⟨h3.1, war_shut _ _ _ _ _ h3.1 hp h3.2 (war_from _ _ _ _ (swayF_iff.2 (.inr (.inr (.inr h2))))) h4.2⟩
    exact key.2
  · intro h
    have key := war_least (m := swayF P C) (n := P.length) (M := fun x y => @decide (Rch (backL (wayL P.length C)) (rulL P ++ [p]) y → Rch (backL (wayL P.length C)) (rulL P ++ [p]) x) (Classical.propDecidable _)) ?_ ?_ P.length (Nat.le_refl _) a p ha hp h
    · simp only [decide_eq_true_eq] at key
      exact key (.base (by simp))
    · intro x y z _ _ _ h1 h2
      simp only [decide_eq_true_eq] at h1 h2 ⊢
      exact fun h => h1 (h2 h)
    · intro x y hx hy h1
      simp only [decide_eq_true_eq]
      intro h2
      rcases swayF_iff.1 h1 with h3 | h3 | h3 | h3
      · subst h3; exact h2
      · exact .base (List.mem_append.2 (.inl (mem_plcs.2 ⟨hx, by rw [h3]; rfl⟩)))
      · exact .base (List.mem_append.2 (.inl (mem_plcs.2 ⟨hx, by rw [h3, Bool.or_true]⟩)))
      · exact .step h2 (mem_backL.2 h3)
end Tab
end Go.Proofs.Ytcmdhaieggjgcaa

/- Rows of cells that a call owns, as functions; matrices in memory; rows of numbers in rows. -/
namespace Go.Proofs.Ytcmdhaieggjgcaa
open Go.RowKit Tab
set_option linter.unusedSimpArgs false
set_option linter.unusedVariables false

/-- Block g, n cells, holds f. -/
structure Vec (w : World) (g n : Nat) (f : Nat → Value) : Prop where
  cell : ∀ j, j < n → w.cell? ⟨g, j, none⟩ = some (f j)
  thaw : ∀ j, w.frozen? ⟨g, j, none⟩ = false
  lt : g < w.heap.size
section
variable {w w' : World} {g n B : Nat} {f f' : Nat → Value}
theorem Vec.keep (h : Vec w g n f) (hk : w'.heap[g]? = w.heap[g]?) (hs : w.heap.size ≤ w'.heap.size) : Vec w' g n f :=
  ⟨fun j hj => (World.cell?_of_block hk).trans (h.cell j hj), fun j => (World.frozen?_of_block hk).trans (h.thaw j), Nat.lt_of_lt_of_le h.lt hs⟩
theorem Vec.below (h : Vec w g n f) (hb : Below B w w') (hg : g < B) : Vec w' g n f := h.keep (hb.block g hg) hb.size
theorem Vec.on (h : Vec w g n f) (hb : Below w.heap.size w w') : Vec w' g n f := h.below hb h.lt
theorem Vec.congr (h : Vec w g n f) (e : ∀ j, j < n → f j = f' j) : Vec w g n f' := ⟨fun j hj => by rw [← e j hj]; exact h.cell j hj, h.thaw, h.lt⟩
theorem Vec.set (h : Vec w g n f) (i : Nat) (v : Value) : Vec (w.setCell ⟨g, i, none⟩ v) g n (put1 f i v) := by
  refine ⟨fun j hj => ?_, fun j => by simpa using h.thaw j, by simpa using h.lt⟩
  by_cases e : j = i
  · subst e
    rw [put1_same]
    exact World.cell?_setCell_same _ _ _ (h.cell j hj)
  · rw [put1_other e, World.cell?_setCell_other _ _ _ _ (by intro e2; injection e2 with _ e3; omega)]
    exact h.cell j hj
theorem Vec.other (h : Vec w g n f) (p : Addr) (v : Value) (hp : g ≠ p.block) : Vec (w.setCell p v) g n f :=
  h.keep (Below.heap_setCell w p v g hp) (by simp)
theorem Vec.drewN (h : Vec w g n f) (q : Nat) : Vec (w.drewN q) g n f := ⟨h.cell, h.thaw, h.lt⟩
theorem Vec.lit (w : World) (C : Array Value) (t : TypeId) (n : Nat) (f : Nat → Value) (h : ∀ j, j < n → C[j]? = some (f j)) : Vec (w.alloc (.cells C t)) w.heap.size n f :=
  ⟨fun j hj => (World.cell?_alloc_mark _ _ _ _ _).trans (h j hj), fun j => by simp, by simp⟩
theorem Vec.rdc (h : Vec w g n f) : RdC w w.heap.size (some ⟨g, 0, none⟩) n f := fun _ => ⟨_, rfl, h.lt, fun j hj => by
  have e : (⟨g, 0, none⟩ : Addr).add j = ⟨g, j, none⟩ := by unfold Addr.add; split <;> simp_all
  rw [e]; exact h.cell j hj⟩
end
theorem made_get (z : Value) (n j : Nat) (h : j < n) : (madeCells #[z] n)[j]? = some z := by
  rw [← Array.getElem?_toList, toList_madeCells_one]
  simp [h]
/-- A matrix of n by n in blocks of its own, B or behind: k rows are laid. -/
structure Mat (w : World) (B g n k : Nat) (G : Nat → Nat) (m : Nat → Nat → Bool) : Prop where
  outer : ∃ f, Vec w g n f ∧ ∀ i, i < k → f i = .slice (some ⟨G i, 0, none⟩) n n
  rows : ∀ i, i < k → Vec w (G i) n fun j => .bool (m i j)
  low : B ≤ g
  ge : ∀ i, i < k → B ≤ G i
  ne : ∀ i, i < k → G i ≠ g
  inj : ∀ i j, i < k → j < k → G i = G j → i = j
def put2 (m : Nat → Nat → Bool) (i j : Nat) (v : Bool) : Nat → Nat → Bool := fun a b => if a = i ∧ b = j then v else m a b
theorem put2_same (m : Nat → Nat → Bool) (i j : Nat) (v : Bool) : put2 m i j v i j = v := if_pos ⟨rfl, rfl⟩
section
variable {w w' : World} {g n k B : Nat} {G : Nat → Nat} {m m' : Nat → Nat → Bool}
theorem Mat.on (h : Mat w B g n k G m) (hb : Below w.heap.size w w') : Mat w' B g n k G m := by
  obtain ⟨f, h1, h2⟩ := h.outer
  exact ⟨⟨f, h1.on hb, h2⟩, fun i hi => (h.rows i hi).on hb, h.low, h.ge, h.ne, h.inj⟩
theorem Mat.drewN (h : Mat w B g n k G m) (q : Nat) : Mat (w.drewN q) B g n k G m := h.on (by
  exact ⟨rfl, rfl, rfl, Nat.le_refl _, fun _ _ => rfl⟩)
theorem Mat.congr (h : Mat w B g n k G m) (e : ∀ i j, i < k → j < n → m i j = m' i j) : Mat w B g n k G m' :=
  ⟨h.outer, fun i hi => (h.rows i hi).congr fun j hj => by rw [e i j hi hj], h.low, h.ge, h.ne, h.inj⟩
theorem Mat.start (w : World) (B n : Nat) (hB : B ≤ w.heap.size) (t : TypeId) (m : Nat → Nat → Bool) (G : Nat → Nat) : Mat (w.alloc (.cells (madeCells #[.slice none 0 0] n) t)) B w.heap.size n 0 G m :=
  ⟨⟨fun _ => .slice none 0 0, Vec.lit w _ t n _ fun j hj => made_get _ n j hj, fun i hi => by omega⟩, fun i hi => by omega, hB, fun i hi => by omega, fun i hi => by omega, fun i j hi => by omega⟩
/-- A row more. -/
theorem Mat.push (h : Mat w B g n k G m) {x : Nat} {b : Nat → Bool} (hx : Vec w x n fun j => .bool (b j)) (hB : B ≤ x) (hg : x ≠ g) (hG : ∀ i, i < k → G i ≠ x) (hk : k < n) :
    Mat (w.setCell ⟨g, k, none⟩ (.slice (some ⟨x, 0, none⟩) n n)) B g n (k + 1) (put1 G k x) (fun i j => if i = k then b j else m i j) := by
  obtain ⟨f, h1, h2⟩ := h.outer
  have hlt : ∀ i, i < k + 1 → i ≠ k → i < k := fun i _ _ => by omega
  refine ⟨⟨_, h1.set k _, fun i hi => ?_⟩, fun i hi => ?_, h.low, fun i hi => ?_, fun i hi => ?_, fun i j hi hj e => ?_⟩
  · by_cases e : i = k
    · subst e; rw [put1_same, put1_same]
    · rw [put1_other e, put1_other e]; exact h2 i (hlt i hi e)
  · by_cases e : i = k
    · subst e
      simp only [put1_same, if_true]
      exact hx.other _ _ hg
    · rw [put1_other e]
      simp only [e, if_false]
      exact (h.rows i (hlt i hi e)).other _ _ (h.ne i (hlt i hi e))
  · by_cases e : i = k
    · subst e; rw [put1_same]; exact hB
    · rw [put1_other e]; exact h.ge i (hlt i hi e)
  · by_cases e : i = k
    · subst e; rw [put1_same]; exact hg
    · rw [put1_other e]; exact h.ne i (hlt i hi e)
  · by_cases e1 : i = k
    · by_cases e2 : j = k
      · omega
      · subst e1
        rw [put1_same, put1_other e2] at e
        exact absurd e.symm (hG j (hlt j hj e2))
    · by_cases e2 : j = k
      · subst e2
        rw [put1_same, put1_other e1] at e
        exact absurd e (hG i (hlt i hi e1))
      · rw [put1_other e1, put1_other e2] at e
        exact h.inj i j (hlt i hi e1) (hlt j hj e2) e
/-- One place of it, and a store there. -/
theorem Mat.at_ (h : Mat w B g n k G m) {i j : Nat} (hi : i < k) (hk : k ≤ n) (hj : j < n) : ∃ x, G i = x ∧ x ≠ g ∧ B ≤ x ∧ g < w.heap.size ∧ x < w.heap.size ∧ w.cell? ⟨g, i, none⟩ = some (.slice (some ⟨x, 0, none⟩) n n) ∧ w.cell? ⟨x, j, none⟩ = some (.bool (m i j)) ∧ w.frozen? ⟨x, j, none⟩ = false ∧
    ∀ v, Mat (w.setCell ⟨x, j, none⟩ (.bool v)) B g n k G (put2 m i j v) ∧ ∀ V, Below B V w → Below B V (w.setCell ⟨x, j, none⟩ (.bool v)) := by
  obtain ⟨f, h1, h2⟩ := h.outer
  refine ⟨G i, rfl, h.ne i hi, h.ge i hi, h1.lt, (h.rows i hi).lt, (h1.cell i (by omega)).trans (by rw [h2 i hi]), (h.rows i hi).cell j hj, (h.rows i hi).thaw j, fun v => ⟨⟨⟨f, h1.other _ _ (h.ne i hi).symm, h2⟩, fun a ha => ?_, h.low, h.ge, h.ne, h.inj⟩, fun V hV => hV.setCell (p := ⟨G i, j, none⟩) (h.ge i hi) _⟩⟩
  by_cases e : a = i
  · subst e
    refine ((h.rows a ha).set j (.bool v)).congr fun b _ => ?_
    unfold put1 put2
    by_cases e2 : b = j <;> simp [e2]
  · refine ((h.rows a ha).other _ _ fun e2 => e (h.inj a i ha hi e2)).congr fun b _ => ?_
    unfold put2
    simp [e]
/-- A row of it, to be read. -/
theorem Mat.row (h : Mat w B g n k G m) {i : Nat} (hi : i < k) (hk : k ≤ n) : ∃ x, G i = x ∧ x ≠ g ∧ w.cell? ⟨g, i, none⟩ = some (.slice (some ⟨x, 0, none⟩) n n) ∧ Vec w x n fun j => .bool (m i j) := by
  obtain ⟨f, h1, h2⟩ := h.outer
  exact ⟨G i, rfl, h.ne i hi, (h1.cell i (by omega)).trans (by rw [h2 i hi]), h.rows i hi⟩
end
/-- A slice at A, of n rows, row i of l i bools: m. -/
def RdM (w : World) (B : Nat) (A : Option Addr) (n : Nat) (l : Nat → Nat) (m : Nat → Nat → Bool) : Prop :=
  ∃ R : Nat → Option Addr × Nat, RdC w B A n (fun i => .slice (R i).1 (l i) (R i).2) ∧ ∀ i, i < n → l i ≤ (R i).2 ∧ RdC w B (R i).1 (l i) fun j => .bool (m i j)
section
variable {w w' : World} {n B B' : Nat} {A : Option Addr} {l : Nat → Nat} {m m' : Nat → Nat → Bool}
theorem RdM.below (h : RdM w B A n l m) (hb : Below B w w') : RdM w' B A n l m := by
  obtain ⟨R, h1, h2⟩ := h
  exact ⟨R, h1.below hb, fun i hi => ⟨(h2 i hi).1, (h2 i hi).2.below hb⟩⟩
theorem RdM.more (h : RdM w B A n l m) (hB : B ≤ B') : RdM w B' A n l m := by
  obtain ⟨R, h1, h2⟩ := h
  exact ⟨R, h1.more hB, fun i hi => ⟨(h2 i hi).1, (h2 i hi).2.more hB⟩⟩
theorem RdM.on (h : RdM w w.heap.size A n l m) (hb : Below w.heap.size w w') : RdM w' w'.heap.size A n l m := (h.below hb).more hb.size
theorem RdM.drewN (h : RdM w B A n l m) (q : Nat) : RdM (w.drewN q) B A n l m := h
theorem RdC.congr {f f' : Nat → Value} (h : RdC w B A n f) (e : ∀ j, j < n → f j = f' j) : RdC w B A n f' := fun hn => by
  obtain ⟨ad, h1, h2, h3⟩ := h hn
  exact ⟨ad, h1, h2, fun j hj => by rw [← e j hj]; exact h3 j hj⟩
theorem RdM.congr (h : RdM w B A n l m) (e : ∀ i j, i < n → j < l i → m i j = m' i j) : RdM w B A n l m' := by
  obtain ⟨R, h1, h2⟩ := h
  exact ⟨R, h1, fun i hi => ⟨(h2 i hi).1, (h2 i hi).2.congr fun j hj => by rw [e i j hi hj]⟩⟩
theorem RdM.at_ (h : RdM w B A n l m) {i : Nat} (hi : i < n) : ∃ ad R c, A = some ad ∧ ad.block < B ∧ w.cell? (ad.add i) = some (.slice R (l i) c) ∧ l i ≤ c ∧ RdC w B R (l i) fun j => .bool (m i j) := by
  obtain ⟨R, h1, h2⟩ := h
  obtain ⟨ad, e, hb, hc⟩ := h1.at_ hi
  exact ⟨ad, _, _, e, hb, hc, (h2 i hi).1, (h2 i hi).2⟩
theorem RdM.front (h : RdM w B A n l m) (k : Nat) (hk : k ≤ n) : RdM w B A k l m := by
  obtain ⟨R, h1, h2⟩ := h
  refine ⟨R, fun h0 => ?_, fun i hi => h2 i (by omega)⟩
  obtain ⟨ad, e, hb, hc⟩ := h1 (by omega)
  exact ⟨ad, e, hb, fun j hj => hc j (by omega)⟩
theorem RdM.none (w : World) (B : Nat) (l : Nat → Nat) (m : Nat → Nat → Bool) : RdM w B .none 0 l m := ⟨fun _ => (.none, 0), fun h => by omega, fun i hi => by omega⟩
theorem Mat.rdm {g : Nat} {G : Nat → Nat} (h : Mat w B g n n G m) : RdM w w.heap.size (some ⟨g, 0, .none⟩) n (fun _ => n) m := by
  obtain ⟨f, h1, h2⟩ := h.outer
  exact ⟨fun i => (some ⟨G i, 0, .none⟩, n), (h1.congr h2).rdc, fun i hi => ⟨Nat.le_refl _, (h.rows i hi).rdc⟩⟩
end
/-- It answers a square matrix, new. -/
def MadM (n : Nat) (m : Nat → Nat → Bool) (w : World) (e : Ending) (w' : World) : Prop := ∃ A c, e = .returned (.slice A n c) ∧ n ≤ c ∧ RdM w' w'.heap.size A n (fun _ => n) m ∧ Below w.heap.size w w'
/-- It answers a square matrix in blocks of its own. -/
def MadG (n : Nat) (m : Nat → Nat → Bool) (w : World) (e : Ending) (w' : World) : Prop := ∃ g G, e = .returned (.slice (some ⟨g, 0, none⟩) n n) ∧ Mat w' w.heap.size g n n G m ∧ Below w.heap.size w w'
theorem MadG.m {n : Nat} {m : Nat → Nat → Bool} {w w' : World} {e : Ending} (h : MadG n m w e w') : MadM n m w e w' := by
  obtain ⟨g, G, rfl, h1, h2⟩ := h
  exact ⟨_, _, rfl, Nat.le_refl _, h1.rdm, h2⟩
/-- Rows of numbers in a row. -/
def RdS (w : World) (B : Nat) (A : Option Addr) (n : Nat) (S : Nat → List Nat) : Prop :=
  ∃ R : Nat → Option Addr × Nat, RdC w B A n (fun i => .slice (R i).1 (S i).length (R i).2) ∧ ∀ i, i < n → (S i).length ≤ (R i).2 ∧ RdI w B (R i).1 (S i).length ((S i).map fun x : Nat => (x : Int))
section
variable {w w' : World} {n B B' : Nat} {A : Option Addr} {S : Nat → List Nat}
theorem RdS.below (h : RdS w B A n S) (hb : Below B w w') : RdS w' B A n S := by
  obtain ⟨R, h1, h2⟩ := h
  exact ⟨R, h1.below hb, fun i hi => ⟨(h2 i hi).1, (h2 i hi).2.below hb⟩⟩
theorem RdS.more (h : RdS w B A n S) (hB : B ≤ B') : RdS w B' A n S := by
  obtain ⟨R, h1, h2⟩ := h
  exact ⟨R, h1.more hB, fun i hi => ⟨(h2 i hi).1, (h2 i hi).2.more hB⟩⟩
theorem RdS.on (h : RdS w w.heap.size A n S) (hb : Below w.heap.size w w') : RdS w' w'.heap.size A n S := (h.below hb).more hb.size
theorem RdS.at_ (h : RdS w B A n S) {i : Nat} (hi : i < n) : ∃ ad R c, A = some ad ∧ ad.block < B ∧ w.cell? (ad.add i) = some (.slice R (S i).length c) ∧ (S i).length ≤ c ∧ RdI w B R (S i).length ((S i).map fun x : Nat => (x : Int)) := by
  obtain ⟨R, h1, h2⟩ := h
  obtain ⟨ad, e, hb, hc⟩ := h1.at_ hi
  exact ⟨ad, _, _, e, hb, hc, (h2 i hi).1, (h2 i hi).2⟩
end
theorem OwnV.frontC {E s B n c : Nat} {w : World} {A : Option Addr} {l : List Value} (h : OwnV E s w B A n c l) (k : Nat) (hk : k ≤ n) : OwnV E s w B A k c (l.take (k * s)) := by
  have hl := h.1
  have hle : k * s ≤ n * s := Nat.mul_le_mul_right _ hk
  refine ⟨by rw [List.length_take]; omega, ?_⟩
  rcases h.2 with ⟨hv, h0⟩ | ⟨g, cap, cur, hv, hbg, hg, hnc, hcm, hcs, htake⟩
  · injection hv with h1 h2 h3
    subst h1; subst h3
    exact .inl ⟨by rw [show k = 0 by omega], by omega⟩
  · injection hv with h1 h2 h3
    subst h1; subst h3
    exact .inr ⟨g, c, cur, rfl, hbg, hg, by omega, hcm, hcs, by rw [← htake, List.take_take, Nat.min_eq_left hle]⟩
end Go.Proofs.Ytcmdhaieggjgcaa

/- How long each run waits: bound's own loops. -/
namespace Go.Proofs.Ytcmdhaieggjgcaa
open Go.RowKit Tab
set_option linter.unusedSimpArgs false
set_option linter.unusedVariables false

theorem elJ : Elt 71 2 1 8 (.int .i64 0) := ⟨Try.underlying71, by kernel_rfl, rfl, by omega⟩
theorem run_makeJ (m : Nat) (hm : m ≤ 1048576) (W : World) : (Instr.makeSlice 71 (.int .i64 (m : Int)) (.int .i64 (m : Int))).run Try.prog W = .ok (.slice (some ⟨W.heap.size, 0, none⟩) m m) (W.alloc (.cells (madeCells #[.int .i64 0] m) 2)) := by
  obtain ⟨i, hi, hz, hs, hby⟩ := info_parts elJ.hi
  have hr := run_make (P := Try.prog) W 71 2 i _ elJ.ht hi hz .i64 .i64 m m (by omega) (by omega) (by rw [hby]; omega) (by omega)
  rw [hs] at hr
  simp only [Int.toNat_natCast, Nat.mul_one] at hr
  exact hr
theorem bmore_any (s n S N : Int) (w : World) (hs : 0 ≤ s) (hn : 0 ≤ n) (h : s + n ≤ 4611686018427387904) (hS : S = s) (hN : N = n) :
    Calls Try.prog 37 #[.int .i64 S, .int .i64 N] w fun e w' => e = .returned (.int .i64 (s + n)) ∧ w' = w := by
  subst hS; subst hN
  have h1 : ¬ 9223372036854775807 - N < S := by omega
  go_enter Try.func37, Try.ntmps37
  go_wp2
  go_ret
  exact ⟨rfl, rfl⟩
/-- What is carried into the pass. -/
def ccF (q : Int) (L : List Rn) : Nat → Nat
  | 0 => 0
  | k + 1 => wc q L (ccF q L k)
theorem ccF_le (q : Int) (L : List Rn) : ∀ k, ccF q L k ≤ k * ticks L := by
  intro k
  induction k with
  | zero => simp [ccF]
  | succ k ih =>
    have := wc_le q L (ccF q L k)
    simp only [ccF, Nat.succ_mul]
    omega
/-- It answers a row of numbers, new. -/
def MadJ (n : Nat) (f : Nat → Nat) (w : World) (e : Ending) (w' : World) : Prop :=
  ∃ g, e = .returned (.slice (some ⟨g, 0, none⟩) n n) ∧ Vec w' g n (fun j => .int .i64 (f j : Nat)) ∧ Below w.heap.size w w' ∧ w.heap.size ≤ g
set_option maxRecDepth 100000 in
set_option maxHeartbeats 1600000 in
theorem waits_any (A : Option Addr) (n cap : Nat) (L : List Rn) (q : Int) (w : World) (h : RdR w w.heap.size A n L) (hc : n ≤ cap) (hn : n ≤ 1048576) (ht : ticks L ≤ 1099511627776) :
    Calls Try.prog 39 #[.slice A n cap, .int .i64 q] w (MadJ n (wt q L) w) := by
  have hmk := run_makeJ n hn
  obtain ⟨B, hB⟩ : ∃ B, B = w.heap.size := ⟨_, rfl⟩
  have hb0 : Below B w (w.alloc (.cells (madeCells #[.int .i64 0] n) 2)) := by rw [hB]; exact bl1 w _
  have hV0 : Vec (w.alloc (.cells (madeCells #[.int .i64 0] n) 2)) w.heap.size n fun _ => .int .i64 0 := Vec.lit w _ _ n _ fun j hj => made_get _ n j hj
  have hBg : B ≤ w.heap.size := by omega
  rw [← hB] at h
  have hl := h.len
  have HL := Lib.hid hl
  have HB := Lib.hid hB
  have hcc := Lib.hid (ccF_le q L)
  clear hB hl
  go_enter Try.func39, Try.ntmps39
  go_wp2_with fail
  generalize w.alloc (.cells (madeCells #[.int .i64 0] n) 2) = W0 at hb0 hV0 ⊢
  generalize w.heap.size = g at hV0 hBg ⊢
  clear hmk
  go_loopw [6, 7, 11] (fun a _ s wr => ∃ (k : Nat) (f : Nat → Value), k ≤ 2 ∧ s = .int .i64 k ∧ a = .int .i64 (ccF q L k : Nat) ∧ Vec wr g n f ∧ (∀ m, k = m + 1 → ∀ i, i < n → f i = .int .i64 (wc q (L.drop (i + 1)) (ccF q L m) : Nat)) ∧ Below B w wr) (fun _ _ s _ => 2 - (intOf s).toNat)
  case atStart => exact ⟨0, _, by omega, rfl, rfl, hV0, fun m e => by omega, hb0⟩
  case round =>
    obtain ⟨k, f, hk, rfl, rfl, hV, hf, hb⟩ := hrel
    have HF := Lib.hid hf
    clear hf
    by_cases hlt : k < 2
    · have hck := hcc.out k
      have hck2 : ccF q L k ≤ 2 * ticks L := by
        have : k * ticks L ≤ 2 * ticks L := Nat.mul_le_mul_right _ (by omega)
        omega
      have HS : Hid (ccF q L (k + 1) = wc q L (ccF q L k)) := Lib.hid rfl
      have HE0 : Hid (wc q (L.drop n) (ccF q L k) = ccF q L k) := Lib.hid (by rw [List.drop_eq_nil_of_le (by rw [HL.out]; omega)]; rfl)
      clear hck
      generalize hC : ccF q L k = C at hck2 HS HE0 ⊢
      have HC := Lib.hid hC
      clear hC
      obtain ⟨W1, hW1⟩ : ∃ W1, W1 = wr := ⟨_, rfl⟩
      rw [← hW1] at hV hb ⊢
      clear hW1
      go_wp2_with fail
      generalize hx0 : (n : Int) - 1 = x0
      have HX0 := Lib.hid hx0
      clear hx0
      generalize decide ((k : Int) < 2) = b12
      go_loopw [6, 7] (fun a s wr => ∃ (j v : Nat) (x : Int) (f : Nat → Value), j ≤ n ∧ s = .int .i64 x ∧ x = (j : Int) - 1 ∧ a = .int .i64 (v : Int) ∧ wc q (L.drop j) C = v ∧ Vec wr g n f ∧ (∀ i, j ≤ i → i < n → f i = .int .i64 (wc q (L.drop (i + 1)) C : Nat)) ∧ Below B w wr) (fun _ s _ => (intOf s + 1).toNat)
      case atStart => exact ⟨n, C, x0, f, Nat.le_refl _, rfl, HX0.out.symm, rfl, HE0.out, hV, fun i h1 h2 => by omega, hb⟩
      case round =>
        clear hV hb
        obtain ⟨j, v, x, f2, hj, rfl, hx, rfl, hv, hV, hf, hb⟩ := hrel
        have HF2 := Lib.hid hf
        have HV := Lib.hid hv
        have hvle : v ≤ 3 * ticks L := by
          have h1 := wc_le q (L.drop j) C
          have h2 := ticks_drop_le L j
          omega
        clear hf hv
        by_cases h0 : j = 0
        · have hx2 : x = -1 := by omega
          clear hx
          subst hx2
          subst h0
          have hfin : ccF q L (k + 1) = v := by rw [HS.out]; exact HV.out
          have HFIN := Lib.hid hfin
          clear hfin
          go_wp2_with fail
          go_roundw
          case rel => exact ⟨k + 1, f2, by omega, by go_num, by rw [HFIN.out], hV, fun m e i hi => by
            have : m = k := by omega
            subst this
            have e3 := HF2.out i (Nat.zero_le _) hi
            rw [HC.out]; exact e3, hb⟩
          case measure => simp [intOf]; omega
        · obtain ⟨j, rfl⟩ : ∃ i, j = i + 1 := ⟨j - 1, by omega⟩
          have hx2 : x = (j : Int) := by omega
          clear hx h0
          subst hx2
          have hjn : j < n := by omega
          have hb3 := hb.setCell (p := ⟨g, j, none⟩) hBg (.int .i64 (v : Int))
          obtain ⟨ad, r, rfl, had, hr, c0, c1⟩ := (h.below hb3).at_ hjn
          have d0 := hV.cell j hjn
          have d1 := hV.thaw j
          have hV3 := hV.set j (.int .i64 (v : Int))
          have hat := wc_at (q := q) hr C
          rw [HV.out] at hat
          have hrt : r.n ≤ ticks L := mem_ticks (List.mem_of_getElem? hr)
          have HB3 := Lib.hid hb3
          have HV3 := Lib.hid hV3
          have HF3 : Hid (∀ i, j ≤ i → i < n → put1 f2 j (.int .i64 (v : Int)) i = .int .i64 (wc q (L.drop (i + 1)) C : Nat)) := Lib.hid fun i h1 h2 => by
            by_cases e : i = j
            · subst e; rw [put1_same, HV.out]
            · rw [put1_other e]; exact HF2.out i (by omega) h2
          clear hb3 hV3 hr hb
          by_cases hp : r.p = q
          · rw [if_pos hp] at hat
            have hpb : (r.p == q) = true := beq_iff_eq.2 hp
            have HAT := Lib.hid hat
            clear hp hat
            go_wp2_with fail
            refine (bmore_any (v : Int) (r.n : Int) _ _ _ (by omega) (by omega) (by omega) rfl rfl).mono ?_
            rintro e w1 ⟨rfl, rfl⟩
            go_wp2_with fail
            go_roundw
            case rel => exact ⟨j, 0, _, _, by omega, rfl, by go_num, rfl, HAT.out, HV3.out, HF3.out, HB3.out⟩
            case measure => simp [intOf]
          · rw [if_neg hp] at hat
            have hpb : (r.p == q) = false := beq_eq_false_iff_ne.2 hp
            have HAT := Lib.hid hat
            clear hp hat
            go_wp2_with fail
            refine (bmore_any (v : Int) (r.n : Int) _ _ _ (by omega) (by omega) (by omega) rfl rfl).mono ?_
            rintro e w1 ⟨rfl, rfl⟩
            go_wp2_with fail
            go_roundw
            case rel => exact ⟨j, v + r.n, _, _, by omega, rfl, by go_num, by go_num, HAT.out, HV3.out, HF3.out, HB3.out⟩
            case measure => simp [intOf]
    · obtain rfl : k = 2 := by omega
      have HFF := HF.out 1 rfl
      have e1 : ∀ i, i < n → f i = .int .i64 (wt q L i : Nat) := HFF
      have HV := Lib.hid (hV.congr e1)
      clear HFF e1 hV
      go_wp2_with fail
      go_ret
      exact ⟨g, rfl, HV.out, by rw [← HB.out]; exact hb, by rw [← HB.out]; exact hBg⟩
end Go.Proofs.Ytcmdhaieggjgcaa

/- A row of runs in memory: ticks of one, of all, whose a tick is, how often one begins, the same row, a frame's. -/
namespace Go.Proofs.Ytcmdhaieggjgcaa
open Go.RowKit Tab
set_option linter.unusedSimpArgs false
set_option linter.unusedVariables false

theorem cast_add_if (a b : Nat) (P : Prop) [Decidable P] (h : P) : ((a + (if P then b else 0) : Nat) : Int) = (a : Int) + (b : Int) := by rw [if_pos h]; omega
theorem tkOf_all (p : Int) (L : List Rn) (i : Nat) : tkOf p (L.take i) ≤ ticks L := by
  have h1 := tkOf_le p (L.take i)
  have h2 := take_ticks L i
  omega
set_option maxRecDepth 100000 in
set_option maxHeartbeats 1600000 in
theorem ticks_any (A : Option Addr) (n cap : Nat) (L : List Rn) (p : Int) (w : World) (h : RdR w w.heap.size A n L) (hc : n ≤ cap) (hn : n ≤ 1048576) (ht : ticks L ≤ 1099511627776) :
    Calls Try.prog 36 #[.slice A n cap, .int .i64 p] w (Ans (.int .i64 (tkOf p L : Nat)) w) := by
  go_enter Try.func36, Try.ntmps36
  go_wp2_with fail
  go_loopw [5, 10] (fun q s wr => ∃ (i m : Nat), i ≤ n ∧ s = .int .i64 i ∧ q = .int .i64 m ∧ m = tkOf p (L.take i) ∧ Below w.heap.size w wr) (fun _ s _ => n - (intOf s).toNat)
  case atStart => exact ⟨0, 0, by omega, rfl, rfl, by simp [tkOf], Below.refl _ _⟩
  case round =>
    obtain ⟨i, m, hi, rfl, rfl, hm, hb⟩ := hrel
    have hmt := tkOf_all p L i
    rw [← hm] at hmt
    by_cases hlt : i < n
    · obtain ⟨ad, r, rfl, had, hr, c0, c1⟩ := (h.on hb).at_ hlt
      have hmore := tkOf_more (p := p) hr
      have hall := tkOf_all p L (i + 1)
      rw [hmore, ← hm] at hall
      rw [← hm] at hmore
      have hbl := bl1 wr (.cells #[.int .i64 r.p, .int .i64 (r.n : Int)] 44)
      have HB := Lib.hid (hb.trans (hbl.mono hb.size))
      by_cases hp : r.p = p
      · rw [if_pos hp] at hall hmore
        have hpb : (r.p == p) = true := beq_iff_eq.2 hp
        have HM := Lib.hid hmore
        clear hp hmore hm hbl hr
        go_wp2_with fail
        refine (more_any (m : Int) (r.n : Int) _ _ _ (by omega) (by omega) (by omega) rfl rfl).mono ?_
        rintro e w1 ⟨rfl, rfl⟩
        go_wp2_with fail
        go_roundw
        case rel => exact ⟨i + 1, m + r.n, by omega, by go_num, by go_num, HM.out.symm, HB.out⟩
        case measure => simp [intOf]; omega
      · rw [if_neg hp] at hall hmore
        have hpb : (r.p == p) = false := beq_eq_false_iff_ne.2 hp
        have HM := Lib.hid hmore
        clear hp hmore hm hbl hr
        go_wp2_with fail
        go_roundw
        case rel => exact ⟨i + 1, m, by omega, by go_num, rfl, HM.out.symm, HB.out⟩
        case measure => simp [intOf]; omega
    · have hge : n ≤ i := by omega
      have e : m = tkOf p L := by rw [hm, List.take_of_length_le (by rw [h.len]; exact hge)]
      have HE := Lib.hid e
      clear e hm
      go_wp2_with fail
      go_ret
      exact Ans.mk (by rw [HE.out]; rfl) hb
set_option maxRecDepth 100000 in
set_option maxHeartbeats 1600000 in
theorem length_any (A : Option Addr) (n cap : Nat) (L : List Rn) (w : World) (h : RdR w w.heap.size A n L) (hc : n ≤ cap) (hn : n ≤ 1048576) (ht : ticks L ≤ 1099511627776) :
    Calls Try.prog 27 #[.slice A n cap] w (Ans (.int .i64 (ticks L : Nat)) w) := by
  go_enter Try.func27, Try.ntmps27
  go_wp2_with fail
  go_loopw [3, 8] (fun q s wr => ∃ (i m : Nat), i ≤ n ∧ s = .int .i64 i ∧ q = .int .i64 m ∧ m = ticks (L.take i) ∧ Below w.heap.size w wr) (fun _ s _ => n - (intOf s).toNat)
  case atStart => exact ⟨0, 0, by omega, rfl, rfl, by simp [ticks], Below.refl _ _⟩
  case round =>
    obtain ⟨i, m, hi, rfl, rfl, hm, hb⟩ := hrel
    have hmt := take_ticks L i
    rw [← hm] at hmt
    by_cases hlt : i < n
    · obtain ⟨ad, r, rfl, had, hr, c0, c1⟩ := (h.on hb).at_ hlt
      have hmore := take_more hr
      have hall := take_ticks L (i + 1)
      rw [hmore, ← hm] at hall
      rw [← hm] at hmore
      have hbl := bl1 wr (.cells #[.int .i64 r.p, .int .i64 (r.n : Int)] 44)
      have HB := Lib.hid (hb.trans (hbl.mono hb.size))
      have HM := Lib.hid hmore
      clear hmore hm hbl hr
      go_wp2_with fail
      refine (more_any (m : Int) (r.n : Int) _ _ _ (by omega) (by omega) (by omega) rfl rfl).mono ?_
      rintro e w1 ⟨rfl, rfl⟩
      go_wp2_with fail
      go_roundw
      case rel => exact ⟨i + 1, m + r.n, by omega, by go_num, by go_num, HM.out.symm, HB.out⟩
      case measure => simp [intOf]; omega
    · have hge : n ≤ i := by omega
      have e : m = ticks L := by rw [hm, List.take_of_length_le (by rw [h.len]; exact hge)]
      have HE := Lib.hid e
      clear e hm
      go_wp2_with fail
      go_ret
      exact Ans.mk (by rw [HE.out]; rfl) hb
theorem rv_neq (x y : Int) (W : World) : (binOp .neq 44 (rv x y) (rv x y)).run Try.prog W = .ok (.bool false) W := by
  simp [run_neq_struct, go_sem]
end Go.Proofs.Ytcmdhaieggjgcaa

/- How late, how long one waits: bound's own answers. -/
namespace Go.Proofs.Ytcmdhaieggjgcaa
open Go.RowKit Tab
set_option linter.unusedSimpArgs false
set_option linter.unusedVariables false

theorem tidy_ge (L : List Rn) : ∀ r ∈ tidy L, 1 ≤ r.n := (tidy_apart L).pos
theorem gapL_none {L : List Rn} {p : Int} (h : tkOf p L = 0) : gapL (wordsL L) p = -1 := by
  unfold gapL lateL
  rw [if_pos (has_tk0.2 h), if_pos (by omega)]
theorem lateL_none {L : List Rn} {p q : Int} (h : tkOf p L = 0) : lateL (wordsL L) p q = 0 := by
  unfold lateL
  rw [if_pos (has_tk0.2 h)]
theorem lateL_never {L : List Rn} {p q : Int} (h : tkOf p L ≠ 0) (h2 : tkOf q L = 0) : lateL (wordsL L) p q = -1 := by
  unfold lateL
  rw [if_neg (by rw [has_tk0]; exact h), if_pos (has_tk0.2 h2)]
theorem lateL_self {L : List Rn} {p : Int} (h : tkOf p L ≠ 0) : lateL (wordsL L) p p = (mo p (fun i _ => wt p (tidy L) i) (tidy L) (tidy L).length : Nat) + 1 := by
  have hp : hasL p (wordsL (tidy L)) = true := has_tk.2 (by rw [tkOf_tidy]; omega)
  unfold lateL
  rw [if_neg (by rw [has_tk0]; exact h), if_neg (by rw [has_tk0]; exact h), ← wordsL_tidy L, gap_mo (tidy_ge L) hp]
  rfl
theorem gapL_mo {L : List Rn} {p : Int} (h : tkOf p L ≠ 0) : gapL (wordsL L) p = (mo p (fun i _ => wt p (tidy L) i) (tidy L) (tidy L).length : Nat) := by
  unfold gapL
  rw [lateL_self h, if_neg (by omega)]
  omega
theorem lateL_mo {L : List Rn} {p q : Int} (h : tkOf p L ≠ 0) (h2 : tkOf q L ≠ 0) (hne : p ≠ q) : lateL (wordsL L) p q = (mo p (fun i n => wt q (tidy L) i + n) (tidy L) (tidy L).length : Nat) := by
  have hq : hasL q (wordsL (tidy L)) = true := has_tk.2 (by rw [tkOf_tidy]; omega)
  unfold lateL
  rw [if_neg (by rw [has_tk0]; exact h), if_neg (by rw [has_tk0]; exact h2), ← wordsL_tidy L, late_mo (tidy_ge L) hq hne]
set_option maxRecDepth 100000 in
set_option maxHeartbeats 1600000 in
theorem bgaps_any (A : Option Addr) (n cap : Nat) (L : List Rn) (p : Int) (w : World) (h : RdR w w.heap.size A n L) (hc : n ≤ cap) (hn : n ≤ 1048576) (ht : ticks L ≤ 1099511627776) :
    Calls Try.prog 22 #[.slice A n cap, .int .i64 p] w (Ans (.int .i64 (gapL (wordsL L) p)) w) := by
  have HT := Lib.hid (ticks_any A n cap L p w h hc hn ht)
  have HY := Lib.hid fun W (hb : Below w.heap.size w W) => tidy_any A n cap L W (h.on hb) hc hn ht
  have hle := tidy_le L
  rw [h.len] at hle
  have h1 := gapL_none (L := L) (p := p)
  have h2 := gapL_mo (L := L) (p := p)
  have htt := ticks_tidy L
  generalize gapL (wordsL L) p = R at h1 h2 ⊢
  generalize tkOf p L = tk at HT h1 h2
  generalize tidy L = T at HY hle h2 htt
  rw [← htt] at ht
  clear h htt
  by_cases h0 : tk = 0
  · have e := h1 h0
    subst e
    subst h0
    clear h1 h2 HY
    go_enter Try.func22, Try.ntmps22
    go_wp2_with fail
    refine HT.out.mono ?_
    rintro e w1 ⟨rfl, hb1⟩
    go_wp2_with fail
    go_ret
    exact Ans.mk rfl hb1
  · have HR := Lib.hid (h2 h0)
    have htk : ((tk : Int) == 0) = false := beq_eq_false_iff_ne.2 (by omega)
    clear h1 h2
    go_enter Try.func22, Try.ntmps22
    go_wp2_with fail
    refine HT.out.mono ?_
    rintro e w1 ⟨rfl, hb1⟩
    go_wp2_with fail
    refine (HY.out w1 hb1).mono ?_
    rintro e w2 ⟨A1, c1, rfl, hr1, hc1, hb2, _⟩
    generalize hm1 : T.length = m at hr1 hc1 hle HR
    go_wp2_with fail
    refine (waits_any A1 m c1 T p w2 hr1 hc1 (by omega) ht).mono ?_
    rintro e w3 ⟨g, rfl, hV, hb3, hg⟩
    have hr3 := hr1.on hb3
    have HB := Lib.hid (hb1.trans ((hb2.mono hb1.size).trans (hb3.mono (Nat.le_trans hb1.size hb2.size))))
    clear hr1 hb1 hb2 hb3 hg HT HY hm1
    go_wp2_with fail
    go_loopw [5, 6, 7, 18] (fun a _ _ s wr => ∃ i k : Nat, i ≤ m ∧ s = .int .i64 i ∧ a = .int .i64 k ∧ k = mo p (fun i _ => wt p T i) T i ∧ wr = w3) (fun _ _ _ s _ => m - (intOf s).toNat)
    case atStart => exact ⟨0, 0, by omega, rfl, rfl, rfl, rfl⟩
    case round =>
      obtain ⟨i, k, hi, rfl, rfl, hk, hw⟩ := hrel
      have hw' := hw.symm
      clear hw
      subst hw'
      by_cases hlt : i < m
      · obtain ⟨ad, r, rfl, had, hr, c0, c1⟩ := hr3.at_ hlt
        have d0 := hV.cell i hlt
        by_cases hp : r.p = p
        · have hmo := mo_yes (g := fun i _ => wt p T i) hr hp
          rw [← hk] at hmo
          have hpb : (r.p == p) = true := beq_iff_eq.2 hp
          have HMO := Lib.hid hmo
          have HHV := Lib.hid hV
          generalize wt p T i = x at d0 HMO
          clear hp hmo hk hr hV
          go_wp2_with fail
          go_roundw
          case rel => exact ⟨i + 1, max k x, by omega, by go_num, by congr 1; first | omega | (split <;> omega), HMO.out.symm, trivial⟩
          case measure => simp [intOf]; omega
        · have hmo := mo_no (g := fun i _ => wt p T i) hr hp
          rw [← hk] at hmo
          have hpb : (r.p == p) = false := beq_eq_false_iff_ne.2 hp
          have HMO := Lib.hid hmo
          have HHV := Lib.hid hV
          clear hp hmo hk hr hV
          go_wp2_with fail
          go_roundw
          case rel => exact ⟨i + 1, k, by omega, by go_num, rfl, HMO.out.symm, trivial⟩
          case measure => simp [intOf]; omega
      · obtain rfl : i = m := by omega
        have hR : R = (k : Int) := by rw [HR.out, hk]
        have HR2 := Lib.hid hR
        clear hR hk
        go_wp2_with fail
        go_ret
        exact Ans.mk (by rw [HR2.out]; rfl) HB.out
set_option maxRecDepth 100000 in
set_option maxHeartbeats 1600000 in
theorem blate_any (A : Option Addr) (n cap : Nat) (L : List Rn) (p q : Int) (w : World) (h : RdR w w.heap.size A n L) (hc : n ≤ cap) (hn : n ≤ 1048576) (ht : ticks L ≤ 1099511627776) :
    Calls Try.prog 20 #[.slice A n cap, .int .i64 p, .int .i64 q] w (Ans (.int .i64 (lateL (wordsL L) p q)) w) := by
  have HT := Lib.hid (ticks_any A n cap L p w h hc hn ht)
  have HT2 := Lib.hid fun W (hb : Below w.heap.size w W) => ticks_any A n cap L q W (h.on hb) hc hn ht
  have HG := Lib.hid fun W (hb : Below w.heap.size w W) => bgaps_any A n cap L q W (h.on hb) hc hn ht
  have HY := Lib.hid fun W (hb : Below w.heap.size w W) => tidy_any A n cap L W (h.on hb) hc hn ht
  have hle := tidy_le L
  rw [h.len] at hle
  have h1 := lateL_none (L := L) (p := p) (q := q)
  have h2 := lateL_never (L := L) (p := p) (q := q)
  have h3 := lateL_mo (L := L) (p := p) (q := q)
  have h4 : tkOf p L ≠ 0 → p = q → lateL (wordsL L) p q = gapL (wordsL L) q + 1 ∧ 0 ≤ gapL (wordsL L) q ∧ gapL (wordsL L) q ≤ 1099511627777 := by
    rintro e rfl
    rw [gapL_mo e, lateL_self e]
    refine ⟨rfl, by omega, ?_⟩
    have e2 := lateL_le (wordsL L) p p
    rw [lateL_self e, wordsL_len] at e2
    omega
  have htt := ticks_tidy L
  generalize gapL (wordsL L) q = G at HG h4
  generalize lateL (wordsL L) p q = R at h1 h2 h3 h4 ⊢
  have hpq : p = q → tkOf p L = tkOf q L := by rintro rfl; rfl
  generalize tkOf p L = tk at HT h1 h2 h3 h4 hpq
  generalize tkOf q L = tk2 at HT2 h2 h3 hpq
  generalize tidy L = T at HY hle h3 htt
  rw [← htt] at ht
  clear h htt
  by_cases h0 : tk = 0
  · have e := h1 h0
    subst e
    subst h0
    clear h1 h2 h3 h4 HY HT2 HG hpq
    go_enter Try.func20, Try.ntmps20
    go_wp2_with fail
    refine HT.out.mono ?_
    rintro e w1 ⟨rfl, hb1⟩
    go_wp2_with fail
    go_ret
    exact Ans.mk rfl hb1
  · have htk : ((tk : Int) == 0) = false := beq_eq_false_iff_ne.2 (by omega)
    by_cases h00 : tk2 = 0
    · have e := h2 h0 h00
      subst e
      subst h00
      clear h1 h2 h3 h4 HY HG hpq
      go_enter Try.func20, Try.ntmps20
      go_wp2_with fail
      refine HT.out.mono ?_
      rintro e w1 ⟨rfl, hb1⟩
      go_wp2_with fail
      refine (HT2.out w1 hb1).mono ?_
      rintro e w2 ⟨rfl, hb2⟩
      have HB := Lib.hid (hb1.trans (hb2.mono hb1.size))
      clear hb1 hb2
      go_wp2_with fail
      go_ret
      exact Ans.mk rfl HB.out
    · have htk2 : ((tk2 : Int) == 0) = false := beq_eq_false_iff_ne.2 (by omega)
      by_cases hpe : p = q
      · obtain ⟨e1, e2, e3⟩ := h4 h0 hpe
        subst hpe
        have HE := Lib.hid e1
        clear h1 h2 h3 h4 HY hpq e1
        go_enter Try.func20, Try.ntmps20
        go_wp2_with fail
        refine HT.out.mono ?_
        rintro e w1 ⟨rfl, hb1⟩
        go_wp2_with fail
        refine (HT2.out w1 hb1).mono ?_
        rintro e w2 ⟨rfl, hb2⟩
        have hb := hb1.trans (hb2.mono hb1.size)
        clear hb1 hb2
        go_wp2_with fail
        refine (HG.out w2 hb).mono ?_
        rintro e w3 ⟨rfl, hb3⟩
        have HB := Lib.hid (hb.trans (hb3.mono hb.size))
        clear hb hb3
        go_wp2_with fail
        refine (bmore_any G 1 _ _ _ (by omega) (by omega) (by omega) rfl rfl).mono ?_
        rintro e w4 ⟨rfl, rfl⟩
        go_wp2_with fail
        go_ret
        exact Ans.mk (by rw [HE.out]; rfl) HB.out
      · have HR := Lib.hid (h3 h0 h00 hpe)
        have hpb : (p == q) = false := beq_eq_false_iff_ne.2 hpe
        clear h1 h2 h3 h4 HG hpq hpe
        go_enter Try.func20, Try.ntmps20
        go_wp2_with fail
        refine HT.out.mono ?_
        rintro e w1 ⟨rfl, hb1⟩
        go_wp2_with fail
        refine (HT2.out w1 hb1).mono ?_
        rintro e w1' ⟨rfl, hb2⟩
        have hb := hb1.trans (hb2.mono hb1.size)
        clear hb1 hb2
        go_wp2_with fail
        refine (HY.out w1' hb).mono ?_
        rintro e w2 ⟨A1, c1, rfl, hr1, hc1, hb2, _⟩
        generalize hm1 : T.length = m at hr1 hc1 hle HR
        go_wp2_with fail
        refine (waits_any A1 m c1 T q w2 hr1 hc1 (by omega) ht).mono ?_
        rintro e w3 ⟨g, rfl, hV, hb3, hg⟩
        have hr3 := hr1.on hb3
        have HB := Lib.hid (hb.trans ((hb2.mono hb.size).trans (hb3.mono (Nat.le_trans hb.size hb2.size))))
        clear hr1 hb hb2 hb3 hg HT HT2 HY hm1
        go_wp2_with fail
        go_loopw [7, 8, 9, 31] (fun a _ _ s wr => ∃ i k : Nat, i ≤ m ∧ s = .int .i64 i ∧ a = .int .i64 k ∧ k = mo p (fun i n => wt q T i + n) T i ∧ wr = w3) (fun _ _ _ s _ => m - (intOf s).toNat)
        case atStart => exact ⟨0, 0, by omega, rfl, rfl, rfl, rfl⟩
        case round =>
          obtain ⟨i, k, hi, rfl, rfl, hk, hw⟩ := hrel
          have hw' := hw.symm
          clear hw
          subst hw'
          by_cases hlt : i < m
          · obtain ⟨ad, r, rfl, had, hr, c0, c1⟩ := hr3.at_ hlt
            have d0 := hV.cell i hlt
            have hx := wt_le q T i
            have hrt : r.n ≤ ticks T := mem_ticks (List.mem_of_getElem? hr)
            by_cases hp : r.p = p
            · have hmo := mo_yes (g := fun i n => wt q T i + n) hr hp
              rw [← hk] at hmo
              have hpb2 : (r.p == p) = true := beq_iff_eq.2 hp
              have HMO := Lib.hid hmo
              have HHV := Lib.hid hV
              generalize wt q T i = x at d0 HMO hx
              clear hp hmo hk hr hV
              go_wp2_with fail
              refine (bmore_any (x : Int) (r.n : Int) _ _ _ (by omega) (by omega) (by omega) rfl rfl).mono ?_
              rintro e w4 ⟨rfl, rfl⟩
              go_wp2_with fail
              go_roundw
              case rel => exact ⟨i + 1, max k (x + r.n), by omega, by go_num, by congr 1; first | omega | (split <;> omega), HMO.out.symm, trivial⟩
              case measure => simp [intOf]; omega
            · have hmo := mo_no (g := fun i n => wt q T i + n) hr hp
              rw [← hk] at hmo
              have hpb2 : (r.p == p) = false := beq_eq_false_iff_ne.2 hp
              have HMO := Lib.hid hmo
              have HHV := Lib.hid hV
              clear hp hmo hk hr hV
              go_wp2_with fail
              go_roundw
              case rel => exact ⟨i + 1, k, by omega, by go_num, rfl, HMO.out.symm, trivial⟩
              case measure => simp [intOf]; omega
          · obtain rfl : i = m := by omega
            have hR : R = (k : Int) := by rw [HR.out, hk]
            have HR2 := Lib.hid hR
            clear hR hk
            go_wp2_with fail
            go_ret
            exact Ans.mk (by rw [HR2.out]; rfl) HB.out
end Go.Proofs.Ytcmdhaieggjgcaa

/- How few ticks of one in each period: bound's own answers. -/
namespace Go.Proofs.Ytcmdhaieggjgcaa
open Go.RowKit Tab
set_option linter.unusedSimpArgs false
set_option linter.unusedVariables false

set_option maxRecDepth 100000 in
set_option maxHeartbeats 4000000 in
theorem fewest_any (A : Option Addr) (n cap : Nat) (L : List Rn) (p : Int) (P : Nat) (w : World) (h : RdR w w.heap.size A n L) (hc : n ≤ cap) (hn : n ≤ 1048576) (ht : ticks L ≤ 1099511627776) (hP : 1 ≤ P) (hP2 : P ≤ 1099511627776) :
    Calls Try.prog 28 #[.slice A n cap, .int .i64 p, .int .i64 (P : Int)] w (Ans (.int .i64 ((stpL p P ⟨P, P, 0⟩ (wordsL L)).a : Nat)) w) := by
  obtain ⟨R, hR⟩ : ∃ R, R = (stpL p P ⟨P, P, 0⟩ (wordsL L)).a := ⟨_, rfl⟩
  rw [← hR]
  have HR := Lib.hid hR
  have HOK := Lib.hid fun X => bok_all (p := p) hP X _ (bok_start hP)
  have HL := Lib.hid h.len
  clear hR
  have hPP : 0 < P := hP
  go_enter Try.func28, Try.ntmps28
  go_wp2_with fail
  go_loopw [7, 8, 9, 11, 12, 13, 18] (fun a l m _ _ _ s wr => ∃ i sa sl sm : Nat, i ≤ n ∧ s = .int .i64 i ∧ a = .int .i64 sa ∧ l = .int .i64 sl ∧ m = .int .i64 sm ∧ stpL p P ⟨P, P, 0⟩ (wordsL (L.take i)) = ⟨sa, sl, sm⟩ ∧ Below w.heap.size w wr) (fun _ _ _ _ _ _ s _ => n - (intOf s).toNat)
  case atStart => exact ⟨0, P, P, 0, by omega, rfl, rfl, rfl, rfl, rfl, Below.refl _ _⟩
  case round =>
    obtain ⟨i, sa, sl, sm, hi, rfl, rfl, rfl, rfl, hst, hb⟩ := hrel
    by_cases hlt : i < n
    · obtain ⟨ad, r, rfl, had, hr, c0, c1⟩ := (h.on hb).at_ hlt
      have hmore := wordsL_more hr
      obtain ⟨TG, hTG⟩ : ∃ TG, TG = stpL p P ⟨P, P, 0⟩ (wordsL (L.take (i + 1))) := ⟨_, rfl⟩
      have hgo : stpL p P ⟨sa, sl, sm⟩ (List.replicate r.n r.p) = TG := by rw [hTG, hmore, stpL_append, hst]
      obtain ⟨b1, b2, b3, b4⟩ := HOK.out (wordsL (L.take i))
      rw [hst] at b1 b2 b3 b4
      dsimp only at b1 b2 b3 b4
      have hrt : r.n ≤ ticks L := mem_ticks (List.mem_of_getElem? hr)
      obtain ⟨rp, rn⟩ := r
      dsimp only at c0 c1 hgo hrt
      have hbl := bl1 wr (.cells #[.int .i64 rp, .int .i64 (rn : Int)] 44)
      have hb1 := hb.trans (hbl.mono hb.size)
      have m0 : (wr.alloc (.cells #[.int .i64 rp, .int .i64 (rn : Int)] 44)).cell? ⟨wr.heap.size, 0, none⟩ = some (.int .i64 rp) := World.cell?_alloc_mark _ _ _ _ _
      have m1 : (wr.alloc (.cells #[.int .i64 rp, .int .i64 (rn : Int)] 44)).cell? ⟨wr.heap.size, 1, none⟩ = some (.int .i64 (rn : Int)) := World.cell?_alloc_mark _ _ _ _ _
      have HTG := Lib.hid hTG
      have HGO := Lib.hid hgo
      clear hTG hgo hst hmore hr hbl
      go_upto_region 5 with fail
      generalize wr.alloc (.cells #[.int .i64 rp, .int .i64 (rn : Int)] 44) = W1 at m0 m1 hb1 ⊢
      generalize wr.heap.size = gx at m0 m1 ⊢
      have HB1 := Lib.hid hb1
      clear hb1 hb c0 c1
      go_wp2_with fail
      clear m1
      go_loopw [7, 8, 9, 12, 13] (fun a l m nn _ wr => ∃ k sa sl sm : Nat, nn = .int .i64 k ∧ a = .int .i64 sa ∧ l = .int .i64 sl ∧ m = .int .i64 sm ∧ stpL p P ⟨sa, sl, sm⟩ (List.replicate k rp) = TG ∧ sa ≤ P ∧ 1 ≤ sl ∧ sl ≤ P ∧ sm + sl ≤ P ∧ k ≤ rn ∧ wr = W1) (fun _ _ _ nn _ _ => (intOf nn).toNat)
      case atStart => exact ⟨rn, sa, sl, sm, rfl, rfl, rfl, rfl, HGO.out, b1, b2, b3, b4, Nat.le_refl _, rfl⟩
      case round =>
        clear HGO b1 b2 b3 b4
        obtain ⟨k, sa, sl, sm, rfl, rfl, rfl, rfl, hgo, b1, b2, b3, b4, hkr, hw⟩ := hrel
        have hw' := hw.symm
        clear hw
        subst hw'
        by_cases hk0 : k = 0
        · subst hk0
          have hfin : TG = ⟨sa, sl, sm⟩ := hgo.symm
          have HFIN := Lib.hid hfin
          clear hfin hgo
          go_wp2_with fail
          go_roundw
          case rel => exact ⟨i + 1, sa, sl, sm, by omega, by go_num, rfl, rfl, rfl, by rw [← HTG.out, HFIN.out], HB1.out⟩
          case measure => simp [intOf]; omega
        · have hk1 : 0 < k := by omega
          clear hk0
          by_cases hks : k < sl
          · obtain ⟨l2, hl2⟩ : ∃ l2, l2 = sl - k := ⟨_, rfl⟩
            have hl0 : 0 < l2 := by omega
            have hmin : min (k : Int) (sl : Int) = (k : Int) := by omega
            have hmin2 : (if (sl : Int) < (k : Int) then (sl : Int) else (k : Int)) = (k : Int) := by rw [if_neg (by omega)]
            have hls : (sl : Int) - (k : Int) = (l2 : Int) := by omega
            have hgo2 := (stp_part (p := p) (x := rp) (P := P) (a := sa) (m := sm) hks).symm.trans hgo
            rw [← hl2] at hgo2
            have HL2 := Lib.hid hl2
            clear hl2 hgo
            by_cases hp : rp = p
            · rw [if_pos hp] at hgo2
              have hpb : (rp == p) = true := beq_iff_eq.2 hp
              have HGO2 := Lib.hid hgo2
              clear hgo2 hp
              go_wp2_with fail
              go_roundw
              case rel => exact ⟨0, sa, l2, sm + k, by go_num, rfl, by go_num, by go_num, HGO2.out, b1, hl0, by have := HL2.out; omega, by have := HL2.out; omega, by omega, trivial⟩
              case measure => simp [intOf]; omega
            · rw [if_neg hp] at hgo2
              have hpb : (rp == p) = false := beq_eq_false_iff_ne.2 hp
              have HGO2 := Lib.hid hgo2
              clear hgo2 hp
              go_wp2_with fail
              go_roundw
              case rel => exact ⟨0, sa, l2, sm, by go_num, rfl, by go_num, by go_num, HGO2.out, b1, hl0, by have := HL2.out; omega, by have := HL2.out; omega, by omega, trivial⟩
              case measure => simp [intOf]; omega
          · obtain ⟨k2, hk2⟩ : ∃ k2, k2 = k - sl := ⟨_, rfl⟩
            have hmin : min (k : Int) (sl : Int) = (sl : Int) := by omega
            have hmin2 : (if sl < k then (sl : Int) else (k : Int)) = (sl : Int) := by split <;> omega
            have hks2 : (k : Int) - (sl : Int) = (k2 : Int) := by omega
            have hgo2 := (stp_full (p := p) (x := rp) (P := P) (a := sa) (m := sm) (show sl ≤ k by omega) b2).symm.trans hgo
            rw [← hk2] at hgo2
            have HK2 := Lib.hid hk2
            clear hk2 hgo
            by_cases hp : rp = p
            · rw [if_pos hp] at hgo2
              have hpb : (rp == p) = true := beq_iff_eq.2 hp
              have hmine : (sm : Int) + (sl : Int) = ((sm + sl : Nat) : Int) := by omega
              have hmn2 : sm + sl ≤ P := b4
              clear hp
              have hsmb : sm + sl ≤ P := b4
              obtain ⟨mm, hmm⟩ : ∃ mm, mm = sm + sl := ⟨_, rfl⟩
              rw [← hmm] at hgo2 hmine
              have hmmP : mm ≤ P := by omega
              have HMM := Lib.hid hmm
              clear hmm
              have hmina : min (sa : Int) (mm : Int) = ((min sa mm : Nat) : Int) := by omega
              have hmina2 : (if mm < sa then (mm : Int) else (sa : Int)) = ((min sa mm : Nat) : Int) := by split <;> omega
              obtain ⟨a2, ha2⟩ : ∃ a2, a2 = min sa mm := ⟨_, rfl⟩
              rw [← ha2] at hgo2 hmina hmina2
              have ha2P : a2 ≤ P := by omega
              have HA2 := Lib.hid ha2
              clear ha2
              obtain ⟨qq, hqq⟩ : ∃ qq, qq = k2 / P := ⟨_, rfl⟩
              have hquo : (k2 : Int) / (P : Int) = (qq : Int) := by rw [hqq, Int.natCast_ediv]
              have htq : (k2 : Int).tdiv (P : Int) = (qq : Int) := by rw [Int.tdiv_eq_ediv_of_nonneg (Int.natCast_nonneg _)]; exact hquo
              have hqb : qq ≤ 1099511627776 := by
                have h1 : k2 / P ≤ k2 := Nat.div_le_self _ _
                have h2 := HK2.out
                omega
              have hwq : IntKind.i64.wrap (qq : Int) = (qq : Int) := IntWalk.i64_in _ (by omega)
              by_cases hq : 1 < k2 / P
              · have hgo3 := (stp_mod (p := p) (x := rp) (P := P) (a := a2) (n := k2) hP hq).symm.trans hgo2
                obtain ⟨rr, hrr⟩ : ∃ rr, rr = k2 % P := ⟨_, rfl⟩
                rw [← hrr] at hgo3
                have hq1 : 1 < qq := by omega
                have hmod : (k2 : Int) % (P : Int) = (rr : Int) := by rw [hrr, Int.natCast_emod]
                have htmod : (k2 : Int).tmod (P : Int) = (rr : Int) := by rw [Int.tmod_eq_emod_of_nonneg (Int.natCast_nonneg _)]; exact hmod
                have hrl : rr < P := by rw [hrr]; exact Nat.mod_lt _ hP
                have hdm := Nat.div_add_mod k2 P
                have hPk : P + rr ≤ k2 := by
                  have : P * 2 ≤ P * (k2 / P) := Nat.mul_le_mul_left _ hq
                  omega
                have HGO3 := Lib.hid hgo3
                have HPK := Lib.hid hPk
                clear hgo2 hgo3 hrr hdm hq hPk hqq
                go_wp2_with fail
                go_roundw
                case rel => exact ⟨P + rr, a2, P, 0, by go_num, by go_num, rfl, rfl, HGO3.out, ha2P, hP, Nat.le_refl _, by omega, by have := HPK.out; have := HK2.out; omega, trivial⟩
                case measure => simp [intOf]; have := HPK.out; have := HK2.out; omega
              · have hq1 : ¬ 1 < qq := by omega
                clear hqq
                have HGO2 := Lib.hid hgo2
                clear hgo2 hq
                go_wp2_with fail
                go_roundw
                case rel => exact ⟨k2, a2, P, 0, by go_num, by go_num, rfl, rfl, HGO2.out, ha2P, hP, Nat.le_refl _, by omega, by have := HK2.out; omega, trivial⟩
                case measure => simp [intOf]; have := HK2.out; omega
            · rw [if_neg hp] at hgo2
              have hpb : (rp == p) = false := beq_eq_false_iff_ne.2 hp
              obtain ⟨mm, hmm⟩ : ∃ mm, mm = sm := ⟨_, rfl⟩
              rw [Nat.add_zero, ← hmm] at hgo2
              subst hmm
              have hmmP : mm ≤ P := by omega
              clear hp
              have hmina : min (sa : Int) (mm : Int) = ((min sa mm : Nat) : Int) := by omega
              have hmina2 : (if mm < sa then (mm : Int) else (sa : Int)) = ((min sa mm : Nat) : Int) := by split <;> omega
              obtain ⟨a2, ha2⟩ : ∃ a2, a2 = min sa mm := ⟨_, rfl⟩
              rw [← ha2] at hgo2 hmina hmina2
              have ha2P : a2 ≤ P := by omega
              have HA2 := Lib.hid ha2
              clear ha2
              obtain ⟨qq, hqq⟩ : ∃ qq, qq = k2 / P := ⟨_, rfl⟩
              have hquo : (k2 : Int) / (P : Int) = (qq : Int) := by rw [hqq, Int.natCast_ediv]
              have htq : (k2 : Int).tdiv (P : Int) = (qq : Int) := by rw [Int.tdiv_eq_ediv_of_nonneg (Int.natCast_nonneg _)]; exact hquo
              have hqb : qq ≤ 1099511627776 := by
                have h1 : k2 / P ≤ k2 := Nat.div_le_self _ _
                have h2 := HK2.out
                omega
              have hwq : IntKind.i64.wrap (qq : Int) = (qq : Int) := IntWalk.i64_in _ (by omega)
              by_cases hq : 1 < k2 / P
              · have hgo3 := (stp_mod (p := p) (x := rp) (P := P) (a := a2) (n := k2) hP hq).symm.trans hgo2
                obtain ⟨rr, hrr⟩ : ∃ rr, rr = k2 % P := ⟨_, rfl⟩
                rw [← hrr] at hgo3
                have hq1 : 1 < qq := by omega
                have hmod : (k2 : Int) % (P : Int) = (rr : Int) := by rw [hrr, Int.natCast_emod]
                have htmod : (k2 : Int).tmod (P : Int) = (rr : Int) := by rw [Int.tmod_eq_emod_of_nonneg (Int.natCast_nonneg _)]; exact hmod
                have hrl : rr < P := by rw [hrr]; exact Nat.mod_lt _ hP
                have hdm := Nat.div_add_mod k2 P
                have hPk : P + rr ≤ k2 := by
                  have : P * 2 ≤ P * (k2 / P) := Nat.mul_le_mul_left _ hq
                  omega
                have HGO3 := Lib.hid hgo3
                have HPK := Lib.hid hPk
                clear hgo2 hgo3 hrr hdm hq hPk hqq
                go_wp2_with fail
                go_roundw
                case rel => exact ⟨P + rr, a2, P, 0, by go_num, by go_num, rfl, rfl, HGO3.out, ha2P, hP, Nat.le_refl _, by omega, by have := HPK.out; have := HK2.out; omega, trivial⟩
                case measure => simp [intOf]; have := HPK.out; have := HK2.out; omega
              · have hq1 : ¬ 1 < qq := by omega
                clear hqq
                have HGO2 := Lib.hid hgo2
                clear hgo2 hq
                go_wp2_with fail
                go_roundw
                case rel => exact ⟨k2, a2, P, 0, by go_num, by go_num, rfl, rfl, HGO2.out, ha2P, hP, Nat.le_refl _, by omega, by have := HK2.out; omega, trivial⟩
                case measure => simp [intOf]; have := HK2.out; omega
    · have hge : n ≤ i := by omega
      have e : L.take i = L := List.take_of_length_le (by rw [HL.out]; exact hge)
      rw [e] at hst
      have hRs : R = sa := by rw [HR.out, hst]
      subst hRs
      clear hst e HR
      go_wp2_with fail
      go_ret
      exact Ans.mk rfl hb
set_option maxRecDepth 100000 in
set_option maxHeartbeats 1600000 in
theorem bbudget_any (A : Option Addr) (n cap : Nat) (L : List Rn) (p z : Int) (w : World) (h : RdR w w.heap.size A n L) (hc : n ≤ cap) (hn : n ≤ 1048576) (ht : ticks L ≤ 1099511627776) (hz : In64 z) :
    Calls Try.prog 12 #[.slice A n cap, .int .i64 p, .int .i64 z] w (Ans (.int .i64 (budL (wordsL L) p z)) w) := by
  have HT := Lib.hid (length_any A n cap L w h hc hn ht)
  obtain ⟨R, hR⟩ : ∃ R, R = budL (wordsL L) p z := ⟨_, rfl⟩
  rw [← hR]
  have hlen := wordsL_len L
  by_cases h0 : ticks L = 0
  · have e : R = -1 := by
      rw [hR]
      unfold budL
      rw [hlen]
      by_cases hz1 : z < 1
      · rw [if_pos hz1]
      · rw [if_neg hz1, if_pos h0]
    subst e
    rw [h0] at HT
    clear hR hlen h0
    go_enter Try.func12, Try.ntmps12
    go_wp2_with fail
    refine HT.out.mono ?_
    rintro e w1 ⟨rfl, hb1⟩
    go_wp2_with fail
    go_ret
    exact Ans.mk rfl hb1
  · by_cases hz1 : z < 1
    · have e : R = -1 := by rw [hR]; unfold budL; rw [if_pos hz1]
      subst e
      have hzd : decide (z < 1) = true := decide_eq_true hz1
      generalize ticks L = T at HT ht h0
      have htd : decide ((T : Int) < 1) = false := decide_eq_false (by omega)
      have hT0 : 0 < T := by omega
      clear hR hlen h0
      go_enter Try.func12, Try.ntmps12
      go_wp2_with fail
      refine HT.out.mono ?_
      rintro e w1 ⟨rfl, hb1⟩
      go_wp2_with fail
      go_ret
      exact Ans.mk rfl hb1
    · obtain ⟨P, rfl⟩ : ∃ P : Nat, z = (P : Int) := ⟨z.toNat, by omega⟩
      have hP : 1 ≤ P := by omega
      have hzd : decide ((P : Int) < 1) = false := decide_eq_false hz1
      have hzn : ¬ P = 0 := by omega
      by_cases hm : ticks L % P = 0
      · have hPT : P ≤ ticks L := Nat.le_of_dvd (by omega) (Nat.dvd_of_mod_eq_zero hm)
        have e : R = ((stpL p P ⟨P, P, 0⟩ (wordsL L)).a : Int) := by
          rw [hR]
          unfold budL
          rw [hlen, if_neg (by omega), if_neg h0, Int.toNat_natCast, if_neg (by omega), stp_all hP (by rw [hlen]; omega) (by rw [hlen]; exact hm), hlen]
        rw [e]
        have HF := Lib.hid fun W (hb : Below w.heap.size w W) => fewest_any A n cap L p P W (h.on hb) hc hn ht hP (by omega)
        generalize (stpL p P ⟨P, P, 0⟩ (wordsL L)).a = v at HF ⊢
        have hmi : ((ticks L : Nat) : Int).tmod (P : Int) = 0 := by rw [Int.tmod_eq_emod_of_nonneg (Int.natCast_nonneg _), ← Int.natCast_emod, hm]; rfl
        have hmb : (((ticks L : Nat) : Int).tmod (P : Int) != 0) = false := by rw [hmi]; rfl
        generalize ticks L = T at HT ht h0 hmi hmb
        have htd : decide ((T : Int) < 1) = false := decide_eq_false (by omega)
        have hT0 : 0 < T := by omega
        clear hR hlen h0 e hm hPT
        go_enter Try.func12, Try.ntmps12
        go_wp2_with fail
        refine HT.out.mono ?_
        rintro e w1 ⟨rfl, hb1⟩
        go_wp2_with fail
        refine (HF.out w1 hb1).mono ?_
        rintro e w2 ⟨rfl, hb2⟩
        have HB := Lib.hid (hb1.trans (hb2.mono hb1.size))
        clear hb1 hb2
        go_wp2_with fail
        go_ret
        exact Ans.mk rfl HB.out
      · have e : R = -1 := by
          rw [hR]
          unfold budL
          rw [hlen, if_neg (by omega), if_neg h0, Int.toNat_natCast, if_pos hm]
        subst e
        have hmi : ¬ ((ticks L : Nat) : Int).tmod (P : Int) = 0 := by rw [Int.tmod_eq_emod_of_nonneg (Int.natCast_nonneg _), ← Int.natCast_emod]; omega
        have hmb : (((ticks L : Nat) : Int).tmod (P : Int) != 0) = true := bne_iff_ne.2 hmi
        have hme : ¬ ((ticks L : Nat) : Int) % (P : Int) = 0 := by rw [← Int.natCast_emod]; omega
        have hmc : (((ticks L : Nat) : Int) % (P : Int) != 0) = true := bne_iff_ne.2 hme
        generalize ticks L = T at HT ht h0 hmi hmb hme hmc
        have htd : decide ((T : Int) < 1) = false := decide_eq_false (by omega)
        have hT0 : 0 < T := by omega
        clear hR hlen h0 hm
        go_enter Try.func12, Try.ntmps12
        go_wp2_with fail
        refine HT.out.mono ?_
        rintro e w1 ⟨rfl, hb1⟩
        go_wp2_with fail
        go_ret
        exact Ans.mk rfl hb1
end Go.Proofs.Ytcmdhaieggjgcaa
