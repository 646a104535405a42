import Derived.Test.YtfmndmhjjbeokaaGreatDoorLow18
import Derived.Test.YtfmndmhjjbeokaaGreatDoorLow21
import Derived.Test.YtfmndmhjjbeokaaGreatDoorLow23
namespace Go.Proofs.YtfmndmhjjbeokaaGreatDoor
open Go.RowKit Tab
set_option linter.unusedSimpArgs false
set_option linter.unusedVariables false
def rnd (W : List Int) (t : Nat) : Option Int := W[t % W.length]?
theorem rnd_add (W : List Int) (t k : Nat) : rnd W (t + W.length * k) = rnd W t := by
  unfold rnd
  rw [Nat.add_mul_mod_self_left]
theorem rnd_lt {W : List Int} {t : Nat} (h : t < W.length) : rnd W t = W[t]? := by
  unfold rnd
  rw [Nat.mod_eq_of_lt h]
theorem hasL_iff {W : List Int} {q : Int} : hasL q W = true ↔ ∃ i, i < W.length ∧ W[i]? = some q := by
  refine ⟨hasL_get, ?_⟩
  induction W with
  | nil => rintro ⟨i, hi, _⟩; simp at hi
  | cons x W ih =>
    rintro ⟨i, hi, e⟩
    simp only [hasL, Bool.or_eq_true, decide_eq_true_eq]
    cases i with
    | zero => left; simpa using e
    | succ i => right; exact ih ⟨i, by simpa using hi, by simpa using e⟩
theorem hasL_rnd {W : List Int} {q : Int} : hasL q W = true ↔ ∃ t, rnd W t = some q := by
  rw [hasL_iff]
  constructor
  · rintro ⟨i, hi, e⟩
    exact ⟨i, by rw [rnd_lt hi]; exact e⟩
  · rintro ⟨t, e⟩
    unfold rnd at e
    have h := (List.getElem?_eq_some_iff.1 e).1
    exact ⟨_, h, e⟩
def Dst (W : List Int) (q : Int) (t d : Nat) : Prop := 1 ≤ d ∧ rnd W (t + d) = some q ∧ ∀ e, 1 ≤ e → e < d → ¬ rnd W (t + e) = some q
theorem Dst.eq {W : List Int} {q : Int} {t d e : Nat} (h : Dst W q t d) (k : Dst W q t e) : d = e := by
  rcases Nat.lt_trichotomy d e with hl | hl | hl
  · exact absurd h.2.1 (k.2.2 d h.1 hl)
  · exact hl
  · exact absurd k.2.1 (h.2.2 e k.1 hl)
theorem distF_dst {W : List Int} {q : Int} {t : Nat} : ∀ f d, 1 ≤ d → (∀ e, 1 ≤ e → e < d → ¬ rnd W (t + e) = some q) → (∃ e, d ≤ e ∧ e < d + f ∧ rnd W (t + e) = some q) → Dst W q t (distF W q t f d) := by
  intro f
  induction f with
  | zero => rintro d _ _ ⟨e, h1, h2, _⟩; omega
  | succ f ih =>
    intro d hd hno hex
    by_cases hh : rnd W (t + d) = some q
    · rw [distF_yes (by unfold rnd at hh; exact hh)]
      exact ⟨hd, hh, hno⟩
    · rw [distF_no (by unfold rnd at hh; exact hh)]
      refine ih (d + 1) (by omega) (fun e h1 h2 => ?_) ?_
      · by_cases hed : e = d
        · subst hed; exact hh
        · exact hno e h1 (by omega)
      · obtain ⟨e, h1, h2, h3⟩ := hex
        refine ⟨e, ?_, by omega, h3⟩
        rcases Nat.lt_or_ge d e with h4 | h4
        · omega
        · have : e = d := by omega
          subst this
          exact absurd h3 hh
theorem dist_dst {W : List Int} {q : Int} (h : hasL q W = true) (t : Nat) : Dst W q t (dist W q t) := by
  obtain ⟨e, h1, h2, h3⟩ := dist_ex h t
  exact distF_dst W.length 1 (Nat.le_refl _) (fun e h1 h2 => by omega) ⟨e, h1, by omega, h3⟩
theorem dist_le {W : List Int} {q : Int} (h : hasL q W = true) (t : Nat) : dist W q t ≤ W.length := by
  obtain ⟨e, h1, h2, h3⟩ := dist_ex h t
  have k := dist_dst h t
  rcases Nat.lt_or_ge e (dist W q t) with hl | hl
  · exact absurd h3 (k.2.2 e h1 hl)
  · omega
theorem lateW_le {W : List Int} {p q : Int} {M : Nat} : ∀ k, lateW W p q k ≤ M ↔ ∀ t, t < k → W[t]? = some p → dist W q t ≤ M := by
  intro k
  induction k with
  | zero => exact ⟨fun _ t h => by omega, fun _ => Nat.zero_le _⟩
  | succ k ih =>
    unfold lateW
    by_cases hp : W[k]? = some p
    · rw [if_pos hp]
      constructor
      · intro h t ht hpt
        by_cases htk : t = k
        · subst htk; omega
        · exact (ih.1 (by omega)) t (by omega) hpt
      · intro h
        have h1 := ih.2 fun t ht hpt => h t (by omega) hpt
        have h2 := h k (by omega) hp
        omega
    · rw [if_neg hp, ih]
      constructor
      · intro h t ht hpt
        by_cases htk : t = k
        · subst htk; exact absurd hpt hp
        · exact h t (by omega) hpt
      · exact fun h t ht hpt => h t (by omega) hpt
theorem lateW_rnd {W : List Int} {p q : Int} {M : Nat} (hq : hasL q W = true) : lateW W p q W.length ≤ M ↔ ∀ t d, rnd W t = some p → Dst W q t d → d ≤ M := by
  rw [lateW_le]
  constructor
  · intro h t d hp hd
    have hpos : 0 < W.length := by
      unfold rnd at hp
      have := (List.getElem?_eq_some_iff.1 hp).1
      omega
    have hlt : t % W.length < W.length := Nat.mod_lt _ hpos
    have h1 := h (t % W.length) hlt hp
    have e : ∀ x, rnd W (t % W.length + x) = rnd W (t + x) := fun x => by
      have h2 := Nat.div_add_mod t W.length
      have h3 : t + x = (t % W.length + x) + W.length * (t / W.length) := by omega
      rw [h3, rnd_add]
    have hd2 : Dst W q (t % W.length) d := ⟨hd.1, by rw [e]; exact hd.2.1, fun x hx hx2 => by rw [e]; exact hd.2.2 x hx hx2⟩
    rw [(dist_dst hq (t % W.length)).eq hd2] at h1
    exact h1
  · intro h t ht hp
    exact h t _ (by rw [rnd_lt ht]; exact hp) (dist_dst hq t)
theorem nat_eq_of_le {a b : Nat} (h : ∀ M, a ≤ M ↔ b ≤ M) : a = b := Nat.le_antisymm ((h b).2 (Nat.le_refl _)) ((h a).1 (Nat.le_refl _))
structure Circ (V W : List Int) (a : Nat) : Prop where
  pos : 0 < W.length
  eq : ∀ i, rnd V i = rnd W (i + a)
theorem Circ.back {V W : List Int} {a : Nat} (h : Circ V W a) (j : Nat) : ∃ i, ∀ x, rnd W (j + x) = rnd V (i + x) := by
  refine ⟨j + (W.length - 1) * a, fun x => ?_⟩
  rw [h.eq]
  have hp := h.pos
  have e : j + (W.length - 1) * a + x + a = (j + x) + W.length * a := by
    have : W.length * a = (W.length - 1) * a + a := by
      conv => lhs; rw [show W.length = (W.length - 1) + 1 by omega]
      rw [Nat.add_mul, Nat.one_mul]
    omega
  rw [e, rnd_add]
theorem Circ.has {V W : List Int} {a : Nat} (h : Circ V W a) (q : Int) : hasL q V = hasL q W := by
  rw [Bool.eq_iff_iff, hasL_rnd, hasL_rnd]
  constructor
  · rintro ⟨t, e⟩
    exact ⟨t + a, by rw [← h.eq]; exact e⟩
  · rintro ⟨t, e⟩
    obtain ⟨i, hi⟩ := h.back t
    exact ⟨i, by have := hi 0; simp only [Nat.add_zero] at this; rw [← this]; exact e⟩
theorem Circ.late {V W : List Int} {a : Nat} (h : Circ V W a) (p q : Int) : lateL V p q = lateL W p q := by
  unfold lateL
  rw [h.has p, h.has q]
  by_cases hp : hasL p W = false
  · rw [if_pos hp, if_pos hp]
  · rw [if_neg hp, if_neg hp]
    by_cases hq : hasL q W = false
    · rw [if_pos hq, if_pos hq]
    · rw [if_neg hq, if_neg hq]
      have hqW : hasL q W = true := by simpa using hq
      have hqV : hasL q V = true := by rw [h.has]; exact hqW
      congr 1
      refine nat_eq_of_le fun M => ?_
      rw [lateW_rnd hqV, lateW_rnd hqW]
      constructor
      · intro H t d hpt hd
        obtain ⟨i, hi⟩ := h.back t
        have h0 := hi 0
        simp only [Nat.add_zero] at h0
        exact H i d (by rw [← h0]; exact hpt) ⟨hd.1, by rw [← hi]; exact hd.2.1, fun x h1 h2 => by rw [← hi]; exact hd.2.2 x h1 h2⟩
      · intro H t d hpt hd
        have e : ∀ x, rnd V (t + x) = rnd W (t + a + x) := fun x => by rw [h.eq, Nat.add_right_comm]
        have e0 := e 0
        simp only [Nat.add_zero] at e0
        exact H (t + a) d (by rw [← e0]; exact hpt) ⟨hd.1, by rw [← e]; exact hd.2.1, fun x h1 h2 => by rw [← e]; exact hd.2.2 x h1 h2⟩
def gapL (W : List Int) (p : Int) : Int := if lateL W p p < 1 then -1 else lateL W p p - 1
theorem lateL_le (W : List Int) (p q : Int) : lateL W p q ≤ W.length := by
  unfold lateL
  split
  · omega
  · split
    · omega
    · rename_i h
      have hq : hasL q W = true := by simpa using h
      have := (lateW_le (W := W) (p := p) (q := q) (M := W.length) W.length).2 fun t _ _ => dist_le hq t
      omega
theorem cnt_has {W : List Int} {p : Int} : 0 < cntF p W ↔ hasL p W = true := by
  induction W with
  | nil => simp [cntF, hasL]
  | cons x W ih =>
    simp only [cntF, hasL, Bool.or_eq_true, decide_eq_true_eq, ← ih]
    by_cases hx : x = p
    · simp [hx]; omega
    · simp [hx]
theorem cnt_rep (p x : Int) (n : Nat) : cntF p (List.replicate n x) = if x = p then n else 0 := by
  induction n with
  | zero => simp [cntF]
  | succ n ih =>
    simp only [List.replicate_succ, cntF, ih]
    by_cases h : x = p
    · simp [h]; omega
    · simp [h]
theorem cnt_words (p : Int) (L : List Rn) : cntF p (wordsL L) = tkOf p L := by
  induction L with
  | nil => rfl
  | cons r s ih => simp only [wordsL, cntF_append, cnt_rep, tkOf, ih]
end Go.Proofs.YtfmndmhjjbeokaaGreatDoor
namespace Go.Proofs.YtfmndmhjjbeokaaGreatDoor
open Go.RowKit Tab
set_option linter.unusedSimpArgs false
set_option linter.unusedVariables false
def chLate (W : List Int) (x : ChV) : Bool := decide (0 < x.late) && (decide (lateL W x.from_ x.to_ < 0) || decide (x.late < lateL W x.from_ x.to_))
def ptShort (W : List Int) (i : Nat) (x : PtV) : Bool := decide (0 < x.bud) && decide (budL W (i : Int) x.per < x.bud)
def shortF (W : List Int) : Nat → List PtV → Bool
  | _, [] => false
  | i, x :: l => ptShort W i x || shortF W (i + 1) l
def holdsF (W : List Int) (P : List PtV) (C : List ChV) : Int := if C.any (chLate W) = true then 19 else if shortF W 0 P = true then 20 else 0
theorem holdsF_late {W : List Int} {P : List PtV} {C : List ChV} (h : C.any (chLate W) = true) : holdsF W P C = 19 := if_pos h
theorem holdsF_short {W : List Int} {P : List PtV} {C : List ChV} (h : C.any (chLate W) = false) (h2 : shortF W 0 P = true) : holdsF W P C = 20 := by unfold holdsF; rw [if_neg (by rw [h]; decide), if_pos h2]
theorem holdsF_ok {W : List Int} {P : List PtV} {C : List ChV} (h : C.any (chLate W) = false) (h2 : shortF W 0 P = false) : holdsF W P C = 0 := by unfold holdsF; rw [if_neg (by rw [h]; decide), if_neg (by rw [h2]; decide)]
theorem any_more {α : Type} (f : α → Bool) {l : List α} {i : Nat} {x : α} (h : l[i]? = some x) : (l.take (i + 1)).any f = ((l.take i).any f || f x) := by
  obtain ⟨hi, e⟩ := List.getElem?_eq_some_iff.1 h
  rw [List.take_succ_eq_append_getElem hi, List.any_append, e]
  simp
theorem any_mem {α : Type} (f : α → Bool) {l : List α} {i : Nat} {x : α} (h : l[i]? = some x) (hf : f x = true) : l.any f = true := List.any_eq_true.2 ⟨x, List.mem_of_getElem? h, hf⟩
theorem shortF_append (W : List Int) (a b : List PtV) : ∀ i, shortF W i (a ++ b) = (shortF W i a || shortF W (i + a.length) b) := by
  induction a with
  | nil => intro i; simp [shortF]
  | cons x a ih =>
    intro i
    simp only [List.cons_append, shortF, ih, List.length_cons, Bool.or_assoc]
    rw [show i + 1 + a.length = i + (a.length + 1) by omega]
theorem short_more {W : List Int} {l : List PtV} {i : Nat} {x : PtV} (h : l[i]? = some x) : shortF W 0 (l.take (i + 1)) = (shortF W 0 (l.take i) || ptShort W i x) := by
  obtain ⟨hi, e⟩ := List.getElem?_eq_some_iff.1 h
  rw [List.take_succ_eq_append_getElem hi, shortF_append, e, Nat.zero_add, List.length_take, Nat.min_eq_left (by omega)]
  simp [shortF]
theorem short_mem {W : List Int} {l : List PtV} {i : Nat} {x : PtV} (h : l[i]? = some x) (hs : ptShort W i x = true) : shortF W 0 l = true := by
  have e := short_more (W := W) h
  rw [hs, Bool.or_true] at e
  have k := shortF_append W (l.take (i + 1)) (l.drop (i + 1)) 0
  rw [List.take_append_drop, e, Bool.true_or] at k
  exact k
end Go.Proofs.YtfmndmhjjbeokaaGreatDoor
namespace Go.Proofs.YtfmndmhjjbeokaaGreatDoor
open Go.RowKit Tab
set_option linter.unusedSimpArgs false
set_option linter.unusedVariables false
theorem elPc : Elt 57 62 2 16 (.agg #[.int .i64 0, .int .i64 0]) := ⟨Tryz.underlying57, by kernel_rfl, rfl, by omega⟩
theorem elPt : Elt 27 60 11 104 (.agg #[.string ⟨#[]⟩, .int .i64 0, .int .i64 0, .bool false, .bool false, .slice none 0 0, .int .i64 0, .int .i64 0, .int .i64 0, .int .i64 0, .int .i64 0]) := ⟨Tryz.underlying27, by kernel_rfl, rfl, by omega⟩
theorem elCh : Elt 28 66 6 48 (.agg #[.int .i64 0, .int .i64 0, .bool false, .int .i64 0, .int .u32 0, .int .i64 0]) := ⟨Tryz.underlying28, by kernel_rfl, rfl, by omega⟩
theorem elNN : Elt 29 34 1 24 (.slice none 0 0) := ⟨Tryz.underlying29, by kernel_rfl, rfl, by omega⟩
structure Rnd (B b : Nat) (A : Option Addr) (m c : Nat) (f : Nat → Int) (wr w : World) : Prop where
  on : Only (fun k => k = b) wr w
  tp : ∃ at_, TapeW w B b A m c f at_
section
variable {B b : Nat} {A : Option Addr} {m c : Nat} {f : Nat → Int} {wr w w' : World}
theorem Rnd.next {at_ : Nat} (h : Rnd B b A m c f wr w) (T : TapeW w' B b A m c f at_) (hg : w.grownBy w' (some b)) : Rnd B b A m c f wr w' := ⟨h.on.trans (Only.gb hg rfl), ⟨at_, T⟩⟩
theorem Rnd.bel (h : Rnd B b A m c f wr w) (hb : b < wr.heap.size) (hw : Below w.heap.size w w') : Rnd B b A m c f wr w' := by
  obtain ⟨at_, T⟩ := h.tp
  exact ⟨h.on.trans (Only.bel hw), ⟨at_, T.below hw (Nat.lt_of_lt_of_le hb h.on.size)⟩⟩
end
def pvf (x : PtV) (j : Nat) : Value := (pcl x)[j]?.getD (.bool false)
def prc (q : Int × Int) : List Value := [.int .i64 q.1, .int .i64 q.2]
theorem prc_len (q : Int × Int) : (prc q).length = 2 := rfl
theorem prc_one (l : List (Int × Int)) : ∀ u ∈ l.flatMap prc, u.oneCell' = true := by
  intro u hu
  obtain ⟨x, _, hx⟩ := List.mem_flatMap.1 hu
  simp [prc] at hx
  rcases hx with rfl | rfl <;> rfl
structure PrtS (gx : Nat) (x : PtV) (L : List (Int × Int)) (w : World) : Prop where
  ve : Vec w gx 11 (pvf x)
  pr : OwnV 62 2 w (gx + 1) x.pa x.pn x.pc (L.flatMap prc)
section
variable {gx : Nat} {x : PtV} {L : List (Int × Int)} {w w' : World}
theorem PrtS.keep (h : PrtS gx x L w) (hs : w.heap.size ≤ w'.heap.size) (hk : ∀ k, gx ≤ k → k < w.heap.size → w'.heap[k]? = w.heap[k]?) : PrtS gx x L w' :=
  ⟨h.ve.keep (hk gx (Nat.le_refl _) h.ve.lt) hs, h.pr.keep fun k h1 h2 => hk k (by omega) h2⟩
theorem PrtS.gb {b : Nat} (h : PrtS gx x L w) (hg : w.grownBy w' (some b)) (hb : b < gx) : PrtS gx x L w' := h.keep hg.size fun k h1 h2 => hg.block k h2 fun e => by injection e with e; omega
theorem PrtS.bel (h : PrtS gx x L w) (hb : Below w.heap.size w w') : PrtS gx x L w' := h.keep hb.size fun k _ h2 => hb.block k h2
theorem PrtS.at_ (h : PrtS gx x L w) (hL : ∀ q ∈ L, PcOk q.1 q.2) : ProcsAt w w.heap.size x.pa x.pn := fun i hi => by
  have hl : L.length = x.pn := by
    have := h.pr.len
    rw [flat_len prc_len] at this
    omega
  have hr : RdB prc w w.heap.size x.pa x.pn L := ⟨hl, h.pr.rd⟩
  obtain ⟨ad, q, hA, hb, hq, c0, ck⟩ := hr.at_ prc_len (by omega) hi
  exact ⟨ad, q.1, q.2, hA, hb, c0 _ rfl, ck 1 _ (by omega) rfl, hL q (List.mem_of_getElem? hq)⟩
end
def PcV (b gx : Nat) (x : PtV) (L : List (Int × Int)) (j : Nat) (v : Value) (w : World) : Prop :=
  match j with
  | 0 => v = .pointer (some ⟨gx, 5, none⟩)
  | 1 => v = .slice x.pa x.pn x.pc
  | 2 => v = .pointer (some ⟨b, 0, none⟩)
  | 3 => ∃ k : Nat, k < 6 ∧ v = .int .i64 (k : Int)
  | 4 => ∃ k : Int, v = .int .i64 k ∧ 0 ≤ k ∧ k < 512
  | 5 => v = .pointer (some ⟨b, 0, none⟩)
  | 6 => ∃ k : Int, v = .int .i64 k ∧ 0 ≤ k ∧ k ≤ 255
  | 7 => ∃ p q : Int, v = .agg #[.int .i64 p, .int .i64 q] ∧ PcOk p q
  | 8 => ∃ (g : Nat) (p q : Int), v = .slice (some ⟨g, 0, none⟩) 1 1 ∧ gx < g ∧ g < w.heap.size ∧ obk x.pa ≠ some g ∧ w.cell? ⟨g, 0, none⟩ = some (.int .i64 p) ∧ w.cell? ⟨g, 1, none⟩ = some (.int .i64 q) ∧ PcOk p q
  | 9 => ∃ (A' : Option Addr) (c' : Nat) (q : Int × Int), v = .slice A' (x.pn + 1 : Nat) c' ∧ OwnV 62 2 w (gx + 1) A' (x.pn + 1) c' ((L ++ [q]).flatMap prc) ∧ PcOk q.1 q.2
  | 10 => v = .pointer (some ⟨gx, 5, none⟩)
  | 11 => ∃ (A' : Option Addr) (c' : Nat) (q : Int × Int), PrtS gx { x with pa := A', pn := x.pn + 1, pc := c' } (L ++ [q]) w ∧ PcOk q.1 q.2
  | _ => True
structure PcW (B b : Nat) (A : Option Addr) (m c : Nat) (f : Nat → Int) (wr : World) (gx : Nat) (x : PtV) (L : List (Int × Int)) (live : Nat → Bool) (w : World) : Prop where
  rn : Rnd B b A m c f wr w
  lt : gx < w.heap.size
  ve : live 11 = false → Vec w gx 11 (pvf x)
  pr : live 9 = false → OwnV 62 2 w (gx + 1) x.pa x.pn x.pc (L.flatMap prc)
section
variable {b gx : Nat} {x : PtV} {L : List (Int × Int)} {w w' : World}
theorem PcV.keep (hs : w.heap.size ≤ w'.heap.size) (j : Nat) (v : Value) (hk : ∀ k, (j = 11 ∧ gx ≤ k) ∨ (j = 9 ∧ gx < k) ∨ (j = 8 ∧ gx < k ∧ obk x.pa ≠ some k) → k < w.heap.size → w'.heap[k]? = w.heap[k]?) (h : PcV b gx x L j v w) : PcV b gx x L j v w' := by
  unfold PcV at h ⊢
  split at h
  case h_9 =>
    obtain ⟨g, p, q, h1, h2, h3, h4, h5, h6, h7⟩ := h
    have hb := hk g (.inr (.inr ⟨rfl, h2, h4⟩)) h3
    exact ⟨g, p, q, h1, h2, by omega, h4, (World.cell?_of_block hb).trans h5, (World.cell?_of_block hb).trans h6, h7⟩
  case h_10 =>
    obtain ⟨A', c', q, h1, h2, h7⟩ := h
    exact ⟨A', c', q, h1, h2.keep fun k h3 h4 => hk k (.inr (.inl ⟨rfl, by omega⟩)) h4, h7⟩
  case h_12 =>
    obtain ⟨A', c', q, h1, h7⟩ := h
    exact ⟨A', c', q, h1.keep hs fun k h3 h4 => hk k (.inl ⟨rfl, h3⟩) h4, h7⟩
  all_goals exact h
theorem PcV.gb (hb : b < gx) (hg : w.grownBy w' (some b)) (j : Nat) (v : Value) (h : PcV b gx x L j v w) : PcV b gx x L j v w' :=
  h.keep hg.size j v fun k hk hl => hg.block k hl fun e => by
    injection e with e
    rcases hk with hk | hk | hk <;> omega
theorem PcV.bel (hb : Below w.heap.size w w') (j : Nat) (v : Value) (h : PcV b gx x L j v w) : PcV b gx x L j v w' := h.keep hb.size j v fun k _ hl => hb.block k hl
variable {B m c : Nat} {A : Option Addr} {f : Nat → Int} {wr : World} {live : Nat → Bool}
theorem PcW.upd (h : PcW B b A m c f wr gx x L live w) (i : Nat) : PcW B b A m c f wr gx x L (Rgs.upd live i) w := ⟨h.rn, h.lt, fun e => h.ve (Rgs.upd_off e), fun e => h.pr (Rgs.upd_off e)⟩
theorem PcW.next (h : PcW B b A m c f wr gx x L live w) (hb : b < gx) {at_ : Nat} (T : TapeW w' B b A m c f at_) (hg : w.grownBy w' (some b)) : PcW B b A m c f wr gx x L live w' :=
  ⟨h.rn.next T hg, Nat.lt_of_lt_of_le h.lt hg.size, fun e => (h.ve e).keep (hg.block gx h.lt fun e => by injection e with e; omega) hg.size, fun e => (h.pr e).gb hg (by omega)⟩
theorem PcW.bel (h : PcW B b A m c f wr gx x L live w) (hb : b < wr.heap.size) (hw : Below w.heap.size w w') : PcW B b A m c f wr gx x L live w' :=
  ⟨h.rn.bel hb hw, Nat.lt_of_lt_of_le h.lt hw.size, fun e => (h.ve e).on hw, fun e => (h.pr e).below rfl hw⟩
end
def HealP (x : PtV) : Prop := (0 ≤ x.h0 ∧ x.h0 ≤ 2) ∧ (0 ≤ x.h1 ∧ x.h1 ≤ 2) ∧ (0 ≤ x.h2 ∧ x.h2 ≤ 2) ∧ (0 ≤ x.h3 ∧ x.h3 ≤ 2) ∧ (0 ≤ x.h4 ∧ x.h4 ≤ 2)
def nmL (i : Nat) : ByteArray := ({ data := #[112] } : ByteArray) ++ Utf8.encode (97 + i)
def PtsN (P : List PtV) : Prop := ∀ i x, P[i]? = some x → x.name = nmL i ∧ x.bud = 0 ∧ x.per = 0 ∧ HealP x ∧ (1 ≤ x.pn ∧ x.pn ≤ 2) ∧ x.pn ≤ x.pc
theorem PtsN.more {P : List PtV} (h : PtsN P) {x : PtV} {n : Nat} (hn : P.length = n) (hx : x.name = nmL n ∧ x.bud = 0 ∧ x.per = 0 ∧ HealP x ∧ (1 ≤ x.pn ∧ x.pn ≤ 2) ∧ x.pn ≤ x.pc) : PtsN (P ++ [x]) := fun i y hy => by
  rcases Nat.lt_or_ge i P.length with h1 | h1
  · rw [List.getElem?_append_left h1] at hy
    exact h i y hy
  · rw [List.getElem?_append_right h1] at hy
    have h2 := (List.getElem?_eq_some_iff.1 hy).1
    simp at h2
    obtain rfl : i = n := by omega
    rw [show i - P.length = 0 by omega] at hy
    simp at hy
    subst hy
    exact hx
theorem PtsN.bud {P : List PtV} (h : PtsN P) : ∀ x ∈ P, x.bud ≤ 0 := fun x hx => by
  obtain ⟨i, hi⟩ := List.getElem?_of_mem hx
  rw [(h i x hi).2.1]
  exact Int.le_refl _
def zch : ChV := ⟨0, 0, false, 0, 0, 0⟩
def ccf (x : ChV) (j : Nat) : Value := (cc x)[j]?.getD (.bool false)
def ChOk (n : Nat) (x : ChV) : Prop := 0 ≤ x.from_ ∧ x.from_ < n ∧ 0 ≤ x.to_ ∧ x.to_ < n
def ChNew0 (n : Nat) (x : ChV) : Prop := ChOk n x ∧ x.late = 0 ∧ x.from_ ≠ x.to_ ∧ x.cap = 0
def ChNew (n : Nat) (x : ChV) : Prop := ChOk n x ∧ x.late = 0 ∧ x.from_ ≠ x.to_ ∧ if x.queue = true then 1 ≤ x.cap ∧ x.cap ≤ 8 else x.cap = 0
def ChqV (b base n fr : Nat) (j : Nat) (v : Value) (w : World) : Prop :=
  match j with
  | 0 => v = .int .i64 (fr : Int)
  | 1 => v = .int .i64 (fr : Int)
  | 2 => v = .int .i64 ((fr : Int) + 1)
  | 3 => v = .pointer (some ⟨b, 0, none⟩)
  | 4 => v = .int .i64 (n : Int)
  | 5 => v = .int .i64 ((n : Int) - 1)
  | 6 => ∃ k : Nat, k < n - 1 ∧ v = .int .i64 (k : Int)
  | 7 => ∃ k : Nat, k < n - 1 ∧ v = .int .i64 ((fr : Int) + 1 + (k : Int))
  | 8 => v = .int .i64 (n : Int)
  | 9 => ∃ k : Nat, (k < n ∧ k ≠ fr) ∧ v = .int .i64 (k : Int)
  | 10 => v = .pointer (some ⟨b, 0, none⟩)
  | 11 => ∃ k : Int, v = .int .i64 k
  | 12 => ∃ q : Bool, v = .bool q
  | 13 => ∃ g : Nat, v = .slice (some ⟨g, 0, none⟩) 3 3 ∧ base ≤ g ∧ g < w.heap.size ∧ ∀ k, k < 3 → ∃ z, w.cell? ⟨g, k, none⟩ = some (.int .u32 z)
  | 14 => v = .pointer (some ⟨b, 0, none⟩)
  | 15 => ∃ k : Nat, k < 3 ∧ v = .int .i64 (k : Int)
  | 16 => ∃ (g k : Nat) (z : Int), v = .pointer (some ⟨g, k, none⟩) ∧ base ≤ g ∧ g < w.heap.size ∧ w.cell? ⟨g, k, none⟩ = some (.int .u32 z) ∧ ∃ z, w.cell? ⟨g, 0, none⟩ = some (.int .u32 z)
  | 17 => ∃ z : Int, v = .int .u32 z
  | 18 => ∃ x : ChV, ChNew0 n x ∧ v = cv x
  | _ => True
structure ChqW (B b : Nat) (A : Option Addr) (m c : Nat) (f : Nat → Int) (wr : World) (n : Nat) (live : Nat → Bool) (a : Act) (w : World) : Prop where
  rn : Rnd B b A m c f wr w
  un : live 19 = true → live 20 = false → ∃ g, a.eval (.tmp 11) = .pointer (some ⟨g, 0, none⟩) ∧ wr.heap.size ≤ g ∧ Vec w g 6 (ccf zch)
  at_ : live 20 = true → ∃ g x, a.eval (.tmp 11) = .pointer (some ⟨g, 0, none⟩) ∧ wr.heap.size ≤ g ∧ ChNew0 n x ∧ Vec w g 6 (ccf x)
section
variable {b base n fr : Nat} {w w' : World}
theorem ChqV.keep (hs : w.heap.size ≤ w'.heap.size) (j : Nat) (v : Value) (hk : ∀ k, base ≤ k → (∃ z, w.cell? ⟨k, 0, none⟩ = some (.int .u32 z)) → k < w.heap.size → w'.heap[k]? = w.heap[k]?) (h : ChqV b base n fr j v w) : ChqV b base n fr j v w' := by
  unfold ChqV at h ⊢
  split at h
  case h_14 =>
    obtain ⟨g, h1, h2, h3, h4⟩ := h
    exact ⟨g, h1, h2, by omega, fun k hk3 => by
      obtain ⟨z, hz⟩ := h4 k hk3
      exact ⟨z, (World.cell?_of_block (hk g h2 (h4 0 (by omega)) h3)).trans hz⟩⟩
  case h_17 =>
    obtain ⟨g, k, z, h1, h2, h3, h4, z0, h5⟩ := h
    exact ⟨g, k, z, h1, h2, by omega, (World.cell?_of_block (hk g h2 ⟨z0, h5⟩ h3)).trans h4, z0, (World.cell?_of_block (hk g h2 ⟨z0, h5⟩ h3)).trans h5⟩
  all_goals exact h
theorem ChqV.gb (hb : b < base) (hg : w.grownBy w' (some b)) (j : Nat) (v : Value) (h : ChqV b base n fr j v w) : ChqV b base n fr j v w' :=
  h.keep hg.size j v fun k hk _ hl => hg.block k hl fun e => by injection e with e; omega
theorem ChqV.bel (hb : Below w.heap.size w w') (j : Nat) (v : Value) (h : ChqV b base n fr j v w) : ChqV b base n fr j v w' := h.keep hb.size j v fun k _ _ hl => hb.block k hl
variable {B m c : Nat} {A : Option Addr} {f : Nat → Int} {wr : World} {live : Nat → Bool} {a : Act}
theorem ChqW.upd (h : ChqW B b A m c f wr n live a w) (i : Nat) (d : Tmp) (v : Value) (hi : i ≠ 19 ∧ i ≠ 20) (hd : d ≠ 11) : ChqW B b A m c f wr n (Rgs.upd live i) (a.put (some d) v) w := by
  have e1 : Rgs.upd live i 19 = live 19 := by unfold Rgs.upd; simp [Ne.symm hi.1]
  have e2 : Rgs.upd live i 20 = live 20 := by unfold Rgs.upd; simp [Ne.symm hi.2]
  refine ⟨h.rn, fun h1 h2 => ?_, fun h1 => ?_⟩
  · rw [Reg.eval_other _ _ _ _ hd]
    exact h.un (e1 ▸ h1) (e2 ▸ h2)
  · rw [Reg.eval_other _ _ _ _ hd]
    exact h.at_ (e2 ▸ h1)
theorem ChqW.next (h : ChqW B b A m c f wr n live a w) (hb : b < wr.heap.size) {at_ : Nat} (T : TapeW w' B b A m c f at_) (hg : w.grownBy w' (some b)) : ChqW B b A m c f wr n live a w' := by
  refine ⟨h.rn.next T hg, fun h1 h2 => ?_, fun h1 => ?_⟩
  · obtain ⟨g, e, hle, hv⟩ := h.un h1 h2
    exact ⟨g, e, hle, hv.keep (hg.block g hv.lt fun e => by injection e with e; omega) hg.size⟩
  · obtain ⟨g, x, e, hle, ho, hv⟩ := h.at_ h1
    exact ⟨g, x, e, hle, ho, hv.keep (hg.block g hv.lt fun e => by injection e with e; omega) hg.size⟩
theorem ChqW.bel (h : ChqW B b A m c f wr n live a w) (hb : b < wr.heap.size) (hw : Below w.heap.size w w') : ChqW B b A m c f wr n live a w' := by
  refine ⟨h.rn.bel hb hw, fun h1 h2 => ?_, fun h1 => ?_⟩
  · obtain ⟨g, e, hle, hv⟩ := h.un h1 h2
    exact ⟨g, e, hle, hv.on hw⟩
  · obtain ⟨g, x, e, hle, ho, hv⟩ := h.at_ h1
    exact ⟨g, x, e, hle, ho, hv.on hw⟩
end
def TbQ (Q : Nat) (x : TbV) : Prop := ∀ y ∈ x.x :: x.k.flat, 0 ≤ y.p ∧ y.p < (Q : Int)
structure TbGood (BB : Nat) (A1 A2 A3 : Option Addr) (Q : Nat) (x : TbV) (w : World) : Prop where
  q : TbQ Q x
  at_ : TbAt w w.heap.size x ∧ Frame x
  ap : ∀ k, obk x.A = some k → BB ≤ k ∧ k < w.heap.size ∧ obk A1 ≠ some k ∧ obk A2 ≠ some k ∧ obk A3 ≠ some k
theorem TbGood.only {BB Q : Nat} {A1 A2 A3 : Option Addr} {x : TbV} {w w' : World} {p : Nat → Prop} (h : TbGood BB A1 A2 A3 Q x w) (ho : Only p w w') (hp : ∀ k, p k → k < BB ∨ obk A3 = some k) : TbGood BB A1 A2 A3 Q x w' :=
  ⟨h.q, ⟨h.at_.1.only ho fun k hk e => by
      have h1 := h.ap k hk
      rcases hp k e with e | e
      · omega
      · exact h1.2.2.2.2 e, h.at_.2⟩, fun k hk => ⟨(h.ap k hk).1, Nat.lt_of_lt_of_le (h.ap k hk).2.1 ho.size, (h.ap k hk).2.2⟩⟩
section
variable (B b : Nat) (A : Option Addr) (m c : Nat) (f : Nat → Int) (w0 : World) (gr gc BB : Nat) (A1 A2 A3 : Option Addr) (n1 n2 n3 c1 c2 c3 : Nat) (P : List PtV) (C : List ChV) (T : List TbV)
def TbqV (j : Nat) (v : Value) (w : World) : Prop :=
  match j with
  | 0 => v = .pointer (some ⟨gc, 2, none⟩)
  | 1 => v = .slice A3 n3 c3
  | 2 => v = .pointer (some ⟨b, 0, none⟩)
  | 3 => v = .int .i64 (n1 : Int)
  | 4 => ∃ x : TbV, v = .slice x.A x.n x.c ∧ TbGood BB A1 A2 A3 n1 x w
  | 5 => ∃ (g : Nat) (x : TbV), v = .slice (some ⟨g, 0, none⟩) 1 1 ∧ BB ≤ g ∧ g < w.heap.size ∧ obk A3 ≠ some g ∧ w.cell? ⟨g, 0, none⟩ = some (.slice x.A x.n x.c) ∧ TbGood BB A1 A2 A3 n1 x w
  | 6 => w.cell? ⟨gc, 2, none⟩ = some (.slice A3 n3 c3) → ∃ (A' : Option Addr) (c' : Nat) (w1 : World) (x : TbV), v = .slice A' (n3 + 1 : Nat) c' ∧ CfgS B b A m c f w0 gr gc BB A1 A2 A3 n1 n2 n3 c1 c2 c3 P C T w1 ∧ TbGood BB A1 A2 A3 n1 x w1 ∧ Grew A3 A' w1 w ∧ OwnV 34 1 w BB A' (n3 + 1) c' ((T ++ [x]).flatMap tcl)
  | 7 => v = .pointer (some ⟨gc, 2, none⟩)
  | 8 => ∃ (A' : Option Addr) (c' : Nat) (x : TbV), CfgS B b A m c f w0 gr gc BB A1 A2 A' n1 n2 (n3 + 1) c1 c2 c' P C (T ++ [x]) w ∧ TbQ n1 x
  | _ => True
structure TbqW (live : Nat → Bool) (w : World) : Prop where
  cf : live 6 = false → CfgS B b A m c f w0 gr gc BB A1 A2 A3 n1 n2 n3 c1 c2 c3 P C T w
  ce : live 8 = false → w.cell? ⟨gc, 2, none⟩ = some (.slice A3 n3 c3) ∧ w.frozen? ⟨gc, 2, none⟩ = false ∧ BB ≤ w.heap.size
end
section
variable {B b : Nat} {A : Option Addr} {m c : Nat} {f : Nat → Int} {w0 : World} {gr gc BB : Nat} {A1 A2 A3 : Option Addr} {n1 n2 n3 c1 c2 c3 : Nat} {P : List PtV} {C : List ChV} {T : List TbV} {w w' : World} {live : Nat → Bool}
theorem TbqW.upd (h : TbqW B b A m c f w0 gr gc BB A1 A2 A3 n1 n2 n3 c1 c2 c3 P C T live w) (i : Nat) : TbqW B b A m c f w0 gr gc BB A1 A2 A3 n1 n2 n3 c1 c2 c3 P C T (Rgs.upd live i) w := ⟨fun e => h.cf (Rgs.upd_off e), fun e => h.ce (Rgs.upd_off e)⟩
theorem TbqV.keep {p : Nat → Prop} (j : Nat) (v : Value) (ho : Only p w w') (hp : ∀ k, p k → k < BB ∨ obk A3 = some k) (h6 : j ≠ 6) (h8 : j ≠ 8) (h : TbqV B b A m c f w0 gr gc BB A1 A2 A3 n1 n2 n3 c1 c2 c3 P C T j v w) : TbqV B b A m c f w0 gr gc BB A1 A2 A3 n1 n2 n3 c1 c2 c3 P C T j v w' := by
  unfold TbqV at h ⊢
  split at h
  case h_5 =>
    obtain ⟨x, h1, h2⟩ := h
    exact ⟨x, h1, h2.only ho hp⟩
  case h_6 =>
    obtain ⟨g, x, h1, h2, h3, h4, h5, h6⟩ := h
    refine ⟨g, x, h1, h2, Nat.lt_of_lt_of_le h3 ho.size, h4, (World.cell?_of_block (ho.block g h3 fun e => ?_)).trans h5, h6.only ho hp⟩
    rcases hp g e with e | e
    · omega
    · exact h4 e
  case h_7 => exact absurd rfl h6
  case h_9 => exact absurd rfl h8
  all_goals exact h
theorem Only.grew {A0 A' : Option Addr} (h : Grew A0 A' w w') : Only (fun k => obk A0 = some k) w w' := ⟨h.gb.os, h.gb.tape, h.gb.output, h.gb.size, fun k hk hn => h.gb.block k hk fun e => hn e.symm⟩
end
def CfgP (B b : Nat) (A : Option Addr) (m c : Nat) (f : Nat → Int) (w : World) (e : Ending) (w' : World) : Prop :=
  ∃ (A1 A2 A3 : Option Addr) (n1 n2 n3 c1 c2 c3 : Nat) (P : List PtV) (C : List ChV) (T : List TbV) (at' : Nat), e = .returned (.agg #[.slice A1 n1 c1, .slice A2 n2 c2, .slice A3 n3 c3]) ∧ CfW w' w'.heap.size A1 A2 n1 n2 P C ∧ 1 ≤ n1 ∧ n1 ≤ 4 ∧ n2 ≤ 3 ∧ n1 ≤ c1 ∧ n2 ≤ c2 ∧
    (∀ x ∈ C, ChOk n1 x) ∧ RdB tcl w' w'.heap.size A3 n3 T ∧ (∀ t ∈ T, TbAt w' w'.heap.size t ∧ Frame t) ∧ 1 ≤ n3 ∧ n3 ≤ 2 ∧ n3 ≤ c3 ∧ TapeW w' B b A m c f at' ∧ w.grownBy w' (some b)
def CfgPx (B b : Nat) (A : Option Addr) (m c : Nat) (f : Nat → Int) (w : World) (e : Ending) (w' : World) : Prop :=
  ∃ (A1 A2 A3 : Option Addr) (n1 n2 n3 c1 c2 c3 : Nat) (P : List PtV) (C : List ChV) (T : List TbV) (at' : Nat), e = .returned (.agg #[.slice A1 n1 c1, .slice A2 n2 c2, .slice A3 n3 c3]) ∧ CfW w' w'.heap.size A1 A2 n1 n2 P C ∧ 1 ≤ n1 ∧ n1 ≤ 4 ∧ n2 ≤ 3 ∧ n1 ≤ c1 ∧ n2 ≤ c2 ∧
    (∀ x ∈ C, ChOk n1 x) ∧ RdB tcl w' w'.heap.size A3 n3 T ∧ (∀ t ∈ T, TbAt w' w'.heap.size t ∧ Frame t) ∧ 1 ≤ n3 ∧ n3 ≤ 2 ∧ n3 ≤ c3 ∧ TapeW w' B b A m c f at' ∧ w.grownBy w' (some b) ∧
    (∀ x ∈ P, In64 x.per) ∧ (∀ x ∈ C, ∀ t ∈ T, chLate (wordsL (rowF t)) x = false) ∧ (∀ k x, P[k]? = some x → ∀ t ∈ T, ptShort (wordsL (rowF t)) k x = false) ∧
    OwnB 60 11 pcl w' w.heap.size A1 n1 c1 P ∧ OwnB 66 6 cc w' w.heap.size A2 n2 c2 C ∧ (∀ k, obk A1 = some k → obk A2 ≠ some k)
def CfgPz (B b : Nat) (A : Option Addr) (m c : Nat) (f : Nat → Int) (w : World) (e : Ending) (w' : World) : Prop :=
  ∃ (A1 A2 A3 : Option Addr) (n1 n2 n3 c1 c2 c3 : Nat) (P : List PtV) (C : List ChV) (T : List TbV) (at' : Nat), e = .returned (.agg #[.slice A1 n1 c1, .slice A2 n2 c2, .slice A3 n3 c3]) ∧ CfW w' w'.heap.size A1 A2 n1 n2 P C ∧ 1 ≤ n1 ∧ n1 ≤ 4 ∧ n2 ≤ 3 ∧ n1 ≤ c1 ∧ n2 ≤ c2 ∧
    (∀ x ∈ C, ChOk n1 x) ∧ RdB tcl w' w'.heap.size A3 n3 T ∧ (∀ t ∈ T, TbAt w' w'.heap.size t ∧ Frame t) ∧ 1 ≤ n3 ∧ n3 ≤ 2 ∧ n3 ≤ c3 ∧ TapeW w' B b A m c f at' ∧ w.grownBy w' (some b) ∧
    (∀ x ∈ P, In64 x.per) ∧ (∀ x ∈ C, ∀ t ∈ T, chLate (wordsL (rowF t)) x = false) ∧ (∀ k x, P[k]? = some x → ∀ t ∈ T, ptShort (wordsL (rowF t)) k x = false) ∧
    OwnB 60 11 pcl w' w.heap.size A1 n1 c1 P ∧ OwnB 66 6 cc w' w.heap.size A2 n2 c2 C ∧ (∀ k, obk A1 = some k → obk A2 ≠ some k) ∧
    (∀ k, obk A3 = some k → w.heap.size ≤ k) ∧ (∀ t ∈ T, ∀ k, obk t.A = some k → w.heap.size ≤ k)
def CfgZ (Rt : Nat → List PtV → List ChV → List TbV → World → Prop) (B b : Nat) (A : Option Addr) (m c : Nat) (f : Nat → Int) (w : World) (e : Ending) (w' : World) : Prop :=
  ∃ (A1 A2 A3 : Option Addr) (n1 n2 n3 c1 c2 c3 : Nat) (P : List PtV) (C : List ChV) (T : List TbV) (at' : Nat), e = .returned (.agg #[.slice A1 n1 c1, .slice A2 n2 c2, .slice A3 n3 c3]) ∧ CfW w' w'.heap.size A1 A2 n1 n2 P C ∧ 1 ≤ n1 ∧ n1 ≤ 4 ∧ n2 ≤ 3 ∧ n1 ≤ c1 ∧ n2 ≤ c2 ∧
    (∀ x ∈ C, ChOk n1 x) ∧ RdB tcl w' w'.heap.size A3 n3 T ∧ (∀ t ∈ T, TbAt w' w'.heap.size t ∧ Frame t) ∧ 1 ≤ n3 ∧ n3 ≤ 2 ∧ n3 ≤ c3 ∧ TapeW w' B b A m c f at' ∧ w.grownBy w' (some b) ∧
    (∀ x ∈ P, In64 x.per) ∧ (∀ x ∈ C, ∀ t ∈ T, chLate (wordsL (rowF t)) x = false) ∧ (∀ k x, P[k]? = some x → ∀ t ∈ T, ptShort (wordsL (rowF t)) k x = false) ∧
    OwnB 60 11 pcl w' w.heap.size A1 n1 c1 P ∧ OwnB 66 6 cc w' w.heap.size A2 n2 c2 C ∧ (∀ k, obk A1 = some k → obk A2 ≠ some k) ∧
    (∀ k, obk A3 = some k → w.heap.size ≤ k) ∧ (∀ t ∈ T, ∀ k, obk t.A = some k → w.heap.size ≤ k) ∧ Rt n1 P C T w'
theorem CfgZ.z {Rt : Nat → List PtV → List ChV → List TbV → World → Prop} {B b : Nat} {A : Option Addr} {m c : Nat} {f : Nat → Int} {w w' : World} {e : Ending} (h : CfgZ Rt B b A m c f w e w') : CfgPz B b A m c f w e w' := by
  obtain ⟨A1, A2, A3, n1, n2, n3, c1, c2, c3, P, C, T, at', h1, h2, h3, h4, h5, h6, h7, h8, h9, h10, h11, h12, h13, h14, h15, h16, h17, h18, h19, h20, h21, h22, h23, _⟩ := h
  exact ⟨A1, A2, A3, n1, n2, n3, c1, c2, c3, P, C, T, at', h1, h2, h3, h4, h5, h6, h7, h8, h9, h10, h11, h12, h13, h14, h15, h16, h17, h18, h19, h20, h21, h22, h23⟩
theorem CfgPz.x {B b : Nat} {A : Option Addr} {m c : Nat} {f : Nat → Int} {w w' : World} {e : Ending} (h : CfgPz B b A m c f w e w') : CfgPx B b A m c f w e w' := by
  obtain ⟨A1, A2, A3, n1, n2, n3, c1, c2, c3, P, C, T, at', h1, h2, h3, h4, h5, h6, h7, h8, h9, h10, h11, h12, h13, h14, h15, h16, h17, h18, h19, h20, h21, _⟩ := h
  exact ⟨A1, A2, A3, n1, n2, n3, c1, c2, c3, P, C, T, at', h1, h2, h3, h4, h5, h6, h7, h8, h9, h10, h11, h12, h13, h14, h15, h16, h17, h18, h19, h20, h21⟩
theorem CfgPx.p {B b : Nat} {A : Option Addr} {m c : Nat} {f : Nat → Int} {w w' : World} {e : Ending} (h : CfgPx B b A m c f w e w') : CfgP B b A m c f w e w' := by
  obtain ⟨A1, A2, A3, n1, n2, n3, c1, c2, c3, P, C, T, at', h1, h2, h3, h4, h5, h6, h7, h8, h9, h10, h11, h12, h13, h14, h15, _⟩ := h
  exact ⟨A1, A2, A3, n1, n2, n3, c1, c2, c3, P, C, T, at', h1, h2, h3, h4, h5, h6, h7, h8, h9, h10, h11, h12, h13, h14, h15⟩
def pO (b : Nat) (A1 A2 : Option Addr) (k : Nat) : Prop := k = b ∨ obk A1 = some k ∨ obk A2 = some k
section
variable {B b : Nat} {A : Option Addr} {m c : Nat} {f : Nat → Int} {w : World} {gr gc BB : Nat} {A1 A2 A3 : Option Addr} {n1 n2 n3 c1 c2 c3 : Nat} {P P' : List PtV} {C C' : List ChV} {T : List TbV} {wr w' : World}
theorem CfgS.asked (h : CfgS B b A m c f w gr gc BB A1 A2 A3 n1 n2 n3 c1 c2 c3 P C T wr) (hB : CfgB b w gr gc BB) : Asked (pO b A1 A2) wr A3 n3 P T := by
  have h1 := hB.br
  have h3 := hB.rc
  have h4 := hB.cB
  refine ⟨h.tb.rdb, fun t ht => (h.tt t ht).1, fun x hx => (h.pt x hx).1, fun k hk e => ?_, fun t ht k hk e => ?_, fun x hx k hk e => ?_⟩
  · rcases e with e | e | e
    · have := (h.tb.own.obk_ge hk).1; omega
    · exact h.d13 k e hk
    · exact h.d23 k e hk
  · have h5 := (h.tt t ht).2 k hk
    rcases e with e | e | e
    · omega
    · exact h5.2.2.1 e
    · exact h5.2.2.2.1 e
  · have h5 := (h.pt x hx).2 k hk
    rcases e with e | e | e
    · omega
    · exact h5.2.2.1 e
    · exact h5.2.2.2.1 e
theorem ChOk.of {n : Nat} (hm : C'.map coreC = C.map coreC) (hc : ∀ x ∈ C, ChOk n x) : ∀ x ∈ C', ChOk n x := fun x hx => by
  have h1 : coreC x ∈ C.map coreC := by rw [← hm]; exact List.mem_map_of_mem hx
  obtain ⟨y, hy, e⟩ := List.mem_map.1 h1
  have h2 := hc y hy
  unfold coreC at e
  injection e with e1 e2 e3
  unfold ChOk at h2 ⊢
  rw [← e1, ← e2]
  exact h2
theorem CfgS.fin (h : CfgS B b A m c f w gr gc BB A1 A2 A3 n1 n2 n3 c1 c2 c3 P C T wr) (hB : CfgB b w gr gc BB) (q1 : 1 ≤ n1) (q2 : n1 ≤ 4) (q3 : n2 ≤ 3) (q4 : 1 ≤ n3) (q5 : n3 ≤ 2) (hc : ∀ x ∈ C, ChOk n1 x)
    (hP : RdB pcl w' w'.heap.size A1 n1 P') (hC : RdB cc w' w'.heap.size A2 n2 C') (hm : C'.map coreC = C.map coreC) {at' : Nat} (hT : TapeW w' B b A m c f at') (ho : Only (pO b A1 A2) wr w') (hi6 : ∀ x ∈ P', In64 x.per) (hlo : ∀ x ∈ C', ∀ t ∈ T, chLate (wordsL (rowF t)) x = false) (hso : ∀ k x, P'[k]? = some x → ∀ t ∈ T, ptShort (wordsL (rowF t)) k x = false)
    (hPo : OwnB 60 11 pcl w' BB A1 n1 c1 P') (hCo : OwnB 66 6 cc w' BB A2 n2 c2 C') {Rt : Nat → List PtV → List ChV → List TbV → World → Prop} (hrt : Rt n1 P' C' T (set3 w' gr (.slice A1 n1 c1) (.slice A2 n2 c2) (.slice A3 n3 c3))) :
    Vec w' gr 3 (box3 (.slice none 0 0) (.slice none 0 0) (.slice none 0 0)) ∧ CfgZ Rt B b A m c f w (.returned (.agg #[.slice A1 n1 c1, .slice A2 n2 c2, .slice A3 n3 c3])) (set3 w' gr (.slice A1 n1 c1) (.slice A2 n2 c2) (.slice A3 n3 c3)) := by
  have h1 := hB.br
  have h2 := hB.wr
  have h3 := hB.rc
  have h4 := hB.cB
  have hgs := h.gb.size
  have np : ∀ k, pO b A1 A2 k → k = b ∨ BB ≤ k := fun k e => by
    rcases e with e | e | e
    · exact .inl e
    · exact .inr (h.pp.own.obk_ge e).1
    · exact .inr (h.ch.own.obk_ge e).1
  have hgr : ¬ pO b A1 A2 gr := fun e => by have := np gr e; omega
  have hv := h.rs.keep (ho.block gr h.rs.lt hgr) ho.size
  have hA := (h.asked hB).only ho
  have hs : (set3 w' gr (.slice A1 n1 c1) (.slice A2 n2 c2) (.slice A3 n3 c3)).heap.size = w'.heap.size := by simp [set3]
  have hset : ∀ k, k ≠ gr → (set3 w' gr (.slice A1 n1 c1) (.slice A2 n2 c2) (.slice A3 n3 c3)).heap[k]? = w'.heap[k]? := fun k hk => by
    unfold set3
    rw [Below.heap_setCell _ _ _ _ hk, Below.heap_setCell _ _ _ _ hk, Below.heap_setCell _ _ _ _ hk]
  have hon : Only (fun k => k = gr) w' (set3 w' gr (.slice A1 n1 c1) (.slice A2 n2 c2) (.slice A3 n3 c3)) := ⟨rfl, rfl, rfl, by rw [hs]; exact Nat.le_refl _, fun k _ hk => hset k hk⟩
  have n1' : ∀ k, obk A1 = some k → k ≠ gr := fun k e => by have := (h.pp.own.obk_ge e).1; omega
  have n2' : ∀ k, obk A2 = some k → k ≠ gr := fun k e => by have := (h.ch.own.obk_ge e).1; omega
  have hbl : Below gr w' (set3 w' gr (.slice A1 n1 c1) (.slice A2 n2 c2) (.slice A3 n3 c3)) := ⟨rfl, rfl, rfl, by rw [hs]; exact Nat.le_refl _, fun k hk => hset k (by omega)⟩
  refine ⟨hv, A1, A2, A3, n1, n2, n3, c1, c2, c3, P', C', T, at', rfl, ⟨⟨hP.len, ?_⟩, ⟨hC.len, ?_⟩⟩, q1, q2, q3, h.pp.cap, h.ch.cap, ChOk.of hm hc, ⟨hA.t.len, ?_⟩, fun t ht => ⟨?_, (hA.tt t ht).2⟩, q4, q5, h.tb.cap, hT.below hbl h1, ?_, hi6, hlo, hso, ?_, ?_, h.d12, fun k e => by have := (h.tb.own.obk_ge e).1; omega, fun t ht k e => by have := ((h.tt t ht).2 k e).1; omega, hrt⟩
  · exact hon.rdv (B := 0) hP.rd fun k e => n1' k e
  · exact hon.rdv (B := 0) hC.rd fun k e => n2' k e
  · exact hon.rdv (B := 0) hA.t.rd fun k e => by have := (h.tb.own.obk_ge e).1; omega
  · exact (hA.tt t ht).1.only hon fun k e => by have := ((h.tt t ht).2 k e).1; omega
  · refine ⟨ho.os.trans h.gb.os, ho.tape.trans h.gb.tape, ho.output.trans h.gb.output, by rw [hs]; exact Nat.le_trans hgs ho.size, fun k hk hne => ?_⟩
    have hkb : k ≠ b := fun e => hne (by rw [e])
    exact ((hset k (by omega)).trans (ho.block k (by omega) fun e => by have := np k e; omega)).trans (h.gb.block k hk hne)
  · exact ((((hPo.other ⟨gr, 0, none⟩ _ fun g e e2 => by have := (h.pp.own.obk_ge (b := g) (by rw [e]; rfl)).1; have e2 : g = gr := e2; omega).other ⟨gr, 1, none⟩ _ fun g e e2 => by have := (h.pp.own.obk_ge (b := g) (by rw [e]; rfl)).1; have e2 : g = gr := e2; omega).other ⟨gr, 2, none⟩ _ fun g e e2 => by have := (h.pp.own.obk_ge (b := g) (by rw [e]; rfl)).1; have e2 : g = gr := e2; omega)).weak (by omega)
  · exact ((((hCo.other ⟨gr, 0, none⟩ _ fun g e e2 => by have := (h.ch.own.obk_ge (b := g) (by rw [e]; rfl)).1; have e2 : g = gr := e2; omega).other ⟨gr, 1, none⟩ _ fun g e e2 => by have := (h.ch.own.obk_ge (b := g) (by rw [e]; rfl)).1; have e2 : g = gr := e2; omega).other ⟨gr, 2, none⟩ _ fun g e e2 => by have := (h.ch.own.obk_ge (b := g) (by rw [e]; rfl)).1; have e2 : g = gr := e2; omega)).weak (by omega)
end
end Go.Proofs.YtfmndmhjjbeokaaGreatDoor
