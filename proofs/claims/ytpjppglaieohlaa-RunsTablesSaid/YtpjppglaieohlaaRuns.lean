/- Rows of runs in memory; append in a region that draws. -/
import Derived.Test.YtpjppglaieohlaaRow
import Derived.Test.YtpjppglaieohlaaLeaf
import Derived.Deep.AppendLies
import Derived.Deep.RegionLaw
namespace Go.Proofs.Ytpjppglaieohlaa
open Go.RowKit Tab
set_option linter.unusedSimpArgs false
set_option linter.unusedVariables false

theorem elR : Elt 23 30 2 16 (.agg #[.int .i64 0, .int .i64 0]) := ⟨Try.underlying23, by kernel_rfl, rfl, by omega⟩
/-- A row of runs as cells. -/
def rs : List Rn → List Value
  | [] => []
  | r :: l => .int .i64 r.p :: .int .i64 (r.n : Int) :: rs l
theorem rs_length (l : List Rn) : (rs l).length = l.length * 2 := by
  induction l with
  | nil => rfl
  | cons x l ih => simp only [rs, List.length_cons, ih]; omega
theorem rs_append (l m : List Rn) : rs (l ++ m) = rs l ++ rs m := by
  induction l with
  | nil => rfl
  | cons x l ih => simp [rs, ih]
theorem rs_one (l : List Rn) : ∀ u ∈ rs l, u.oneCell' = true := by
  induction l with
  | nil => simp [rs]
  | cons x l ih =>
    intro u hu
    simp only [rs, List.mem_cons] at hu
    rcases hu with rfl | rfl | hu
    · rfl
    · rfl
    · exact ih u hu
theorem rs_get (l : List Rn) (i : Nat) (h : i < l.length) : (rs l)[i * 2]? = some (.int .i64 l[i].p) ∧ (rs l)[i * 2 + 1]? = some (.int .i64 (l[i].n : Int)) := by
  induction l generalizing i with
  | nil => simp at h
  | cons x l ih =>
    cases i with
    | zero => simp [rs]
    | succ i =>
      have := ih i (by simpa using h)
      have e : (i + 1) * 2 = i * 2 + 1 + 1 := by omega
      rw [e]
      simp only [rs, List.getElem?_cons_succ, List.getElem_cons_succ]
      exact this
/-- A slice at A, n long, holds the runs l. -/
structure RdR (w : World) (B : Nat) (A : Option Addr) (n : Nat) (l : List Rn) : Prop where
  len : l.length = n
  rd : RdV w B A (rs l)
section
variable {w w' : World} {B B' n : Nat} {A : Option Addr} {l : List Rn}
theorem RdR.below (h : RdR w B A n l) (hb : Below B w w') : RdR w' B A n l := ⟨h.len, h.rd.below hb⟩
theorem RdR.more (h : RdR w B A n l) (hB : B ≤ B') : RdR w B' A n l := ⟨h.len, h.rd.more hB⟩
theorem RdR.on (h : RdR w w.heap.size A n l) (hb : Below w.heap.size w w') : RdR w' w'.heap.size A n l := (h.below hb).more hb.size
theorem RdR.gb {b : Nat} (h : RdR w b A n l) (hb : b ≤ w.heap.size) (hg : w.grownBy w' (some b)) : RdR w' b A n l :=
  ⟨h.len, h.rd.keep fun p hp => World.cell?_of_block (hg.block p.block (by omega) (fun e => by injection e with e; omega))⟩
theorem RdR.at_ (h : RdR w B A n l) {i : Nat} (hi : i < n) : ∃ (ad : Addr) (r : Rn), A = some ad ∧ ad.block < B ∧ l[i]? = some r ∧
    w.cell? (ad.add (i * 2)) = some (.int .i64 r.p) ∧ w.cell? ⟨(ad.add (i * 2)).block, (ad.add (i * 2)).off + 1, none⟩ = some (.int .i64 (r.n : Int)) := by
  have hl : i < l.length := by rw [h.len]; exact hi
  obtain ⟨ad, e, hb, hc⟩ := h.rd (by rw [rs_length]; omega)
  obtain ⟨h1, h2⟩ := rs_get l i hl
  have e1 : (⟨(ad.add (i * 2)).block, (ad.add (i * 2)).off + 1, none⟩ : Addr) = ad.add (i * 2 + 1) := by
    rw [← add_add]
    generalize ad.add (i * 2) = p
    unfold Addr.add
    rw [if_neg (by omega)]
  exact ⟨ad, l[i], e, hb, List.getElem?_eq_getElem hl, hc _ _ h1, by rw [e1]; exact hc _ _ h2⟩
end
/-- The block of a slice. -/
def obk (A : Option Addr) : Option Nat := A.map (·.block)
theorem ownBlock_obk (A : Option Addr) (n c : Nat) : (Value.slice A n c).ownBlock = obk A := by cases A <;> rfl
/-- No block has turned but A0's; A is A0's or newer. -/
structure Grew (A0 A : Option Addr) (w w' : World) : Prop where
  gb : w.grownBy w' (obk A0)
  at_ : obk A = obk A0 ∨ ∃ g, obk A = some g ∧ w.heap.size ≤ g
theorem Grew.refl (A : Option Addr) (w : World) : Grew A A w w := ⟨⟨rfl, rfl, rfl, Nat.le_refl _, fun _ _ _ => rfl⟩, .inl rfl⟩
theorem Grew.trans {A0 A1 A2 : Option Addr} {w w1 w2 : World} (h : Grew A0 A1 w w1) (k : Grew A1 A2 w1 w2) : Grew A0 A2 w w2 := by
  refine ⟨⟨k.gb.os.trans h.gb.os, k.gb.tape.trans h.gb.tape, k.gb.output.trans h.gb.output, Nat.le_trans h.gb.size k.gb.size, fun i hi hne => ?_⟩, ?_⟩
  · refine (k.gb.block i (Nat.lt_of_lt_of_le hi h.gb.size) ?_).trans (h.gb.block i hi hne)
    rcases h.at_ with e | ⟨g, e, hg⟩
    · rw [e]; exact hne
    · rw [e]; intro e2; injection e2 with e2; omega
  · rcases k.at_ with e | ⟨g, e, hg⟩
    · rw [e]; exact h.at_
    · exact .inr ⟨g, e, Nat.le_trans h.gb.size hg⟩
theorem Grew.bel {A0 : Option Addr} {w w' : World} (h : Below w.heap.size w w') : Grew A0 A0 w w' := ⟨⟨h.os, h.tape, h.output, h.size, fun i hi _ => h.block i hi⟩, .inl rfl⟩
theorem Grew.drew {A0 A : Option Addr} {w w' : World} (h : Grew A0 A w.drew w') : Grew A0 A w w' := ⟨⟨h.gb.os, h.gb.tape, h.gb.output, h.gb.size, h.gb.block⟩, h.at_⟩
/-- append onto a row of the call's own: where the new one lies, what stays. -/
theorem run_appX {T E s b : Nat} {z : Value} (L : Elt T E s b z) (w : World) (B : Nat) (A : Option Addr) (n c : Nat) (l0 : List Value) (h : OwnV E s w B A n c l0) (ad : Addr) (m d : Nat) (l : List Value) (Bs : Nat) (hr : RdV w Bs (some ad) l)
    (hl : l.length = m * s) (hm0 : 0 < m) (h1 : ∀ u ∈ l, u.oneCell' = true) (hb : (n + m) * b ≤ 140737488355328) (hm : n + m ≤ maxLen) (hB : B ≤ w.heap.size) :
    ∃ A' c' w', (Builtin.append_ #[T, T] T #[.slice A n c, .slice (some ad) m d]).run Try.prog w = .ok (.slice A' (n + m) c') w' ∧ OwnV E s w' B A' (n + m) c' (l0 ++ l) ∧ Below B w w' ∧ Grew A A' w w' := by
  obtain ⟨i, hi, hz, hs, hby⟩ := info_parts L.hi
  have hpos : 0 < l.length := by rw [hl]; exact Nat.mul_pos hm0 L.hs
  obtain ⟨ad', e, _, hc⟩ := hr hpos
  injection e with e
  subst e
  obtain ⟨v', w', hrun, hown, hgr, hnil, hat⟩ := run_append_own_at (P := Try.prog) w B T T E i z s b L.ht hi hz hs hby L.hz L.hs (.slice A n c) n l0 h ad m d l hl hc h1 hm hb hB
  have hbel : Below B w w' := (Below.refl _ _).grown hgr hB (fun k hk => by
    rcases h.2 with ⟨hv, _⟩ | ⟨g, cap, cur, hv, hbg, _⟩
    · rw [hv] at hk; simp [Value.ownBlock] at hk
    · rw [hv] at hk; simp [Value.ownBlock] at hk; omega)
  rcases hown.2 with ⟨hv, h0⟩ | ⟨g, cap, cur, hv, _⟩
  · omega
  · subst hv
    rw [ownBlock_obk] at hgr hat
    rw [ownBlock_obk] at hat
    exact ⟨_, _, w', hrun, hown, hbel, hgr, hat.imp id fun e => ⟨_, e, Nat.le_refl _⟩⟩
section
variable {T E s b : Nat} {z : Value}
theorem step_appX (L : Elt T E s b z) {ops : Array Oper} {o : Oper} {a : Act} {K : Act → World → Prop} {Q : Exit → Act → World → Prop} {w : World} {F : Prop} (hgd : o.guard = none) (x y : Operand)
    (ho : o.op = .call { callee := .builtin .append, args := #[x, y], argTypes := #[T, T] }) (hty : o.type = T)
    (B : Nat) (A : Option Addr) (n c : Nat) (l0 : List Value) (hx : a.eval x = .slice A n c) (h : OwnV E s w B A n c l0) (ad : Addr) (m d : Nat) (l : List Value) (Bs : Nat) (hy : a.eval y = .slice (some ad) m d) (hr : RdV w Bs (some ad) l)
    (hl : l.length = m * s) (hm0 : 0 < m) (h1 : ∀ u ∈ l, u.oneCell' = true) (hb : (n + m) * b ≤ 140737488355328) (hm : n + m ≤ maxLen) (hB : B ≤ w.heap.size)
    (N : Nat) (hN : n + m = N) (M : List Value) (hM : l0 ++ l = M)
    (hK : ∀ A' c' w', OwnV E s w' B A' N c' M → Below B w w' → Grew A A' w w' → K (a.put o.dst (.slice A' N c')) w') : if Region.wanted o (yielded ops a.tmps) = true then Oper.wp Try.prog o a w K Q else F := by
  have hw : Region.wanted o (yielded ops a.tmps) = true := by simp [Region.wanted, hgd]
  rw [if_pos hw]
  subst hN; subst hM
  obtain ⟨A', c', w', hrun, h1, h2, h3⟩ := run_appX L w B A n c l0 h ad m d l Bs hr hl hm0 h1 hb hm hB
  unfold Oper.wp execOp
  simp only [ho, hty, resolve, invoke, builtin, Sem.run_bind, Sem.run_pure, Result.andThen_ok, List.map_toArray, List.map_cons, List.map_nil, hx, hy, hrun]
  exact hK A' c' w' h1 h2 h3
theorem wpList_appX (L : Elt T E s b z) {ops : Array Oper} {rest : List Oper} {o : Oper} {a : Act} {Q : Exit → Act → World → Prop} {w : World} (hgd : o.guard = none) (x y : Operand)
    (ho : o.op = .call { callee := .builtin .append, args := #[x, y], argTypes := #[T, T] }) (hty : o.type = T)
    (B : Nat) (A : Option Addr) (n c : Nat) (l0 : List Value) (hx : a.eval x = .slice A n c) (h : OwnV E s w B A n c l0) (ad : Addr) (m d : Nat) (l : List Value) (Bs : Nat) (hy : a.eval y = .slice (some ad) m d) (hr : RdV w Bs (some ad) l)
    (hl : l.length = m * s) (hm0 : 0 < m) (h1 : ∀ u ∈ l, u.oneCell' = true) (hb : (n + m) * b ≤ 140737488355328) (hm : n + m ≤ maxLen) (hB : B ≤ w.heap.size)
    (N : Nat) (hN : n + m = N) (M : List Value) (hM : l0 ++ l = M)
    (hK : ∀ A' c' w', OwnV E s w' B A' N c' M → Below B w w' → Grew A A' w w' → wpList Try.prog ops Q rest (a.put o.dst (.slice A' N c')) w') : wpList Try.prog ops Q (o :: rest) a w := by
  subst hN; subst hM
  refine wpList_plain hgd fun K hk => ?_
  obtain ⟨A', c', w', hrun, h1, h2, h3⟩ := run_appX L w B A n c l0 h ad m d l Bs hr hl hm0 h1 hb hm hB
  unfold Oper.wp execOp
  simp only [ho, hty, resolve, invoke, builtin, Sem.run_bind, Sem.run_pure, Result.andThen_ok, List.map_toArray, List.map_cons, List.map_nil, hx, hy, hrun]
  exact hk _ _ (hK A' c' w' h1 h2 h3)
end
end Go.Proofs.Ytpjppglaieohlaa
