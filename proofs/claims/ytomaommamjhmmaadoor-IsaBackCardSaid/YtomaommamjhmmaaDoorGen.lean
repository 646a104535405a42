/- What names no function of the program: what a call answers, rows of structs, rows of one's own, stores and appends, structs read and written whole. -/
import Derived.Test.YtomaommamjhmmaaDoorMem
import Derived.Test.YtomaommamjhmmaaDoorMemG
import Derived.Test.YtomaommamjhmmaaDoorRegs
import Derived.Deep.RegionLaw
import Derived.Laws.OwnMore
import Derived.Laws.ResultCell
namespace Go.Proofs.YtomaommamjhmmaaDoor
set_option maxRecDepth 100000
open Go.RowKit
set_option linter.unusedSimpArgs false
set_option linter.unusedVariables false

/-- It answers v, and leaves what was there. -/
def Ans (v : Value) (w : World) (e : Ending) (w' : World) : Prop := e = .returned v ∧ Below w.heap.size w w'
theorem Ans.mk {v u : Value} {w w' : World} (h : v = u) (hb : Below w.heap.size w w') : Ans v w (.returned u) w' := ⟨by rw [h], hb⟩
theorem bl1 (w : World) (o : Obj) : Below w.heap.size w (w.alloc o) := (Below.refl _ _).alloc (Nat.le_refl _) _
/-- The block of a slice. -/
def obk (A : Option Addr) : Option Nat := A.map (·.block)
theorem ownBlock_obk (A : Option Addr) (n c : Nat) : (Value.slice A n c).ownBlock = obk A := by cases A <;> rfl
/-- No block has turned but A0's; A is A0's or newer. -/
structure Grew (A0 A : Option Addr) (w w' : World) : Prop where
  gb : w.grownBy w' (obk A0)
  at_ : obk A = obk A0 ∨ ∃ g, obk A = some g ∧ w.heap.size ≤ g
theorem Grew.refl (A : Option Addr) (w : World) : Grew A A w w := ⟨⟨rfl, rfl, rfl, Nat.le_refl _, fun _ _ _ => rfl⟩, .inl rfl⟩
theorem Grew.trans {A0 A1 A2 : Option Addr} {w w1 w2 : World} (h : Grew A0 A1 w w1) (k : Grew A1 A2 w1 w2) : Grew A0 A2 w w2 := by
  refine ⟨⟨k.gb.os.trans h.gb.os, k.gb.tape.trans h.gb.tape, k.gb.output.trans h.gb.output, Nat.le_trans h.gb.size k.gb.size, fun i hi hne => ?_⟩, ?_⟩
  · refine (k.gb.block i (Nat.lt_of_lt_of_le hi h.gb.size) ?_).trans (h.gb.block i hi hne)
    rcases h.at_ with e | ⟨g, e, hg⟩
    · rw [e]; exact hne
    · rw [e]; intro e2; injection e2 with e2; omega
  · rcases k.at_ with e | ⟨g, e, hg⟩
    · rw [e]; exact h.at_
    · exact .inr ⟨g, e, Nat.le_trans h.gb.size hg⟩
theorem Grew.bel {A0 : Option Addr} {w w' : World} (h : Below w.heap.size w w') : Grew A0 A0 w w' := ⟨⟨h.os, h.tape, h.output, h.size, fun i hi _ => h.block i hi⟩, .inl rfl⟩
theorem Grew.drew {A0 A : Option Addr} {w w' : World} (h : Grew A0 A w.drew w') : Grew A0 A w w' := ⟨⟨h.gb.os, h.gb.tape, h.gb.output, h.gb.size, h.gb.block⟩, h.at_⟩
/-- append onto a row of the call's own: where the new one lies, what stays. -/
theorem run_appX {T E s b : Nat} {z : Value} (L : Elt T E s b z) (w : World) (B : Nat) (A : Option Addr) (n c : Nat) (l0 : List Value) (h : OwnV E s w B A n c l0) (ad : Addr) (m d : Nat) (l : List Value) (Bs : Nat) (hr : RdV w Bs (some ad) l)
    (hl : l.length = m * s) (hm0 : 0 < m) (h1 : ∀ u ∈ l, u.oneCell' = true) (hb : (n + m) * b ≤ 140737488355328) (hm : n + m ≤ maxLen) (hB : B ≤ w.heap.size) :
    ∃ A' c' w', (Builtin.append_ #[T, T] T #[.slice A n c, .slice (some ad) m d]).run Tryd.prog w = .ok (.slice A' (n + m) c') w' ∧ OwnV E s w' B A' (n + m) c' (l0 ++ l) ∧ Below B w w' ∧ Grew A A' w w' := by
  obtain ⟨i, hi, hz, hs, hby⟩ := info_parts L.hi
  have hpos : 0 < l.length := by rw [hl]; exact Nat.mul_pos hm0 L.hs
  obtain ⟨ad', e, _, hc⟩ := hr hpos
  injection e with e
  subst e
  obtain ⟨v', w', hrun, hown, hgr, hnil, hat⟩ := run_append_own_at (P := Tryd.prog) w B T T E i z s b L.ht hi hz hs hby L.hz L.hs (.slice A n c) n l0 h ad m d l hl hc h1 hm hb hB
  have hbel : Below B w w' := (Below.refl _ _).grown hgr hB (fun k hk => by
    rcases h.2 with ⟨hv, _⟩ | ⟨g, cap, cur, hv, hbg, _⟩
    · rw [hv] at hk; simp [Value.ownBlock] at hk
    · rw [hv] at hk; simp [Value.ownBlock] at hk; omega)
  rcases hown.2 with ⟨hv, h0⟩ | ⟨g, cap, cur, hv, _⟩
  · omega
  · subst hv
    rw [ownBlock_obk] at hgr hat
    rw [ownBlock_obk] at hat
    exact ⟨_, _, w', hrun, hown, hbel, hgr, hat.imp id fun e => ⟨_, e, Nat.le_refl _⟩⟩
section
variable {T E s b : Nat} {z : Value}
theorem step_appX (L : Elt T E s b z) {ops : Array Oper} {o : Oper} {a : Act} {K : Act → World → Prop} {Q : Exit → Act → World → Prop} {w : World} {F : Prop} (hgd : o.guard = none) (x y : Operand)
    (ho : o.op = .call { callee := .builtin .append, args := #[x, y], argTypes := #[T, T] }) (hty : o.type = T)
    (B : Nat) (A : Option Addr) (n c : Nat) (l0 : List Value) (hx : a.eval x = .slice A n c) (h : OwnV E s w B A n c l0) (ad : Addr) (m d : Nat) (l : List Value) (Bs : Nat) (hy : a.eval y = .slice (some ad) m d) (hr : RdV w Bs (some ad) l)
    (hl : l.length = m * s) (hm0 : 0 < m) (h1 : ∀ u ∈ l, u.oneCell' = true) (hb : (n + m) * b ≤ 140737488355328) (hm : n + m ≤ maxLen) (hB : B ≤ w.heap.size)
    (N : Nat) (hN : n + m = N) (M : List Value) (hM : l0 ++ l = M)
    (hK : ∀ A' c' w', OwnV E s w' B A' N c' M → Below B w w' → Grew A A' w w' → K (a.put o.dst (.slice A' N c')) w') : if Region.wanted o (yielded ops a.tmps) = true then Oper.wp Tryd.prog o a w K Q else F := by
  have hw : Region.wanted o (yielded ops a.tmps) = true := by simp [Region.wanted, hgd]
  rw [if_pos hw]
  subst hN; subst hM
  obtain ⟨A', c', w', hrun, h1, h2, h3⟩ := run_appX L w B A n c l0 h ad m d l Bs hr hl hm0 h1 hb hm hB
  unfold Oper.wp execOp
  simp only [ho, hty, resolve, invoke, builtin, Sem.run_bind, Sem.run_pure, Result.andThen_ok, List.map_toArray, List.map_cons, List.map_nil, hx, hy, hrun]
  exact hK A' c' w' h1 h2 h3
theorem wpList_appX (L : Elt T E s b z) {ops : Array Oper} {rest : List Oper} {o : Oper} {a : Act} {Q : Exit → Act → World → Prop} {w : World} (hgd : o.guard = none) (x y : Operand)
    (ho : o.op = .call { callee := .builtin .append, args := #[x, y], argTypes := #[T, T] }) (hty : o.type = T)
    (B : Nat) (A : Option Addr) (n c : Nat) (l0 : List Value) (hx : a.eval x = .slice A n c) (h : OwnV E s w B A n c l0) (ad : Addr) (m d : Nat) (l : List Value) (Bs : Nat) (hy : a.eval y = .slice (some ad) m d) (hr : RdV w Bs (some ad) l)
    (hl : l.length = m * s) (hm0 : 0 < m) (h1 : ∀ u ∈ l, u.oneCell' = true) (hb : (n + m) * b ≤ 140737488355328) (hm : n + m ≤ maxLen) (hB : B ≤ w.heap.size)
    (N : Nat) (hN : n + m = N) (M : List Value) (hM : l0 ++ l = M)
    (hK : ∀ A' c' w', OwnV E s w' B A' N c' M → Below B w w' → Grew A A' w w' → wpList Tryd.prog ops Q rest (a.put o.dst (.slice A' N c')) w') : wpList Tryd.prog ops Q (o :: rest) a w := by
  subst hN; subst hM
  refine wpList_plain hgd fun K hk => ?_
  obtain ⟨A', c', w', hrun, h1, h2, h3⟩ := run_appX L w B A n c l0 h ad m d l Bs hr hl hm0 h1 hb hm hB
  unfold Oper.wp execOp
  simp only [ho, hty, resolve, invoke, builtin, Sem.run_bind, Sem.run_pure, Result.andThen_ok, List.map_toArray, List.map_cons, List.map_nil, hx, hy, hrun]
  exact hk _ _ (hK A' c' w' h1 h2 h3)
end
theorem Grew.keep {wr w' : World} {A0 A' : Option Addr} {k : Nat} (hg : Grew A0 A' wr w') (hk : k < wr.heap.size) (hn : obk A0 ≠ some k) : w'.heap[k]? = wr.heap[k]? := hg.gb.block k hk fun e => hn e.symm
theorem Grew.apart {wr w' : World} {A0 A' : Option Addr} {k : Nat} (hg : Grew A0 A' wr w') (hk : k < wr.heap.size) (hn : obk A0 ≠ some k) : obk A' ≠ some k := by
  rcases hg.at_ with e | ⟨g, e, h⟩
  · rw [e]; exact hn
  · rw [e]; intro e2; injection e2 with e2; omega
theorem Grew.apart' {wr w' : World} {A0 A' D : Option Addr} (hg : Grew A0 A' wr w') (hD : ∀ k, obk D = some k → k < wr.heap.size) (hn : ∀ k, obk A0 = some k → obk D ≠ some k) : ∀ k, obk A' = some k → obk D ≠ some k := fun k e e2 => by
  rcases hg.at_ with e3 | ⟨g, e3, h⟩
  · exact hn k (by rw [← e3]; exact e) e2
  · have := hD k e2
    rw [e3] at e
    injection e with e
    omega
theorem OwnV.obk_ge {E s B n c b : Nat} {w : World} {A : Option Addr} {l : List Value} (h : OwnV E s w B A n c l) (hA : obk A = some b) : B ≤ b ∧ b < w.heap.size := by
  rcases h.2 with ⟨hv, _⟩ | ⟨g, cap, cur, hv, hbg, hg, _⟩
  · injection hv with h1
    subst h1
    cases hA
  · injection hv with h1
    subst h1
    injection hA with hA
    have hA : g = b := hA
    subst hA
    exact ⟨hbg, (Array.getElem?_eq_some_iff.1 hg).1⟩
theorem OwnV.keep' {E s B n c : Nat} {w w' : World} {A : Option Addr} {l : List Value} (h : OwnV E s w B A n c l) (hk : ∀ g, obk A = some g → w'.heap[g]? = w.heap[g]?) : OwnV E s w' B A n c l := by
  refine ⟨h.1, ?_⟩
  rcases h.2 with hv | ⟨g, cap, cur, hv, hbg, hg, r⟩
  · exact .inl hv
  · exact .inr ⟨g, cap, cur, hv, hbg, by rw [hk g (by injection hv with h1; rw [h1]; rfl)]; exact hg, r⟩
section
variable {α : Type} {f : α → List Value} {s : Nat}
theorem flat_get (hf : ∀ x, (f x).length = s) (l : List α) (i k : Nat) (x : α) (hx : l[i]? = some x) (hk : k < s) : (l.flatMap f)[i * s + k]? = (f x)[k]? := by
  induction l generalizing i with
  | nil => simp at hx
  | cons y l ih =>
    rw [List.flatMap_cons]
    cases i with
    | zero =>
      simp at hx
      subst hx
      rw [Nat.zero_mul, Nat.zero_add, List.getElem?_append_left (by rw [hf]; exact hk)]
    | succ i =>
      rw [List.getElem?_append_right (by rw [hf, Nat.succ_mul]; omega), hf]
      have := ih i (by simpa using hx)
      rw [← this]
      congr 1
      rw [Nat.succ_mul]
      omega
end
/-- A slice at A, n long, of structs, each in s cells, holds l. -/
structure RdB {α : Type} (f : α → List Value) (w : World) (B : Nat) (A : Option Addr) (n : Nat) (l : List α) : Prop where
  len : l.length = n
  rd : RdV w B A (l.flatMap f)
section
variable {α : Type} {f : α → List Value} {s : Nat} {w w' : World} {B n : Nat} {A : Option Addr} {l : List α}
theorem RdB.on (h : RdB f w w.heap.size A n l) (hb : Below w.heap.size w w') : RdB f w' w'.heap.size A n l := ⟨h.len, (h.rd.below hb).more hb.size⟩
theorem RdB.at_ (h : RdB f w B A n l) (hf : ∀ x, (f x).length = s) (hs : 0 < s) {i : Nat} (hi : i < n) : ∃ (ad : Addr) (x : α), A = some ad ∧ ad.block < B ∧ l[i]? = some x ∧ (∀ v, (f x)[0]? = some v → w.cell? (ad.add (i * s)) = some v) ∧
    ∀ k v, 0 < k → (f x)[k]? = some v → w.cell? ⟨(ad.add (i * s)).block, (ad.add (i * s)).off + k, none⟩ = some v := by
  have hl : i < l.length := by rw [h.len]; exact hi
  have hx : l[i]? = some l[i] := List.getElem?_eq_getElem hl
  have hpos : 0 < (l.flatMap f).length := by
    cases l with
    | nil => simp at hl
    | cons y l => rw [List.flatMap_cons, List.length_append, hf]; omega
  obtain ⟨ad, e, hb, hc⟩ := h.rd hpos
  refine ⟨ad, l[i], e, hb, hx, fun v hv => ?_, fun k v hk hv => ?_⟩
  · have := flat_get hf l i 0 _ hx hs
    rw [Nat.add_zero] at this
    exact hc _ v (this.trans hv)
  · have hks : k < s := by rw [← hf l[i]]; exact (List.getElem?_eq_some_iff.1 hv).1
    have := flat_get hf l i k _ hx hks
    have e1 : (⟨(ad.add (i * s)).block, (ad.add (i * s)).off + k, none⟩ : Addr) = ad.add (i * s + k) := by
      rw [← add_add]
      generalize ad.add (i * s) = p
      unfold Addr.add
      rw [if_neg (by omega)]
    rw [e1]
    exact hc _ v (this.trans hv)
end
theorem heap_set_same (w : World) (g j : Nat) (v : Value) {cur : Array Value} {E : TypeId} {fr : Nat × Nat} (h : w.heap[g]? = some (.cells cur E fr)) : (w.setCell ⟨g, j, none⟩ v).heap[g]? = some (.cells (cur.setIfInBounds j v) E fr) := by
  unfold World.setCell
  simp [Array.getElem?_modify, h]
theorem OwnV.set {E s B n c g : Nat} {w : World} {l : List Value} (h : OwnV E s w B (some ⟨g, 0, none⟩) n c l) (j : Nat) (v : Value) (hj : j < l.length) : OwnV E s (w.setCell ⟨g, j, none⟩ v) B (some ⟨g, 0, none⟩) n c (l.set j v) := by
  refine ⟨by rw [List.length_set]; exact h.1, ?_⟩
  rcases h.2 with ⟨hv, _⟩ | ⟨g', cap, cur, hv, hbg, hg, hnc, hcm, hcs, htake⟩
  · cases hv
  · simp only [Value.slice.injEq, Option.some.injEq, Addr.mk.injEq, and_true, true_and] at hv
    obtain ⟨rfl, rfl⟩ := hv
    refine .inr ⟨g, c, cur.setIfInBounds j v, rfl, hbg, heap_set_same w g j v hg, hnc, hcm, by rw [Array.size_setIfInBounds]; exact hcs, ?_⟩
    rw [Array.toList_setIfInBounds, List.take_set, htake]
/-- A store into another block leaves a row. -/
theorem OwnV.other {E s B n c : Nat} {w : World} {A : Option Addr} {l : List Value} (h : OwnV E s w B A n c l) (p : Addr) (v : Value) (hp : ∀ g, A = some ⟨g, 0, none⟩ → g ≠ p.block) : OwnV E s (w.setCell p v) B A n c l := by
  refine ⟨h.1, ?_⟩
  rcases h.2 with hv | ⟨g, cap, cur, hv, hbg, hg, r⟩
  · exact .inl hv
  · refine .inr ⟨g, cap, cur, hv, hbg, ?_, r⟩
    rw [Below.heap_setCell w p v g (hp g (by injection hv))]
    exact hg
section
variable {α : Type} {f : α → List Value} {s : Nat}
theorem flat_len (hf : ∀ x, (f x).length = s) (l : List α) : (l.flatMap f).length = l.length * s := by
  induction l with
  | nil => simp
  | cons x l ih => rw [List.flatMap_cons, List.length_append, hf, ih, List.length_cons, Nat.succ_mul]; omega
theorem flat_set (hf : ∀ x, (f x).length = s) (l : List α) (i k : Nat) (x y : α) (v : Value) (hx : l[i]? = some x) (hk : k < s) (hy : f y = (f x).set k v) : (l.set i y).flatMap f = (l.flatMap f).set (i * s + k) v := by
  induction l generalizing i with
  | nil => simp at hx
  | cons z l ih =>
    cases i with
    | zero =>
      simp at hx
      subst hx
      rw [List.set_cons_zero, List.flatMap_cons, List.flatMap_cons, hy, Nat.zero_mul, Nat.zero_add, List.set_append_left _ _ (by rw [hf]; exact hk)]
    | succ i =>
      rw [List.set_cons_succ, List.flatMap_cons, List.flatMap_cons, ih i (by simpa using hx), List.set_append_right _ _ (by rw [hf, Nat.succ_mul]; omega), hf]
      congr 2
      rw [Nat.succ_mul]
      omega
end
/-- A row of structs, each in s cells, of the call's own, block B or behind it. -/
structure OwnB {α : Type} (E s : Nat) (f : α → List Value) (w : World) (B : Nat) (A : Option Addr) (n c : Nat) (l : List α) : Prop where
  len : l.length = n
  own : OwnV E s w B A n c (l.flatMap f)
section
variable {α : Type} {f : α → List Value} {E s B B' n c : Nat} {w w' : World} {A : Option Addr} {l : List α}
theorem OwnB.rdb (h : OwnB E s f w B A n c l) : RdB f w w.heap.size A n l := ⟨h.len, h.own.rd⟩
theorem OwnB.cap (h : OwnB E s f w B A n c l) : n ≤ c := h.own.cap
theorem OwnB.nil (w : World) (E s B : Nat) : OwnB E s f w B none 0 0 [] := ⟨rfl, OwnV.nil _ _ _ _⟩
theorem OwnB.below (h : OwnB E s f w B A n c l) (hb : Below w.heap.size w w') : OwnB E s f w' B A n c l := ⟨h.len, h.own.below rfl hb⟩
theorem OwnB.other (h : OwnB E s f w B A n c l) (p : Addr) (v : Value) (hp : ∀ g, A = some ⟨g, 0, none⟩ → g ≠ p.block) : OwnB E s f (w.setCell p v) B A n c l := ⟨h.len, h.own.other p v hp⟩
theorem OwnB.weak (h : OwnB E s f w B A n c l) (hB : B' ≤ B) : OwnB E s f w B' A n c l := ⟨h.len, h.own.weak hB⟩
theorem OwnB.block (h : OwnB E s f w B A n c l) (hn : 0 < n) : ∃ g, A = some ⟨g, 0, none⟩ ∧ B ≤ g ∧ g < w.heap.size := h.own.block hn
theorem mk_add (g i : Nat) : (⟨g, 0, none⟩ : Addr).add i = ⟨g, i, none⟩ := by
  unfold Addr.add
  split <;> simp_all
/-- A store into a struct's field k, as a walk spells its place. -/
theorem OwnB.set {g : Nat} (h : OwnB E s f w B (some ⟨g, 0, none⟩) n c l) (hf : ∀ x, (f x).length = s) {i k : Nat} {x y : α} {v : Value} (hx : l[i]? = some x) (hk : k < s) (hy : f y = (f x).set k v) :
    OwnB E s f (w.setCell ⟨((⟨g, 0, none⟩ : Addr).add (i * s)).block, ((⟨g, 0, none⟩ : Addr).add (i * s)).off + k, none⟩ v) B (some ⟨g, 0, none⟩) n c (l.set i y) := by
  have hi : i < l.length := (List.getElem?_eq_some_iff.1 hx).1
  refine ⟨by rw [List.length_set]; exact h.len, ?_⟩
  rw [mk_add, flat_set hf l i k x y v hx hk hy]
  refine h.own.set (i * s + k) v ?_
  rw [flat_len hf]
  have h1 : (i + 1) * s ≤ l.length * s := Nat.mul_le_mul_right _ hi
  rw [Nat.succ_mul] at h1
  omega
end
/-- Rows of unlike elements lie apart. -/
theorem OwnV.ne {E E' s s' B B' n n' c c' : Nat} {w : World} {A A' : Option Addr} {l l' : List Value} (h : OwnV E s w B A n c l) (h' : OwnV E' s' w B' A' n' c' l') (hE : E ≠ E') : ∀ k, obk A = some k → obk A' ≠ some k := fun k hk hk' => by
  rcases h.2 with ⟨hv, _⟩ | ⟨g, _, cur, hv, _, hg, _⟩
  · injection hv with h1
    rw [h1] at hk
    cases hk
  · rcases h'.2 with ⟨hv', _⟩ | ⟨g', _, cur', hv', _, hg', _⟩
    · injection hv' with h1
      rw [h1] at hk'
      cases hk'
    · injection hv with h1
      injection hv' with h2
      rw [h1] at hk
      rw [h2] at hk'
      have e1 : g = k := by injection hk
      have e2 : g' = k := by injection hk'
      subst e1
      subst e2
      rw [hg] at hg'
      injection hg' with hg'
      injection hg' with _ h3
      exact hE h3
theorem OwnV.ne' {E E' s s' B B' n n' c c' g : Nat} {w : World} {A : Option Addr} {l l' : List Value} (h : OwnV E s w B A n c l) (h' : OwnV E' s' w B' (some ⟨g, 0, none⟩) n' c' l') (hE : E ≠ E') : ∀ k, A = some ⟨k, 0, none⟩ → k ≠ g := fun k e e2 => h.ne h' hE k (by rw [e]; rfl) (by rw [e2]; rfl)
theorem OwnV.grew {E E' s s' B B' n c : Nat} {w w' : World} {A A0 A' : Option Addr} {l l0 : List Value} {n0 c0 : Nat} (h : OwnV E s w B A n c l) (h0 : OwnV E' s' w B' A0 n0 c0 l0) (hE : E ≠ E') (hg : Grew A0 A' w w') : OwnV E s w' B A n c l :=
  h.keep' fun k hk => hg.keep (h.obk_ge hk).2 fun e => h.ne h0 hE k hk e
theorem results_cell1 {fn : Func} {p : Tmp} {ty : TypeId} (h : fn.results = #[.cell p ty]) (tmps : Array Value) (P : Program) (w : World) :
    (results fn tmps).run P w = ((asAddr (tmps.getD p undef)).run P w).andThen fun a w₁ => (loadVar ty a).run P w₁ := by
  simp only [results, h]
  simp [Sem.run_bind, Result.andThen]
/-- A struct, an array, read whole; written whole. -/
theorem loadVar_own {T n : Nat} {w : World} {B g : Nat} {l : List Value} (e : (isAgg T).run Tryd.prog w = .ok true w) (e2 : (sizeOf T).run Tryd.prog w = .ok n w) (h : OwnV T n w B (some ⟨g, 0, none⟩) 1 1 l) : (loadVar T ⟨g, 0, none⟩).run Tryd.prog w = .ok (.agg l.toArray) w := by
  have hl : l.length = n := by have := h.1; omega
  unfold loadVar
  rw [Sem.run_bind, e, Result.andThen_ok]
  simp only [if_true]
  rw [Sem.run_bind, e2, Result.andThen_ok, Sem.run_bind]
  have := run_loadCells_list (P := Tryd.prog) (w := w) ⟨g, 0, none⟩ l (fun j v hj => by
    rw [mk_add]
    have hlt := (List.getElem?_eq_some_iff.1 hj).1
    have h1 := World.ownsRow.cellAt h j (by omega)
    have h2 := (List.getElem?_eq_some_iff.1 hj).2
    first | exact h1.trans (congrArg some h2) | (rw [h1]; simp [← h2]))
  rw [hl] at this
  rw [this, Result.andThen_ok]
  rfl
theorem storeVar_own {T n : Nat} {w : World} {B g : Nat} {old l : List Value} (e2 : (sizeOf T).run Tryd.prog w = .ok n w) (h : OwnV T n w B (some ⟨g, 0, none⟩) 1 1 old) (hl : l.length = n) (h1 : ∀ v ∈ l, v.oneCell' = true) :
    ∃ w', (storeVar T ⟨g, 0, none⟩ (.agg l.toArray)).run Tryd.prog w = .ok () w' ∧ OwnV T n w' B (some ⟨g, 0, none⟩) 1 1 l ∧ w.grownBy w' (some g) := by
  rcases h.2 with ⟨hv, _⟩ | ⟨g', cap, cur, hv, hb, hg, h2, h3, h4, h5⟩
  · cases hv
  · injection hv with k1 k2 k3
    injection k1 with k1
    injection k1 with k1
    subst k1
    subst k3
    have hc : cur.size = n := by omega
    have hrun := run_storeCells_at (P := Tryd.prog) g 0 T l 0 cur w hg (by omega) h1
    have hx : (cur.toList.take (0 + 0) ++ l ++ cur.toList.drop (0 + 0 + l.length)).toArray = l.toArray := by
      rw [List.drop_eq_nil_of_le (by rw [Array.length_toList]; omega)]
      simp
    rw [hx] at hrun
    refine ⟨w.setRow g l.toArray, ?_, ?_, ?_⟩
    · unfold storeVar
      rw [Sem.run_bind, e2, Result.andThen_ok]
      have hz : (Value.agg l.toArray).cells = l.toArray := rfl
      rw [hz]
      simp only [List.size_toArray, hl, ne_eq, not_true_eq_false, if_false]
      exact hrun
    · refine ⟨by omega, .inr ⟨g, 1, l.toArray, rfl, hb, setRow_heap w g cur l.toArray T _ hg, h2, h3, by rw [List.size_toArray]; omega, ?_⟩⟩
      rw [List.take_of_length_le (by rw [List.toList_toArray]; omega)]
    · exact ⟨rfl, rfl, rfl, by simp, fun i _ hne => setRow_other w g i _ fun e => hne (by rw [e])⟩
theorem wpList_loadX {T n : Nat} {ops : Array Oper} {rest : List Oper} {o : Oper} {a : Act} {Q : Exit → Act → World → Prop} {w : World} {B g : Nat} {l : List Value} (hgd : o.guard = none) (x : Operand) (ho : o.op = .load T x) (hx : a.eval x = .pointer (some ⟨g, 0, none⟩))
    (e : (isAgg T).run Tryd.prog w = .ok true w) (e2 : (sizeOf T).run Tryd.prog w = .ok n w) (h : OwnV T n w B (some ⟨g, 0, none⟩) 1 1 l) (hK : wpList Tryd.prog ops Q rest (a.put o.dst (.agg l.toArray)) w) : wpList Tryd.prog ops Q (o :: rest) a w := by
  refine wpList_plain hgd fun K hk => ?_
  have hl := loadVar_own e e2 h
  have hs : (Instr.loadAt T (.pointer (some ⟨g, 0, none⟩))).run Tryd.prog w = .ok (.agg l.toArray) w := by
    unfold Instr.loadAt
    exact hl
  unfold Oper.wp execOp
  simp only [ho, Sem.run_bind, Sem.run_pure, Result.andThen_ok, hx, hs]
  exact hk _ _ hK
theorem wpList_storeX {T n : Nat} {ops : Array Oper} {rest : List Oper} {o : Oper} {a : Act} {Q : Exit → Act → World → Prop} {w : World} {B g : Nat} {old l : List Value} (hgd : o.guard = none) (x y : Operand) (ho : o.op = .store T x y) (hx : a.eval x = .pointer (some ⟨g, 0, none⟩)) (hy : a.eval y = .agg l.toArray)
    (e2 : (sizeOf T).run Tryd.prog w = .ok n w) (h : OwnV T n w B (some ⟨g, 0, none⟩) 1 1 old) (hl : l.length = n) (h1 : ∀ v ∈ l, v.oneCell' = true) (hK : ∀ w', OwnV T n w' B (some ⟨g, 0, none⟩) 1 1 l → w.grownBy w' (some g) → wpList Tryd.prog ops Q rest (a.put o.dst undef) w') : wpList Tryd.prog ops Q (o :: rest) a w := by
  refine wpList_plain hgd fun K hk => ?_
  obtain ⟨w', hrun, h3, h4⟩ := storeVar_own e2 h hl h1
  have hs : (Instr.storeAt T (.pointer (some ⟨g, 0, none⟩)) (.agg l.toArray)).run Tryd.prog w = .ok () w' := by
    unfold Instr.storeAt
    exact hrun
  unfold Oper.wp execOp
  simp only [ho, Sem.run_bind, Sem.run_pure, Result.andThen_ok, hx, hy, hs]
  exact hk _ _ (hK w' h3 h4)
theorem rowf {T n B g : Nat} {w : World} {l : List Value} (o : OwnV T n w B (some ⟨g, 0, none⟩) 1 1 l) (k : Nat) (v : Value) (hv : l[k]? = some v) : w.cell? ⟨g, k, none⟩ = some v ∧ w.frozen? ⟨g, k, none⟩ = false :=
  ⟨(World.ownsRow.cellAt o k (by have := (List.getElem?_eq_some_iff.1 hv).1; have := o.1; omega)).trans hv, World.ownsRow.frozenAt o k⟩
theorem results_oneX {fn : Func} {p : Tmp} {T n : Nat} (h : fn.results = #[.cell p T]) {tmps : Array Value} {w : World} {B g : Nat} {l : List Value} (e : (isAgg T).run Tryd.prog w = .ok true w) (e2 : (sizeOf T).run Tryd.prog w = .ok n w) (hp : tmps.getD p undef = .pointer (some ⟨g, 0, none⟩)) (ho : OwnV T n w B (some ⟨g, 0, none⟩) 1 1 l) : (results fn tmps).run Tryd.prog w = .ok (.agg l.toArray) w := by
  have e3 : (asAddr (.pointer (some ⟨g, 0, none⟩))).run Tryd.prog w = .ok ⟨g, 0, none⟩ w := rfl
  rw [results_cell1 h, hp, e3, Result.andThen_ok, loadVar_own e e2 ho]
theorem results_twoX {fn : Func} {p q : Tmp} {T n : Nat} (h : fn.results = #[.cell p T, .tmp q]) {tmps : Array Value} {w : World} {B g : Nat} {l : List Value} (e : (isAgg T).run Tryd.prog w = .ok true w) (e2 : (sizeOf T).run Tryd.prog w = .ok n w) (hp : tmps.getD p undef = .pointer (some ⟨g, 0, none⟩)) (ho : OwnV T n w B (some ⟨g, 0, none⟩) 1 1 l) : (results fn tmps).run Tryd.prog w = .ok (.tuple #[.agg l.toArray, tmps.getD q undef]) w := by
  have e3 : (asAddr (.pointer (some ⟨g, 0, none⟩))).run Tryd.prog w = .ok ⟨g, 0, none⟩ w := rfl
  rw [results_cell_tmp h, hp, e3, Result.andThen_ok, loadVar_own e e2 ho, Result.andThen_ok]
end Go.Proofs.YtomaommamjhmmaaDoor
