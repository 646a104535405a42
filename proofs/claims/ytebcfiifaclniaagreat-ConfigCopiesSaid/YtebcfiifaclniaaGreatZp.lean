/- A configuration of one's own: a process, a node, a channel of it turned. -/
import Derived.Test.YtebcfiifaclniaaGreatZk
namespace Go.Proofs.YtebcfiifaclniaaGreat
open Go.RowKit Tab
set_option linter.unusedSimpArgs false
set_option linter.unusedVariables false

theorem nsn_put (l : List Nd) (i : Nat) (z : Int) (x : Nd) (h : l[i]? = some x) : (ns l).set (i * 3 + 2) (.int .i64 z) = ns (l.set i ⟨x.k, x.p, z⟩) := by
  induction l generalizing i with
  | nil => simp at h
  | cons y l ih =>
    cases i with
    | zero => simp at h; subst h; simp [ns]
    | succ i => rw [show (i + 1) * 3 + 2 = i * 3 + 2 + 1 + 1 + 1 by omega]; simp only [ns, List.set_cons_succ]; rw [ih i (by simpa using h)]
theorem flat_alike {α : Type} (f : α → List Value) : ∀ (l : List α) (i : Nat) (x y : α), l[i]? = some x → f y = f x → (l.set i y).flatMap f = l.flatMap f
  | [], _, _, _, h, _ => by simp at h
  | a :: l, 0, x, y, h, e => by
    simp at h
    subst h
    rw [List.set_cons_zero, List.flatMap_cons, List.flatMap_cons, e]
  | a :: l, i + 1, x, y, h, e => by
    rw [List.set_cons_succ, List.flatMap_cons, List.flatMap_cons, flat_alike f l i x y (by simpa using h) e]
theorem set_at {α : Type} {l : List α} {i a : Nat} {x y z : α} (hx : l[i]? = some x) (h : (l.set i y)[a]? = some z) : (a = i ∧ z = y) ∨ (a ≠ i ∧ l[a]? = some z) := by
  have hi := (List.getElem?_eq_some_iff.1 hx).1
  by_cases e : a = i
  · subst e
    rw [List.getElem?_set_self hi] at h
    injection h with h
    exact .inl ⟨rfl, h.symm⟩
  · rw [List.getElem?_set_ne (Ne.symm e)] at h
    exact .inr ⟨e, h⟩
section
variable {B gc g i : Nat} {A1 A2 A3 : Option Addr} {n1 n2 n3 c1 c2 c3 : Nat} {P : List Pq} {C : List ChV} {T : List NdT} {w : World}
/-- A process of its own is turned. -/
theorem CvS.pset (h : CvS B gc ⟨A1, A2, A3, n1, n2, n3, c1, c2, c3, P, C, T⟩ w) {x : Pq} (hx : P[i]? = some x) (hg : x.1.pa = some ⟨g, 0, none⟩)
    (hd : ∀ (j : Nat) (y : Pq), P[j]? = some y → j ≠ i → obk y.1.pa ≠ some g) {k : Nat} {q q' : Int × Int} {v : Value} {j : Nat} (hq : x.2[j]? = some q) (hk : k < 2) (hv : prc q' = (prc q).set k v) :
    CvS B gc ⟨A1, A2, A3, n1, n2, n3, c1, c2, c3, P.set i (x.1, x.2.set j q'), C, T⟩ (w.setCell ⟨g, j * 2 + k, none⟩ v) := by
  have hm := List.mem_of_getElem? hx
  have hob : OwnB 41 2 prc w B (some ⟨g, 0, none⟩) x.1.pn x.1.pc x.2 := ⟨(h.ok.pt x hm).2.2.1, by rw [← hg]; exact h.pt x hm⟩
  have hst := hob.put prc_len hq hk hv
  have hpr := hob.own
  have hfl : (P.set i (x.1, x.2.set j q')).flatMap pcq = P.flatMap pcq := flat_alike pcq P i x _ hx rfl
  refine ⟨⟨h.s.cf.other _ _ (h.s.cf.ne' hpr (by decide)), ⟨by show (P.set i _).length = n1; rw [List.length_set]; exact h.s.pp.len, by show OwnV _ _ _ _ _ _ _ ((P.set i _).flatMap pcq); rw [hfl]; exact h.s.pp.own.other _ _ (h.s.pp.own.ne' hpr (by decide))⟩, ⟨h.s.ch.len, h.s.ch.own.other _ _ (h.s.ch.own.ne' hpr (by decide))⟩, ⟨h.s.tb.len, h.s.tb.own.other _ _ (h.s.tb.own.ne' hpr (by decide))⟩⟩, fun z hz => ?_, fun z hz => (h.tt z hz).other _ _ ((h.tt z hz).ne' hpr (by decide)), ⟨by show (P.set i _).length = n1; rw [List.length_set]; exact h.ok.l1, h.ok.l2, h.ok.l3, fun z hz => ?_, h.ok.tt, h.ok.m1, h.ok.m2, h.ok.m3, h.ok.z.1, h.ok.z.2.1, h.ok.z.2.2.1, fun z hz => ?_, h.ok.z.2.2.2.2⟩⟩
  · obtain ⟨a, ha⟩ := List.getElem?_of_mem hz
    rcases set_at hx ha with ⟨_, rfl⟩ | ⟨hne, ha⟩
    · show OwnV _ _ _ _ x.1.pa _ _ _
      rw [hg]
      exact hst.own
    · have hn := hd a z ha hne
      exact (h.pt z (List.mem_of_getElem? ha)).other _ _ fun q e e2 => hn (by rw [e]; exact congrArg some e2)
  · rcases List.mem_or_eq_of_mem_set hz with hz | rfl
    · exact h.ok.pt z hz
    · have hk := h.ok.pt x hm
      exact ⟨hk.1, hk.2.1, by rw [List.length_set]; exact hk.2.2.1, hk.2.2.2⟩
  · rcases List.mem_or_eq_of_mem_set hz with hz | rfl
    · exact h.ok.z.2.2.2.1 z hz
    · exact h.ok.z.2.2.2.1 x hm
/-- A node of its own bears another number. -/
theorem CvS.nset (h : CvS B gc ⟨A1, A2, A3, n1, n2, n3, c1, c2, c3, P, C, T⟩ w) {x : NdT} (hx : T[i]? = some x) (hg : x.A = some ⟨g, 0, none⟩)
    (hd : ∀ (j : Nat) (y : NdT), T[j]? = some y → j ≠ i → obk y.A ≠ some g) {q : Nd} {j : Nat} (hq : x.l[j]? = some q) (z : Int) (hz : In64 z) :
    CvS B gc ⟨A1, A2, A3, n1, n2, n3, c1, c2, c3, P, C, T.set i { x with l := x.l.set j ⟨q.k, q.p, z⟩ }⟩ (w.setCell ⟨g, j * 3 + 2, none⟩ (.int .i64 z)) := by
  have hm := List.mem_of_getElem? hx
  have hj := (List.getElem?_eq_some_iff.1 hq).1
  have hpr : OwnV 43 3 w B (some ⟨g, 0, none⟩) x.n x.c (ns x.l) := by rw [← hg]; exact h.tt x hm
  have hst := hpr.set (j * 3 + 2) (.int .i64 z) (by rw [ns_length]; omega)
  rw [nsn_put x.l j z q hq] at hst
  have hfl : (T.set i { x with l := x.l.set j ⟨q.k, q.p, z⟩ }).flatMap tcn = T.flatMap tcn := flat_alike tcn T i x _ hx rfl
  refine ⟨⟨h.s.cf.other _ _ (h.s.cf.ne' hpr (by decide)), ⟨h.s.pp.len, h.s.pp.own.other _ _ (h.s.pp.own.ne' hpr (by decide))⟩, ⟨h.s.ch.len, h.s.ch.own.other _ _ (h.s.ch.own.ne' hpr (by decide))⟩, ⟨by show (T.set i _).length = n3; rw [List.length_set]; exact h.s.tb.len, by show OwnV _ _ _ _ _ _ _ ((T.set i _).flatMap tcn); rw [hfl]; exact h.s.tb.own.other _ _ (h.s.tb.own.ne' hpr (by decide))⟩⟩, fun y hy => (h.pt y hy).other _ _ ((h.pt y hy).ne' hpr (by decide)), fun y hy => ?_, ⟨h.ok.l1, h.ok.l2, by show (T.set i _).length = n3; rw [List.length_set]; exact h.ok.l3, h.ok.pt, fun y hy => ?_, h.ok.m1, h.ok.m2, h.ok.m3, h.ok.z.1, h.ok.z.2.1, h.ok.z.2.2.1, h.ok.z.2.2.2.1, fun y hy => ?_⟩⟩
  · obtain ⟨a, ha⟩ := List.getElem?_of_mem hy
    rcases set_at hx ha with ⟨_, rfl⟩ | ⟨hne, ha⟩
    · show OwnV _ _ _ _ x.A _ _ _
      rw [hg]
      exact hst
    · have hn := hd a y ha hne
      exact (h.tt y (List.mem_of_getElem? ha)).other _ _ fun q e e2 => hn (by rw [e]; exact congrArg some e2)
  · rcases List.mem_or_eq_of_mem_set hy with hy | rfl
    · exact h.ok.tt y hy
    · have hk := h.ok.tt x hm
      refine ⟨by show (x.l.set j _).length = x.n; rw [List.length_set]; exact hk.1, fun u hu => ?_, hk.2.2⟩
      rcases List.mem_or_eq_of_mem_set hu with hu | rfl
      · exact hk.2.1 u hu
      · have hn := hk.2.1 q (List.mem_of_getElem? hq)
        exact ⟨hn.1, hn.2.1, hz⟩
  · rcases List.mem_or_eq_of_mem_set hy with hy | rfl
    · exact h.ok.z.2.2.2.2 y hy
    · exact h.ok.z.2.2.2.2 x hm
/-- A channel's field put in. -/
theorem CvS.cset (h : CvS B gc ⟨A1, some ⟨g, 0, none⟩, A3, n1, n2, n3, c1, c2, c3, P, C, T⟩ w) {k : Nat} {x y : ChV} {v : Value} (hx : C[i]? = some x) (hk : k < 6) (hy : cc y = (cc x).set k v) :
    CvS B gc ⟨A1, some ⟨g, 0, none⟩, A3, n1, n2, n3, c1, c2, c3, P, C.set i y, T⟩ (w.setCell ⟨g, i * 6 + k, none⟩ v) := by
  have hpr := h.s.ch.own
  have hst := h.s.ch.put cc_len hx hk hy
  exact ⟨⟨h.s.cf.other _ _ (h.s.cf.ne' hpr (by decide)), ⟨h.s.pp.len, h.s.pp.own.other _ _ (h.s.pp.own.ne' hpr (by decide))⟩, hst, ⟨h.s.tb.len, h.s.tb.own.other _ _ (h.s.tb.own.ne' hpr (by decide))⟩⟩, fun z hz => (h.pt z hz).other _ _ ((h.pt z hz).ne' hpr (by decide)), fun z hz => (h.tt z hz).other _ _ ((h.tt z hz).ne' hpr (by decide)),
    ⟨h.ok.l1, by show (C.set i y).length = n2; rw [List.length_set]; exact h.ok.l2, h.ok.l3, h.ok.pt, h.ok.tt, h.ok.m1, h.ok.m2, h.ok.m3, h.ok.z⟩⟩
end
end Go.Proofs.YtebcfiifaclniaaGreat
