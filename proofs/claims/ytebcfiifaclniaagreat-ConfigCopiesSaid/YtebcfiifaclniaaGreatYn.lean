/- Where configurations are wrong: the same for the same; what a right one is. -/
import Derived.Test.YtebcfiifaclniaaGreatYg
namespace Go.Proofs.YtebcfiifaclniaaGreat
open Go.RowKit Tab
set_option linter.unusedSimpArgs false
set_option linter.unusedVariables false

theorem firstF_nonzero {f : Nat → Int} {n i : Nat} (h : firstF f n = some i) : f i ≠ 0 := by
  have := List.find?_some h
  simpa using this
theorem firstF_zero {f : Nat → Int} {n : Nat} (h : firstF f n = none) : ∀ j, j < n → f j = 0 := fun j hj => by
  have := List.find?_eq_none.1 h j (List.mem_range.2 hj)
  simpa using this
theorem hv5_same {x y : Pq} (h : SameP x y) (j : Nat) : hv5 x.1 j = hv5 y.1 j := by
  obtain ⟨_, _, _, _, _, ⟨h0, h1, h2, h3, h4⟩, _⟩ := h
  unfold hv5
  rw [h0, h1, h2, h3, h4]
theorem partF_same {x y : Pq} (h : SameP x y) (hx : x.2.length = x.1.pn) (hy : y.2.length = y.1.pn) : partF x.1 x.2 = partF y.1 y.2 := by
  have e : x.1.pn = y.1.pn := by rw [← hx, ← hy, h.2.2.2.2.2.2]
  have e2 : (fun j => hlF (hv5 x.1 j)) = fun j => hlF (hv5 y.1 j) := funext fun j => by rw [hv5_same h j]
  unfold partF
  rw [e, e2, h.2.2.2.2.2.2, h.2.1, h.2.2.1]
section
variable {P P' : List Pq}
theorem name_same (hl : P.length = P'.length) (hs : ∀ (i : Nat) (x y : Pq), P[i]? = some x → P'[i]? = some y → SameP x y) : P.map (fun z => z.1.name) = P'.map (fun z => z.1.name) := by
  apply List.ext_getElem?
  intro i
  rw [List.getElem?_map, List.getElem?_map]
  rcases Nat.lt_or_ge i P.length with h | h
  · rw [List.getElem?_eq_getElem h, List.getElem?_eq_getElem (by omega : i < P'.length)]
    exact congrArg some (hs i _ _ (List.getElem?_eq_getElem h) (List.getElem?_eq_getElem (by omega : i < P'.length))).1
  · rw [List.getElem?_eq_none h, List.getElem?_eq_none (by omega)]
theorem any_name (l : List Pq) (s : ByteArray) : l.any (fun y => decide (y.1.name = s)) = (l.map (fun z => z.1.name)).any (fun m => decide (m = s)) := by
  rw [List.any_map]
  rfl
theorem ptE_same (hl : P.length = P'.length) (hs : ∀ (i : Nat) (x y : Pq), P[i]? = some x → P'[i]? = some y → SameP x y) (h1 : ∀ x ∈ P, x.2.length = x.1.pn) (h2 : ∀ x ∈ P', x.2.length = x.1.pn) : ptE P = ptE P' := by
  funext i
  unfold ptE
  rcases Nat.lt_or_ge i P.length with h | h
  · have e1 := List.getElem?_eq_getElem h
    have e2 := List.getElem?_eq_getElem (by omega : i < P'.length)
    have hsm := hs i _ _ e1 e2
    rw [e1, e2]
    show ptW P i _ = ptW P' i _
    unfold ptW
    rw [any_name, any_name, List.map_take, List.map_take, name_same hl hs, hsm.1, partF_same hsm (h1 _ (List.getElem_mem h)) (h2 _ (List.getElem_mem _))]
  · rw [List.getElem?_eq_none h, List.getElem?_eq_none (by omega)]
theorem shortF_same (W : List Int) : ∀ (l l' : List PtV) (i : Nat), l.map (fun x => (x.bud, x.per)) = l'.map (fun x => (x.bud, x.per)) → shortF W i l = shortF W i l'
  | [], [], _, _ => rfl
  | [], _ :: _, _, h => by simp at h
  | _ :: _, [], _, h => by simp at h
  | x :: l, y :: l', i, h => by
    simp only [List.map_cons, List.cons.injEq, Prod.mk.injEq] at h
    obtain ⟨⟨hb, hp⟩, h⟩ := h
    simp only [shortF, ptShort, hb, hp, shortF_same W l l' (i + 1) h]
theorem bp_same (hl : P.length = P'.length) (hs : ∀ (i : Nat) (x y : Pq), P[i]? = some x → P'[i]? = some y → SameP x y) : (P.map Prod.fst).map (fun x => (x.bud, x.per)) = (P'.map Prod.fst).map (fun x => (x.bud, x.per)) := by
  apply List.ext_getElem?
  intro i
  rw [List.getElem?_map, List.getElem?_map, List.getElem?_map, List.getElem?_map]
  rcases Nat.lt_or_ge i P.length with h | h
  · have hsm := hs i _ _ (List.getElem?_eq_getElem h) (List.getElem?_eq_getElem (by omega : i < P'.length))
    rw [List.getElem?_eq_getElem h, List.getElem?_eq_getElem (by omega : i < P'.length)]
    show some (_, _) = some (_, _)
    rw [hsm.2.1, hsm.2.2.1]
  · rw [List.getElem?_eq_none h, List.getElem?_eq_none (by omega)]
theorem tbW_same (C : List ChV) (hl : P.length = P'.length) (hs : ∀ (i : Nat) (x y : Pq), P[i]? = some x → P'[i]? = some y → SameP x y) (l : List Nd) : tbW P C l = tbW P' C l := by
  unfold tbW holdsF
  rw [hl, shortF_same _ _ _ 0 (bp_same hl hs)]
end
theorem CfR.lens {w : World} {x : Cf} (h : CfR w x) : ∀ y ∈ x.P, y.2.length = y.1.pn := fun y hy => (h.pt y hy).1.procs.len
/-- The same are wrong at the same place. -/
theorem whF_same {x y : Cf} (h : SamX x y) (hx : ∀ z ∈ x.P, z.2.length = z.1.pn) (hy : ∀ z ∈ y.P, z.2.length = z.1.pn) : whF x = whF y := by
  obtain ⟨⟨h1, h2, h3⟩, h4, h5⟩ := h
  have e1 := ptE_same h1 h2 hx hy
  have e2 : tbE x.P x.C x.T = tbE y.P y.C y.T := by
    funext i
    unfold tbE
    rcases Nat.lt_or_ge i x.T.length with h | h
    · rw [List.getElem?_eq_getElem h, List.getElem?_eq_getElem (by omega : i < y.T.length)]
      show tbW _ _ _ = tbW _ _ _
      rw [sameN_eq (h5 i _ _ (List.getElem?_eq_getElem h) (List.getElem?_eq_getElem (by omega : i < y.T.length))), tbW_same x.C h1 h2, h3]
    · rw [List.getElem?_eq_none h, List.getElem?_eq_none (by omega)]
  have e3 : chE x.C x.P.length = chE y.C y.P.length := by rw [h1, h3]
  have e4 : sizesB x.P x.C x.T ↔ sizesB y.P y.C y.T := by unfold sizesB; rw [h1, h3, h4]
  unfold whF whereF
  by_cases hz : sizesB x.P x.C x.T
  · rw [if_pos hz, if_pos (e4.1 hz), e1, e2, e3, h1, h3, h4]
  · rw [if_neg hz, if_neg (fun k => hz (e4.2 k))]
/-- A right one. -/
structure RiX (x : Cf) : Prop where
  sz : sizesB x.P x.C x.T
  pt : ∀ j, j < x.P.length → ptE x.P j = 0
  ch : ∀ j, j < x.C.length → chE x.C x.P.length j = 0
  tb : ∀ t ∈ x.T, tbW x.P x.C t.l = 0
theorem RiX.ok {x : Cf} (h : RiX x) : whF x = (0, -1) :=
  whereF_ok h.sz h.pt h.ch fun j hj => by
    rw [tbE_at (List.getElem?_eq_getElem hj)]
    exact h.tb _ (List.getElem_mem hj)
theorem RiX.of {x : Cf} (h : (whF x).1 = 0) : RiX x := by
  unfold whF whereF at h
  split at h
  · rename_i hs
    split at h
    · rename_i i hi
      exact absurd h (firstF_nonzero hi)
    · rename_i hp
      split at h
      · rename_i i hi
        exact absurd h (firstF_nonzero hi)
      · rename_i hc
        split at h
        · rename_i i hi
          exact absurd h (firstF_nonzero hi)
        · rename_i ht
          refine ⟨hs, firstF_zero hp, firstF_zero hc, fun t hm => ?_⟩
          obtain ⟨i, hi⟩ := List.getElem?_of_mem hm
          rw [← tbE_at hi]
          exact firstF_zero ht i (List.getElem?_eq_some_iff.1 hi).1
  · exact absurd h (by decide)
end Go.Proofs.YtebcfiifaclniaaGreat
