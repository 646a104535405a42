/- slices.Replace of a stretch of two items and more by one. -/
import Derived.Test.YtjbflndlfdekiaaJoin
import Derived.Laws.CopyOwn
import Derived.StillTailTactics
namespace Go.Proofs.Ytjbflndlfdekiaa
open Go.RowKit Tab
set_option linter.unusedSimpArgs false
set_option linter.unusedVariables false

/-- The block of a row of slices. -/
def BlkL (w : World) (g : Nat) (cur : List Value) : Prop := w.heap[g]? = some (.cells cur.toArray 31 (0, 0))
theorem BlkL.cell {w : World} {g : Nat} {cur : List Value} (h : BlkL w g cur) (j : Nat) : w.cell? ⟨g, j, none⟩ = cur[j]? := by
  unfold World.cell?
  rw [h]
  simp
theorem BlkL.frozen {w : World} {g : Nat} {cur : List Value} (h : BlkL w g cur) (j : Nat) : w.frozen? ⟨g, j, none⟩ = false := by
  unfold World.frozen?
  rw [h]
  simp
theorem BlkL.setCell {w : World} {g : Nat} {cur : List Value} (h : BlkL w g cur) (i : Nat) (v : Value) : BlkL (w.setCell ⟨g, i, none⟩ v) g (cur.set i v) := by
  unfold BlkL at h ⊢
  have hlt : g < w.heap.size := (Array.getElem?_eq_some_iff.1 h).1
  have hv : w.heap[g] = .cells cur.toArray 31 (0, 0) := (Array.getElem?_eq_some_iff.1 h).2
  unfold World.setCell
  rw [Array.getElem?_eq_getElem (by simpa using hlt), Array.getElem_modify]
  simp [hv]
theorem BlkL.setRow {w : World} {g : Nat} {cur : List Value} (h : BlkL w g cur) (cs : List Value) : BlkL (w.setRow g cs.toArray) g cs := setRow_heap w g _ _ _ _ h
theorem gb_setCell (w : World) (g i : Nat) (v : Value) : w.grownBy (w.setCell ⟨g, i, none⟩ v) (some g) := ⟨rfl, rfl, rfl, by simp, fun k hk hne => by
  unfold World.setCell
  simp only [Array.getElem?_modify]
  rw [if_neg (fun e => hne (by rw [e]))]⟩
theorem gb_setRow (w : World) (g : Nat) (cs : Array Value) : w.grownBy (w.setRow g cs) (some g) := ⟨rfl, rfl, rfl, by simp [World.setRow], fun k hk hne => setRow_other w g k cs (fun e => hne (by rw [e]))⟩
theorem run_clearL (w : World) (ty : TypeId) (g o n c : Nat) (cur : List Value) (hg : BlkL w g cur) (hn : 0 < n) (hfit : o + n ≤ cur.length) :
    (Builtin.clear_ #[46] ty #[.slice (some ⟨g, o, none⟩) n c]).run Try.prog w = .ok (.tuple #[]) (w.setRow g (cur.take o ++ List.replicate n (Value.slice none 0 0) ++ cur.drop (o + n)).toArray) := by
  obtain ⟨i, hi, hz, hs, hby⟩ := info_parts elL.hi
  have hst := run_storeCells_at Try.prog g o 31 (List.replicate n (Value.slice none 0 0)) 0 cur.toArray w hg (by simpa using hfit) (by intro v hv; rw [List.eq_of_mem_replicate hv]; rfl)
  have hzc : (Builtin.zeroCells (Value.slice none 0 0).cells n).toList = List.replicate n (Value.slice none 0 0) := by
    have : (Value.slice none 0 0).cells = #[.slice none 0 0] := rfl
    rw [this]
    simp [Builtin.zeroCells]
    apply List.ext_getElem
    · simp
    · intro i h1 h2
      simp [Nat.mod_one]
  simp only [Nat.add_zero, List.length_replicate] at hst
  obtain ⟨m, rfl⟩ : ∃ m, n = m + 1 := ⟨n - 1, by omega⟩
  have hzv : (zeroValue 31).run Try.prog w = .ok (.slice none 0 0) w := by
    simp [zeroValue, typeInfo, hi, hz]
  simp [Builtin.clear_, run_underlying elL.ht, hzv, hzc, hst]
theorem run_copyL (w : World) (ty : TypeId) (g off dLen dCap : Nat) (ad : Addr) (sLen sCap : Nat) (cur cs : List Value) (hB : BlkL w g cur) (hn : cs.length = Nat.min sLen dLen) (hsrc : ∀ j v, cs[j]? = some v → w.cell? (ad.add j) = some v) (hfit : off + cs.length ≤ cur.length) (h1 : ∀ v ∈ cs, v.oneCell' = true) :
    (Builtin.copy_ #[46, 46] ty #[.slice (some ⟨g, off, none⟩) dLen dCap, .slice (some ad) sLen sCap]).run Try.prog w = .ok (.int .i64 (cs.length : Nat)) (w.setRow g (cur.take off ++ (cs ++ cur.drop (off + cs.length))).toArray) := by
  obtain ⟨i, hi, hz, hs, hby⟩ := info_parts elL.hi
  have h := run_copy_row (P := Try.prog) w 46 46 ty 31 g off dLen dCap ad sLen sCap cur.toArray 31 cs elL.ht (by rw [hi]; simp [hs]) hB hn hsrc (by simpa using hfit) h1
  rw [List.append_assoc] at h
  exact h
/-- What Replace leaves. -/
def ReplL (g c m : Nat) (V : List Value) (w : World) (e : Ending) (w' : World) : Prop :=
  e = .returned (.slice (some ⟨g, 0, none⟩) m c) ∧ (∃ rest, BlkL w' g (V ++ rest) ∧ V.length = m ∧ (V ++ rest).length = c) ∧ w.grownBy w' (some g)
set_option maxRecDepth 100000 in
set_option maxHeartbeats 4000000 in
theorem replace_end (g n c i : Nat) (cur : List Value) (av : Addr) (A : Option Addr) (m cx : Nat) (w : World) (h : BlkL w g cur) (hl : cur.length = c) (hn : n ≤ 1048576) (hc : n ≤ c) (hc2 : c ≤ 1048576) (hij : i + 2 ≤ n) (hv : w.cell? av = some (.slice A m cx)) (hav : av.block ≠ g) :
    Calls Try.prog 23 #[.slice (some ⟨g, 0, none⟩) n c, .int .i64 (i : Int), .int .i64 (n : Int), .slice (some av) 1 1] w (ReplL g c (i + 1) (cur.take i ++ [.slice A m cx]) w) := by
  have hne : ((i : Int) == (n : Int)) = false := beq_eq_false_iff_ne.2 (by omega)
  have hci : ¬ c = i := by omega
  have hci1 : ¬ c = i + 1 := by omega
  have hin : i ≤ n := by omega
  have hic : i ≤ c := by omega
  have hil : i < cur.length := by omega
  have hu : cur[i]? = some cur[i] := List.getElem?_eq_getElem hil
  have d0 : w.cell? ⟨g, i, none⟩ = some cur[i] := (h.cell i).trans hu
  have d1 : w.frozen? ⟨g, i, none⟩ = false := h.frozen i
  have hB1 := h.setCell i (.slice A m cx)
  obtain ⟨W1, hW1⟩ : ∃ W1, W1 = w.setCell ⟨g, i, none⟩ (.slice A m cx) := ⟨_, rfl⟩
  rw [← hW1] at hB1
  have hcl : ∀ ty, (Builtin.clear_ #[46] ty #[.slice (some ⟨g, i + 1, none⟩) (n - (i + 1)) (c - (i + 1))]).run Try.prog W1 = .ok (.tuple #[]) (W1.setRow g ((cur.set i (Value.slice A m cx)).take (i + 1) ++ List.replicate (n - (i + 1)) (Value.slice none 0 0) ++ (cur.set i (Value.slice A m cx)).drop (i + 1 + (n - (i + 1)))).toArray) := fun ty =>
    run_clearL W1 ty g (i + 1) (n - (i + 1)) (c - (i + 1)) (cur.set i (Value.slice A m cx)) hB1 (by omega) (by rw [List.length_set]; omega)
  have hB2 := hB1.setRow ((cur.set i (Value.slice A m cx)).take (i + 1) ++ List.replicate (n - (i + 1)) (Value.slice none 0 0) ++ (cur.set i (Value.slice A m cx)).drop (i + 1 + (n - (i + 1))))
  have hG : w.grownBy (W1.setRow g ((cur.set i (Value.slice A m cx)).take (i + 1) ++ List.replicate (n - (i + 1)) (Value.slice none 0 0) ++ (cur.set i (Value.slice A m cx)).drop (i + 1 + (n - (i + 1)))).toArray) (some g) := by
    rw [hW1]
    exact gb_trans (gb_setCell w g i _) (gb_setRow _ g _)
  have hlen : ((cur.set i (Value.slice A m cx)).take (i + 1) ++ List.replicate (n - (i + 1)) (Value.slice none 0 0) ++ (cur.set i (Value.slice A m cx)).drop (i + 1 + (n - (i + 1)))).length = c := by
    simp
    omega
  have htk : (cur.set i (Value.slice A m cx)).take (i + 1) = cur.take i ++ [.slice A m cx] := by
    rw [List.take_succ_eq_append_getElem (by rw [List.length_set]; omega), List.getElem_set_self, List.take_set_of_le (Nat.le_refl _)]
  rw [htk] at hB2 hG hcl hlen
  generalize (cur.set i (Value.slice A m cx)).drop (i + 1 + (n - (i + 1))) = rest at hB2 hG hcl hlen
  generalize hR : cur.take i ++ [.slice A m cx] ++ List.replicate (n - (i + 1)) (Value.slice none 0 0) ++ rest = R at hB2 hG hcl hlen
  have HR := Lib.hid hR
  clear hR
  have HB2 := Lib.hid hB2
  have HG := Lib.hid hG
  have HLN := Lib.hid hlen
  have HW1 := Lib.hid hW1
  generalize cur[i] = u at d0
  clear hB1 hB2 hG htk hu hil h hW1 hlen
  go_enter Try.func23, Try.ntmps23
  have HS := HW1.out
  subst HS
  go_wp2_with fail
  go_ret
  have e := HR.out
  rw [List.append_assoc] at e
  refine ⟨rfl, ⟨_, by rw [e]; exact HB2.out, by simp; omega, by rw [e]; exact HLN.out⟩, HG.out⟩
set_option maxRecDepth 100000 in
set_option maxHeartbeats 4000000 in
theorem replace_mid (g n c i j : Nat) (cur : List Value) (av : Addr) (A : Option Addr) (m cx : Nat) (w : World) (h : BlkL w g cur) (hl : cur.length = c) (hn : n ≤ 1048576) (hc : n ≤ c) (hc2 : c ≤ 1048576) (hij : i + 2 ≤ j) (hjn : j < n) (hv : w.cell? av = some (.slice A m cx)) (hcells : ∀ v ∈ cur.take n, v.oneCell' = true) :
    Calls Try.prog 23 #[.slice (some ⟨g, 0, none⟩) n c, .int .i64 (i : Int), .int .i64 (j : Int), .slice (some av) 1 1] w (ReplL g c (i + 1 + (n - j)) (cur.take i ++ [.slice A m cx] ++ (cur.take n).drop j) w) := by
  have hne : ((i : Int) == (j : Int)) = false := beq_eq_false_iff_ne.2 (by omega)
  have hne2 : ((j : Int) == (n : Int)) = false := beq_eq_false_iff_ne.2 (by omega)
  have hci : ¬ c = i := by omega
  have hci1 : ¬ c = i + 1 := by omega
  have hcj : ¬ c = j := by omega
  have hin : i ≤ n := by omega
  have hij2 : i ≤ j := by omega
  have hic : i ≤ c := by omega
  have hjc : j ≤ c := by omega
  have hjn2 : j ≤ n := by omega
  obtain ⟨t, ht⟩ : ∃ t, t = i + 1 + (n - j) := ⟨_, rfl⟩
  obtain ⟨k, hk⟩ : ∃ k, k = i + 1 := ⟨_, rfl⟩
  have hki : (i : Int) + 1 = (k : Int) := by omega
  rw [← ht]
  generalize hTL : cur.take i ++ [Value.slice A m cx] ++ (cur.take n).drop j = TL
  have HTL := Lib.hid hTL
  have HT := Lib.hid ht
  have HK := Lib.hid hk
  have htn : t < n := by omega
  have htc : t ≤ c := by omega
  have hct : ¬ c = t := by omega
  have hit : i ≤ t := by omega
  have hkt : k ≤ t := by omega
  have hkj : k ≤ j := by omega
  have hck : ¬ c = k := by omega
  have htot : (k : Int) + ((n - j : Nat) : Int) = (t : Int) := by omega
  have hkw : IntKind.i64.wrap (k : Int) = (k : Int) := IntWalk.i64_in _ (by omega)
  have htw : IntKind.i64.wrap (t : Int) = (t : Int) := IntWalk.i64_in _ (by omega)
  clear ht hk hTL hci1
  go_enter Try.func23, Try.ntmps23
  go_wp2_with fail
  go_quiet (fail)
  have hB : BlkL (w.drewN nq) g cur := h
  have hv' : (w.drewN nq).cell? av = some (.slice A m cx) := hv
  have hG0 : w.grownBy (w.drewN nq) (some g) := ⟨rfl, rfl, rfl, Nat.le_refl _, fun _ _ _ => rfl⟩
  generalize w.drewN nq = W at hB hv' hG0 ⊢
  have ht := HT.out
  have hk := HK.out
  have hil : i < cur.length := by omega
  -- the first copy
  obtain ⟨R1, hR1⟩ : ∃ R1, R1 = cur.take i ++ ([Value.slice A m cx] ++ cur.drop (i + 1)) := ⟨_, rfl⟩
  have hcp1 : ∀ ty, (Builtin.copy_ #[46, 46] ty #[.slice (some ⟨g, i, none⟩) (t - i) (c - i), .slice (some av) 1 1]).run Try.prog W = .ok (.int .i64 1) (W.setRow g R1.toArray) := fun ty => by
    rw [hR1]
    exact run_copyL W ty g i (t - i) (c - i) av 1 1 cur [.slice A m cx] hB (by show 1 = min 1 (t - i); omega) (fun q v hq => by
      match q with
      | 0 => simp at hq; subst hq; exact hv'
      | q + 1 => simp at hq) (by simp; omega) (by simp; rfl)
  have hl1 : R1.length = c := by rw [hR1]; simp; omega
  have hB1 := hB.setRow R1
  have hG1 := gb_trans hG0 (gb_setRow W g R1.toArray)
  have hget1 : ∀ q, i + 1 ≤ q → R1[q]? = cur[q]? := fun q hq => by
    rw [hR1, ← List.append_assoc, List.getElem?_append_right (by simp; omega), List.getElem?_drop]
    congr 1
    simp
    omega
  have htk1 : R1.take (i + 1) = cur.take i ++ [Value.slice A m cx] := by
    rw [hR1, ← List.append_assoc, List.take_append_of_le_length (by simp; omega), List.take_of_length_le (by simp; omega)]
  generalize W.setRow g R1.toArray = W1 at hcp1 hB1 hG1
  -- the second one
  obtain ⟨cs, hcs⟩ : ∃ cs, cs = (cur.take n).drop j := ⟨_, rfl⟩
  have hlc : cs.length = n - j := by rw [hcs]; simp; omega
  have hone : ∀ v ∈ cs, v.oneCell' = true := fun v hv => hcells v (by rw [hcs] at hv; exact List.mem_of_mem_drop hv)
  have hBd : BlkL W1.drew g R1 := hB1
  have hGd : w.grownBy W1.drew (some g) := ⟨hG1.os, hG1.tape, hG1.output, hG1.size, hG1.block⟩
  obtain ⟨R2, hR2⟩ : ∃ R2, R2 = R1.take k ++ (cs ++ R1.drop (k + cs.length)) := ⟨_, rfl⟩
  have hcp2 : ∀ ty, (Builtin.copy_ #[46, 46] ty #[.slice (some ⟨g, k, none⟩) (t - k) (c - k), .slice (some ⟨g, j, none⟩) (n - j) (c - j)]).run Try.prog W1.drew = .ok (.int .i64 (n - j : Nat)) (W1.drew.setRow g R2.toArray) := fun ty => by
    have := run_copyL W1.drew ty g k (t - k) (c - k) ⟨g, j, none⟩ (n - j) (c - j) R1 cs hBd (by rw [hlc]; show n - j = min (n - j) (t - k); omega) (fun q v hq => by
      rw [Addr.add_lit, hBd.cell, hget1 _ (by omega)]
      rw [hcs, List.getElem?_drop, List.getElem?_take] at hq
      split at hq
      · exact hq
      · cases hq) (by omega) hone
    rw [hlc] at this
    rw [hR2, hlc]
    exact this
  have hl2 : R2.length = c := by rw [hR2]; simp; omega
  have hB2 := hBd.setRow R2
  have hG2 := gb_trans hGd (gb_setRow W1.drew g R2.toArray)
  have htk2 : R2.take t = cur.take i ++ [Value.slice A m cx] ++ (cur.take n).drop j := by
    rw [hR2, hk, htk1, ← hcs, ← List.append_assoc, List.take_append_of_le_length (by simp; omega), List.take_of_length_le (by simp; omega)]
  generalize W1.drew.setRow g R2.toArray = W2 at hcp2 hB2 hG2
  -- what is cleared
  obtain ⟨R3, hR3⟩ : ∃ R3, R3 = R2.take t ++ List.replicate (n - t) (Value.slice none 0 0) ++ R2.drop (t + (n - t)) := ⟨_, rfl⟩
  have hcl : ∀ ty, (Builtin.clear_ #[46] ty #[.slice (some ⟨g, t, none⟩) (n - t) (c - t)]).run Try.prog W2 = .ok (.tuple #[]) (W2.setRow g R3.toArray) := fun ty => by
    rw [hR3]
    exact run_clearL W2 ty g t (n - t) (c - t) R2 hB2 (by omega) (by omega)
  have hl3 : R3.length = c := by rw [hR3]; simp; omega
  have hB3 := hB2.setRow R3
  have hG3 := gb_trans hG2 (gb_setRow W2 g R3.toArray)
  rw [htk2, List.append_assoc] at hR3
  have hlt : (cur.take i ++ [Value.slice A m cx] ++ (cur.take n).drop j).length = t := by simp; omega
  rw [HTL.out] at hR3 hlt
  have HFIN : Hid (ReplL g c t TL w (.returned (.slice (some ⟨g, 0, none⟩) t c)) (W2.setRow g R3.toArray)) := Lib.hid ⟨rfl, ⟨List.replicate (n - t) (Value.slice none 0 0) ++ R2.drop (t + (n - t)), by rw [← hR3]; exact hB3, hlt, by rw [← hR3]; exact hl3⟩, hG3⟩
  generalize W2.setRow g R3.toArray = W3 at hcl HFIN
  clear ht hk hv h hR1 hR2 hR3 hcs hB hB1 hB2 hB3 hG0 hG1 hG2 hG3 hGd hBd hl1 hl2 hl3 hget1 htk1 htk2 hlt hone hlc hv' hcells
  go_wp2_with fail
  go_still_tail 9, (by kernel_rfl)
  change wpList _ _ _ _ _ W1.drew
  go_wp2_with fail
  go_ret
  exact HFIN.out
theorem Cells.gb {w w' : World} {g : Nat} {I : Itr} {V : List Value} (h : Cells w w.heap.size g I V) (hg : w.grownBy w' (some g)) : Cells w' w'.heap.size g I V :=
  h.keep hg.size fun p hp hne => World.cell?_of_block (hg.block p.block hp (fun e => by injection e with e; exact hne e))
/-- A row of items, a stretch of two and more of which is one. -/
theorem replace_any (B g n c i j : Nat) (I : Itr) (x : List Nd) (av : Addr) (v : Value) (w : World) (h : OwnL w B g n c I) (hv : w.cell? av = some v) (hx : ItemAt w w.heap.size g x v) (hav : av.block ≠ g) (hij : i + 2 ≤ j) (hjn : j ≤ n) (hc : c ≤ 1048576) :
    Calls Try.prog 23 #[.slice (some ⟨g, 0, none⟩) n c, .int .i64 (i : Int), .int .i64 (j : Int), .slice (some av) 1 1] w fun e w' =>
      e = .returned (.slice (some ⟨g, 0, none⟩) (i + 1 + (n - j)) c) ∧ OwnL w' B g (i + 1 + (n - j)) c (I.take i ++ x :: I.drop j) ∧ w.grownBy w' (some g) := by
  obtain ⟨V, how, hcl⟩ := h.ex
  have hlow := h.low
  have hlt := h.lt
  have hnc := h.cap
  have hln := h.len
  rcases how.2 with ⟨hv, _⟩ | ⟨g', cap, cur, hv', hbg, hg, _, hcm, hcs, htake⟩
  · cases hv
  · simp only [Value.slice.injEq, Option.some.injEq, Addr.mk.injEq, and_true, true_and] at hv'
    obtain ⟨rfl, rfl⟩ := hv'
    rw [Nat.mul_one] at hcs htake
    have hB : BlkL w g cur.toList := by unfold BlkL; simpa using hg
    have hl : cur.toList.length = c := by rw [Array.length_toList, hcs]
    obtain ⟨A, m, cx, hveq⟩ : ∃ A m cx, v = .slice A m cx := by
      obtain ⟨A, cx, e, _⟩ := hx
      exact ⟨A, _, cx, e⟩
    have hti : cur.toList.take i = V.take i := by rw [← htake, List.take_take, Nat.min_eq_left (by omega)]
    have hfin : ∀ (TL : List Value) (e : Ending) (w' : World), TL = V.take i ++ [v] ++ V.drop j → ReplL g c (i + 1 + (n - j)) TL w e w' →
        e = .returned (.slice (some ⟨g, 0, none⟩) (i + 1 + (n - j)) c) ∧ OwnL w' B g (i + 1 + (n - j)) c (I.take i ++ x :: I.drop j) ∧ w.grownBy w' (some g) := by
      rintro TL e w' rfl ⟨rfl, ⟨rest, hb, hlen, hlen2⟩, hgb⟩
      refine ⟨rfl, ⟨by simp; omega, ⟨V.take i ++ [v] ++ V.drop j, ⟨by rw [Nat.mul_one]; exact hlen, .inr ⟨g, c, _, rfl, hbg, hb, by rw [List.length_append] at hlen2; omega, hcm, by rw [List.size_toArray, Nat.mul_one]; exact hlen2, ?_⟩⟩, ?_⟩, hlow, Nat.lt_of_lt_of_le hlt hgb.size, by rw [List.length_append] at hlen2; omega⟩, hgb⟩
      · rw [Nat.mul_one]
        exact List.take_left' hlen
      · have h1 := ((hcl.take i).append (Cells.single hx)).append (hcl.drop j)
        rw [List.append_assoc, List.singleton_append] at h1
        exact h1.gb hgb
    subst hveq
    by_cases hj : j < n
    · refine (replace_mid g n c i j cur.toList av A m cx w hB hl (by omega) hnc hc hij hj hv (by rw [htake]; exact hcl.one)).mono fun e w' hR => ?_
      rw [hti, htake] at hR
      exact hfin _ e w' rfl hR
    · obtain rfl : j = n := by omega
      refine (replace_end g j c i cur.toList av A m cx w hB hl (by omega) hnc hc hij hv hav).mono fun e w' hR => ?_
      have hd : V.drop j = [] := List.drop_eq_nil_of_le (by rw [hcl.1]; omega)
      rw [hti] at hR
      refine hfin _ e w' (by rw [hd, List.append_nil]) ?_
      rw [Nat.sub_self]
      exact hR
end Go.Proofs.Ytjbflndlfdekiaa
