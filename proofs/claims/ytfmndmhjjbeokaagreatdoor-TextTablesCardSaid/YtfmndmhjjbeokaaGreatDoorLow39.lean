import Derived.Test.YtfmndmhjjbeokaaGreatDoorLow38
import Derived.Test.YtfmndmhjjbeokaaGreatDoorLow30
import Derived.Test.YtfmndmhjjbeokaaGreatDoorLow28
import Derived.Test.YtfmndmhjjbeokaaGreatDoorLow23
namespace Go.Proofs.YtfmndmhjjbeokaaGreatDoor
set_option maxRecDepth 100000
open Go.RowKit Tab Txt
set_option linter.unusedSimpArgs false
set_option linter.unusedVariables false
theorem ttab1_any {B g bp : Nat} {st : Option (List UInt8)} {w : World} (h : RdrS B g st w) (hc : w.cell? ⟨bp, 0, none⟩ = some (.pointer (some ⟨g, 0, none⟩))) : Calls Tryz.prog 48 #[.pointer (some ⟨bp, 0, none⟩)] w (IntX B g (st.bind numW) w) := by
  have HN := Lib.hid (tnumber_any h lim40 (Nat.le_refl _))
  clear h
  go_enter Tryz.func48, Tryz.ntmps48
  go_wp2_with fail
  refine HN.out.mono ?_
  rintro e w1 ⟨v, s1, rfl, q1, q2, hg, h1⟩
  have HG := Lib.hid hg
  have H1 := Lib.hid h1
  have HV : Hid (In64 v) := Lib.hid ⟨by omega, by omega⟩
  clear q1 q2 hg h1 HN hc
  go_wp2_with fail
  go_ret
  exact ⟨v, s1, rfl, HV.out, HG.out, H1.out⟩
def TabX (Br gr : Nat) (R : Option (List Nd × List UInt8)) (w : World) (e : Ending) (w' : World) : Prop := ∃ (l : List Nd) (st' : Option (List UInt8)) (A : Option Addr) (n c : Nat), e = .returned (.slice A n c) ∧ l.length = n ∧ n ≤ 128 ∧ OwnV 54 3 w' w.heap.size A n c (ns l) ∧ Got R l st' ∧ Rpo Br gr st' w w'
theorem Kx.rpo {X g B : Nat} {st : Option (List UInt8)} {w w' : World} (h : Kx X g w w') (hX : X = w.heap.size) (hr : RdrS B g st w') : Rpo B g st w w' :=
  ⟨hr, h.os, h.tape, h.output, h.size, fun i hi hne => h.block i (by omega) fun e => hne (by rw [e])⟩
set_option maxHeartbeats 1000000 in
theorem ttable_any {Br gr kf : Nat} {cap : Array Value} {w : World} {whose : List UInt8 → Option (Int × List UInt8)} {st : Option (List UInt8)} (HW : WhoW w.heap.size Br gr w kf cap whose) (h : RdrS Br gr st w) (hl : (st.getD []).length ≤ 1048576) :
    Calls Tryz.prog 47 #[.pointer (some ⟨gr, 0, none⟩), .func (.func kf) #[] cap] w (TabX Br gr (st.bind (tableS whose)) w) := by
  have hb := bl1 w (.cells #[.pointer (some ⟨gr, 0, none⟩), .func (.func kf) #[] cap, .slice none 0 0] 122)
  have hT : TreC w.heap.size w.heap.size gr (.func (.func kf) #[] cap) none 0 0 (w.alloc (.cells #[.pointer (some ⟨gr, 0, none⟩), .func (.func kf) #[] cap, .slice none 0 0] 122)) :=
    ownV_lit w 122 3 w.heap.size #[.pointer (some ⟨gr, 0, none⟩), .func (.func kf) #[] cap, .slice none 0 0] 1 rfl (Nat.le_refl _) (by unfold maxLen; omega)
  have hTS : TS w.heap.size Br gr w.heap.size (.func (.func kf) #[] cap) w st [] none 0 0 (w.alloc (.cells #[.pointer (some ⟨gr, 0, none⟩), .func (.func kf) #[] cap, .slice none 0 0] 122)) :=
    ⟨OwnV.below h rfl hb, hT, OwnV.nil _ _ _ _, rfl, by omega, Kx.bel hb, hb.size⟩
  have hN := tnode_any (gt := w.heap.size) HW 16 1 rfl st [] none 0 0 _ hTS hl
  have hR : st.bind (nodeS whose 16 (128 - 0)) = st.bind (tableS whose) := rfl
  rw [hR] at hN
  have HN := Lib.hid hN
  generalize st.bind (tableS whose) = R at HN ⊢
  have hbd : Tryz.prog.built 122 [(0, .pointer (some ⟨gr, 0, none⟩)), (1, .func (.func kf) #[] cap)] = some #[.pointer (some ⟨gr, 0, none⟩), .func (.func kf) #[] cap, .slice none 0 0] := rfl
  clear hb hT hTS hN hR h hl HW
  go_enter Tryz.func47, Tryz.ntmps47
  go_wp2_with fail
  refine HN.out.mono ?_
  rintro e w1 ⟨rfl, l, st', A, n, c, hg, h1⟩
  have HG := Lib.hid hg
  have H1 := Lib.hid h1
  clear hg h1 HN hbd
  obtain ⟨m0, m1, m2⟩ := H1.out.cells
  go_wp2_with fail
  go_ret
  exact ⟨l, st', A, n, c, rfl, by have := H1.out.len; simpa using this, H1.out.le, by have := H1.out.ow; simpa using this, HG.out, H1.out.kx.rpo rfl H1.out.rd⟩
def tabD (s : List UInt8) : Option (List Nd) := match tableS numW s with
  | some (l, []) => some l
  | _ => none
set_option maxHeartbeats 1000000 in
theorem tTable_any (s : List UInt8) (w : World) (hs : s.length ≤ 1048576) : Calls Tryz.prog 19 #[.string (bsOf s)] w (TbA (tabD s) w) := by
  have b1 := bl1 w (.cells #[.string (bsOf s), .bool false] 79)
  have o1 : RdrS w.heap.size w.heap.size (some s) (w.alloc (.cells #[.string (bsOf s), .bool false] 79)) := ownV_lit w 79 2 w.heap.size #[.string (bsOf s), .bool false] 1 rfl (Nat.le_refl _) (by unfold maxLen; omega)
  have hz : (w.alloc (.cells #[.string (bsOf s), .bool false] 79)).heap.size = w.heap.size + 1 := by simp
  obtain ⟨W1, hW1⟩ : ∃ W1, W1 = w.alloc (.cells #[.string (bsOf s), .bool false] 79) := ⟨_, rfl⟩
  rw [← hW1] at b1 o1 hz
  have b2 := bl1 W1 (.cells #[.pointer (some ⟨w.heap.size, 0, none⟩)] 77)
  have o2 : RdrS w.heap.size w.heap.size (some s) (W1.alloc (.cells #[.pointer (some ⟨w.heap.size, 0, none⟩)] 77)) := OwnV.below o1 rfl b2
  have c2 : (W1.alloc (.cells #[.pointer (some ⟨w.heap.size, 0, none⟩)] 77)).cell? ⟨W1.heap.size, 0, none⟩ = some (.pointer (some ⟨w.heap.size, 0, none⟩)) := World.cell?_alloc_mark _ _ _ _ _
  have HSZ : Hid (w.heap.size + 2 = (W1.alloc (.cells #[.pointer (some ⟨w.heap.size, 0, none⟩)] 77)).heap.size) := Lib.hid (by simp [hz])
  have HB2 : Hid (Below w.heap.size w (W1.alloc (.cells #[.pointer (some ⟨w.heap.size, 0, none⟩)] 77))) := Lib.hid (b1.trans (b2.mono b1.size))
  rw [hz] at c2
  obtain ⟨W2, hW2⟩ : ∃ W2, W2 = W1.alloc (.cells #[.pointer (some ⟨w.heap.size, 0, none⟩)] 77) := ⟨_, rfl⟩
  rw [← hW2] at o2 c2 HSZ HB2
  have HW : WhoW W2.heap.size w.heap.size w.heap.size W2 48 #[.pointer (some ⟨w.heap.size + 1, 0, none⟩)] numW := by
    refine ⟨fun s p hp => numW_le hp, fun args w => by simp, fun st W hk hr hl => ttab1_any hr ?_⟩
    have := HSZ.out
    rw [cell_block (hk.block (w.heap.size + 1) (by omega) (by omega))]
    exact c2
  have HT := Lib.hid (ttable_any HW o2 (by rw [Option.getD_some]; exact hs))
  have hR : Hid (∀ l st', Got ((some s).bind (tableS numW)) l st' → (st' = some [] → tabD s = some l) ∧ (st' ≠ some [] → tabD s = none)) := Lib.hid fun l st' hg => by
    obtain ⟨e1, e2⟩ := hg
    rw [Option.bind_some] at e1 e2
    unfold tabD
    cases hx : tableS numW s with
    | none =>
      rw [hx] at e1
      rw [e1]
      exact ⟨fun e => (by cases e), fun _ => rfl⟩
    | some x =>
      obtain ⟨l', r⟩ := x
      rw [hx] at e1 e2
      have h3 := e2 _ rfl
      rw [e1, h3]
      cases r with
      | nil => exact ⟨fun _ => rfl, fun e => absurd rfl e⟩
      | cons c r => exact ⟨fun e => (by injection e with e; cases e), fun _ => rfl⟩
  have hbd : Tryz.prog.built 79 [(0, .string (bsOf s))] = some #[.string (bsOf s), .bool false] := rfl
  generalize (some s).bind (tableS numW) = R at HT hR
  generalize tabD s = D at hR ⊢
  have C2 := Lib.hid c2
  subst hW2; subst hW1
  clear b1 o1 hz b2 o2 c2 HW
  generalize bsOf s = sv at HT HSZ HB2 hbd C2 ⊢
  go_enter Tryz.func19, Tryz.ntmps19
  go_wp2_with fail
  generalize (w.alloc (.cells #[.string sv, .bool false] 79)).alloc (.cells #[.pointer (some ⟨w.heap.size, 0, none⟩)] 77) = W2 at HT HSZ HB2 C2 ⊢
  refine HT.out.mono ?_
  rintro e w1 ⟨l, st', A, n, c, rfl, hl, hn, ho, hg, h1⟩
  have hq := hR.out l st' hg
  have c1 : w1.cell? ⟨w.heap.size + 1, 0, none⟩ = some (.pointer (some ⟨w.heap.size, 0, none⟩)) := by
    have := HSZ.out
    rw [cell_block (h1.gb.block (w.heap.size + 1) (by omega) (by intro e; injection e with e; omega))]
    exact C2.out
  have HO := Lib.hid ho
  have HLN := Lib.hid hl
  have HB3 : Hid (Below w.heap.size w w1) := Lib.hid (HB2.out.trans (ogb_below h1.gb (Nat.le_refl _) HB2.out.size))
  have HD := Lib.hid (tdone_any h1.rd)
  have HBS := Lib.hid HB2.out.size
  clear hg h1 ho hl HT hR C2
  by_cases hst : st' = some []
  · have HQ := Lib.hid (hq.1 hst)
    rw [decide_eq_true hst] at HD
    clear hq hst
    go_wp2_with fail
    refine HD.out.mono ?_
    rintro e w2 ⟨rfl, rfl⟩
    go_wp2_with fail
    go_ret2
    rw [HQ.out]
    refine ⟨HB3.out, A, c, by rw [HLN.out]; rfl, ?_⟩
    have := HO.out
    rw [HLN.out]
    exact OwnV.weak this HBS.out
  · have HQ := Lib.hid (hq.2 hst)
    rw [decide_eq_false hst] at HD
    clear hq hst
    go_wp2_with fail
    refine HD.out.mono ?_
    rintro e w2 ⟨rfl, rfl⟩
    go_wp2_with fail
    go_ret2
    rw [HQ.out]
    exact ⟨HB3.out, rfl⟩
end Go.Proofs.YtfmndmhjjbeokaaGreatDoor
namespace Go.Proofs.YtfmndmhjjbeokaaGreatDoor
set_option maxRecDepth 100000
open Go.RowKit Tab Txt
set_option linter.unusedSimpArgs false
set_option linter.unusedVariables false
theorem fine_mem : ∀ (f : F), f.ok → ∀ y ∈ f.flat, fine y = true
  | .nil, _, y, hy => by simp [F.flat] at hy
  | .cons x k r, h, y, hy => by
    obtain ⟨h1, _, h3, h4⟩ := h
    simp only [F.flat, List.mem_cons, List.mem_append] at hy
    rcases hy with rfl | hy | hy
    · exact h1
    · exact fine_mem k h3 y hy
    · exact fine_mem r h4 y hy
def num6 : List (List UInt8) := (List.range 6).map numB
theorem num6_get {i : Nat} (h : i < 6) : num6[i]? = some (numB i) := by
  unfold num6
  rw [List.getElem?_map, List.getElem?_range h]
  rfl
theorem num6_len : ∀ s ∈ num6, s.length ≤ 64 := fun s hs => by
  obtain ⟨i, hi, rfl⟩ := List.mem_map.1 hs
  have h1 := List.mem_range.1 hi
  rw [numB_low (by omega)]
  show 1 ≤ 64
  omega
def nodeT (x : Nd) (k : F) : List UInt8 := txN (nmP num6) x (txX (nmP num6) k false)
end Go.Proofs.YtfmndmhjjbeokaaGreatDoor
namespace Go.Proofs.YtfmndmhjjbeokaaGreatDoor
open Go.RowKit Tab
set_option linter.unusedSimpArgs false
set_option linter.unusedVariables false
theorem flat_take {α : Type} {f : α → List Value} {s : Nat} (hf : ∀ x, (f x).length = s) (l : List α) (k : Nat) : (l.take k).flatMap f = (l.flatMap f).take (k * s) := by
  induction l generalizing k with
  | nil => simp
  | cons x l ih =>
    cases k with
    | zero => simp
    | succ k =>
      rw [List.take_succ_cons, List.flatMap_cons, List.flatMap_cons, ih, List.take_append, hf, Nat.succ_mul, List.take_of_length_le (l := f x) (by rw [hf]; omega)]
      congr 2
      omega
theorem RdV.take {w : World} {B : Nat} {A : Option Addr} {l : List Value} (h : RdV w B A l) (k : Nat) : RdV w B A (l.take k) := fun hl => by
  obtain ⟨ad, e, hb, hc⟩ := h (by rw [List.length_take] at hl; omega)
  refine ⟨ad, e, hb, fun j v hj => hc j v ?_⟩
  rw [List.getElem?_take] at hj
  split at hj
  · exact hj
  · cases hj
theorem RdB.take {α : Type} {f : α → List Value} {s : Nat} {w : World} {B n k : Nat} {A : Option Addr} {l : List α} (h : RdB f w B A n l) (hf : ∀ x, (f x).length = s) (hk : k ≤ n) : RdB f w B A k (l.take k) :=
  ⟨by rw [List.length_take, h.len]; omega, by rw [flat_take hf]; exact h.rd.take _⟩
def fewX (x : Cf) : Cf := ⟨x.A1, x.A2, x.A3, min x.n1 8, min x.n2 12, min x.n3 5, x.c1, x.c2, x.c3, x.P.take (min x.n1 8), x.C.take (min x.n2 12), x.T.take (min x.n3 5)⟩
theorem CfR.few {w : World} {x : Cf} (h : CfR w x) : CfR w (fewX x) := by
  have k1 := h.k1
  have k2 := h.k2
  have k3 := h.k3
  have m1 := h.m1
  have m2 := h.m2
  have m3 := h.m3
  have z := h.z
  exact ⟨h.pp.take pcq_len (Nat.min_le_left _ _), h.ch.take cc_len (Nat.min_le_left _ _), h.tb.take tcn_len (Nat.min_le_left _ _), fun y hy => h.pt y (List.mem_of_mem_take hy), fun y hy => h.tt y (List.mem_of_mem_take hy), by show min x.n1 8 ≤ x.c1; omega, by show min x.n2 12 ≤ x.c2; omega, by show min x.n3 5 ≤ x.c3; omega, by show min x.n1 8 ≤ _; omega, by show min x.n2 12 ≤ _; omega, by show min x.n3 5 ≤ _; omega, by have := z.1; show min x.n1 8 * 104 ≤ _; omega, by have := z.2.1; show min x.n2 12 * 48 ≤ _; omega, by have := z.2.2.1; show min x.n3 5 * 24 ≤ _; omega, fun y hy => z.2.2.2.1 y (List.mem_of_mem_take hy), fun y hy => z.2.2.2.2 y (List.mem_of_mem_take hy)⟩
end Go.Proofs.YtfmndmhjjbeokaaGreatDoor
