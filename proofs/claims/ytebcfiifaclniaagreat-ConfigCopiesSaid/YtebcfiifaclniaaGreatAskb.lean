/- What is asked of a configuration: the walk. -/
import Derived.Test.YtebcfiifaclniaaGreatLow7
import Derived.Test.YtebcfiifaclniaaGreatYp
import Derived.Test.YtebcfiifaclniaaGreatLow8
import Derived.Deep.CutBlock
namespace Go.Proofs.YtebcfiifaclniaaGreat
open Go.RowKit Tab
set_option linter.unusedSimpArgs false
set_option linter.unusedVariables false

/-- The runs of a configuration's tables, row by row: the first loop of asks. -/
def RowsOk (w : World) (B : Nat) (A : Option Addr) (n c : Nat) (L : List Rw) : Prop :=
  OwnV 75 1 w B A n c (L.map Rw.v) ∧ ∀ r ∈ L, RwAt w r ∧ ∀ b, obk r.a = some b → B ≤ b ∧ b < w.heap.size ∧ obk A ≠ some b
theorem RowsOk.only {p : Nat → Prop} {w w' : World} {B n c : Nat} {A : Option Addr} {L : List Rw} (h : RowsOk w B A n c L) (ho : Only p w w') (hp : ∀ k, p k → k < B) : RowsOk w' B A n c L := by
  refine ⟨h.1.keep fun k hB hk => ho.block k hk fun hpk => by have := hp k hpk; omega, fun r hr => ⟨(h.2 r hr).1.only ho fun b hb hpb => ?_, fun b hb => ⟨((h.2 r hr).2 b hb).1, Nat.lt_of_lt_of_le ((h.2 r hr).2 b hb).2.1 ho.size, ((h.2 r hr).2 b hb).2.2⟩⟩⟩
  have h1 := ((h.2 r hr).2 b hb).1
  have h2 := hp b hpb
  omega
theorem RowsOk.at_ {w : World} {B n c : Nat} {A : Option Addr} {L : List Rw} (h : RowsOk w B A n c L) {i : Nat} (hi : i < n) : ∃ g r, A = some ⟨g, 0, none⟩ ∧ B ≤ g ∧ g < w.heap.size ∧ L[i]? = some r ∧ w.cell? ⟨g, i, none⟩ = some (.slice r.a r.n r.c) ∧ RwAt w r := by
  obtain ⟨g, rfl, hBg, hgl⟩ := h.1.block (by omega)
  have hl := h.1.len
  rw [List.length_map, Nat.mul_one] at hl
  have hil : i < L.length := by omega
  refine ⟨g, L[i], rfl, hBg, hgl, List.getElem?_eq_getElem hil, ?_, (h.2 _ (List.getElem_mem hil)).1⟩
  refine (World.ownsRow.cellAt h.1 i (by omega)).trans ?_
  rw [List.getElem?_map, List.getElem?_eq_getElem hil]
  rfl
/-- Parts that are P's but for what is asked of them. -/
def PartsL (P P' : List PtV) : Prop := ∀ x ∈ P', In64 x.per ∧ ∃ x0 ∈ P, x.pa = x0.pa ∧ x.pn = x0.pn ∧ x.name = x0.name
theorem PartsL.set {P P' : List PtV} (h : PartsL P P') {i : Nat} {x : PtV} (hx : P'[i]? = some x) {y z : Int} (hz : In64 z) : PartsL P (P'.set i { x with bud := y, per := z }) := fun u hu => by
  rcases List.mem_or_eq_of_mem_set hu with hu | rfl
  · exact h u hu
  · obtain ⟨_, x0, h0, h1⟩ := h x (List.mem_of_getElem? hx)
    exact ⟨hz, x0, h0, h1⟩
/-- No channel is late, by any of the tables. -/
def LateOk (T : List TbV) (C : List ChV) : Prop := ∀ x ∈ C, (0 ≤ x.late ∧ x.late ≤ 4096) ∧ ∀ t ∈ T, chLate (wordsL (rowF t)) x = false
/-- No partition gets too few, by any of the tables. -/
def ShortOk (T : List TbV) (P : List PtV) : Prop := ∀ k x, P[k]? = some x → ∀ t ∈ T, ptShort (wordsL (rowF t)) k x = false
theorem LateOk.start {T : List TbV} {C : List ChV} (h : ∀ x ∈ C, x.late = 0) : LateOk T C := fun x hx => ⟨by have := h x hx; omega, fun t _ => by
  have := h x hx
  unfold chLate
  rw [decide_eq_false (by omega)]
  rfl⟩
theorem ShortOk.start {T : List TbV} {P : List PtV} (h : ∀ x ∈ P, x.bud ≤ 0) : ShortOk T P := fun k x hx t _ => by
  have := h x (List.mem_of_getElem? hx)
  unfold ptShort
  rw [decide_eq_false (by omega)]
  rfl
theorem LateOk.set {T : List TbV} {C : List ChV} (h : LateOk T C) {i : Nat} {x : ChV} {z z' : Int} (hz : ∀ t ∈ T, 0 ≤ lateL (wordsL (rowF t)) x.from_ x.to_ ∧ lateL (wordsL (rowF t)) x.from_ x.to_ ≤ z) (hzz : z ≤ z') (hz0 : 0 ≤ z') (hz4 : z' ≤ 4096) : LateOk T (C.set i { x with late := z' }) := fun u hu => by
  rcases List.mem_or_eq_of_mem_set hu with hu | rfl
  · exact h u hu
  · refine ⟨⟨hz0, hz4⟩, fun t ht => ?_⟩
    have h1 := hz t ht
    unfold chLate
    dsimp only
    rw [decide_eq_false (show ¬ lateL (wordsL (rowF t)) x.from_ x.to_ < 0 by omega), decide_eq_false (show ¬ z' < lateL (wordsL (rowF t)) x.from_ x.to_ by omega)]
    simp
theorem ShortOk.set {T : List TbV} {P : List PtV} (h : ShortOk T P) {i : Nat} {x : PtV} {y z z' : Int} (hz : ∀ t ∈ T, z ≤ budL (wordsL (rowF t)) (i : Int) y) (hzz : z' ≤ z) : ShortOk T (P.set i { x with bud := z', per := y }) := fun k u hu t ht => by
  by_cases hk : i = k
  · subst hk
    by_cases hi : i < P.length
    · rw [List.getElem?_set_self hi] at hu
      injection hu with hu
      subst hu
      have h1 := hz t ht
      unfold ptShort
      dsimp only
      rw [decide_eq_false (show ¬ budL (wordsL (rowF t)) (i : Int) y < z' by omega)]
      simp
    · rw [List.getElem?_eq_none (by simpa using hi)] at hu
      cases hu
  · rw [List.getElem?_set_ne hk] at hu
    exact h k u hu t ht
theorem ShortOk.none {T : List TbV} {P : List PtV} (h : ShortOk T P) {i : Nat} {x : PtV} : ShortOk T (P.set i { x with bud := 0, per := 0 }) := fun k u hu t ht => by
  by_cases hk : i = k
  · subst hk
    by_cases hi : i < P.length
    · rw [List.getElem?_set_self hi] at hu
      injection hu with hu
      subst hu
      rfl
    · rw [List.getElem?_eq_none (by simpa using hi)] at hu
      cases hu
  · rw [List.getElem?_set_ne hk] at hu
    exact h k u hu t ht
/-- One table more. -/
theorem mem_take_succ {α : Type} {l : List α} {j : Nat} {x : α} (h : l[j]? = some x) {y : α} (hy : y ∈ l.take (j + 1)) : y ∈ l.take j ∨ y = x := by
  obtain ⟨hj, e⟩ := List.getElem?_eq_some_iff.1 h
  rw [List.take_succ_eq_append_getElem hj, e] at hy
  rcases List.mem_append.1 hy with hy | hy
  · exact .inl hy
  · exact .inr (by simpa using hy)
theorem row_of {L : List Rw} {T : List TbV} (h : L.map Rw.l = T.map rowF) {j : Nat} {r : Rw} (hr : L[j]? = some r) : ∃ t, T[j]? = some t ∧ r.l = rowF t := by
  have h1 : (L.map Rw.l)[j]? = some r.l := by rw [List.getElem?_map, hr]; rfl
  rw [h, List.getElem?_map] at h1
  cases ht : T[j]? with
  | none => rw [ht] at h1; cases h1
  | some t => rw [ht] at h1; injection h1 with h1; exact ⟨t, rfl, h1.symm⟩
theorem zero_more {P : List PtV} {i : Nat} {x0 : PtV} (h : ∀ k x, k < i → P[k]? = some x → x.bud = 0 ∧ x.per = 0) : ∀ k x, k < i + 1 → (P.set i { x0 with bud := 0, per := 0 })[k]? = some x → x.bud = 0 ∧ x.per = 0 := fun k x hk hx => by
  rw [List.getElem?_set] at hx
  split at hx
  · split at hx
    · injection hx with hx
      rw [← hx]
      exact ⟨rfl, rfl⟩
    · cases hx
  · exact h k x (by omega) hx
theorem lateL_few {t : TbV} (h : Frame t) (p q : Int) : lateL (wordsL (rowF t)) p q ≤ 90 := by
  have h1 := lateL_le (wordsL (rowF t)) p q
  rw [wordsL_len] at h1
  have h2 : ticks (rowF t) ≤ 90 := by unfold rowF; rw [ticks_tidy]; exact h.2
  omega
/-- What asks leaves. -/
def AsksP (p : Nat → Prop) (B b : Nat) (A : Option Addr) (m c : Nat) (f : Nat → Int) (A1 A2 A3 : Option Addr) (n1 n2 n3 c1 c2 c3 : Nat) (P : List PtV) (C : List ChV) (T : List TbV) (B1 : Nat) (w : World) (e : Ending) (w' : World) : Prop :=
  ∃ (P' : List PtV) (C' : List ChV) (at' : Nat), e = .returned (.agg #[.slice A1 n1 c1, .slice A2 n2 c2, .slice A3 n3 c3]) ∧ RdB pcl w' w'.heap.size A1 n1 P' ∧ RdB cc w' w'.heap.size A2 n2 C' ∧ P'.map coreP = P.map coreP ∧ C'.map coreC = C.map coreC ∧ TapeW w' B b A m c f at' ∧ Only p w w' ∧ (∀ x ∈ P', In64 x.per) ∧ LateOk T C' ∧ ShortOk T P' ∧ OwnB 39 11 pcl w' B1 A1 n1 c1 P' ∧ OwnB 47 6 cc w' B1 A2 n2 c2 C' ∧ DoneR w P' C' T
set_option maxRecDepth 100000 in
set_option maxHeartbeats 16000000 in
theorem asks_any (p : Nat → Prop) (B b : Nat) (A : Option Addr) (m c : Nat) (f : Nat → Int) (hm : m ≤ 140737488351232) (at_ : Nat) (A1 A2 A3 : Option Addr) (n1 n2 n3 c1 c2 c3 B1 : Nat) (P : List PtV) (C : List ChV) (T : List TbV) (w : World)
    (T0 : TapeW w B b A m c f at_) (hP : OwnB 39 11 pcl w B1 A1 n1 c1 P) (hC : OwnB 47 6 cc w B1 A2 n2 c2 C) (hA : Asked p w A3 n3 P T) (hb1 : b < B1)
    (hp : ∀ k, p k ↔ k = b ∨ obk A1 = some k ∨ obk A2 = some k) (h12 : ∀ k, obk A1 = some k → obk A2 ≠ some k) (q1 : n1 ≤ 6) (q2 : n2 ≤ 8) (q3 : n3 ≤ 3) (q4 : 1 ≤ n3) (hlat : ∀ x ∈ C, x.late = 0) (hbud : ∀ x ∈ P, x.bud ≤ 0) :
    Calls Tryz.prog 11 #[.pointer (some ⟨b, 0, none⟩), .agg #[.slice A1 n1 c1, .slice A2 n2 c2, .slice A3 n3 c3]] w (AsksP p B b A m c f A1 A2 A3 n1 n2 n3 c1 c2 c3 P C T B1 w) := by
  have HLAT : Hid (LateOk T C) := Lib.hid (LateOk.start hlat)
  have HBUD : Hid (ShortOk T P) := Lib.hid (ShortOk.start hbud)
  have HTL : Hid (T.length = n3) := Lib.hid hA.t.len
  have HTF : Hid (∀ t ∈ T, Frame t) := Lib.hid fun t ht => (hA.tt t ht).2
  clear hlat hbud
  have hbox := box_vec w (.slice A1 n1 c1) (.slice A2 n2 c2) (.slice A3 n3 c3) 27
  have hbw := bl1 w (.cells #[.slice A1 n1 c1, .slice A2 n2 c2, .slice A3 n3 c3] 27)
  have hb2 := (bl1 (w.alloc (.cells #[.slice A1 n1 c1, .slice A2 n2 c2, .slice A3 n3 c3] 27)) (.cells #[.slice none 0 0, .slice none 0 0, .slice none 0 0] 27))
  have hres := box_vec (w.alloc (.cells #[.slice A1 n1 c1, .slice A2 n2 c2, .slice A3 n3 c3] 27)) (.slice none 0 0) (.slice none 0 0) (.slice none 0 0) 27
  have hbox2 := hbox.on hb2
  have hb3 := hbw.trans (hb2.mono hbw.size)
  have hsz1 : (w.alloc (.cells #[.slice A1 n1 c1, .slice A2 n2 c2, .slice A3 n3 c3] 27)).heap.size = w.heap.size + 1 := by simp
  rw [hsz1] at hres
  have HPP := Lib.hid hp
  have hplt : ∀ k, p k → k < w.heap.size := fun k hk => by
    rcases (hp k).1 hk with e | e | e
    · rw [e]; exact T0.lt
    · exact (hP.own.obk_ge e).2
    · exact (hC.own.obk_ge e).2
  have HPL := Lib.hid hplt
  have HO := Lib.hid (Only.bel (p := p) hb3)
  have HP0 := Lib.hid (hP.below hb3)
  have HC0 := Lib.hid (hC.below hb3)
  have HA0 := Lib.hid (hA.only HO.out)
  have HA00 := Lib.hid hA
  have HT0 := Lib.hid (T0.below hb3 T0.lt)
  have H12 := Lib.hid h12
  have HBX := Lib.hid hbox2
  have HRS := Lib.hid hres
  obtain ⟨m0, m1, m2⟩ := hbox2.three
  clear hbox hbw hb2 hres hbox2 hb3 hsz1 hp hplt hP hC hA T0 h12
  go_enter Tryz.func11, Tryz.ntmps11
  go_upto_region 2 with fail
  generalize hW : (w.alloc (.cells #[.slice A1 n1 c1, .slice A2 n2 c2, .slice A3 n3 c3] 27)).alloc (.cells #[.slice none 0 0, .slice none 0 0, .slice none 0 0] 27) = W at HO HP0 HC0 HA0 HT0 HBX HRS m0 m1 m2 ⊢
  obtain ⟨gc, hgc⟩ : ∃ gc, gc = w.heap.size := ⟨_, rfl⟩
  rw [← hgc] at HBX HRS m0 m1 m2 ⊢
  have HGC := Lib.hid hgc
  have hgcl : gc + 1 < W.heap.size := HRS.out.lt
  clear hW hgc
  go_wp2_with fail
  go_loopw [5, 7, 8, 9, 25] (fun lv _ _ _ s wr => ∃ (i c5 : Nat) (A5 : Option Addr) (L : List Rw), i ≤ n3 ∧ s = .int .i64 i ∧ lv = .slice A5 i c5 ∧ RowsOk wr W.heap.size A5 i c5 L ∧ L.map Rw.l = (T.take i).map rowF ∧ Below W.heap.size W wr) (fun _ _ _ _ s _ => n3 - (intOf s).toNat)
  case atStart => exact ⟨0, 0, none, [], by omega, rfl, rfl, ⟨OwnV.nil _ _ _ _, fun r hr => by cases hr⟩, rfl, Below.refl _ _⟩
  case round =>
    obtain ⟨i, c5, A5, L, hi, rfl, rfl, hR, hrl, hb⟩ := hrel
    have HRL := Lib.hid hrl
    clear hrl
    by_cases hlt : i < n3
    · have hAw := HA0.out.only (Only.bel (p := p) hb)
      obtain ⟨ad, t, rfl, had, ht, c0, _⟩ := hAw.t.at_ tcl_len (by omega) hlt
      have d0 := c0 _ rfl
      rw [Nat.mul_one] at d0
      obtain ⟨htt, hfr⟩ := hAw.tt t (List.mem_of_getElem? ht)
      have HOF := Lib.hid (rof_new t wr htt hfr)
      have HTI := Lib.hid ht
      clear c0 ht htt hfr hAw
      generalize hrow : rowF t = rt at HOF
      have HROW := Lib.hid hrow
      clear hrow
      obtain ⟨tA, tn, tc, tx, tk⟩ := t
      dsimp only at d0 HOF
      go_wp2_with fail
      refine HOF.out.mono ?_
      rintro e w5 ⟨r, rfl, hr, hb5, hnew, hrr⟩
      have HRR := Lib.hid hrr
      have hR5 := hR.only (Only.bel (p := fun _ => False) hb5) (fun k hk => hk.elim)
      obtain ⟨ra, rn, rc, rl⟩ := r
      unfold Rw.v
      dsimp only at hr hnew HRR ⊢
      clear hrr
      have HNX : Hid ((L ++ [(⟨ra, rn, rc, rl⟩ : Rw)]).map Rw.l = (T.take (i + 1)).map rowF) := Lib.hid (by
        have h1 := HTI.out
        obtain ⟨hi', e⟩ := List.getElem?_eq_some_iff.1 h1
        rw [List.take_succ_eq_append_getElem hi', e, List.map_append, List.map_append, HRL.out]
        show _ ++ [rl] = _ ++ [rowF _]
        rw [HROW.out, HRR.out])
      have hbl := bl1 w5 (.cells #[.slice ra rn rc] 75)
      have hR6 := hR5.only (Only.bel (p := fun _ => False) hbl) (fun k hk => hk.elim)
      have hrd := rdV_new w5 #[.slice ra rn rc] 75 ([(⟨ra, rn, rc, rl⟩ : Rw)].map Rw.v) rfl
      have hb6 := hb.trans (hb5.mono hb.size)
      have hb7 := hb6.trans (hbl.mono hb6.size)
      have hs7 := hb7.size
      have hr6 := hr.on hbl
      have hsz := hb.size
      have HR6 := Lib.hid hR6.2
      have HRN := Lib.hid hr6
      have HNW := Lib.hid (show ∀ b, obk ra = some b → W.heap.size ≤ b ∧ b < (w5.alloc (.cells #[.slice ra rn rc] 75)).heap.size ∧ obk A5 ≠ some b from fun b hb => by
        have h1 := hnew b hb
        have h2 := hbl.size
        refine ⟨by omega, by omega, fun e => ?_⟩
        have := (hR.1.obk_ge e).2
        omega)
      have HB7 := Lib.hid hb7
      have hown := hR6.1
      clear hR hR5 hR6 hb hb5 hb6 hb7 hbl hr hr6 hnew HOF hsz
      go_wp2_with (at_builtin; go_loud (refine wpList_appX elRR rfl (.tmp 34) (.tmp 36) rfl rfl W.heap.size A5 i c5 _ rfl hown _ 1 1 _ _ rfl hrd rfl Nat.one_pos (rwv_one _) (by omega) (by unfold maxLen; omega) hs7 (i + 1) rfl ((L ++ [(⟨ra, rn, rc, rl⟩ : Rw)]).map Rw.v) List.map_append.symm ?_; intro A8 c8 w8 hw8 hb8 hot))
      go_roundw
      case rel =>
        refine ⟨i + 1, c8, A8, _, by omega, by go_num, rfl, ⟨hw8, fun r hr => ?_⟩, HNX.out, HB7.out.trans hb8⟩
        have ho : Only (fun k => obk A5 = some k) (w5.alloc (.cells #[.slice ra rn rc] 75)) w8 := ⟨hot.gb.os, hot.gb.tape, hot.gb.output, hot.gb.size, fun k hk hn => hot.gb.block k hk fun e => hn e.symm⟩
        have key : ∀ r : Rw, RwAt (w5.alloc (.cells #[.slice ra rn rc] 75)) r → (∀ b, obk r.a = some b → W.heap.size ≤ b ∧ b < (w5.alloc (.cells #[.slice ra rn rc] 75)).heap.size ∧ obk A5 ≠ some b) → RwAt w8 r ∧ ∀ b, obk r.a = some b → W.heap.size ≤ b ∧ b < w8.heap.size ∧ obk A8 ≠ some b := fun r h1 h2 => by
          refine ⟨h1.only ho fun b hb e => (h2 b hb).2.2 e, fun b hb => ⟨(h2 b hb).1, Nat.lt_of_lt_of_le (h2 b hb).2.1 ho.size, fun e => ?_⟩⟩
          rcases hot.at_ with e2 | ⟨g, e2, hg⟩
          · exact (h2 b hb).2.2 (by rw [← e2]; exact e)
          · rw [e2] at e
            injection e with e
            have := (h2 b hb).2.1
            omega
        rcases List.mem_append.1 hr with hr | hr
        · exact key r (HR6.out r hr).1 (HR6.out r hr).2
        · simp at hr
          subst hr
          exact key _ HRN.out HNW.out
      case measure => simp [intOf]; omega
    · have hge : n3 ≤ i := by omega
      obtain rfl : n3 = i := by omega
      have hl3 := hR.1.len
      have HRWS : Hid (L.map Rw.l = T.map rowF) := Lib.hid (by
        have h := HRL.out
        rw [List.take_of_length_le (by rw [HTL.out]; exact Nat.le_refl _)] at h
        exact h)
      clear HRL
      have hS2 : AskS p B b A m c f A1 A2 n1 n2 c1 c2 B1 P C wr wr P C := by
        have hT := HT0.out.below hb HT0.out.lt
        exact ⟨HP0.out.below hb, HC0.out.below hb, rfl, rfl, ⟨_, hT⟩, Only.refl _ _⟩
      have HR := Lib.hid hR
      have HO2 := Lib.hid (HO.out.trans (Only.bel (p := p) hb))
      have HA2 := Lib.hid (HA0.out.only (Only.bel (p := p) hb))
      have HBX2 := Lib.hid (HBX.out.on hb)
      have HRS2 := Lib.hid (HRS.out.on hb)
      have hpb : p b := (HPP.out b).2 (.inl rfl)
      have hpg : ¬ p gc := fun e => by have := HPL.out _ e; have := HGC.out; omega
      have hpg1 : ¬ p (gc + 1) := fun e => by have := HPL.out _ e; have := HGC.out; omega
      have HBW : Hid (∀ wx, Only p wr wx → wx.cell? ⟨gc, 0, none⟩ = some (.slice A1 n1 c1) ∧ wx.cell? ⟨gc, 1, none⟩ = some (.slice A2 n2 c2) ∧ wx.cell? ⟨gc, 2, none⟩ = some (.slice A3 n3 c3)) := Lib.hid fun wx ho => (HBX2.out.keep (ho.block gc HBX2.out.lt hpg) ho.size).three
      have HRW := Lib.hid fun wx (ho : Only p wr wx) => HR.out.only ho fun k hk => by have := HPL.out k hk; have := HGC.out; omega
      have HPB := Lib.hid hpb
      obtain ⟨m0, m1, m2⟩ := HBW.out wr (Only.refl _ _)
      clear hR hb hl3 hpb hpg hpg1 HP0 HC0 HA0 HT0 HBX HRS HO
      go_wp2_with fail
      obtain ⟨W2, hW2⟩ : ∃ W2, W2 = wr := ⟨_, rfl⟩
      rw [← hW2] at hS2 HR HO2 HA2 HBX2 HRS2 HBW HRW m0 m1 m2 ⊢
      clear hW2 m0 m1 m2
      go_loopw [10, 11, 13, 14, 42] (fun _ _ _ _ s wx => ∃ (i : Nat) (C' : List ChV), i ≤ n2 ∧ s = .int .i64 i ∧ AskS p B b A m c f A1 A2 n1 n2 c1 c2 B1 P C W2 wx P C' ∧ LateOk T C') (fun _ _ _ _ s _ => n2 - (intOf s).toNat)
      case atStart => exact ⟨0, C, by omega, rfl, hS2, HLAT.out⟩
      case round =>
        obtain ⟨i, C', hi, rfl, hS, hlo⟩ := hrel
        have HLO := Lib.hid hlo
        clear hS2 hlo
        by_cases hlt : i < n2
        · obtain ⟨g2, rfl, hBg2, hg2l⟩ := hS.ch.own.block (by omega)
          have hlc := hS.ch.len
          have hx : C'[i]? = some (C'[i]'(by omega)) := List.getElem?_eq_getElem _
          obtain ⟨x, hxx⟩ : ∃ x, x = C'[i]'(by omega) := ⟨_, rfl⟩
          rw [← hxx] at hx
          have HX := Lib.hid hx
          have hpg2 : p g2 := (HPP.out g2).2 (.inr (.inr rfl))
          have h1g2 : obk A1 ≠ some g2 := fun e => H12.out g2 e rfl
          have HPG2 := Lib.hid hpg2
          have H1G2 := Lib.hid h1g2
          have HCC : Hid (∀ wx C2, AskS p B b A m c f A1 (some ⟨g2, 0, none⟩) n1 n2 c1 c2 B1 P C W2 wx P C2 → C2 = C' → wx.cell? ⟨g2, i * 6, none⟩ = some (.int .i64 x.from_) ∧ wx.cell? ⟨g2, i * 6 + 1, none⟩ = some (.int .i64 x.to_) ∧ wx.cell? ⟨g2, i * 6 + 5, none⟩ = some (.int .i64 x.late) ∧ wx.frozen? ⟨g2, i * 6 + 5, none⟩ = false) := Lib.hid fun wx C2 h e => by
            subst e
            have e0 := h.ch.cell cc_len (k := 0) HX.out (by omega) rfl
            have e1 := h.ch.cell cc_len (k := 1) HX.out (by omega) rfl
            have e5 := h.ch.cell cc_len (k := 5) HX.out (by omega) rfl
            exact ⟨e0.1, e1.1, e5.1, e5.2⟩
          have HS := Lib.hid hS
          have hcx := HRW.out wr hS.on
          clear hx hxx hpg2 h1g2 hS hcx hlc
          go_wp2_with fail
          obtain ⟨W3, hW3⟩ : ∃ W3, W3 = wr := ⟨_, rfl⟩
          rw [← hW3] at HS hg2l ⊢
          clear hW3
          go_loopw [11, 13, 14, 47] (fun lv _ _ s wx => ∃ (j : Nat) (z : Int), j ≤ n3 ∧ s = .int .i64 j ∧ lv = .int .i64 z ∧ z ≤ 90 ∧ (0 ≤ z → ∀ t ∈ T.take j, 0 ≤ lateL (wordsL (rowF t)) x.from_ x.to_ ∧ lateL (wordsL (rowF t)) x.from_ x.to_ ≤ z) ∧ Below W3.heap.size W3 wx) (fun _ _ _ s _ => n3 - (intOf s).toNat)
          case atStart => exact ⟨0, 0, by omega, rfl, rfl, by omega, (fun _ t ht => by cases ht), Below.refl _ _⟩
          case round =>
            obtain ⟨j, z, hj, rfl, rfl, hz90, hzt, hb⟩ := hrel
            have HZT := Lib.hid hzt
            clear hzt
            have hSx := HS.out.bel hb
            by_cases hjn : j < n3
            · obtain ⟨g5, r, rfl, _, _, hLr, d0, hrw⟩ := (HRW.out _ hSx.on).at_ hjn
              obtain ⟨tj, htj, hrt⟩ := row_of HRWS.out hLr
              have hfew := lateL_few (HTF.out tj (List.mem_of_getElem? htj)) x.from_ x.to_
              obtain ⟨m0, m1, m2⟩ := HBW.out _ hSx.on
              obtain ⟨f0, f1, _, _⟩ := HCC.out _ _ hSx rfl
              have hrd := hrw.on (w' := wr.drew) (Below.refl _ _).drew
              have HLT := Lib.hid (late_any r.a r.n r.c r.l x.from_ x.to_ wr.drew hrd.rd hrd.cap (by have := hrd.few; omega) (by have := hrd.tk; omega))
              rw [hrt] at HLT
              have HSTEP : Hid (∀ z' : Int, 0 ≤ z → 0 ≤ lateL (wordsL (rowF tj)) x.from_ x.to_ → z ≤ z' → lateL (wordsL (rowF tj)) x.from_ x.to_ ≤ z' → ∀ t ∈ T.take (j + 1), 0 ≤ lateL (wordsL (rowF t)) x.from_ x.to_ ∧ lateL (wordsL (rowF t)) x.from_ x.to_ ≤ z') := Lib.hid fun z' h0 h1 h2 h3 t ht => by
                rcases mem_take_succ htj ht with h | rfl
                · have := HZT.out h0 t h
                  omega
                · exact ⟨h1, h3⟩
              clear hLr htj hrt
              generalize lateL (wordsL (rowF tj)) x.from_ x.to_ = ln at HLT HSTEP hfew
              have HB := Lib.hid hb
              obtain ⟨ra, rn, rc, rl⟩ := r
              dsimp only at d0 HLT
              clear hSx hrw hrd hb
              go_upto_region 15 with fail
              go_region_with (go_at_call 34; refine HLT.out.mono ?_; rintro e w5 ⟨rfl, hb5⟩)
              all_goals
                have hb6 : Below W3.heap.size W3 w5 := HB.out.trans (show Below W3.heap.size wr w5 from ⟨hb5.os, hb5.tape, hb5.output, hb5.size, fun k hk => hb5.block k (Nat.lt_of_lt_of_le hk HB.out.size)⟩)
                clear hb5 d0 m0 m1 m2 f0 f1
                by_cases hl0 : ln < 0
                · have t1 := decide_eq_true hl0
                  go_wp2_with fail
                  go_roundw
                  case rel => exact ⟨j + 1, _, by omega, by go_num, rfl, by omega, (fun h => by omega), hb6⟩
                  case measure => simp [intOf]; omega
                · have t1 := decide_eq_false hl0
                  by_cases hz0 : z < 0
                  · have t2 := decide_eq_true hz0
                    go_wp2_with fail
                    go_roundw
                    case rel => exact ⟨j + 1, _, by omega, by go_num, rfl, by omega, (fun h => by omega), hb6⟩
                    case measure => simp [intOf]; omega
                  · have t2 := decide_eq_false hz0
                    go_wp2_with fail
                    go_roundw
                    case rel =>
                      refine ⟨j + 1, _, by omega, by go_num, rfl, ?_, fun _ => HSTEP.out _ (by omega) (by omega) ?_ ?_, hb6⟩
                      · first | omega | (split <;> omega)
                      · first | omega | (split <;> omega)
                      · first | omega | (split <;> omega)
                    case measure => simp [intOf]; omega
            · have hge : n3 ≤ j := by omega
              obtain ⟨at7, T7⟩ := hSx.tp
              have HS7 := Lib.hid hSx
              clear hb hSx
              by_cases hz : 0 < z
              · have t1 := decide_eq_true hz
                have HALL : Hid (∀ t ∈ T, 0 ≤ lateL (wordsL (rowF t)) x.from_ x.to_ ∧ lateL (wordsL (rowF t)) x.from_ x.to_ ≤ z) := Lib.hid (by
                  have h := HZT.out (by omega)
                  rw [List.take_of_length_le (by rw [HTL.out]; exact hge)] at h
                  exact h)
                go_upto_region 20 with fail
                go_wp2_with fail
                refine (next_at B b A m c f at7 3 _ wr T7 rfl (by omega) (by omega) hm).mono ?_
                rintro e w5 ⟨k, at5, hk, rfl, T5, G5⟩
                have hS5 := HS7.out.next T5 G5 hb1 HPB.out
                by_cases hk0 : 0 < k
                · have hk1 : (0 : Int) < (k : Int) := by omega
                  have t2 := decide_eq_true hk0
                  obtain ⟨m0, m1, m2⟩ := HBW.out _ hS5.on
                  obtain ⟨f0, f1, f5, f6⟩ := HCC.out _ _ hS5 rfl
                  have HNX : Hid (Calls Tryz.prog 9 #[.pointer (some ⟨b, 0, none⟩), .int .i64 6] w5.drew fun e w6 => ∃ q : Int, e = .returned (.int .i64 q) ∧ (0 ≤ q ∧ q ≤ 5) ∧ AskS p B b A m c f A1 (some ⟨g2, 0, none⟩) n1 n2 c1 c2 B1 P C W2 w6 P C' ∧ w6.cell? ⟨gc, 0, none⟩ = some (.slice A1 n1 c1) ∧ w6.cell? ⟨gc, 1, none⟩ = some (.slice (some ⟨g2, 0, none⟩) n2 c2) ∧ w6.cell? ⟨g2, i * 6 + 5, none⟩ = some (.int .i64 x.late) ∧ w6.frozen? ⟨g2, i * 6 + 5, none⟩ = false) := Lib.hid (by
                    have hSd := hS5.bel (w' := w5.drew) (Below.refl _ _).drew
                    obtain ⟨at8, T8⟩ := hSd.tp
                    refine (next_at B b A m c f at8 6 _ w5.drew T8 rfl (by omega) (by omega) hm).mono ?_
                    rintro e w6 ⟨q, at6, hq6, rfl, T6, G6⟩
                    have hS6 := hSd.next T6 G6 hb1 HPB.out
                    obtain ⟨m0, m1, m2⟩ := HBW.out _ hS6.on
                    obtain ⟨f0, f1, f5, f6⟩ := HCC.out _ _ hS6 rfl
                    exact ⟨_, rfl, ⟨by omega, by omega⟩, hS6, m0, m1, f5, f6⟩)
                  clear hS5 T5 G5 T7
                  go_upto_region 21 with fail
                  go_region_with (go_at_call 9; refine HNX.out.mono ?_; rintro e w6 ⟨q, rfl, ⟨hq0, hq5⟩, hS6, v0, v1, v5, v6⟩)
                  all_goals
                    have HS6 := Lib.hid hS6
                    clear hS6
                    go_wp2_with fail
                    go_roundw
                    case rel =>
                      refine ⟨i + 1, _, by omega, by go_num, AskS.late HS6.out HX.out _ hb1 HPG2.out H1G2.out, HLO.out.set HALL.out ?_ ?_ ?_⟩
                      · first | omega | (split <;> omega)
                      · first | omega | (split <;> omega)
                      · first | omega | (split <;> omega)
                    case measure => simp [intOf]; omega
                · have hk1 : ¬ (0 : Int) < (k : Int) := by omega
                  have t2 := decide_eq_false hk0
                  have HS5 := Lib.hid hS5
                  clear hS5 T5 G5 T7
                  go_wp2_with fail
                  go_roundw
                  case rel => exact ⟨i + 1, C', by omega, by go_num, HS5.out, HLO.out⟩
                  case measure => simp [intOf]; omega
              · have t1 := decide_eq_false hz
                go_wp2_with fail
                go_roundw
                case rel => exact ⟨i + 1, C', by omega, by go_num, HS7.out, HLO.out⟩
                case measure => simp [intOf]; omega
        · have hge : n2 ≤ i := by omega
          have hSon := hS.on
          obtain ⟨g5, r, rfl, _, _, _, d0, hrw⟩ := (HRW.out _ hSon).at_ (i := 0) (by omega)
          have HTO := Lib.hid (total_any r.a r.n r.c r.l wr hrw.rd hrw.cap (by have := hrw.few; omega) (by have := hrw.tk; omega))
          have htk := hrw.tk
          obtain ⟨ra, rn, rc, rl⟩ := r
          dsimp only at d0 HTO htk
          generalize ticks rl = y0 at HTO htk
          have HS4 := Lib.hid hS
          clear hS hSon hrw
          go_wp2_with fail
          refine HTO.out.mono ?_
          rintro e w5 ⟨rfl, hb5⟩
          have hS5 := HS4.out.bel hb5
          obtain ⟨at5, T5⟩ := hS5.tp
          have HS5 := Lib.hid hS5
          clear hS5 hb5 d0
          go_wp2_with fail
          refine (next_at B b A m c f at5 3 _ w5 T5 rfl (by omega) (by omega) hm).mono ?_
          rintro e w6 ⟨k, at6, hk, rfl, T6, G6⟩
          have HS6 := Lib.hid (HS5.out.next T6 G6 hb1 HPB.out)
          clear T5 T6 G6
          go_upto_block 6 with fail
          go_cut [15, 16] from 100 to 111 (fun a bb wx => ∃ y : Nat, a = .int .i64 (y : Int) ∧ y ≤ 90 ∧ wx = w6)
          case first =>
            go_wp2_with fail
            go_loopw [15, 16] (fun a bb wx => ∃ y kk : Nat, a = .int .i64 (y : Int) ∧ bb = .int .i64 (kk : Int) ∧ y ≤ 90 ∧ kk ≤ 4 ∧ wx = w6) (fun _ bb _ => (intOf bb).toNat)
            case atStart => exact ⟨y0, 2 + k, rfl, by go_num, htk, by omega, rfl⟩
            case round =>
              obtain ⟨y, kk, rfl, rfl, hy, hkk, rfl⟩ := hrel
              by_cases h1 : 1 < kk
              · have h1i : (1 : Int) < (kk : Int) := by omega
                have hk0 : ¬ kk = 0 := by omega
                by_cases hm : y % kk = 0
                · have hz : (y : Int) % (kk : Int) = 0 := by rw [← Int.natCast_emod, hm]; rfl
                  have hzt : (y : Int).tmod (kk : Int) = 0 := by rw [Int.tmod_eq_emod_of_nonneg (Int.natCast_nonneg _)]; exact hz
                  have hzb : ((y : Int).tmod (kk : Int) == 0) = true := beq_iff_eq.2 hzt
                  have hzc : ((y : Int) % (kk : Int) == 0) = true := beq_iff_eq.2 hz
                  go_wp2_with fail
                  go_meet
                  case rel =>
                    obtain ⟨Q, hQ⟩ : ∃ Q, Q = y / kk := ⟨_, rfl⟩
                    have hdv : (y : Int) / (kk : Int) = (Q : Int) := by rw [hQ]; exact (Int.natCast_ediv y kk).symm
                    have hQ9 : Q ≤ 90 := by rw [hQ]; have := Nat.div_le_self y kk; omega
                    rw [hdv]
                    clear hQ
                    exact ⟨Q, congrArg (Value.int .i64) (IntWalk.wrap64_in (Q : Int) (by omega)), hQ9, rfl⟩
                · have hz : ¬ (y : Int) % (kk : Int) = 0 := by rw [← Int.natCast_emod]; omega
                  have hzt : ¬ (y : Int).tmod (kk : Int) = 0 := by rw [Int.tmod_eq_emod_of_nonneg (Int.natCast_nonneg _)]; exact hz
                  have hzb : ((y : Int).tmod (kk : Int) == 0) = false := beq_eq_false_iff_ne.2 hzt
                  have hzc : ((y : Int) % (kk : Int) == 0) = false := beq_eq_false_iff_ne.2 hz
                  go_wp2_with fail
                  go_roundw
                  case rel => exact ⟨y, kk - 1, rfl, by go_num, hy, by omega, by trivial⟩
                  case measure => simp [intOf]; omega
              · have h1i : ¬ (1 : Int) < (kk : Int) := by omega
                go_wp2_with fail
                go_meet
                case rel => exact ⟨y, rfl, hy, rfl⟩
          case rest =>
            obtain ⟨y, rfl, hy, hwc⟩ := hcut
            rw [hwc]
            clear hwc
            have hS6 := HS6.out
            obtain ⟨m0, m1, m2⟩ := HBW.out _ hS6.on
            have hpe : In64 (y : Int) := by unfold In64; omega
            have HPE := Lib.hid hpe
            have hPL : PartsL P P := fun x hx => ⟨(HA2.out.pt x hx).per, x, hx, rfl, rfl, rfl⟩
            clear hpe
            go_wp2_with fail
            clear m0 m1 m2
            go_loopw [17, 18, 20, 114] (fun _ _ _ s wx => ∃ (i : Nat) (P' : List PtV), i ≤ n1 ∧ s = .int .i64 i ∧ AskS p B b A m c f A1 A2 n1 n2 c1 c2 B1 P C W2 wx P' C' ∧ PartsL P P' ∧ ShortOk T P') (fun _ _ _ s _ => n1 - (intOf s).toNat)
            case atStart => exact ⟨0, P, by omega, rfl, hS6, hPL, HBUD.out⟩
            case round =>
              obtain ⟨i, P', hi, rfl, hS, hPL2, hsho⟩ := hrel
              have HSHO := Lib.hid hsho
              clear hsho
              clear hS6 hPL
              by_cases hlt : i < n1
              · obtain ⟨g1, rfl, hBg1, hg1l⟩ := hS.pp.own.block (by omega)
                have hlp := hS.pp.len
                have hx : P'[i]? = some (P'[i]'(by omega)) := List.getElem?_eq_getElem _
                obtain ⟨x, hxx⟩ : ∃ x, x = P'[i]'(by omega) := ⟨_, rfl⟩
                rw [← hxx] at hx
                have HX := Lib.hid hx
                have hpg1 : p g1 := (HPP.out g1).2 (.inr (.inl rfl))
                have h2g1 : obk A2 ≠ some g1 := H12.out g1 rfl
                have HPG1 := Lib.hid hpg1
                have H2G1 := Lib.hid h2g1
                have HPL2 := Lib.hid hPL2
                have HCC : Hid (∀ wx P2, AskS p B b A m c f (some ⟨g1, 0, none⟩) A2 n1 n2 c1 c2 B1 P C W2 wx P2 C' → P2 = P' → wx.cell? ⟨g1, i * 11 + 1, none⟩ = some (.int .i64 x.bud) ∧ wx.frozen? ⟨g1, i * 11 + 1, none⟩ = false ∧ wx.cell? ⟨g1, i * 11 + 2, none⟩ = some (.int .i64 x.per) ∧ wx.frozen? ⟨g1, i * 11 + 2, none⟩ = false) := Lib.hid fun wx P2 h e => by
                  subst e
                  have e0 := h.pp.cell pcl_len (k := 1) HX.out (by omega) rfl
                  have e1 := h.pp.cell pcl_len (k := 2) HX.out (by omega) rfl
                  exact ⟨e0.1, e0.2, e1.1, e1.2⟩
                have HS := Lib.hid hS
                clear hx hxx hpg1 h2g1 hS hlp hPL2
                go_wp2_with fail
                obtain ⟨W3, hW3⟩ : ∃ W3, W3 = wr := ⟨_, rfl⟩
                rw [← hW3] at HS hg1l ⊢
                clear hW3
                go_loopw [18, 20, 119] (fun lv _ s wx => ∃ (j : Nat) (z : Int), j ≤ n3 ∧ s = .int .i64 j ∧ lv = .int .i64 z ∧ z ≤ 4096 ∧ -4096 ≤ z ∧ (∀ t ∈ T.take j, z ≤ budL (wordsL (rowF t)) (i : Int) (y : Int)) ∧ Below W3.heap.size W3 wx) (fun _ _ s _ => n3 - (intOf s).toNat)
                case atStart => exact ⟨0, 4096, by omega, rfl, rfl, by omega, by omega, (fun t ht => by cases ht), Below.refl _ _⟩
                case round =>
                  obtain ⟨j, z, hj, rfl, rfl, hz40, hz41, hzt, hb⟩ := hrel
                  have HZT := Lib.hid hzt
                  clear hzt
                  have hSx := HS.out.bel hb
                  by_cases hjn : j < n3
                  · obtain ⟨g5, r, rr, _, _, hLr, d0, hrw⟩ := (HRW.out _ hSx.on).at_ hjn
                    obtain ⟨tj, htj, hrt⟩ := row_of HRWS.out hLr
                    have hbge := budL_ge (wordsL (rowF tj)) (i : Int) (y : Int)
                    injection rr with rr
                    injection rr with rr
                    subst rr
                    have HBU := Lib.hid (budget_any r.a r.n r.c r.l (i : Int) (y : Int) wr hrw.rd hrw.cap (by have := hrw.few; omega) (by have := hrw.tk; omega) HPE.out)
                    rw [hrt] at HBU
                    have HSTEP : Hid (∀ z' : Int, z' ≤ z → z' ≤ budL (wordsL (rowF tj)) (i : Int) (y : Int) → ∀ t ∈ T.take (j + 1), z' ≤ budL (wordsL (rowF t)) (i : Int) (y : Int)) := Lib.hid fun z' h0 h1 t ht => by
                      rcases mem_take_succ htj ht with h | rfl
                      · have := HZT.out t h
                        omega
                      · exact h1
                    clear hLr htj hrt
                    generalize budL (wordsL (rowF tj)) (i : Int) (y : Int) = bn at HBU HSTEP hbge
                    have HB := Lib.hid hb
                    obtain ⟨ra, rn, rc, rl⟩ := r
                    dsimp only at d0 HBU
                    clear hSx hrw hb
                    go_wp2_with fail
                    refine HBU.out.mono ?_
                    rintro e w5 ⟨rfl, hb5⟩
                    have hb6 := HB.out.trans (hb5.mono HB.out.size)
                    clear hb5 d0
                    go_wp2_with fail
                    all_goals
                      go_roundw
                      case rel =>
                        refine ⟨j + 1, _, by omega, by go_num, rfl, ?_, ?_, HSTEP.out _ ?_ ?_, hb6⟩
                        · first | omega | (split <;> omega)
                        · first | omega | (split <;> omega)
                        · first | omega | (split <;> omega)
                        · first | omega | (split <;> omega)
                      case measure => simp [intOf]; omega
                  · have hge : n3 ≤ j := by omega
                    obtain ⟨at7, T7⟩ := hSx.tp
                    have HS7 := Lib.hid hSx
                    clear hb hSx
                    by_cases hz : 0 < z
                    · have t1 := decide_eq_true hz
                      have HALL : Hid (∀ t ∈ T, z ≤ budL (wordsL (rowF t)) (i : Int) (y : Int)) := Lib.hid (by
                        have h := HZT.out
                        rw [List.take_of_length_le (by rw [HTL.out]; exact hge)] at h
                        exact h)
                      go_upto_region 38 with fail
                      go_wp2_with fail
                      refine (next_at B b A m c f at7 2 _ wr T7 rfl (by omega) (by omega) hm).mono ?_
                      rintro e w5 ⟨k, at5, hk, rfl, T5, G5⟩
                      have hS5 := HS7.out.next T5 G5 hb1 HPB.out
                      by_cases hk0 : k = 0
                      · subst hk0
                        obtain ⟨m0, m1, m2⟩ := HBW.out _ hS5.on
                        obtain ⟨f1, f2, f3, f4⟩ := HCC.out _ _ hS5 rfl
                        have HNX : Hid (Calls Tryz.prog 9 #[.pointer (some ⟨b, 0, none⟩), .int .i64 2] w5.drew fun e w6 => ∃ q : Int, e = .returned (.int .i64 q) ∧ (0 ≤ q ∧ q ≤ 1) ∧ AskS p B b A m c f (some ⟨g1, 0, none⟩) A2 n1 n2 c1 c2 B1 P C W2 w6 P' C' ∧ w6.cell? ⟨gc, 0, none⟩ = some (.slice (some ⟨g1, 0, none⟩) n1 c1) ∧ w6.cell? ⟨g1, i * 11 + 1, none⟩ = some (.int .i64 x.bud) ∧ w6.frozen? ⟨g1, i * 11 + 1, none⟩ = false ∧ w6.cell? ⟨g1, i * 11 + 2, none⟩ = some (.int .i64 x.per) ∧ w6.frozen? ⟨g1, i * 11 + 2, none⟩ = false) := Lib.hid (by
                          have hSd := hS5.bel (w' := w5.drew) (Below.refl _ _).drew
                          obtain ⟨at8, T8⟩ := hSd.tp
                          refine (next_at B b A m c f at8 2 _ w5.drew T8 rfl (by omega) (by omega) hm).mono ?_
                          rintro e w6 ⟨q, at6, hq2, rfl, T6, G6⟩
                          have hS6 := hSd.next T6 G6 hb1 HPB.out
                          obtain ⟨m0, m1, m2⟩ := HBW.out _ hS6.on
                          obtain ⟨f1, f2, f3, f4⟩ := HCC.out _ _ hS6 rfl
                          exact ⟨_, rfl, ⟨by omega, by omega⟩, hS6, m0, f1, f2, f3, f4⟩)
                        clear hS5 T5 G5 T7
                        go_upto_region 39 with fail
                        go_region_with (go_at_call 9; refine HNX.out.mono ?_; rintro e w6 ⟨q, rfl, ⟨hq0, hq1⟩, hS6, v0, v1, v2, v3, v4⟩)
                        all_goals
                          have HS6' := Lib.hid hS6
                          clear hS6
                          go_wp2_with fail
                          go_roundw
                          case rel =>
                            refine ⟨i + 1, _, by omega, by go_num, AskS.ask HS6'.out HX.out _ _ hb1 HPG1.out H2G1.out, HPL2.out.set HX.out HPE.out, HSHO.out.set HALL.out ?_⟩
                            first | omega | (split <;> omega)
                          case measure => simp [intOf]; omega
                      · have t2 : ((k : Int) == 0) = false := by simp; omega
                        have HS5' := Lib.hid hS5
                        clear hS5 T5 G5 T7
                        go_wp2_with fail
                        go_roundw
                        case rel => exact ⟨i + 1, P', by omega, by go_num, HS5'.out, HPL2.out, HSHO.out⟩
                        case measure => simp [intOf]; omega
                    · have t1 := decide_eq_false hz
                      go_wp2_with fail
                      go_roundw
                      case rel => exact ⟨i + 1, P', by omega, by go_num, HS7.out, HPL2.out, HSHO.out⟩
                      case measure => simp [intOf]; omega
              · have hge : n1 ≤ i := by omega
                have hSon := hS.on
                have hAA := HA2.out.only hSon
                have HRT := Lib.hid (xright_pt A1 A2 A3 n1 n2 n3 c1 c2 c3 P' C' T wr hS.pp.rdb hS.ch.rdb hAA.t (fun x hx => by
                  obtain ⟨h1, x0, h0, e1, e2, e3⟩ := hPL2 x hx
                  have h2 := hAA.pt x0 h0
                  exact ⟨h1, by rw [e3]; exact h2.name, by rw [e2]; exact h2.few, by rw [e1, e2]; exact h2.procs⟩) (fun t ht => (hAA.tt t ht).1))
                obtain ⟨m0, m1, m2⟩ := HBW.out _ hSon
                have HS8 := Lib.hid hS
                have HPER : Hid (∀ x ∈ P', In64 x.per) := Lib.hid fun x hx => (hPL2 x hx).1
                have HPQ : Hid (P'.map (pq wr) = P'.map (pq w)) := Lib.hid (List.map_congr_left fun x hx => by
                  obtain ⟨_, x0, h0, e1, e2, e3⟩ := hPL2 x hx
                  refine pq_same (B := w.heap.size) (by rw [e1, e2]; exact (HA00.out.pt x0 h0).procs) fun k hk e => (HO2.out.trans hSon).block k hk fun hpk => HA00.out.sp x0 h0 k (by rw [← e1]; exact e) hpk)
                rw [HPQ.out] at HRT
                clear hS hSon hAA hPL2
                go_wp2_with fail
                refine HRT.out.mono ?_
                rintro e w5 ⟨rfl, hb5⟩
                obtain ⟨zr, hzre⟩ : ∃ zr, zr = (whereF (P'.map (pq w)) C' (T.map ndT)).1 := ⟨_, rfl⟩
                rw [← hzre]
                have HZRE := Lib.hid hzre
                clear hzre
                have hS5 := HS8.out.bel hb5
                have hb3 : p b := HPB.out
                have HFIN : Hid (∀ wx P2, AskS p B b A m c f A1 A2 n1 n2 c1 c2 B1 P C W2 wx P2 C' → (∀ x ∈ P2, In64 x.per) → ShortOk T P2 → DoneR w P2 C' T → AsksP p B b A m c f A1 A2 A3 n1 n2 n3 c1 c2 c3 P C T B1 w (.returned (.agg #[.slice A1 n1 c1, .slice A2 n2 c2, .slice A3 n3 c3])) (set3 wx (gc + 1) (.slice A1 n1 c1) (.slice A2 n2 c2) (.slice A3 n3 c3))) := Lib.hid fun wx P2 h hi6 hso hdn => by
                  obtain ⟨h1, h2, ⟨at9, h3⟩, h4, h5, h6⟩ := h.res HO2.out (gc + 1) (.slice A1 n1 c1) (.slice A2 n2 c2) (.slice A3 n3 c3) (by have := HGC.out; omega) HPL.out hb3 (fun k e => (HPP.out k).2 (.inr (.inl e))) (fun k e => (HPP.out k).2 (.inr (.inr e)))
                  exact ⟨P2, C', at9, rfl, h1, h2, h.pm, h.cm, h3, h4, hi6, HLO.out, hso, h5, h6, hdn⟩
                have HRV : Hid (∀ wx, Only p W2 wx → Vec wx (gc + 1) 3 fun j => if j = 0 then .slice none 0 0 else if j = 1 then .slice none 0 0 else .slice none 0 0) := Lib.hid fun wx ho => HRS2.out.keep (ho.block (gc + 1) HRS2.out.lt (fun e => by have := HPL.out _ e; have := HGC.out; omega)) ho.size
                have HEND : Hid (∀ wx P2, AskS p B b A m c f A1 A2 n1 n2 c1 c2 B1 P C W2 wx P2 C' → wx.cell? ⟨gc, 0, none⟩ = some (.slice A1 n1 c1) ∧ wx.cell? ⟨gc, 1, none⟩ = some (.slice A2 n2 c2) ∧ wx.cell? ⟨gc, 2, none⟩ = some (.slice A3 n3 c3) ∧ wx.cell? ⟨gc + 1, 0, none⟩ = some (.slice none 0 0) ∧ wx.cell? ⟨gc + 1, 1, none⟩ = some (.slice none 0 0) ∧ wx.cell? ⟨gc + 1, 2, none⟩ = some (.slice none 0 0) ∧ wx.frozen? ⟨gc + 1, 0, none⟩ = false ∧ wx.frozen? ⟨gc + 1, 1, none⟩ = false ∧ wx.frozen? ⟨gc + 1, 2, none⟩ = false ∧ (set3 wx (gc + 1) (.slice A1 n1 c1) (.slice A2 n2 c2) (.slice A3 n3 c3)).cell? ⟨gc + 1, 0, none⟩ = some (.slice A1 n1 c1) ∧ (set3 wx (gc + 1) (.slice A1 n1 c1) (.slice A2 n2 c2) (.slice A3 n3 c3)).cell? ⟨gc + 1, 1, none⟩ = some (.slice A2 n2 c2) ∧ (set3 wx (gc + 1) (.slice A1 n1 c1) (.slice A2 n2 c2) (.slice A3 n3 c3)).cell? ⟨gc + 1, 2, none⟩ = some (.slice A3 n3 c3)) := Lib.hid fun wx P2 h => by
                  obtain ⟨a0, a1, a2⟩ := HBW.out wx h.on
                  have hv := HRV.out wx h.on
                  obtain ⟨c0', c1', c2'⟩ := hv.three
                  obtain ⟨d0, d1, d2⟩ := set3_cells hv (.slice A1 n1 c1) (.slice A2 n2 c2) (.slice A3 n3 c3)
                  exact ⟨a0, a1, a2, c0', c1', c2', hv.thaw _, hv.thaw _, hv.thaw _, d0, d1, d2⟩
                have HS5' := Lib.hid hS5
                clear hS5 hb5 HRT m0 m1 m2 hb3
                by_cases hzr : zr = 0
                · have hz0 : (zr != 0) = false := by simp [hzr]
                  obtain ⟨m0, m1, m2, r0, r1, r2, s0, s1, s2, d0, d1, d2⟩ := HEND.out w5 _ HS5'.out
                  have D0 := Lib.hid d0
                  have D1 := Lib.hid d1
                  have D2 := Lib.hid d2
                  clear d0 d1 d2
                  go_wp2_with fail
                  exact bodyPost_ret (results_runC rfl rfl D0.out D1.out D2.out) rfl (HFIN.out w5 _ HS5'.out HPER.out HSHO.out (.inr (HZRE.out.symm.trans hzr)))
                · have hz0 : (zr != 0) = true := bne_iff_ne.2 hzr
                  obtain ⟨m0, m1, m2⟩ := HBW.out _ HS5'.out.on
                  go_wp2_with fail
                  clear m0 m1 m2
                  go_loopw [21, 160] (fun _ s wx => ∃ (i : Nat) (P2 : List PtV), i ≤ n1 ∧ s = .int .i64 i ∧ AskS p B b A m c f A1 A2 n1 n2 c1 c2 B1 P C W2 wx P2 C' ∧ (∀ x ∈ P2, In64 x.per) ∧ ShortOk T P2 ∧ ∀ k x, k < i → P2[k]? = some x → x.bud = 0 ∧ x.per = 0) (fun _ s _ => n1 - (intOf s).toNat)
                  case atStart => exact ⟨0, P', by omega, rfl, HS5'.out, HPER.out, HSHO.out, fun k x hk => by omega⟩
                  case round =>
                    obtain ⟨i, P2, hi, rfl, hS, hi6, hso, hzz⟩ := hrel
                    have HZZ := Lib.hid hzz
                    clear hzz
                    have HI6 := Lib.hid hi6
                    have HSO := Lib.hid hso
                    clear hi6 hso
                    by_cases hlt : i < n1
                    · obtain ⟨g1, rfl, hBg1, hg1l⟩ := hS.pp.own.block (by omega)
                      have hlp := hS.pp.len
                      obtain ⟨x, hx⟩ : ∃ x, P2[i]? = some x := ⟨_, List.getElem?_eq_getElem (by omega)⟩
                      have e0 := hS.pp.cell pcl_len (k := 1) hx (by omega) rfl
                      have e1 := hS.pp.cell pcl_len (k := 2) hx (by omega) rfl
                      obtain ⟨f1, f2⟩ := e0
                      obtain ⟨f3, f4⟩ := e1
                      obtain ⟨m0, m1, m2⟩ := HBW.out _ hS.on
                      have hfin := (hS.bel (w' := wr.drew) (Below.refl _ _).drew).ask hx 0 0 hb1 ((HPP.out g1).2 (.inr (.inl rfl))) (H12.out g1 rfl)
                      have hfin2 := (hS.ask hx 0 0 hb1 ((HPP.out g1).2 (.inr (.inl rfl))) (H12.out g1 rfl))
                      have HF := Lib.hid hfin
                      have HF2 := Lib.hid (hfin2.bel (Below.refl _ _).drew)
                      clear hfin hfin2 hS hx hlp
                      go_upto_region 45 with fail
                      go_region
                      all_goals
                        go_wp2_with fail
                        go_roundw
                        case rel =>
                          refine ⟨i + 1, _, by omega, by go_num, by first | exact HF.out | exact HF2.out, fun u hu => ?_, HSO.out.none, zero_more HZZ.out⟩
                          rcases List.mem_or_eq_of_mem_set hu with hu | rfl
                          · exact HI6.out u hu
                          · unfold In64; dsimp only; omega
                        case measure => simp [intOf]; omega
                    · obtain ⟨m0, m1, m2, r0, r1, r2, s0, s1, s2, d0, d1, d2⟩ := HEND.out wr _ hS
                      have D0 := Lib.hid d0
                      have D1 := Lib.hid d1
                      have D2 := Lib.hid d2
                      have HS9 := Lib.hid hS
                      have HZA : Hid (∀ x ∈ P2, x.bud = 0 ∧ x.per = 0) := Lib.hid fun x hx => by
                        obtain ⟨k, hk⟩ := List.getElem?_of_mem hx
                        exact HZZ.out k x (by have h1 := (List.getElem?_eq_some_iff.1 hk).1; have h2 := hS.pp.len; omega) hk
                      clear d0 d1 d2 hS
                      go_wp2_with fail
                      exact bodyPost_ret (results_runC rfl rfl D0.out D1.out D2.out) rfl (HFIN.out wr _ HS9.out HI6.out HSO.out (.inl HZA.out))
end Go.Proofs.YtebcfiifaclniaaGreat
