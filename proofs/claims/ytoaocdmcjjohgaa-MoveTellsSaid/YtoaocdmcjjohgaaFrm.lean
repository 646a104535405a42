/- A frame that is made of a tape: a table that is right, of few runs, not too long. -/
import Derived.Test.YtoaocdmcjjohgaaLow5
import Derived.Test.YtoaocdmcjjohgaaOfg
import Derived.Test.YtoaocdmcjjohgaaLow3
namespace Go.Proofs.Ytoaocdmcjjohgaa
open Go.RowKit Tab
set_option linter.unusedSimpArgs false
set_option linter.unusedVariables false

/-- A table, new, that is right, of few runs, not too long; of what was there the tape alone has turned. -/
def FrmT (B b : Nat) (A : Option Addr) (m c : Nat) (f : Nat → Int) (w : World) (e : Ending) (w' : World) : Prop :=
  ∃ (x : Nd) (k : F) (A' : Option Addr) (n' c' at' : Nat), e = .returned (.slice A' n' c') ∧ (F.cons x k .nil).ok ∧ OwnN w' w.heap.size A' n' c' (x :: k.flat) ∧ ofz n' (k.dep + 1) (one x k.lvs) = 0 ∧ ticks (one x k.lvs) ≤ 90 ∧ (tidy (one x k.lvs)).length ≤ 24 ∧ TapeW w' B b A m c f at' ∧ w.grownBy w' (some b)
theorem TapeW.lowlt {w : World} {B b : Nat} {A : Option Addr} {m c : Nat} {f : Nat → Int} {at_ : Nat} (h : TapeW w B b A m c f at_) : b < w.heap.size := h.lt
theorem ofz_nought {n D : Nat} {L : List Rn} (h1 : n ≤ 128) (h2 : D ≤ 16) (h3 : ticks L ≤ 4096) (h4 : (tidy L).length ≤ 96) : ofz n D L = 0 := by
  have e : rt n D (ticks L) = 0 := by
    unfold rt
    rw [if_neg (by omega), if_neg (by omega), if_neg (by omega)]
  unfold ofz
  rw [if_pos e, if_neg (by omega)]
/-- The frame where the table does not serve. -/
theorem frm_default {B b : Nat} {A : Option Addr} {m c : Nat} {f : Nat → Int} {w w6 : World} {at6 p : Nat} (hp : p < 6) (T6 : TapeW w6 B b A m c f at6) (G6 : w.grownBy w6 (some b)) :
    FrmT B b A m c f w (.returned (.slice (some ⟨w6.heap.size, 0, none⟩) 3 3)) (w6.alloc (.cells #[.int .i64 3, .int .i64 0, .int .i64 2, .int .i64 1, .int .i64 (p : Int), .int .i64 3, .int .i64 2, .int .i64 0, .int .i64 2] 95)) := by
  have e1 : one ⟨3, 0, 2⟩ (F.cons ⟨1, (p : Int), 3⟩ .nil (.cons ⟨2, 0, 2⟩ .nil .nil)).lvs = [⟨(p : Int), 3⟩, ⟨-1, 2⟩] := rfl
  have ht : ticks [(⟨(p : Int), 3⟩ : Rn), ⟨-1, 2⟩] = 5 := rfl
  have hl := tidy_le [(⟨(p : Int), 3⟩ : Rn), ⟨-1, 2⟩]
  simp only [List.length_cons, List.length_nil] at hl
  refine ⟨⟨3, 0, 2⟩, .cons ⟨1, (p : Int), 3⟩ .nil (.cons ⟨2, 0, 2⟩ .nil .nil), _, 3, 3, at6, rfl, ⟨by decide, by simp [F.cnt, kn], ⟨(fine_iff _ _ _).2 (by omega), by simp [F.cnt, kn], trivial, by decide, by simp [F.cnt, kn], trivial, trivial⟩, trivial⟩, ?_, ?_, by rw [e1, ht]; omega, by rw [e1]; omega, T6.below (bl1 _ _) T6.lt, gb_alloc G6 _⟩
  · refine OwnN.lit w6 w.heap.size _ _ 3 rfl rfl G6.size (by omega) fun y hy => ?_
    simp [F.flat] at hy
    rcases hy with rfl | rfl | rfl <;> exact ndIn_mk (by omega) (by omega) (by omega)
  · rw [e1]
    exact ofz_nought (by omega) (by simp [F.dep]) (by rw [ht]; omega) (by omega)
set_option maxRecDepth 100000 in
set_option maxHeartbeats 4000000 in
theorem frame_any (B b : Nat) (A : Option Addr) (m c : Nat) (f : Nat → Int) (hm : m ≤ 140737488351232) (parts : Nat) (hp1 : 1 ≤ parts) (hp2 : parts ≤ 6) (at_ : Nat) (w : World) (T : TapeW w B b A m c f at_) :
    Calls Try.prog 24 #[.pointer (some ⟨b, 0, none⟩), .int .i64 (parts : Int)] w (FrmT B b A m c f w) := by
  have hblt := T.lt
  have HTB := Lib.hid (table_any B b A m c f hm parts hp1 hp2 4 at_ w (by omega) T)
  have hdflt : ∀ (w1 : World) (at1 : Nat), TapeW w1 B b A m c f at1 → w.grownBy w1 (some b) → True := fun _ _ _ _ => trivial
  clear T hdflt
  go_enter Try.func24, Try.ntmps24
  go_wp2_with fail
  refine HTB.out.mono ?_
  rintro e w1 ⟨x, k, A1, n1, c1, at1, rfl, hok, ho1, hsz, hdp, T1, G1⟩
  have h5 : 5 ^ (4 + 1) = 3125 := rfl
  rw [h5] at hsz
  have hn1 := ho1.len
  rw [List.length_cons, F.flat_length] at hn1
  have HOF := Lib.hid (rof_any A1 n1 c1 x k w1 ho1.rdn ho1.cap hok (by omega))
  obtain ⟨z, hz⟩ : ∃ z, z = ofz n1 (k.dep + 1) (one x k.lvs) := ⟨_, rfl⟩
  rw [← hz] at HOF
  have hTt : ticks (tidy (one x k.lvs)) = ticks (one x k.lvs) := ticks_tidy _
  obtain ⟨R, hR⟩ : ∃ R, R = tidy (one x k.lvs) := ⟨_, rfl⟩
  rw [← hR] at HOF hTt
  have HOK := Lib.hid hok
  have HO1 := Lib.hid ho1
  have HZ := Lib.hid hz
  have HR := Lib.hid hR
  have HTT := Lib.hid hTt
  have HT1 := Lib.hid T1
  have HG1 := Lib.hid G1
  have HZO : Hid (z = 0 → ticks R ≤ 4096) := Lib.hid fun h0 => by
    rw [HTT.out]
    rw [HZ.out] at h0
    exact (ofz_ok h0).2.2.1
  have hbl1 : b < w1.heap.size := T1.lt
  clear ho1 hok hz hR hTt T1 G1 HTB hsz hdp hn1 h5
  go_wp2_with fail
  refine HOF.out.mono ?_
  rintro e w2 ⟨A2, m2, c2, rfl, hmc2, hr2, hb2⟩
  have HR2 := Lib.hid hr2
  have T2 := HT1.out.below hb2 hbl1
  have HT2 := Lib.hid T2
  have HG2 := Lib.hid (gb_below HG1.out hb2 HG1.out.size)
  have HO2 := Lib.hid (OwnN.keep HO1.out (w' := w2) fun k _ hlt => hb2.block k hlt)
  clear hr2 T2 HOF HT1 HG1 HO1
  have HDF : Hid (∀ (w5 : World) (at5 : Nat), TapeW w5 B b A m c f at5 → w.grownBy w5 (some b) → Calls Try.prog 23 #[.pointer (some ⟨b, 0, none⟩), .int .i64 (parts : Int)] w5 (Nexts B b A m c f parts w5)) := Lib.hid fun w5 at5 T5 G5 => next_any B b A m c f at5 parts w5 T5 hp1 (by omega) hm
  by_cases h0 : z = 0
  · have hr := HR2.out h0
    have htk := HZO.out h0
    by_cases h24 : 24 < m2
    · have h24' : (24 : Int) < (m2 : Int) := by omega
      have hz0 : (z != 0) = false := by rw [h0]; rfl
      subst h0
      clear hr htk
      go_wp2_with fail
      refine (HDF.out w2 _ HT2.out HG2.out).mono ?_
      rintro e w6 ⟨p, at6, hp, rfl, T6, G6⟩
      have F6 := Lib.hid (frm_default (w := w) (p := p) (by omega) T6 (gb_trans HG2.out G6))
      clear T6 G6
      go_wp2_with fail
      go_ret
      exact F6.out
    · have h24' : ¬ (24 : Int) < (m2 : Int) := by omega
      have HTO := Lib.hid (total_any A2 m2 c2 R w2 hr hmc2 (by omega) (by omega))
      have hlr := hr.len
      have hz0 : (z != 0) = false := by rw [h0]; rfl
      obtain ⟨t, ht⟩ : ∃ t, t = ticks R := ⟨_, rfl⟩
      rw [← ht] at HTO htk
      have HTE := Lib.hid ht
      have H00 := Lib.hid h0
      clear ht hr
      subst h0
      go_wp2_with fail
      refine HTO.out.mono ?_
      rintro e w3 ⟨rfl, hb3⟩
      have hbl2 : b < w2.heap.size := HT2.out.lt
      have T3 := HT2.out.below hb3 hbl2
      have G3 := gb_below HG2.out hb3 HG2.out.size
      have HO3 := Lib.hid (OwnN.keep HO2.out (w' := w3) fun k _ hlt => hb3.block k hlt)
      have HT3 := Lib.hid T3
      have HG3 := Lib.hid G3
      clear T3 G3 HO2
      by_cases h90 : 90 < t
      · have h90' : (90 : Int) < (t : Int) := by omega
        go_wp2_with fail
        refine (HDF.out w3 _ HT3.out HG3.out).mono ?_
        rintro e w6 ⟨p, at6, hp, rfl, T6, G6⟩
        have F6 := Lib.hid (frm_default (w := w) (p := p) (by omega) T6 (gb_trans HG3.out G6))
        clear T6 G6
        go_wp2_with fail
        go_ret
        exact F6.out
      · have h90' : ¬ (90 : Int) < (t : Int) := by omega
        go_wp2_with fail
        go_ret
        refine ⟨x, k, A1, n1, c1, at1, rfl, HOK.out, HO3.out, HZ.out.symm, ?_, ?_, HT3.out, HG3.out⟩
        · rw [← HTT.out, ← HTE.out]; omega
        · rw [← HR.out, hlr]; omega
  · have hz0 : (z != 0) = true := bne_iff_ne.2 h0
    go_wp2_with fail
    refine (HDF.out w2 _ HT2.out HG2.out).mono ?_
    rintro e w6 ⟨p, at6, hp, rfl, T6, G6⟩
    have F6 := Lib.hid (frm_default (w := w) (p := p) (by omega) T6 (gb_trans HG2.out G6))
    clear T6 G6
    go_wp2_with fail
    go_ret
    exact F6.out
end Go.Proofs.Ytoaocdmcjjohgaa
