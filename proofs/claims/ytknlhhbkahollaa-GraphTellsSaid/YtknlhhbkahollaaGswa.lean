/- Who sways whom at once, as a matrix, by the program. -/
import Derived.Test.YtknlhhbkahollaaGdep
namespace Go.Proofs.Ytknlhhbkahollaa
open Go.RowKit Tab
set_option linter.unusedSimpArgs false
set_option linter.unusedVariables false

theorem RdV.other {w : World} {B : Nat} {A : Option Addr} {l : List Value} (h : RdV w B A l) (p : Addr) (v : Value) (hp : ∀ b, obk A = some b → b ≠ p.block) : RdV (w.setCell p v) B A l := fun hl => by
  obtain ⟨ad, e, hb, hc⟩ := h hl
  refine ⟨ad, e, hb, fun j u hj => ?_⟩
  rw [World.cell?_of_block (Below.heap_setCell w p v (ad.add j).block (by rw [add_block]; exact hp _ (by rw [e]; rfl)))]
  exact hc j u hj
theorem RdI.other {w : World} {B n : Nat} {A : Option Addr} {l : List Int} (h : RdI w B A n l) (p : Addr) (v : Value) (hp : ∀ b, obk A = some b → b ≠ p.block) : RdI (w.setCell p v) B A n l := ⟨h.len, h.rd.other p v hp⟩
/-- The rows of those of R ahead of i are full; row a is up to j. -/
def mR (m : Nat → Nat → Bool) (R : List Nat) (i a j x y : Nat) : Bool := m x y || decide (x ∈ R.take i) || (decide (x = a) && decide (y < j))
theorem mR_put (m : Nat → Nat → Bool) (R : List Nat) (i a j x y : Nat) : put2 (mR m R i a j) a j true x y = mR m R i a (j + 1) x y := by
  unfold put2 mR
  by_cases h1 : x = a ∧ y = j
  · rw [if_pos h1, h1.1, h1.2]; simp
  · rw [if_neg h1]
    congr 1
    by_cases h2 : x = a
    · have h3 : y ≠ j := fun e => h1 ⟨h2, e⟩
      have h4 : (y < j) = (y < j + 1) := by simp; omega
      simp [h2, h4]
    · simp [h2]
theorem mR_row {m : Nat → Nat → Bool} {R : List Nat} {i a n x y : Nat} (h : R[i]? = some a) (hy : y < n) : mR m R i a n x y = mR m R (i + 1) 0 0 x y := by
  unfold mR
  rw [take_one h]
  simp only [List.mem_append, List.mem_singleton, hy, decide_true, Bool.and_true, Nat.not_lt_zero, decide_false, Bool.and_false, Bool.or_false]
  rw [Bool.eq_iff_iff]
  simp only [Bool.or_eq_true, decide_eq_true_eq, or_assoc]
theorem swayF_mR {P : List PtV} {C : List ChV} {n i a b : Nat} {L : List (Nat × Nat)} {R : List Nat} (hn : P.length = n) (hL : L = wayL n (C.map chOf)) (hR : R = rulL (P.map ptOf)) (hi : R.length ≤ i) : mR (mS L) R i 0 0 a b = swayF (P.map ptOf) (C.map chOf) a b := by
  rw [Bool.eq_iff_iff, swayF_iff, List.length_map, hn]
  unfold mR mS
  rw [List.take_of_length_le hi, hL, hR]
  simp only [Bool.or_eq_true, Bool.and_eq_true, decide_eq_true_eq, Nat.not_lt_zero, and_false, or_false]
  unfold rulL
  rw [mem_plcs, Bool.or_eq_true]
  have hs : schedOf (P.map ptOf) a = true → a < (P.map ptOf).length := fun h => by
    unfold schedOf at h
    rcases Nat.lt_or_ge a (P.map ptOf).length with h1 | h1
    · exact h1
    · rw [List.getElem?_eq_none h1] at h; cases h
  have ht : stopOf (P.map ptOf) a = true → a < (P.map ptOf).length := fun h => by
    unfold stopOf at h
    rcases Nat.lt_or_ge a (P.map ptOf).length with h1 | h1
    · exact h1
    · rw [List.getElem?_eq_none h1] at h; cases h
  constructor
  · rintro ((h | h) | ⟨_, h | h⟩)
    · exact .inl h
    · exact .inr (.inr (.inr h))
    · exact .inr (.inl h)
    · exact .inr (.inr (.inl h))
  · rintro (h | h | h | h)
    · exact .inl (.inl h)
    · exact .inr ⟨hs h, .inl h⟩
    · exact .inr ⟨ht h, .inr h⟩
    · exact .inl (.inr h)
set_option maxRecDepth 100000 in
set_option maxHeartbeats 1600000 in
theorem sways_any (A1 A2 A3 : Option Addr) (n1 n2 n3 c1 c2 c3 : Nat) (P : List PtV) (C : List ChV) (w : World) (h : CfW w w.heap.size A1 A2 n1 n2 P C) (q1 : n1 ≤ 1024) (q2 : n2 ≤ 1048576) :
    Calls Try.prog 17 #[.agg #[.slice A1 n1 c1, .slice A2 n2 c2, .slice A3 n3 c3]] w (MadG n1 (swayF (P.map ptOf) (C.map chOf)) w) := by
  have hlen : P.length = n1 := h.p.len
  have hbw := bl1 w (.cells #[.slice A1 n1 c1, .slice A2 n2 c2, .slice A3 n3 c3] 26)
  have hbox := box_vec w (.slice A1 n1 c1) (.slice A2 n2 c2) (.slice A3 n3 c3) 26
  have hCf := h.on hbw
  have hgsz : w.heap.size < (w.alloc (.cells #[.slice A1 n1 c1, .slice A2 n2 c2, .slice A3 n3 c3] 26)).heap.size := by simp
  have HB0 := Lib.hid hbw
  have HLEN := Lib.hid hlen
  clear h hbw hlen
  obtain ⟨m0, m1, m2⟩ := hbox.three
  go_enter Try.func17, Try.ntmps17
  go_upto_region 1 with fail
  generalize w.alloc (.cells #[.slice A1 n1 c1, .slice A2 n2 c2, .slice A3 n3 c3] 26) = W at HB0 hCf hbox m0 m1 m2 hgsz ⊢
  obtain ⟨gb, hgb⟩ : ∃ gb, gb = w.heap.size := ⟨_, rfl⟩
  rw [← hgb] at hbox m0 m1 m2 hgsz ⊢
  have HGB := Lib.hid hgb
  clear hgb
  go_wp2_with fail
  refine (alone_any n1 W q1).mono ?_
  rintro e w1 ⟨g, G, rfl, hM1, hb1⟩
  obtain ⟨B, hB⟩ : ∃ B, B = W.heap.size := ⟨_, rfl⟩
  rw [← hB] at hM1 hb1 hgsz
  obtain ⟨m0, m1, m2⟩ := (hbox.below hb1 hgsz).three
  have HW := Lib.hid (ways_any A1 A2 A3 n1 n2 n3 c1 c2 c3 P C w1 (by have := hCf.below (hB ▸ hb1); exact this.more (by have := hb1.size; omega)) (by omega) q2)
  have HB := Lib.hid hB
  have HCF := Lib.hid hCf
  have HBOX := Lib.hid hbox
  clear hB hCf hbox
  go_wp2_with fail
  refine HW.out.mono ?_
  rintro e w2 ⟨Aw, cw, rfl, hRw, hcw, hb2, hAw⟩
  have hM2 := hM1.on hb2
  have hb3 := hb1.trans (hb2.mono (by have := hb1.size; have := HB.out; omega))
  have hGlt : g < w1.heap.size ∧ ∀ i, i < n1 → G i < w1.heap.size := by
    obtain ⟨f, hf, _⟩ := hM1.outer
    exact ⟨hf.lt, fun i hi => (hM1.rows i hi).lt⟩
  have HGL := Lib.hid hGlt
  have HAW := Lib.hid hAw
  obtain ⟨L, hL⟩ : ∃ L, L = wayL n1 (C.map chOf) := ⟨_, rfl⟩
  have hlt : ∀ f t, (f, t) ∈ L → f < n1 ∧ t < n1 := fun f t hm => wayL_lt (by rw [← hL]; exact hm)
  have HLT := Lib.hid hlt
  rw [← hL] at hRw hcw ⊢
  have HL := Lib.hid hL
  obtain ⟨k, hk⟩ : ∃ k, k = L.length := ⟨_, rfl⟩
  have hkb : k ≤ 2097152 := by
    have h1 := wayL_len n1 (C.map chOf)
    have h2 := HCF.out.c.len
    rw [List.length_map, h2] at h1
    rw [hk, hL]
    omega
  rw [← hk] at hRw hcw ⊢
  have HK := Lib.hid hk
  have hM3 := hM2.congr (m' := mS (L.take 0)) fun i j _ _ => by simp [mS]
  clear hM1 hM2 hb1 hb2 hGlt hAw hL hk hlt m0 m1 m2 hgsz
  go_wp2_with fail
  go_loopw [5, 16] (fun _ s wr => ∃ i : Nat, i ≤ k ∧ s = .int .i64 i ∧ Mat wr B g n1 n1 G (mS (L.take i)) ∧ Below B W wr ∧ RdB wcl wr wr.heap.size Aw k L) (fun _ s _ => k - (intOf s).toNat)
  case atStart => exact ⟨0, by omega, rfl, hM3, hb3, hRw⟩
  case round =>
    obtain ⟨i, hi, rfl, hM, hb, hR⟩ := hrel
    clear hM3 hb3 hRw
    by_cases hlt : i < k
    · obtain ⟨ad, f, t, rfl, had, hx, c0, c1⟩ := hR.way hlt
      obtain ⟨hfn, htn⟩ := HLT.out f t (List.mem_of_getElem? hx)
      have hbx := bl1 wr (.cells #[.int .i64 (f : Int), .int .i64 (t : Int)] 69)
      have hM1 := hM.on hbx
      have hb1 := hb.trans (hbx.mono (by have := hM.low; obtain ⟨_, h1, _⟩ := hM.outer; have := h1.lt; omega))
      have hR1 := (hR.below hbx).more hbx.size
      have f0 : (wr.alloc (.cells #[.int .i64 (f : Int), .int .i64 (t : Int)] 69)).cell? ⟨wr.heap.size, 0, none⟩ = some (.int .i64 (f : Int)) := World.cell?_alloc_mark _ _ _ _ _
      have f1 : (wr.alloc (.cells #[.int .i64 (f : Int), .int .i64 (t : Int)] 69)).cell? ⟨wr.heap.size, 1, none⟩ = some (.int .i64 (t : Int)) := World.cell?_alloc_mark _ _ _ _ _
      have HX := Lib.hid hx
      clear hx hM hb hR hbx
      go_upto_region 5 with fail
      generalize wr.alloc (.cells #[.int .i64 (f : Int), .int .i64 (t : Int)] 69) = W1 at hM1 hb1 hR1 f0 f1 ⊢
      generalize wr.heap.size = gx at f0 f1 ⊢
      clear c0 c1
      obtain ⟨x, hx, hxg, hBx, hgl, hxl, e0, e1, e2, hst⟩ := hM1.at_ (i := f) (j := t) hfn (Nat.le_refl _) htn
      obtain ⟨hM2, hB2⟩ := hst true
      have hR2 := hR1.other ⟨x, t, none⟩ (.bool true) fun b hb e => by
        have h1 := HAW.out b hb
        have h2 := HGL.out.2 f hfn
        rw [hx] at h2
        dsimp only at e
        omega
      have HM3 := Lib.hid ((hM2.on (w' := (W1.setCell ⟨x, t, none⟩ (.bool true)).drew) (Below.refl _ _).drew).congr fun a b _ _ => mS_more HX.out a b)
      have HB3 := Lib.hid (hB2 _ hb1).drew
      have HR3 := Lib.hid (RdB.on' (hR2.more (by simp)) (w' := (W1.setCell ⟨x, t, none⟩ (.bool true)).drew) (Below.refl _ _).drew)
      clear hst hM1 hb1 hR1 hM2 hB2 hR2 hgl hxl hBx
      generalize mS (L.take i) f t = bft at e1
      go_still_tail 8, (by kernel_rfl)
      change wpList _ _ _ _ _ W1.drew
      go_wp2_with fail
      go_roundw
      case rel => exact ⟨i + 1, by omega, by go_num, HM3.out, HB3.out, HR3.out⟩
      case measure => simp [intOf]; omega
    · have hge : k ≤ i := by omega
      have hM4 := hM.congr (m' := mR (mS L) [] 0 0 0) fun a b _ _ => by rw [List.take_of_length_le (by rw [← HK.out]; exact hge)]; simp [mR]
      have HB4 := Lib.hid hb
      have hlow := hM.low
      obtain ⟨b0, b1, b2⟩ := (HBOX.out.below (HB.out ▸ hb) (HB.out ▸ (HBOX.out.lt))).three
      have hgl4 : B ≤ wr.heap.size := by
        obtain ⟨_, h1, _⟩ := hM.outer
        have := h1.lt
        omega
      have HRU := Lib.hid (rulers_any A1 A2 A3 n1 n2 n3 c1 c2 c3 P C wr ((HCF.out.below (HB.out ▸ hb)).more (by rw [← HB.out]; exact hgl4)) (by omega))
      have hGl4 : g < wr.heap.size ∧ ∀ i, i < n1 → G i < wr.heap.size := by
        obtain ⟨f, hf, _⟩ := hM.outer
        exact ⟨hf.lt, fun i hi => (hM.rows i hi).lt⟩
      have HGL4 := Lib.hid hGl4
      clear hM hR hb hGl4
      go_wp2_with fail
      refine HRU.out.mono ?_
      rintro e w4 ⟨Ar, cr, rfl, hro, hb4⟩
      have hM5 := hM4.on hb4
      have hb5 := HB4.out.trans (hb4.mono hgl4)
      have hrr := hro.rdi
      have hrc := hro.cap
      have HRO : Hid (∀ b, obk Ar = some b → wr.heap.size ≤ b) := Lib.hid fun b hb => (hro.obk_ge hb).1
      obtain ⟨Ru, hRu⟩ : ∃ Ru, Ru = rulL (P.map ptOf) := ⟨_, rfl⟩
      rw [← hRu] at hrr hrc ⊢
      have hrl : ∀ a ∈ Ru, a < n1 := fun a ha => by
        rw [hRu] at ha
        have := (mem_plcs.1 ha).1
        rwa [List.length_map, HLEN.out] at this
      have hrl2 : Ru.length ≤ n1 := by
        rw [hRu]
        have := plcs_len (P.map ptOf).length fun a => schedOf (P.map ptOf) a || stopOf (P.map ptOf) a
        rw [List.length_map, HLEN.out] at this
        unfold rulL
        rwa [List.length_map, HLEN.out]
      have HRL := Lib.hid hrl
      have HRU2 := Lib.hid hRu
      have hM6 := hM5.congr (m' := mR (mS L) Ru 0 0 0) fun a b _ _ => by simp [mR]
      clear hM4 hM5 hro hRu hrl HRU b0 b1 b2 hb4
      obtain ⟨kr, hkr⟩ : ∃ kr, kr = Ru.length := ⟨_, rfl⟩
      rw [← hkr] at hrr hrc hrl2 ⊢
      have HKR := Lib.hid hkr
      clear hkr
      go_wp2_with fail
      generalize w4 = w5 at hM6 hb5 hrr
      go_loopw [7, 8, 32] (fun _ _ s wx => ∃ i : Nat, i ≤ kr ∧ s = .int .i64 i ∧ Mat wx B g n1 n1 G (mR (mS L) Ru i 0 0) ∧ Below B W wx ∧ RdI wx wx.heap.size Ar kr (Ru.map fun x : Nat => (x : Int))) (fun _ _ s _ => kr - (intOf s).toNat)
      case atStart => exact ⟨0, by omega, rfl, hM6, hb5, hrr⟩
      case round =>
        obtain ⟨i, hi, rfl, hM, hb, hR⟩ := hrel
        clear hM6 hb5 hrr
        by_cases hlt : i < kr
        · obtain ⟨ad, z, rfl, had, hz, c0⟩ := hR.at_ hlt
          have hil : i < Ru.length := by rw [← HKR.out]; exact hlt
          rw [List.getElem?_map, List.getElem?_eq_getElem hil] at hz
          simp only [Option.map_some, Option.some.injEq] at hz
          obtain ⟨a, haa⟩ : ∃ a, a = Ru[i] := ⟨_, rfl⟩
          rw [← haa] at hz
          subst hz
          have han : a < n1 := HRL.out a (by rw [haa]; exact List.getElem_mem hil)
          have hat : Ru[i]? = some a := by rw [haa]; exact List.getElem?_eq_getElem hil
          have HAT := Lib.hid hat
          obtain ⟨x, hx, hxg, k0, _⟩ := hM.row han (Nat.le_refl _)
          have HM := Lib.hid (hM.congr (m' := mR (mS L) Ru i a 0) fun u v _ _ => by simp [mR])
          have HBB := Lib.hid hb
          have HRR := Lib.hid hR
          clear hM hb hR haa hat
          go_wp2_with fail
          go_loopw [8, 41] (fun _ s wx => ∃ j : Nat, j ≤ n1 ∧ s = .int .i64 j ∧ Mat wx B g n1 n1 G (mR (mS L) Ru i a j) ∧ Below B W wx ∧ RdI wx wx.heap.size (some ad) kr (Ru.map fun x : Nat => (x : Int))) (fun _ s _ => n1 - (intOf s).toNat)
          case atStart => exact ⟨0, by omega, rfl, HM.out, HBB.out, HRR.out⟩
          case round =>
            obtain ⟨j, hj, rfl, hM, hb, hR⟩ := hrel
            by_cases hjn : j < n1
            · obtain ⟨y, hy, hyg, hBy, hgl, hyl, f0, f1, f2, hst⟩ := hM.at_ (i := a) (j := j) han (Nat.le_refl _) hjn
              have HBX := Lib.hid hb
              have HST := Lib.hid (hst true)
              have HR2 := Lib.hid (RdI.other hR ⟨y, j, none⟩ (.bool true) fun b hb e => by
                have h1 := HRO.out b hb
                have h2 := HGL4.out.2 a han
                rw [hy] at h2
                dsimp only at e
                omega)
              clear hM hb hst hgl hyl hBy k0 hR
              generalize mR (mS L) Ru i a j a j = bij at f1
              go_wp2_with fail
              go_roundw
              case rel => exact ⟨j + 1, by omega, by go_num, HST.out.1.congr fun u v _ _ => mR_put _ _ _ _ _ u v, HST.out.2 _ HBX.out, by
                have := HR2.out
                exact ⟨this.len, this.rd.more (by simp)⟩⟩
              case measure => simp [intOf]; omega
            · have hge2 : n1 ≤ j := by omega
              obtain rfl : n1 = j := by omega
              have HM2 := Lib.hid (hM.congr fun u v _ hv => mR_row HAT.out hv)
              have HBX := Lib.hid hb
              have HR2 := Lib.hid hR
              clear hM hb hR
              go_wp2_with fail
              go_roundw
              case rel => exact ⟨i + 1, by omega, by go_num, HM2.out, HBX.out, HR2.out⟩
              case measure => simp [intOf]; omega
        · have hge2 : kr ≤ i := by omega
          have hfin := (hM.congr (m' := swayF (P.map ptOf) (C.map chOf)) fun u v _ _ => by rw [swayF_mR HLEN.out HL.out HRU2.out (by rw [← HKR.out]; exact hge2)]).weak (B' := w.heap.size) (by rw [HB.out]; exact HB0.out.size)
          have hbf := HB0.out.trans (hb.mono (by rw [HB.out]; exact HB0.out.size))
          have HFIN := Lib.hid hfin
          clear hM hb hfin hR
          go_wp2_with fail
          go_ret
          exact ⟨g, G, rfl, HFIN.out, hbf⟩
end Go.Proofs.Ytknlhhbkahollaa
