/- Who depends on whom, as a matrix, by the program. -/
import Derived.Test.YtknlhhbkahollaaGrul
import Derived.StillTailTactics
namespace Go.Proofs.Ytknlhhbkahollaa
open Go.RowKit Tab
set_option linter.unusedSimpArgs false
set_option linter.unusedVariables false

/-- A store into another block leaves a row. -/
theorem RdB.other {α : Type} {f : α → List Value} {w : World} {n B : Nat} {A : Option Addr} {l : List α} (h : RdB f w B A n l) (p : Addr) (v : Value) (hp : ∀ b, obk A = some b → b ≠ p.block) : RdB f (w.setCell p v) B A n l := by
  refine ⟨h.len, fun hl => ?_⟩
  obtain ⟨ad, e, hb, hc⟩ := h.rd hl
  refine ⟨ad, e, hb, fun j u hj => ?_⟩
  rw [World.cell?_of_block (Below.heap_setCell w p v (ad.add j).block (by rw [add_block]; exact hp _ (by rw [e]; rfl)))]
  exact hc j u hj
theorem RdB.on' {α : Type} {f : α → List Value} {w w' : World} {n : Nat} {A : Option Addr} {l : List α} (h : RdB f w w.heap.size A n l) (hb : Below w.heap.size w w') : RdB f w' w'.heap.size A n l := (h.below hb).more hb.size
def mA (W : List (Nat × Nat)) (a b : Nat) : Bool := decide (a = b) || decide ((a, b) ∈ W) || decide ((b, a) ∈ W)
def mS (W : List (Nat × Nat)) (a b : Nat) : Bool := decide (a = b) || decide ((a, b) ∈ W)
theorem take_one {α : Type} {L : List α} {i : Nat} {x : α} (h : L[i]? = some x) : L.take (i + 1) = L.take i ++ [x] := by
  obtain ⟨hi, e⟩ := List.getElem?_eq_some_iff.1 h
  rw [List.take_succ_eq_append_getElem hi, e]
theorem mA_more {W : List (Nat × Nat)} {i : Nat} {f t : Nat} (h : W[i]? = some (f, t)) (a b : Nat) : put2 (put2 (mA (W.take i)) f t true) t f true a b = mA (W.take (i + 1)) a b := by
  rw [take_one h]
  unfold put2 mA
  simp only [List.mem_append, List.mem_singleton, Prod.mk.injEq]
  by_cases h1 : a = t ∧ b = f
  · rw [if_pos h1]; simp [h1.1, h1.2]
  · rw [if_neg h1]
    by_cases h2 : a = f ∧ b = t
    · rw [if_pos h2]; simp [h2.1, h2.2]
    · rw [if_neg h2]
      have h3 : ¬ (b = f ∧ a = t) := fun e => h1 ⟨e.2, e.1⟩
      simp [h2, h3]
theorem mS_more {W : List (Nat × Nat)} {i : Nat} {f t : Nat} (h : W[i]? = some (f, t)) (a b : Nat) : put2 (mS (W.take i)) f t true a b = mS (W.take (i + 1)) a b := by
  rw [take_one h]
  unfold put2 mS
  simp only [List.mem_append, List.mem_singleton, Prod.mk.injEq]
  by_cases h2 : a = f ∧ b = t
  · rw [if_pos h2]; simp [h2.1, h2.2]
  · rw [if_neg h2]
    simp [h2]
/-- Rows ahead of i, and of row i the places ahead of j, have q besides. -/
def mQ (m q : Nat → Nat → Bool) (i j x y : Nat) : Bool := m x y || (q x y && (decide (x < i) || (decide (x = i) && decide (y < j))))
theorem mQ_zero (m q : Nat → Nat → Bool) (x y : Nat) : mQ m q 0 0 x y = m x y := by simp [mQ]
theorem mQ_put {m q : Nat → Nat → Bool} {i j : Nat} (h : q i j = true) (x y : Nat) : put2 (mQ m q i j) i j true x y = mQ m q i (j + 1) x y := by
  unfold put2 mQ
  by_cases h1 : x = i ∧ y = j
  · rw [if_pos h1, h1.1, h1.2, h]; simp
  · rw [if_neg h1]
    congr 2
    by_cases h2 : x = i
    · have h3 : y ≠ j := fun e => h1 ⟨h2, e⟩
      have h4 : (y < j) = (y < j + 1) := by simp; omega
      simp [h2, h4]
    · simp [h2]
theorem mQ_skip {m q : Nat → Nat → Bool} {i j : Nat} (h : q i j = false) (x y : Nat) : mQ m q i j x y = mQ m q i (j + 1) x y := by
  unfold mQ
  by_cases h1 : x = i ∧ y = j
  · rw [h1.1, h1.2, h]; simp
  · congr 2
    by_cases h2 : x = i
    · have h3 : y ≠ j := fun e => h1 ⟨h2, e⟩
      have h4 : (y < j) = (y < j + 1) := by simp; omega
      simp [h2, h4]
    · simp [h2]
theorem mQ_row {m q : Nat → Nat → Bool} {i n x y : Nat} (hy : y < n) : mQ m q i n x y = mQ m q (i + 1) 0 x y := by
  unfold mQ
  congr 2
  rw [Bool.eq_iff_iff]
  simp
  omega
theorem mQ_all {m q : Nat → Nat → Bool} {n x y : Nat} (hx : x < n) : mQ m q n 0 x y = (m x y || q x y) := by
  unfold mQ
  simp [hx]
def schQ (P : List PtV) (x y : Nat) : Bool := schedOf (P.map ptOf) x && schedOf (P.map ptOf) y
theorem depF_mQ {P : List PtV} {C : List ChV} {n a b : Nat} (hn : P.length = n) (ha : a < n) : mQ (mA (wayL n (C.map chOf))) (schQ P) n 0 a b = depF (P.map ptOf) (C.map chOf) a b := by
  rw [mQ_all ha, Bool.eq_iff_iff, depF_iff, List.length_map, hn]
  unfold mA schQ
  simp only [Bool.or_eq_true, Bool.and_eq_true, decide_eq_true_eq]
  constructor
  · rintro (((h | h) | h) | h)
    · exact .inl h
    · exact .inr (.inr (.inl h))
    · exact .inr (.inr (.inr h))
    · exact .inr (.inl h)
  · rintro (h | h | h | h)
    · exact .inl (.inl (.inl h))
    · exact .inr h
    · exact .inl (.inl (.inr h))
    · exact .inl (.inr h)
theorem RdB.way {w : World} {B n : Nat} {A : Option Addr} {L : List (Nat × Nat)} (h : RdB wcl w B A n L) {i : Nat} (hi : i < n) : ∃ (ad : Addr) (f t : Nat), A = some ad ∧ ad.block < B ∧ L[i]? = some (f, t) ∧ w.cell? (ad.add (i * 2)) = some (.int .i64 (f : Int)) ∧ w.cell? ⟨(ad.add (i * 2)).block, (ad.add (i * 2)).off + 1, none⟩ = some (.int .i64 (t : Int)) := by
  obtain ⟨ad, x, e, hb, hx, c0, ck⟩ := h.at_ wcl_len (by omega) hi
  obtain ⟨f, t⟩ := x
  exact ⟨ad, f, t, e, hb, hx, c0 _ rfl, ck 1 _ (by omega) rfl⟩
/-- A configuration in a box. -/
theorem box_vec (w : World) (v0 v1 v2 : Value) (t : TypeId) : Vec (w.alloc (.cells #[v0, v1, v2] t)) w.heap.size 3 fun j => if j = 0 then v0 else if j = 1 then v1 else v2 :=
  Vec.lit w _ _ 3 _ fun j hj => by rcases (by omega : j = 0 ∨ j = 1 ∨ j = 2) with rfl | rfl | rfl <;> rfl
theorem Vec.three {w : World} {g : Nat} {v0 v1 v2 : Value} (h : Vec w g 3 fun j => if j = 0 then v0 else if j = 1 then v1 else v2) : w.cell? ⟨g, 0, none⟩ = some v0 ∧ w.cell? ⟨g, 1, none⟩ = some v1 ∧ w.cell? ⟨g, 2, none⟩ = some v2 := by
  refine ⟨?_, ?_, ?_⟩
  · have := h.cell 0 (by omega); rwa [if_pos rfl] at this
  · have := h.cell 1 (by omega); rwa [if_neg (by omega), if_pos rfl] at this
  · have := h.cell 2 (by omega); rwa [if_neg (by omega), if_neg (by omega)] at this
set_option maxRecDepth 100000 in
set_option maxHeartbeats 1600000 in
theorem depends_any (A1 A2 A3 : Option Addr) (n1 n2 n3 c1 c2 c3 : Nat) (P : List PtV) (C : List ChV) (w : World) (h : CfW w w.heap.size A1 A2 n1 n2 P C) (q1 : n1 ≤ 1024) (q2 : n2 ≤ 1048576) :
    Calls Try.prog 16 #[.agg #[.slice A1 n1 c1, .slice A2 n2 c2, .slice A3 n3 c3]] w (MadG n1 (depF (P.map ptOf) (C.map chOf)) w) := by
  have hlen : P.length = n1 := h.p.len
  have hbw := bl1 w (.cells #[.slice A1 n1 c1, .slice A2 n2 c2, .slice A3 n3 c3] 26)
  have hbox := box_vec w (.slice A1 n1 c1) (.slice A2 n2 c2) (.slice A3 n3 c3) 26
  have hCf := h.on hbw
  have hgsz : w.heap.size < (w.alloc (.cells #[.slice A1 n1 c1, .slice A2 n2 c2, .slice A3 n3 c3] 26)).heap.size := by simp
  have HB0 := Lib.hid hbw
  have HLEN := Lib.hid hlen
  clear h hbw hlen
  obtain ⟨m0, m1, m2⟩ := hbox.three
  go_enter Try.func16, Try.ntmps16
  go_upto_region 1 with fail
  generalize w.alloc (.cells #[.slice A1 n1 c1, .slice A2 n2 c2, .slice A3 n3 c3] 26) = W at HB0 hCf hbox m0 m1 m2 hgsz ⊢
  obtain ⟨gb, hgb⟩ : ∃ gb, gb = w.heap.size := ⟨_, rfl⟩
  rw [← hgb] at hbox m0 m1 m2 hgsz ⊢
  have HGB := Lib.hid hgb
  clear hgb
  go_wp2_with fail
  refine (alone_any n1 W q1).mono ?_
  rintro e w1 ⟨g, G, rfl, hM1, hb1⟩
  obtain ⟨B, hB⟩ : ∃ B, B = W.heap.size := ⟨_, rfl⟩
  rw [← hB] at hM1 hb1 hgsz
  obtain ⟨m0, m1, m2⟩ := (hbox.below hb1 hgsz).three
  have HW := Lib.hid (ways_any A1 A2 A3 n1 n2 n3 c1 c2 c3 P C w1 (by have := hCf.below (hB ▸ hb1); exact this.more (by have := hb1.size; omega)) (by omega) q2)
  have HB := Lib.hid hB
  have HCF := Lib.hid hCf
  have HBOX := Lib.hid hbox
  clear hB hCf hbox
  go_wp2_with fail
  refine HW.out.mono ?_
  rintro e w2 ⟨Aw, cw, rfl, hRw, hcw, hb2, hAw⟩
  have hM2 := hM1.on hb2
  have hb3 := hb1.trans (hb2.mono (by have := hb1.size; have := HB.out; omega))
  have hGlt : g < w1.heap.size ∧ ∀ i, i < n1 → G i < w1.heap.size := by
    obtain ⟨f, hf, _⟩ := hM1.outer
    exact ⟨hf.lt, fun i hi => (hM1.rows i hi).lt⟩
  have HGL := Lib.hid hGlt
  have HAW := Lib.hid hAw
  obtain ⟨L, hL⟩ : ∃ L, L = wayL n1 (C.map chOf) := ⟨_, rfl⟩
  have hlt : ∀ f t, (f, t) ∈ L → f < n1 ∧ t < n1 := fun f t hm => wayL_lt (by rw [← hL]; exact hm)
  have HLT := Lib.hid hlt
  rw [← hL] at hRw hcw ⊢
  have HL := Lib.hid hL
  obtain ⟨k, hk⟩ : ∃ k, k = L.length := ⟨_, rfl⟩
  have hkb : k ≤ 2097152 := by
    have h1 := wayL_len n1 (C.map chOf)
    have h2 := HCF.out.c.len
    rw [List.length_map, h2] at h1
    rw [hk, hL]
    omega
  rw [← hk] at hRw hcw ⊢
  have HK := Lib.hid hk
  have hM3 := hM2.congr (m' := mA (L.take 0)) fun i j _ _ => by simp [mA]
  clear hM1 hM2 hb1 hb2 hGlt hAw hL hk hlt m0 m1 m2 hgsz
  go_wp2_with fail
  go_loopw [5, 15] (fun _ s wr => ∃ i : Nat, i ≤ k ∧ s = .int .i64 i ∧ Mat wr B g n1 n1 G (mA (L.take i)) ∧ Below B W wr ∧ RdB wcl wr wr.heap.size Aw k L) (fun _ s _ => k - (intOf s).toNat)
  case atStart => exact ⟨0, by omega, rfl, hM3, hb3, hRw⟩
  case round =>
    obtain ⟨i, hi, rfl, hM, hb, hR⟩ := hrel
    clear hM3 hb3 hRw
    by_cases hlt : i < k
    · obtain ⟨ad, f, t, rfl, had, hx, c0, c1⟩ := hR.way hlt
      obtain ⟨hfn, htn⟩ := HLT.out f t (List.mem_of_getElem? hx)
      have hbx := bl1 wr (.cells #[.int .i64 (f : Int), .int .i64 (t : Int)] 69)
      have hM1 := hM.on hbx
      have hb1 := hb.trans (hbx.mono (by have := hM.low; obtain ⟨_, h1, _⟩ := hM.outer; have := h1.lt; omega))
      have hR1 := (hR.below hbx).more hbx.size
      have f0 : (wr.alloc (.cells #[.int .i64 (f : Int), .int .i64 (t : Int)] 69)).cell? ⟨wr.heap.size, 0, none⟩ = some (.int .i64 (f : Int)) := World.cell?_alloc_mark _ _ _ _ _
      have f1 : (wr.alloc (.cells #[.int .i64 (f : Int), .int .i64 (t : Int)] 69)).cell? ⟨wr.heap.size, 1, none⟩ = some (.int .i64 (t : Int)) := World.cell?_alloc_mark _ _ _ _ _
      have hgx : g ≠ wr.heap.size ∧ ∀ i, i < n1 → G i ≠ wr.heap.size := by
        obtain ⟨f, hf, _⟩ := hM.outer
        have := hf.lt
        exact ⟨by omega, fun i hi => by have := (hM.rows i hi).lt; omega⟩
      have HX := Lib.hid hx
      clear hx hM hb hR hbx
      go_upto_region 5 with fail
      generalize wr.alloc (.cells #[.int .i64 (f : Int), .int .i64 (t : Int)] 69) = W1 at hM1 hb1 hR1 f0 f1 ⊢
      generalize wr.heap.size = gx at f0 f1 hgx ⊢
      clear c0 c1
      obtain ⟨x, hx, hxg, hBx, hgl, hxl, e0, e1, e2, hst⟩ := hM1.at_ (i := f) (j := t) hfn (Nat.le_refl _) htn
      obtain ⟨hM2, hB2⟩ := hst true
      have hb2 := (hB2 _ hb1).drew
      have hxgx : x ≠ gx := by rw [← hx]; exact hgx.2 f hfn
      have hR2 := hR1.other ⟨x, t, none⟩ (.bool true) fun b hb e => by
        have h1 := HAW.out b hb
        have h2 := HGL.out.2 f hfn
        rw [hx] at h2
        dsimp only at e
        omega
      have f02 : (W1.setCell ⟨x, t, none⟩ (.bool true)).drew.cell? ⟨gx, 0, none⟩ = some (.int .i64 (f : Int)) := by rw [World.cell?_drew, World.cell?_setCell_other _ _ _ _ (fun e => by injection e with e; exact hxgx e)]; exact f0
      have f12 : (W1.setCell ⟨x, t, none⟩ (.bool true)).drew.cell? ⟨gx, 1, none⟩ = some (.int .i64 (t : Int)) := by rw [World.cell?_drew, World.cell?_setCell_other _ _ _ _ (fun e => by injection e with e; exact hxgx e)]; exact f1
      have HM2 := Lib.hid (hM2.on (w' := (W1.setCell ⟨x, t, none⟩ (.bool true)).drew) (Below.refl _ _).drew)
      have HB2 := Lib.hid hb2
      have HR2 := Lib.hid (RdB.on' (hR2.more (by simp)) (w' := (W1.setCell ⟨x, t, none⟩ (.bool true)).drew) (Below.refl _ _).drew)
      have HF02 := Lib.hid f02
      have HF12 := Lib.hid f12
      clear hst hM1 hb1 hR1 hM2 hB2 hb2 hR2 f02 f12 hgl hxl hBx hgx hxgx
      generalize mA (L.take i) f t = bft at e1
      go_still_tail 8, (by kernel_rfl)
      change wpList _ _ _ _ _ W1.drew
      go_upto_region 6 with fail
      generalize (W1.setCell ⟨x, t, none⟩ (.bool true)).drew = W2 at HM2 HB2 HR2 HF02 HF12 ⊢
      obtain ⟨y, hy, hyg, hBy, hgl, hyl, k0, k1, k2, hst⟩ := HM2.out.at_ (i := t) (j := f) htn (Nat.le_refl _) hfn
      have f0 := HF02.out
      have f1 := HF12.out
      obtain ⟨hM3, hB3⟩ := hst true
      have hb3 := (hB3 _ HB2.out).drew
      have hR3 := HR2.out.other ⟨y, f, none⟩ (.bool true) fun b hb e => by
        have h1 := HAW.out b hb
        have h2 := HGL.out.2 t htn
        rw [hy] at h2
        dsimp only at e
        omega
      have HM3 := Lib.hid ((hM3.on (w' := (W2.setCell ⟨y, f, none⟩ (.bool true)).drew) (Below.refl _ _).drew).congr fun a b _ _ => mA_more HX.out a b)
      have HB3 := Lib.hid hb3
      have HR3 := Lib.hid (RdB.on' (hR3.more (by simp)) (w' := (W2.setCell ⟨y, f, none⟩ (.bool true)).drew) (Below.refl _ _).drew)
      clear hst hM3 hB3 hb3 hR3 hgl hyl hBy e0 e1 e2 HM2 HR2 HF02 HF12
      generalize put2 (mA (L.take i)) f t true t f = btf at k1
      go_still_tail 8, (by kernel_rfl)
      change wpList _ _ _ _ _ W2.drew
      go_wp2_with fail
      go_roundw
      case rel => exact ⟨i + 1, by omega, by go_num, HM3.out, HB3.out, HR3.out⟩
      case measure => simp [intOf]; omega
    · have hge : k ≤ i := by omega
      have hM4 := hM.congr (m' := mQ (mA L) (schQ P) 0 0) fun a b _ _ => by rw [mQ_zero, List.take_of_length_le (by rw [← HK.out]; exact hge)]
      have HB4 := Lib.hid hb
      have hlow := hM.low
      clear hM hR hb
      go_wp2_with fail
      generalize wr = w3 at hM4 HB4
      go_loopw [6, 7, 38] (fun _ _ s wr => ∃ i : Nat, i ≤ n1 ∧ s = .int .i64 i ∧ Mat wr B g n1 n1 G (mQ (mA L) (schQ P) i 0) ∧ Below B W wr) (fun _ _ s _ => n1 - (intOf s).toNat)
      case atStart => exact ⟨0, by omega, rfl, hM4, HB4.out⟩
      case round =>
        obtain ⟨i, hi, rfl, hM, hb⟩ := hrel
        clear hM4
        by_cases hlt : i < n1
        · obtain ⟨x, hx, hxg, k0, _⟩ := hM.row hlt (Nat.le_refl _)
          have HM := Lib.hid hM
          have HBB := Lib.hid hb
          clear hM hb
          go_wp2_with fail
          go_loopw [7, 46] (fun _ s wx => ∃ j : Nat, j ≤ n1 ∧ s = .int .i64 j ∧ Mat wx B g n1 n1 G (mQ (mA L) (schQ P) i j) ∧ Below B W wx) (fun _ s _ => n1 - (intOf s).toNat)
          case atStart => exact ⟨0, by omega, rfl, HM.out, HBB.out⟩
          case round =>
            obtain ⟨j, hj, rfl, hM, hb⟩ := hrel
            by_cases hjn : j < n1
            · have hPw := (HCF.out.p.below (HB.out ▸ hb))
              obtain ⟨ad, u, rfl, had, hu, _, cku⟩ := hPw.at_ pcl_len (by omega) hlt
              obtain ⟨ad', v, e, _, hv, _, ckv⟩ := hPw.at_ pcl_len (by omega) hjn
              injection e with e
              subst e
              have d3 := cku 3 _ (by omega) rfl
              have e3 := ckv 3 _ (by omega) rfl
              have hq : schQ P i j = (u.sched && v.sched) := by unfold schQ; rw [schedOf_at hu, schedOf_at hv]
              obtain ⟨nm, bu, pe, sc, st, pa, pn, pc, h0, h1, h2, h3, h4⟩ := u
              obtain ⟨nm', bu', pe', sc', st', pa', pn', pc', h0', h1', h2', h3', h4'⟩ := v
              dsimp only at d3 e3 hq
              obtain ⟨b0, b1, b2⟩ := (HBOX.out.below (HB.out ▸ hb) (HB.out ▸ (HBOX.out.lt))).three
              obtain ⟨y, hy, hyg, hBy, hgl, hyl, f0, f1, f2, hst⟩ := hM.at_ (i := i) (j := j) hlt (Nat.le_refl _) hjn
              have HM := Lib.hid hM
              have HBX := Lib.hid hb
              have HST := Lib.hid (hst true)
              clear hM hb hPw cku ckv hu hv hst hgl hyl hBy k0
              generalize mQ (mA L) (schQ P) i j i j = bij at f1
              cases hss : (sc && sc') with
              | true =>
                rw [hss] at hq
                have HQ := Lib.hid hq
                obtain ⟨rfl, rfl⟩ : sc = true ∧ sc' = true := by simpa using hss
                clear hss hq
                go_wp2_with fail
                go_roundw
                case rel => exact ⟨j + 1, by omega, by go_num, HST.out.1.congr fun a b _ _ => mQ_put HQ.out a b, HST.out.2 _ HBX.out⟩
                case measure => simp [intOf]; omega
              | false =>
                rw [hss] at hq
                have HQ := Lib.hid hq
                clear hq
                cases sc <;> cases sc' <;> first | (simp at hss; done) | skip
                all_goals
                  clear hss
                  go_wp2_with fail
                  go_roundw
                  case rel => exact ⟨j + 1, by omega, by go_num, HM.out.congr fun a b _ _ => mQ_skip HQ.out a b, HBX.out⟩
                  case measure => simp [intOf]; omega
            · have hge2 : n1 ≤ j := by omega
              obtain rfl : n1 = j := by omega
              have HM2 := Lib.hid (hM.congr fun a b _ hb => mQ_row hb)
              have HBX := Lib.hid hb
              clear hM hb
              go_wp2_with fail
              go_roundw
              case rel => exact ⟨i + 1, by omega, by go_num, HM2.out, HBX.out⟩
              case measure => simp [intOf]; omega
        · have hge2 : n1 ≤ i := by omega
          obtain rfl : n1 = i := by omega
          have hfin := (hM.congr (m' := depF (P.map ptOf) (C.map chOf)) fun a b ha _ => by rw [HL.out, depF_mQ HLEN.out ha]).weak (B' := w.heap.size) (by rw [HB.out]; exact HB0.out.size)
          have hbf := HB0.out.trans (hb.mono (by rw [HB.out]; exact HB0.out.size))
          have HFIN := Lib.hid hfin
          clear hM hb hfin
          go_wp2_with fail
          go_ret
          exact ⟨g, G, rfl, HFIN.out, hbf⟩
end Go.Proofs.Ytknlhhbkahollaa
