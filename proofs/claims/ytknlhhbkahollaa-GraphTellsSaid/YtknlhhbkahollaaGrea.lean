/- Who sways one by any number of steps: by the program. -/
import Derived.Test.YtknlhhbkahollaaGfre
namespace Go.Proofs.Ytknlhhbkahollaa
open Go.RowKit Tab
set_option linter.unusedSimpArgs false
set_option linter.unusedVariables false

/-- A row of it grows by one. -/
theorem Stp.grow {w w1 : World} {g n B : Nat} {R : Nat → Option Addr × Nat} {S : Nat → List Nat} (h : Stp w B g n n R S) {t f c' : Nat} {A' : Option Addr} (ht : t < n)
    (ho : OwnV 3 1 w1 B A' ((S t).length + 1) c' (is (cast (S t ++ [f])))) (hg : Grew (R t).1 A' w w1) :
    Stp (w1.setCell ⟨g, t, none⟩ (.slice A' ((S t).length + 1) c')) B g n n (put1 R t (A', c')) (put1 S t (S t ++ [f])) := by
  obtain ⟨F, h1, h2⟩ := h.outer
  have hgne : some g ≠ obk (R t).1 := fun e => h.ne t ht e.symm
  have hV : Vec w1 g n F := h1.keep (hg.gb.block g h1.lt hgne) hg.gb.size
  have hAg : obk A' ≠ some g := by
    rcases hg.at_ with e | ⟨x, e, hx⟩
    · rw [e]; exact h.ne t ht
    · rw [e]; intro e2; injection e2 with e2; have := h1.lt; omega
  have hset : ∀ A n c l, OwnV 3 1 w1 B A n c l → obk A ≠ some g → ∀ v, OwnV 3 1 (w1.setCell ⟨g, t, none⟩ v) B A n c l := fun A n c l ho hne v =>
    ho.keep' fun b hb => Below.heap_setCell _ _ _ _ fun e => hne (by rw [hb]; exact congrArg some e)
  have hold : ∀ i, i < n → i ≠ t → OwnV 3 1 w1 B (R i).1 (S i).length (R i).2 (is (cast (S i))) := fun i hi hne =>
    (h.rows i hi).keep' fun b hb => hg.gb.block b ((h.rows i hi).obk_ge hb).2 fun e => h.inj t i b ht hi (fun e => hne e.symm) e.symm hb
  refine ⟨⟨_, hV.set t _, fun i hi => ?_⟩, fun i hi => ?_, h.low, fun i hi => ?_, fun i j b hi hj hij e => ?_⟩
  · by_cases e : i = t
    · subst e; rw [put1_same, put1_same, put1_same, List.length_append]; rfl
    · rw [put1_other e, put1_other e, put1_other e]; exact h2 i hi
  · by_cases e : i = t
    · subst e; rw [put1_same, put1_same, List.length_append]; exact hset _ _ _ _ ho hAg _
    · rw [put1_other e, put1_other e]; exact hset _ _ _ _ (hold i hi e) (h.ne i hi) _
  · by_cases e : i = t
    · subst e; rw [put1_same]; exact hAg
    · rw [put1_other e]; exact h.ne i hi
  · by_cases e1 : i = t
    · subst e1
      have e2 : j ≠ i := fun e => hij e.symm
      rw [put1_same] at e
      rw [put1_other e2]
      intro e3
      rcases hg.at_ with e4 | ⟨x, e4, hx⟩
      · exact h.inj i j b hi hj hij (by rw [← e4]; exact e) e3
      · have h3 := ((h.rows j hj).obk_ge e3).2
        rw [e4] at e
        injection e with e
        omega
    · rw [put1_other e1] at e
      by_cases e2 : j = t
      · subst e2
        rw [put1_same]
        intro e3
        rcases hg.at_ with e4 | ⟨x, e4, hx⟩
        · exact h.inj i j b hi hj hij e (by rw [← e4]; exact e3)
        · have h3 := ((h.rows i hi).obk_ge e).2
          rw [e4] at e3
          injection e3 with e3
          omega
      · rw [put1_other e2]; exact h.inj i j b hi hj hij e
theorem Stp.congr {w : World} {g n k B : Nat} {R : Nat → Option Addr × Nat} {S T : Nat → List Nat} (h : Stp w B g n k R S) (e : ∀ i, i < k → S i = T i) : Stp w B g n k R T := by
  obtain ⟨f, h1, h2⟩ := h.outer
  exact ⟨⟨f, h1, fun i hi => by rw [← e i hi]; exact h2 i hi⟩, fun i hi => by rw [← e i hi]; exact h.rows i hi, h.low, h.ne, h.inj⟩
theorem backL_more {L : List (Nat × Nat)} {i f t : Nat} (h : L[i]? = some (f, t)) (x : Nat) : put1 (backL (L.take i)) t (backL (L.take i) t ++ [f]) x = backL (L.take (i + 1)) x := by
  rw [take_one h, backL_snoc]
  by_cases e : x = t
  · subst e; rw [put1_same, if_pos rfl]
  · rw [put1_other e, if_neg (fun e2 => e e2.symm)]
theorem backL_len (L : List (Nat × Nat)) (x : Nat) : (backL L x).length ≤ L.length := by
  unfold backL
  rw [List.length_map]
  exact List.length_filter_le _ _
theorem reach_none (A1 A2 A3 : Option Addr) (n1 n2 n3 c1 c2 c3 : Nat) (p : Int) (w : World) (hp : inP n1 p = false) :
    Calls Try.prog 20 #[.agg #[.slice A1 n1 c1, .slice A2 n2 c2, .slice A3 n3 c3], .int .i64 p] w (MadN [] w) := by
  have hbw := bl1 w (.cells #[.slice A1 n1 c1, .slice A2 n2 c2, .slice A3 n3 c3] 26)
  have hbox := box_vec w (.slice A1 n1 c1) (.slice A2 n2 c2) (.slice A3 n3 c3) 26
  obtain ⟨m0, m1, m2⟩ := hbox.three
  have HF := Lib.hid (has_any A1 A2 A3 n1 n2 n3 c1 c2 c3 p (w.alloc (.cells #[.slice A1 n1 c1, .slice A2 n2 c2, .slice A3 n3 c3] 26)))
  rw [hp] at HF
  clear hp hbox
  go_enter Try.func20, Try.ntmps20
  go_wp2_with fail
  refine HF.out.mono ?_
  rintro e w2 ⟨rfl, hb2⟩
  go_wp2_with fail
  go_ret
  exact ⟨none, 0, rfl, OwnV.nil _ _ _ _, hbw.trans (hb2.mono hbw.size)⟩
set_option maxRecDepth 100000 in
set_option maxHeartbeats 1600000 in
theorem reach_any (A1 A2 A3 : Option Addr) (n1 n2 n3 c1 c2 c3 : Nat) (P : List PtV) (C : List ChV) (p : Nat) (w : World) (h : CfW w w.heap.size A1 A2 n1 n2 P C) (q1 : n1 ≤ 1024) (q2 : n2 ≤ 524288) (hp : p < n1) :
    Calls Try.prog 20 #[.agg #[.slice A1 n1 c1, .slice A2 n2 c2, .slice A3 n3 c3], .int .i64 (p : Int)] w (MadN (reachL (P.map ptOf) (C.map chOf) p) w) := by
  have hlen : P.length = n1 := h.p.len
  have hmk := run_makeII n1 (by omega)
  have hbw := bl1 w (.cells #[.slice A1 n1 c1, .slice A2 n2 c2, .slice A3 n3 c3] 26)
  have hbox := box_vec w (.slice A1 n1 c1) (.slice A2 n2 c2) (.slice A3 n3 c3) 26
  have hCf := h.on hbw
  have hgsz : w.heap.size < (w.alloc (.cells #[.slice A1 n1 c1, .slice A2 n2 c2, .slice A3 n3 c3] 26)).heap.size := by simp
  have HB0 := Lib.hid hbw
  have HLEN := Lib.hid hlen
  clear h hbw hlen
  obtain ⟨m0, m1, m2⟩ := hbox.three
  go_enter Try.func20, Try.ntmps20
  go_upto_region 1 with fail
  generalize w.alloc (.cells #[.slice A1 n1 c1, .slice A2 n2 c2, .slice A3 n3 c3] 26) = W at HB0 hCf hbox m0 m1 m2 hgsz ⊢
  obtain ⟨gb, hgb⟩ : ∃ gb, gb = w.heap.size := ⟨_, rfl⟩
  rw [← hgb] at hbox m0 m1 m2 hgsz ⊢
  clear hgb
  have HF := Lib.hid (has_any A1 A2 A3 n1 n2 n3 c1 c2 c3 (p : Int) W)
  rw [show inP n1 (p : Int) = true from inP_iff.2 (by omega)] at HF
  go_wp2_with fail
  refine HF.out.mono ?_
  rintro e w1 ⟨rfl, hb1⟩
  obtain ⟨m0, m1, m2⟩ := (hbox.below hb1 hgsz).three
  obtain ⟨B, hB⟩ : ∃ B, B = W.heap.size := ⟨_, rfl⟩
  rw [← hB] at hb1 hgsz
  have HB := Lib.hid hB
  have HCF := Lib.hid hCf
  have HBOX := Lib.hid hbox
  have hBw1 : B ≤ w1.heap.size := by have := hb1.size; omega
  have hS0 : Stp (w1.alloc (.cells (madeCells #[.slice none 0 0] n1) 28)) B w1.heap.size n1 n1 (fun _ => (none, 0)) (fun _ => []) :=
    ⟨⟨fun _ => .slice none 0 0, Vec.lit _ _ _ n1 _ fun j hj => made_get _ n1 j hj, fun i hi => rfl⟩, fun i hi => OwnV.nil _ _ _ _, hBw1, fun i hi e => (by cases e), fun i j b hi hj hij e => (by cases e)⟩
  have hb2 : Below B W (w1.alloc (.cells (madeCells #[.slice none 0 0] n1) 28)) := hb1.alloc hBw1 _
  clear hB hCf hbox HF
  go_upto_region 4 with fail
  have hgs : w1.heap.size < (w1.alloc (.cells (madeCells #[.slice none 0 0] n1) 28)).heap.size := by simp
  generalize w1.alloc (.cells (madeCells #[.slice none 0 0] n1) 28) = w2 at hS0 hb2 hgs ⊢
  generalize w1.heap.size = g at hS0 hgs hBw1 ⊢
  have hBw2 : B ≤ w2.heap.size := by omega
  obtain ⟨m0, m1, m2⟩ := (HBOX.out.below (HB.out ▸ hb2) (HB.out ▸ (HBOX.out.lt))).three
  have HW := Lib.hid (ways_any A1 A2 A3 n1 n2 n3 c1 c2 c3 P C w2 ((HCF.out.below (HB.out ▸ hb2)).more (by rw [← HB.out]; exact hBw2)) (by omega) (by omega))
  clear hmk
  go_wp2_with fail
  refine HW.out.mono ?_
  rintro e w3 ⟨Aw, cw, rfl, hRw, hcw, hb3, hAw⟩
  have hS1 := (hS0.on hb3).congr (T := backL ([] : List (Nat × Nat))) fun i _ => rfl
  have hb4 := hb2.trans (hb3.mono hBw2)
  obtain ⟨L, hL⟩ : ∃ L, L = wayL n1 (C.map chOf) := ⟨_, rfl⟩
  have hlt : ∀ f t, (f, t) ∈ L → f < n1 ∧ t < n1 := fun f t hm => wayL_lt (by rw [← hL]; exact hm)
  have HLT := Lib.hid hlt
  rw [← hL] at hRw hcw ⊢
  have HL := Lib.hid hL
  obtain ⟨k, hk⟩ : ∃ k, k = L.length := ⟨_, rfl⟩
  have hkb : k ≤ 1048576 := by
    have h1 := wayL_len n1 (C.map chOf)
    have h2 := HCF.out.c.len
    rw [List.length_map, h2] at h1
    rw [hk, hL]
    omega
  rw [← hk] at hRw hcw ⊢
  have HK := Lib.hid hk
  have hAg : obk Aw ≠ some g := fun e => by have := hAw g e; omega
  have HAG := Lib.hid hAg
  clear hS0 hb1 hb2 hb3 hL hk hlt m0 m1 m2 HW hAw hAg
  go_wp2_with fail
  go_loopw [7, 19] (fun _ s wr => ∃ (i : Nat) (R : Nat → Option Addr × Nat), i ≤ k ∧ s = .int .i64 i ∧ Stp wr B g n1 n1 R (backL (L.take i)) ∧ Below B W wr ∧ RdB wcl wr wr.heap.size Aw k L ∧ ∀ j b, j < n1 → obk (R j).1 = some b → obk Aw ≠ some b) (fun _ s _ => k - (intOf s).toNat)
  case atStart => exact ⟨0, _, by omega, rfl, hS1, hb4, hRw, fun j b _ e => (by cases e)⟩
  case round =>
    obtain ⟨i, R, hi, rfl, hS, hb, hR, hAR⟩ := hrel
    clear hS1 hb4 hRw
    have hgl : g < wr.heap.size := by
      obtain ⟨_, h1, _⟩ := hS.outer
      exact h1.lt
    by_cases hlt : i < k
    · obtain ⟨ad, f, t, rfl, had, hx, c0, c1⟩ := hR.way hlt
      obtain ⟨hfn, htn⟩ := HLT.out f t (List.mem_of_getElem? hx)
      have hbx := bl1 wr (.cells #[.int .i64 (f : Int), .int .i64 (t : Int)] 69)
      have hS1 := hS.on hbx
      have hb1 := hb.trans (hbx.mono (by omega))
      have hR1 := (hR.below hbx).more hbx.size
      have f0 : (wr.alloc (.cells #[.int .i64 (f : Int), .int .i64 (t : Int)] 69)).cell? ⟨wr.heap.size, 0, none⟩ = some (.int .i64 (f : Int)) := World.cell?_alloc_mark _ _ _ _ _
      have f1 : (wr.alloc (.cells #[.int .i64 (f : Int), .int .i64 (t : Int)] 69)).cell? ⟨wr.heap.size, 1, none⟩ = some (.int .i64 (t : Int)) := World.cell?_alloc_mark _ _ _ _ _
      have hgx : wr.heap.size < (wr.alloc (.cells #[.int .i64 (f : Int), .int .i64 (t : Int)] 69)).heap.size := by simp
      have HX := Lib.hid hx
      have hRgx : ∀ b, obk (R t).1 = some b → b < wr.heap.size := fun b e => ((hS.rows t htn).obk_ge e).2
      clear hx hS hb hR hbx
      go_upto_region 7 with fail
      generalize wr.alloc (.cells #[.int .i64 (f : Int), .int .i64 (t : Int)] 69) = W1 at hS1 hb1 hR1 f0 f1 hgx ⊢
      generalize wr.heap.size = gx at f0 f1 hgl hgx had hRgx ⊢
      clear c0 c1
      have hbl := bl1 W1 (.cells #[.int .i64 (f : Int)] 3)
      have hS2 := hS1.on hbl
      have hrow := hS2.rows t htn
      have hrd := rdV_new W1 #[.int .i64 (f : Int)] 3 (is [(f : Int)]) rfl
      have hlb : (backL (L.take i) t).length ≤ 2097152 := by
        have h1 := backL_len (L.take i) t
        have h2 : (L.take i).length ≤ L.length := by rw [List.length_take]; omega
        have := HK.out
        omega
      obtain ⟨F, hF1, hF2⟩ := hS1.outer
      have k0 := (hF1.cell t htn).trans (by rw [hF2 t htn])
      have k1 := hF1.thaw t
      have hne := hS1.ne t htn
      have hgl1 := hF1.lt
      obtain ⟨At, hAt⟩ : ∃ x, x = (R t).1 := ⟨_, rfl⟩
      obtain ⟨ct, hct⟩ : ∃ x, x = (R t).2 := ⟨_, rfl⟩
      obtain ⟨z, hz⟩ : ∃ x, x = (backL (L.take i) t).length := ⟨_, rfl⟩
      rw [← hAt, ← hct, ← hz] at k0 hrow
      rw [← hAt] at hne
      rw [← hz] at hlb
      have HGRO : Hid (∀ A' c' w', OwnV 3 1 w' B A' (z + 1) c' (is (cast (backL (L.take i) t ++ [f]))) → Grew At A' (W1.alloc (.cells #[.int .i64 (f : Int)] 3)) w' → Stp (w'.setCell ⟨g, t, none⟩ (.slice A' (z + 1) c')) B g n1 n1 (put1 R t (A', c')) (backL (L.take (i + 1))) ∧ w'.cell? ⟨g, t, none⟩ = some (.slice At z ct) ∧ w'.frozen? ⟨g, t, none⟩ = false ∧ RdB wcl w' w'.heap.size (some ad) k L ∧ obk A' ≠ obk (some ad) ∧ w'.cell? ⟨gx, 0, none⟩ = some (.int .i64 (f : Int)) ∧ w'.cell? ⟨gx, 1, none⟩ = some (.int .i64 (t : Int))) := Lib.hid fun A' c' w' ho hg => by
        have hgg : w'.heap[g]? = (W1.alloc (.cells #[.int .i64 (f : Int)] 3)).heap[g]? := hg.gb.block g (by have := hbl.size; omega) (fun e => hne e.symm)
        have hga : (W1.alloc (.cells #[.int .i64 (f : Int)] 3)).heap[g]? = W1.heap[g]? := hbl.block g hgl1
        have hgw : w'.heap[g]? = W1.heap[g]? := hgg.trans hga
        rw [hAt] at hg
        rw [hz] at ho
        have hRb := (hR1.below hbl).more hbl.size
        have hadb : ad.block < (W1.alloc (.cells #[.int .i64 (f : Int)] 3)).heap.size := by have := hbl.size; omega
        have hne2 : some ad.block ≠ obk (R t).1 := fun e => hAR t ad.block htn e.symm rfl
        refine ⟨?_, (World.cell?_of_block hgw).trans k0, (World.frozen?_of_block hgw).trans k1, ⟨hRb.len, fun hl => ?_⟩, ?_⟩
        · have := hS2.grow (f := f) htn ho hg
          rw [hz]
          exact this.congr fun x _ => backL_more HX.out x
        · obtain ⟨ad', e, hb', hc⟩ := hRb.rd hl
          injection e with e
          subst e
          refine ⟨ad, rfl, Nat.lt_of_lt_of_le hb' hg.gb.size, fun j u hj => ?_⟩
          rw [World.cell?_of_block (hg.gb.block (ad.add j).block (by rw [add_block]; exact hadb) (by rw [add_block]; exact hne2))]
          exact hc j u hj
        · have h1 : obk A' ≠ obk (some ad) := by
            rcases hg.at_ with e | ⟨x, e, hx⟩
            · rw [e]; exact fun e => hne2 e.symm
            · rw [e]; intro e2; injection e2 with e2; have e2 : x = ad.block := e2; omega
          have h2 : w'.heap[gx]? = W1.heap[gx]? := (hg.gb.block gx (by have := hbl.size; omega) (fun e => by have := hRgx gx e.symm; omega)).trans (hbl.block gx hgx)
          exact ⟨h1, (World.cell?_of_block (a := ⟨gx, 0, none⟩) h2).trans f0, (World.cell?_of_block (a := ⟨gx, 1, none⟩) h2).trans f1⟩
      have hBW : B ≤ (W1.alloc (.cells #[.int .i64 (f : Int)] 3)).heap.size := by have := hbl.size; omega
      have HBL := Lib.hid (hb1.trans (hbl.mono (by omega)))
      have HAR := Lib.hid hAR
      have a0 := (hbl.cell (p := ⟨g, t, none⟩) hgl1).trans k0
      have a1 := (hbl.frozen (p := ⟨g, t, none⟩) hgl1).trans k1
      have a2 := (hbl.cell (p := ⟨gx, 0, none⟩) hgx).trans f0
      have a3 := (hbl.cell (p := ⟨gx, 1, none⟩) hgx).trans f1
      clear hRgx hS1 hb1 hR1 hS2 hbl hF1 hF2 hgl1 hz hAt hct hAR hgx hgl
      go_region_law (refine step_appX elI rfl (.tmp 30) (.tmp 33) rfl rfl B At z ct _ rfl hrow _ 1 1 _ _ rfl hrd rfl Nat.one_pos (is_one _) (by omega) (by unfold maxLen; omega) hBW (z + 1) rfl (is (cast (backL (L.take i) t ++ [f]))) (by unfold cast; rw [List.map_append]; exact (is_append _ _).symm) ?_; intro A2 c2 w2 hw2 hb2 hg2; obtain ⟨s0, s1, s2, s3, s4, s5, s6⟩ := HGRO.out A2 c2 w2 hw2 hg2.drew)
      all_goals
        have HS := Lib.hid s0
        have HRR := Lib.hid s3
        have HBB := Lib.hid (HBL.out.trans (show Below B (W1.alloc (.cells #[.int .i64 (f : Int)] 3)) w2 from ⟨hb2.os, hb2.tape, hb2.output, hb2.size, hb2.block⟩))
        have HNE := Lib.hid s4
        clear hw2 hg2 hb2 s0 s1 s2 s3 s4 s5 s6 a0 a1 a2 a3 f0 f1 k0 k1
        go_wp2_with fail
        go_roundw
        case rel =>
          refine ⟨i + 1, _, by omega, by go_num, HS.out, HBB.out.setCell (p := ⟨g, t, none⟩) hBw1 _, ?_, fun j b hj e => ?_⟩
          · have h5 := HRR.out.other ⟨g, t, none⟩ (.slice A2 (z + 1) c2) fun b hb e => HAG.out (by rw [hb]; exact congrArg some e)
            exact h5.more (by simp)
          · by_cases e2 : j = t
            · subst e2
              rw [put1_same] at e
              have := HNE.out
              rw [e] at this
              exact fun e3 => this e3.symm
            · rw [put1_other e2] at e
              exact HAR.out j b hj e
        case measure => simp [intOf]; omega
    · have hge : k ≤ i := by omega
      rw [List.take_of_length_le (by rw [← HK.out]; exact hge)] at hS
      have hrs := hS.rds
      obtain ⟨b0, b1, b2⟩ := (HBOX.out.below (HB.out ▸ hb) (HB.out ▸ (HBOX.out.lt))).three
      have HRU := Lib.hid (rulers_any A1 A2 A3 n1 n2 n3 c1 c2 c3 P C wr ((HCF.out.below (HB.out ▸ hb)).more (by rw [← HB.out]; omega)) (by omega))
      have HRS := Lib.hid hrs
      have HBX := Lib.hid hb
      clear hS hb hR hAR hrs
      have hwB : w.heap.size ≤ wr.heap.size := by have h1 := HB0.out.size; have h2 := HB.out; have h3 := HBX.out.size; omega
      have hbw := HB0.out.trans (HBX.out.mono (by rw [HB.out]; exact HB0.out.size))
      have HBW := Lib.hid hbw
      clear hbw m0 m1 m2
      go_upto_region 9 with fail
      obtain ⟨w5, hw5⟩ : ∃ w5, w5 = wr := ⟨_, rfl⟩
      rw [← hw5] at HRU HRS HBW hwB b0 b1 b2 ⊢
      clear hw5 HBX hgl
      obtain ⟨Ru, hRu⟩ : ∃ Ru, Ru = rulL (P.map ptOf) := ⟨_, rfl⟩
      rw [← hRu] at HRU
      have hrl : ∀ a ∈ Ru ++ [p], a < n1 := fun a ha => by
        rcases List.mem_append.1 ha with ha | ha
        · rw [hRu] at ha
          have := (mem_plcs.1 ha).1
          rwa [List.length_map, HLEN.out] at this
        · simp at ha; subst ha; exact hp
      have hrl2 : Ru.length ≤ n1 := by
        rw [hRu]
        have := plcs_len (P.map ptOf).length fun a => schedOf (P.map ptOf) a || stopOf (P.map ptOf) a
        rw [List.length_map, HLEN.out] at this
        unfold rulL
        rwa [List.length_map, HLEN.out]
      have HRL := Lib.hid hrl
      have HRU2 := Lib.hid hRu
      clear hrl hRu
      obtain ⟨kr, hkr⟩ : ∃ kr, kr = Ru.length := ⟨_, rfl⟩
      have HKR := Lib.hid hkr
      unfold MadN at HRU
      rw [← hkr] at HRU hrl2
      clear hkr
      have HTAIL : Hid (∀ (A7 : Option Addr) (c7 : Nat) (w7 : World), OwnV 3 1 w7 w5.heap.size A7 (kr + 1) c7 (is (cast (Ru ++ [p]))) → Below w5.heap.size w5 w7 → Calls Try.prog 32 #[.slice (some ⟨g, 0, none⟩) n1 n1, .slice A7 (kr + 1) c7] w7 (LedP n1 (backL L) (Ru ++ [p]) w7)) := Lib.hid fun A7 c7 w7 ho hb => by
        have hlr : (Ru ++ [p]).length = kr + 1 := by rw [List.length_append, ← HKR.out]; rfl
        have hrd := ho.rdi
        have := led_any (some ⟨g, 0, none⟩) A7 n1 n1 c7 (backL L) (Ru ++ [p]) w7 ((HRS.out.below hb).more hb.size) (by rw [hlr]; exact hrd) (by rw [hlr]; exact ho.cap) q1 HRL.out (fun b _ y hy => by
          rw [mem_backL] at hy
          exact (HLT.out y b hy).1) (by rw [hlr]; omega) (fun b _ => by have := backL_len L b; have := HK.out; omega)
        rw [hlr] at this
        exact this
      go_wp2_with fail
      refine HRU.out.mono ?_
      rintro e w6 ⟨A6, c6, rfl, ho6, hb6⟩
      have hbl := bl1 w6 (.cells #[.int .i64 (p : Int)] 3)
      have ho7 := ho6.below rfl hbl
      have hrd := rdV_new w6 #[.int .i64 (p : Int)] 3 (is [(p : Int)]) rfl
      have hb7 := hb6.trans (hbl.mono hb6.size)
      have hs7 := hb7.size
      have HB7 := Lib.hid hb7
      clear ho6 hbl hb6 b0 b1 b2 hb7
      go_wp2_with (at_builtin; go_loud (refine wpList_appX elI rfl (.tmp 39) (.tmp 41) rfl rfl w5.heap.size A6 kr c6 _ rfl ho7 _ 1 1 _ _ rfl hrd rfl Nat.one_pos (is_one _) (by omega) (by unfold maxLen; omega) hs7 (kr + 1) rfl (is (cast (Ru ++ [p]))) (by unfold cast; rw [List.map_append]; exact (is_append _ _).symm) ?_; intro A7 c7 w7 ho7b hb8 hot))
      have hb9 := HB7.out.trans hb8
      have HLD := Lib.hid (HTAIL.out A7 c7 w7 ho7b hb9)
      have HB9 := Lib.hid hb9
      clear ho7 hrd hs7 ho7b hb8 hot hb9
      refine HLD.out.mono ?_
      rintro e w8 ⟨h8, M8, rfl, hv8, _, hb10, hm8⟩
      have HPL := Lib.hid (places_any (some ⟨h8, 0, none⟩) n1 n1 M8 w8 hv8.rdc q1)
      have heq : plcs n1 M8 = reachL (P.map ptOf) (C.map chOf) p := by
        unfold reachL
        rw [List.length_map, HLEN.out]
        refine plcs_congr fun a ha => ?_
        rw [Bool.eq_iff_iff, hm8 a]
        have := rch_reach (P.map ptOf) (C.map chOf) p (by rw [List.length_map, HLEN.out]; exact hp) a (by rw [List.length_map, HLEN.out]; exact ha)
        rw [List.length_map, HLEN.out, ← HL.out, ← HRU2.out] at this
        exact this
      rw [heq] at HPL
      have HB10 := Lib.hid (HB9.out.trans (hb10.mono HB9.out.size))
      clear hv8 hb10 hm8 heq
      go_wp2_with fail
      refine HPL.out.mono ?_
      rintro e w9 ⟨A9, c9, rfl, ho9, hb11⟩
      have hs8 := HB10.out.size
      go_wp2_with fail
      go_ret
      exact ⟨A9, c9, rfl, ho9.weak (by omega), HBW.out.trans ((HB10.out.trans (hb11.mono hs8)).mono hwB)⟩
end Go.Proofs.Ytknlhhbkahollaa
