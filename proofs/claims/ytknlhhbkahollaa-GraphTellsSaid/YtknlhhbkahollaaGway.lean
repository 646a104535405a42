/- The ways between partitions; those that sway all; do two depend. -/
import Derived.Test.YtknlhhbkahollaaLow3
import Derived.Test.YtknlhhbkahollaaOwnb
namespace Go.Proofs.Ytknlhhbkahollaa
open Go.RowKit Tab
set_option linter.unusedSimpArgs false
set_option linter.unusedVariables false

def ptOf (x : PtV) : Pt := ⟨x.sched, x.stop⟩
def chOf (x : ChV) : Ch := ⟨x.from_, x.to_, x.queue⟩
theorem RdB.below {α : Type} {f : α → List Value} {w w' : World} {B n : Nat} {A : Option Addr} {l : List α} (h : RdB f w B A n l) (hb : Below B w w') : RdB f w' B A n l := ⟨h.len, h.rd.below hb⟩
theorem RdB.more {α : Type} {f : α → List Value} {w : World} {B B' n : Nat} {A : Option Addr} {l : List α} (h : RdB f w B A n l) (hB : B ≤ B') : RdB f w B' A n l := ⟨h.len, h.rd.more hB⟩
/-- A configuration's partitions and channels in memory. -/
structure CfW (w : World) (B : Nat) (A1 A2 : Option Addr) (n1 n2 : Nat) (P : List PtV) (C : List ChV) : Prop where
  p : RdB pcl w B A1 n1 P
  c : RdB cc w B A2 n2 C
section
variable {w w' : World} {B B' n1 n2 : Nat} {A1 A2 : Option Addr} {P : List PtV} {C : List ChV}
theorem CfW.below (h : CfW w B A1 A2 n1 n2 P C) (hb : Below B w w') : CfW w' B A1 A2 n1 n2 P C := ⟨h.p.below hb, h.c.below hb⟩
theorem CfW.more (h : CfW w B A1 A2 n1 n2 P C) (hB : B ≤ B') : CfW w B' A1 A2 n1 n2 P C := ⟨h.p.more hB, h.c.more hB⟩
theorem CfW.on (h : CfW w w.heap.size A1 A2 n1 n2 P C) (hb : Below w.heap.size w w') : CfW w' w'.heap.size A1 A2 n1 n2 P C := (h.below hb).more hb.size
end
theorem schedOf_at {P : List PtV} {a : Nat} {x : PtV} (h : P[a]? = some x) : schedOf (P.map ptOf) a = x.sched := by
  unfold schedOf; rw [List.getElem?_map, h]; rfl
theorem stopOf_at {P : List PtV} {a : Nat} {x : PtV} (h : P[a]? = some x) : stopOf (P.map ptOf) a = x.stop := by
  unfold stopOf; rw [List.getElem?_map, h]; rfl
theorem wayL_more {n : Nat} {C : List ChV} {i : Nat} {x : ChV} (h : C[i]? = some x) : wayL n ((C.take (i + 1)).map chOf) = wayL n ((C.take i).map chOf) ++ wayOf n (chOf x) := by
  obtain ⟨hi, e⟩ := List.getElem?_eq_some_iff.1 h
  rw [List.take_succ_eq_append_getElem hi, e, List.map_append]
  unfold wayL
  rw [List.flatMap_append]
  simp
def wcl (x : Nat × Nat) : List Value := [.int .i64 (x.1 : Int), .int .i64 (x.2 : Int)]
theorem wcl_len (x : Nat × Nat) : (wcl x).length = 2 := rfl
theorem wcl_one (l : List (Nat × Nat)) : ∀ u ∈ l.flatMap wcl, u.oneCell' = true := by
  intro u hu
  obtain ⟨x, _, hx⟩ := List.mem_flatMap.1 hu
  simp [wcl] at hx
  rcases hx with rfl | rfl <;> rfl
theorem wayOf_len (n : Nat) (x : Ch) : (wayOf n x).length ≤ 2 := by
  unfold wayOf
  split
  · split <;> simp
  · simp
theorem wayL_len (n : Nat) (C : List Ch) : (wayL n C).length ≤ 2 * C.length := by
  induction C with
  | nil => simp [wayL]
  | cons x C ih =>
    have := wayOf_len n x
    unfold wayL at ih ⊢
    rw [List.flatMap_cons, List.length_append, List.length_cons]
    omega
/-- It answers a row of ways, new. -/
def MadW (L : List (Nat × Nat)) (w : World) (e : Ending) (w' : World) : Prop := ∃ A c, e = .returned (.slice A L.length c) ∧ RdB wcl w' w'.heap.size A L.length L ∧ L.length ≤ c ∧ Below w.heap.size w w' ∧ ∀ b, obk A = some b → w.heap.size ≤ b
set_option maxRecDepth 100000 in
set_option maxHeartbeats 1000000 in
theorem ways_any (A1 A2 A3 : Option Addr) (n1 n2 n3 c1 c2 c3 : Nat) (P : List PtV) (C : List ChV) (w : World) (h : CfW w w.heap.size A1 A2 n1 n2 P C) (q1 : n1 ≤ 1048576) (q2 : n2 ≤ 1048576) :
    Calls Try.prog 34 #[.agg #[.slice A1 n1 c1, .slice A2 n2 c2, .slice A3 n3 c3]] w (MadW (wayL n1 (C.map chOf)) w) := by
  obtain ⟨B, hB⟩ : ∃ B, B = w.heap.size := ⟨_, rfl⟩
  have hb0 : Below B w (w.alloc (.cells #[.slice A1 n1 c1, .slice A2 n2 c2, .slice A3 n3 c3] 26)) := by rw [hB]; exact bl1 w _
  have hC := h.c.on (bl1 w (.cells #[.slice A1 n1 c1, .slice A2 n2 c2, .slice A3 n3 c3] 26))
  have hV : Vec (w.alloc (.cells #[.slice A1 n1 c1, .slice A2 n2 c2, .slice A3 n3 c3] 26)) B 3 fun j => if j = 0 then .slice A1 n1 c1 else if j = 1 then .slice A2 n2 c2 else .slice A3 n3 c3 := by
    rw [hB]
    refine Vec.lit w _ _ 3 _ fun j hj => ?_
    rcases (by omega : j = 0 ∨ j = 1 ∨ j = 2) with rfl | rfl | rfl <;> rfl
  have HHAS := Lib.hid fun (p : Int) (w' : World) => has_any A1 A2 A3 n1 n2 n3 c1 c2 c3 p w'
  have HB := Lib.hid hB
  clear h
  go_enter Try.func34, Try.ntmps34
  have d1 := hV.cell 1 (by omega)
  rw [if_neg (by omega), if_pos rfl] at d1
  rw [hB] at d1
  go_wp2_with fail
  rw [← hB] at d1 ⊢
  generalize w.alloc (.cells #[.slice A1 n1 c1, .slice A2 n2 c2, .slice A3 n3 c3] 26) = W at hb0 hC hV ⊢
  have HC := Lib.hid hC
  have HV := Lib.hid hV
  have HB0 := Lib.hid hb0
  clear d1 hC hB hV hb0
  go_loopw [3, 5, 9] (fun q _ s wr => ∃ (i k c : Nat) (A : Option Addr), i ≤ n2 ∧ s = .int .i64 i ∧ q = .slice A k c ∧ k ≤ 2 * i ∧ OwnV 69 2 wr W.heap.size A k c ((wayL n1 ((C.take i).map chOf)).flatMap wcl) ∧ Below W.heap.size W wr) (fun _ _ s _ => n2 - (intOf s).toNat)
  case atStart => exact ⟨0, 0, 0, none, by omega, rfl, rfl, by omega, by simpa [wayL] using OwnV.nil _ _ _ _, Below.refl _ _⟩
  case round =>
    obtain ⟨i, k, c, A, hi, rfl, rfl, hk, how, hb⟩ := hrel
    by_cases hlt : i < n2
    · obtain ⟨ad, x, rfl, had, hx, c0, ck⟩ := (HC.out.on hb).at_ cc_len (by omega) hlt
      have d0 := c0 _ rfl
      have d1 := ck 1 _ (by omega) rfl
      have d2 := ck 2 _ (by omega) rfl
      have d3 := ck 3 _ (by omega) rfl
      have d4 := ck 4 _ (by omega) rfl
      have d5 := ck 5 _ (by omega) rfl
      have hmore := wayL_more (n := n1) hx
      obtain ⟨xf, xt, xq, xc, xm, xl⟩ := x
      dsimp only at d0 d1 d2 d3 d4 d5
      have hbx := bl1 wr (.cells #[.int .i64 xf, .int .i64 xt, .bool xq, .int .i64 xc, .int .u32 xm, .int .i64 xl] 36)
      have hb1 := hb.trans (hbx.mono hb.size)
      have how1 := how.below rfl hbx
      have hgx : ∀ b, obk A = some b → b < wr.heap.size := fun b hb => (how.obk_ge hb).2
      have hVB := HV.out.on hb1
      have m0 := hVB.cell 0 (by omega)
      have m1 := hVB.cell 1 (by omega)
      have m2 := hVB.cell 2 (by omega)
      rw [if_pos rfl] at m0
      rw [if_neg (by omega), if_pos rfl] at m1
      rw [if_neg (by omega), if_neg (by omega)] at m2
      have hVX : Vec (wr.alloc (.cells #[.int .i64 xf, .int .i64 xt, .bool xq, .int .i64 xc, .int .u32 xm, .int .i64 xl] 36)) wr.heap.size 3 fun j => if j = 0 then .int .i64 xf else if j = 1 then .int .i64 xt else .bool xq :=
        Vec.lit wr _ _ 3 _ fun j hj => by rcases (by omega : j = 0 ∨ j = 1 ∨ j = 2) with rfl | rfl | rfl <;> rfl
      have hgsz : wr.heap.size < (wr.alloc (.cells #[.int .i64 xf, .int .i64 xt, .bool xq, .int .i64 xc, .int .u32 xm, .int .i64 xl] 36)).heap.size := by simp
      have HMORE := Lib.hid hmore
      have HGX := Lib.hid hgx
      have HWS := Lib.hid hb.size
      clear c0 ck hx hbx hmore how hb hVB hgx
      go_upto_region 5 with fail
      generalize wr.alloc (.cells #[.int .i64 xf, .int .i64 xt, .bool xq, .int .i64 xc, .int .u32 xm, .int .i64 xl] 36) = W1 at hb1 how1 m0 m1 m2 hVX hgsz ⊢
      generalize wr.heap.size = gx at hVX hgsz HGX HWS ⊢
      clear d0 d1 d2 d3 d4 d5
      have e0 := hVX.cell 0 (by omega)
      have e1 := hVX.cell 1 (by omega)
      have e2 := hVX.cell 2 (by omega)
      rw [if_pos rfl] at e0
      rw [if_neg (by omega), if_pos rfl] at e1
      rw [if_neg (by omega), if_neg (by omega)] at e2
      have HVX := Lib.hid hVX
      have HVB : Hid (∀ w', Below W1.heap.size W1 w' → w'.cell? ⟨B, 0, none⟩ = some (.slice A1 n1 c1) ∧ w'.cell? ⟨B, 1, none⟩ = some (.slice (some ad) n2 c2) ∧ w'.cell? ⟨B, 2, none⟩ = some (.slice A3 n3 c3)) := Lib.hid fun w' hb => by
        have hl := World.block_lt_of_cell? W1 _ m0
        exact ⟨(hb.cell (p := ⟨B, 0, none⟩) hl).trans m0, (hb.cell (p := ⟨B, 1, none⟩) hl).trans m1, (hb.cell (p := ⟨B, 2, none⟩) hl).trans m2⟩
      have HVE : Hid (∀ w', Below W1.heap.size W1 w' → w'.cell? ⟨gx, 0, none⟩ = some (.int .i64 xf) ∧ w'.cell? ⟨gx, 1, none⟩ = some (.int .i64 xt) ∧ w'.cell? ⟨gx, 2, none⟩ = some (.bool xq)) := Lib.hid fun w' hb =>
        ⟨(hb.cell (p := ⟨gx, 0, none⟩) hgsz).trans e0, (hb.cell (p := ⟨gx, 1, none⟩) hgsz).trans e1, (hb.cell (p := ⟨gx, 2, none⟩) hgsz).trans e2⟩
      have HB1 := Lib.hid hb1
      have HOW := Lib.hid how1
      clear hVX hb1 how1
      cases hif : inP n1 xf with
      | false =>
        have HF := HHAS.out xf W1
        rw [hif] at HF
        have HFF := Lib.hid HF
        have hno : wayOf n1 ⟨xf, xt, xq⟩ = [] := by unfold wayOf; rw [hif]; rfl
        have hmo := HMORE.out
        rw [show chOf ⟨xf, xt, xq, xc, xm, xl⟩ = ⟨xf, xt, xq⟩ from rfl, hno, List.append_nil] at hmo
        have HMO := Lib.hid hmo
        clear HF hno hmo hif
        go_wp2_with fail
        refine HFF.out.mono ?_
        rintro e w2 ⟨rfl, hb2⟩
        go_wp2_with fail
        go_roundw
        case rel => exact ⟨i + 1, k, c, A, by omega, by go_num, rfl, by omega, by rw [HMO.out]; exact HOW.out.below rfl hb2, HB1.out.trans (hb2.mono HB1.out.size)⟩
        case measure => simp [intOf]; omega
      | true =>
        have HF := HHAS.out xf W1
        rw [hif] at HF
        have HFF := Lib.hid HF
        have HIF := Lib.hid hif
        clear HF hif
        go_wp2_with fail
        refine HFF.out.mono ?_
        rintro e w2 ⟨rfl, hb2⟩
        obtain ⟨f0, f1, f2⟩ := HVE.out w2 hb2
        obtain ⟨k0, k1, k2⟩ := HVB.out w2 hb2
        have HB2 := Lib.hid hb2
        clear m0 m1 m2 e0 e1 e2 hb2 HFF
        cases hit : inP n1 xt with
        | false =>
          have HF := HHAS.out xt w2
          rw [hit] at HF
          have HFF := Lib.hid HF
          have hno : wayOf n1 ⟨xf, xt, xq⟩ = [] := by unfold wayOf; rw [HIF.out, hit]; rfl
          have hmo := HMORE.out
          rw [show chOf ⟨xf, xt, xq, xc, xm, xl⟩ = ⟨xf, xt, xq⟩ from rfl, hno, List.append_nil] at hmo
          have HMO := Lib.hid hmo
          clear HF hno hmo hit
          go_wp2_with fail
          refine HFF.out.mono ?_
          rintro e w3 ⟨rfl, hb3⟩
          have hb4 := HB2.out.trans (hb3.mono HB2.out.size)
          go_wp2_with fail
          go_roundw
          case rel => exact ⟨i + 1, k, c, A, by omega, by go_num, rfl, by omega, by rw [HMO.out]; exact HOW.out.below rfl hb4, HB1.out.trans (hb4.mono HB1.out.size)⟩
          case measure => simp [intOf]; omega
        | true =>
          have HF := HHAS.out xt w2
          rw [hit] at HF
          have HFF := Lib.hid HF
          have hyes : wayOf n1 ⟨xf, xt, xq⟩ = (xf.toNat, xt.toNat) :: (if xq then [(xt.toNat, xf.toNat)] else []) := by unfold wayOf; rw [HIF.out, hit]; rfl
          have hmo := HMORE.out
          rw [show chOf ⟨xf, xt, xq, xc, xm, xl⟩ = ⟨xf, xt, xq⟩ from rfl, hyes] at hmo
          have HMO := Lib.hid hmo
          have g1 := inP_iff.1 HIF.out
          have g2 := inP_iff.1 hit
          obtain ⟨f, rfl⟩ := Int.eq_ofNat_of_zero_le g1.1
          obtain ⟨t, rfl⟩ := Int.eq_ofNat_of_zero_le g2.1
          clear HF hyes hmo hit g1 g2
          go_wp2_with fail
          refine HFF.out.mono ?_
          rintro e w3 ⟨rfl, hb3⟩
          have hb4 := HB2.out.trans (hb3.mono HB2.out.size)
          obtain ⟨f0, f1, f2⟩ := HVE.out w3 hb4
          have hbl := bl1 w3 (.cells #[.int .i64 (f : Int), .int .i64 (t : Int)] 69)
          have how4 := (HOW.out.below rfl hb4).below rfl hbl
          have hrd := rdV_new w3 #[.int .i64 (f : Int), .int .i64 (t : Int)] 69 ([(f, t)].flatMap wcl) rfl
          have hb5 := hb4.trans (hbl.mono hb4.size)
          have hb6 := HB1.out.trans (hb5.mono HB1.out.size)
          have q2' : k + 2 ≤ 4194304 := by omega
          have HB5 := Lib.hid hb5
          have HB6 := Lib.hid hb6
          have hs6 := hb6.size
          clear hb3 hb4 hbl hb5 hb6 k0 k1 k2
          have HHT : Hid (∀ A4 w4, Grew A A4 (w3.alloc (.cells #[.int .i64 (f : Int), .int .i64 (t : Int)] 69)) w4 → w4.cell? ⟨gx, 0, none⟩ = some (.int .i64 (f : Int)) ∧ w4.cell? ⟨gx, 1, none⟩ = some (.int .i64 (t : Int)) ∧ w4.cell? ⟨gx, 2, none⟩ = some (.bool xq) ∧ obk A4 ≠ some gx) := Lib.hid fun A4 w4 hot => by
            obtain ⟨v0, v1, v2⟩ := HVE.out _ HB5.out
            have hg3 : gx < (w3.alloc (.cells #[.int .i64 (f : Int), .int .i64 (t : Int)] 69)).heap.size := Nat.lt_of_lt_of_le hgsz HB5.out.size
            have hne : some gx ≠ obk A := fun e => by have := HGX.out gx e.symm; omega
            have hst : ∀ o v, (w3.alloc (.cells #[.int .i64 (f : Int), .int .i64 (t : Int)] 69)).cell? ⟨gx, o, none⟩ = some v → w4.cell? ⟨gx, o, none⟩ = some v := fun o v hv => (World.cell?_of_block (hot.gb.block gx hg3 hne)).trans hv
            refine ⟨hst _ _ v0, hst _ _ v1, hst _ _ v2, ?_⟩
            rcases hot.at_ with e | ⟨g4, e, hge⟩
            · rw [e]; exact hne.symm
            · rw [e]
              intro e5
              injection e5 with e5
              omega
          cases xq with
          | false =>
            go_upto_region 7 with (at_builtin; go_loud (refine wpList_appX elW rfl (.tmp 25) (.tmp 31) rfl rfl W.heap.size A k c _ rfl how4 _ 1 1 _ _ rfl hrd rfl Nat.one_pos (wcl_one [(f, t)]) (by omega) (by unfold maxLen; omega) hs6 (k + 1) rfl ((wayL n1 ((C.take i).map chOf) ++ [(f, t)]).flatMap wcl) (by rw [List.flatMap_append]) ?_; intro A4 c4 w4 hw4 hb4 hot))
            obtain ⟨z0, z1, z2, _⟩ := HHT.out A4 w4 hot
            have HR : Hid (OwnV 69 2 w4 W.heap.size A4 (k + 1) c4 ((wayL n1 ((C.take (i + 1)).map chOf)).flatMap wcl)) := Lib.hid (by rw [HMO.out]; exact hw4)
            have HBR := Lib.hid (HB6.out.trans hb4)
            clear hw4 hb4 how4 hrd hot f0 f1 f2
            go_wp2_with fail
            go_roundw
            case rel => exact ⟨i + 1, k + 1, c4, A4, by omega, by go_num, rfl, by omega, HR.out, HBR.out⟩
            case measure => simp [intOf]; omega
          | true =>
            go_upto_region 7 with (at_builtin; go_loud (refine wpList_appX elW rfl (.tmp 25) (.tmp 31) rfl rfl W.heap.size A k c _ rfl how4 _ 1 1 _ _ rfl hrd rfl Nat.one_pos (wcl_one [(f, t)]) (by omega) (by unfold maxLen; omega) hs6 (k + 1) rfl ((wayL n1 ((C.take i).map chOf) ++ [(f, t)]).flatMap wcl) (by rw [List.flatMap_append]) ?_; intro A4 c4 w4 hw4 hb4 hot))
            obtain ⟨z0, z1, z2, _⟩ := HHT.out A4 w4 hot
            have hbl4 := bl1 w4 (.cells #[.int .i64 (t : Int), .int .i64 (f : Int)] 69)
            have how5 := hw4.below rfl hbl4
            have hrd5 := rdV_new w4 #[.int .i64 (t : Int), .int .i64 (f : Int)] 69 ([(t, f)].flatMap wcl) rfl
            have hbr := HB6.out.trans hb4
            have HBR := Lib.hid (hbr.trans (hbl4.mono hbr.size))
            have hs7 : W.heap.size ≤ (w4.alloc (.cells #[.int .i64 (t : Int), .int .i64 (f : Int)] 69)).heap.size := HBR.out.size
            clear hw4 hb4 how4 hrd hot f0 f1 f2 hbr hbl4
            go_wp2_with (at_builtin; go_loud (refine wpList_appX elW rfl (.tmp 35) (.tmp 41) rfl rfl W.heap.size A4 (k + 1) c4 _ rfl how5 _ 1 1 _ _ rfl hrd5 rfl Nat.one_pos (wcl_one [(t, f)]) (by omega) (by unfold maxLen; omega) hs7 (k + 1 + 1) rfl ((wayL n1 ((C.take (i + 1)).map chOf)).flatMap wcl) (by rw [HMO.out, List.flatMap_append, List.flatMap_append, List.append_assoc]; rfl) ?_; intro A6 c6 w6 hw6 hb6 hot6))
            go_roundw
            case rel => exact ⟨i + 1, k + 1 + 1, c6, A6, by omega, by go_num, rfl, by omega, hw6, HBR.out.trans hb6⟩
            case measure => simp [intOf]; omega
    · have hge : n2 ≤ i := by omega
      obtain rfl : n2 = i := by omega
      have hl := how.len
      rw [List.take_of_length_le (by rw [HC.out.len]; exact Nat.le_refl _)] at how hl
      rw [flat_len wcl_len] at hl
      go_wp2_with fail
      go_ret
      have hl2 : (wayL n1 (C.map chOf)).length = k := by omega
      refine ⟨A, c, by rw [hl2]; rfl, ⟨rfl, how.rd⟩, by rw [hl2]; exact how.cap, ?_, fun b hb => ?_⟩
      · have h0 := HB0.out.size
        have := HB0.out.trans (hb.mono (by have := HB.out; omega))
        rwa [HB.out] at this
      · have := (how.obk_ge hb).1
        have := HB0.out.size
        omega
end Go.Proofs.Ytknlhhbkahollaa
