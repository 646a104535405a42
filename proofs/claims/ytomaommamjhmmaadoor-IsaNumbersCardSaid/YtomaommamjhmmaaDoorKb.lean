/- Package isa: Bytes. -/
import Derived.Test.YtomaommamjhmmaaDoorKa
import Derived.Laws.MakeOwn
namespace Go.Proofs.YtomaommamjhmmaaDoor
open Go.RowKit
set_option linter.unusedSimpArgs false
set_option linter.unusedVariables false

theorem low8_eq (z : Int) : IntKind.u8.wrap z = ((low8 z).toNat : Int) := by
  simp only [IntKind.wrap, IntKind.bits, IntKind.signed]
  unfold low8
  simp
  omega
theorem ic_len (x : InsV) : (ic x).length = 4 := rfl
theorem low8_lt (z : Int) : (low8 z).toNat < 256 := (low8 z).toBitVec.isLt
set_option maxRecDepth 100000 in
set_option maxHeartbeats 8000000 in
theorem ibytes_any (A : Option Addr) (n k : Nat) (L : List InsV) (w : World) (h : RdB ic w w.heap.size A n L) (hn : n ≤ 1048576) (hk : n ≤ k) : Calls Tryd.prog 11 #[.slice A n k] w (ByI (L.flatMap by4) w) := by
  obtain ⟨i, hi, hz, hsz, hby⟩ := info_parts u8_info
  obtain ⟨w1, hmk, ho, hg⟩ := run_make_own (P := Tryd.prog) w w.heap.size 22 5 i _ 1 Tryd.underlying22 hi hz hsz .i64 .i64 (4 * n) (by rw [hby]; omega) (by unfold maxLen; omega) (Nat.le_refl _)
  clear hi hz hsz hby
  have hb1 : Below w.heap.size w w1 := (Below.refl _ _).grown hg (Nat.le_refl _) (fun k hk => by cases hk)
  have hO : Own w1 w.heap.size (some ⟨w.heap.size, 0, none⟩) 0 (4 * n) [] := ho
  have hw : wrap64 (4 * (n : Int)) = ((4 * n : Nat) : Int) := by unfold wrap64; omega
  have HB := Lib.hid hb1
  have HO := Lib.hid hO
  have HR := Lib.hid h
  have HN := Lib.hid hn
  generalize 4 * n = N at hmk hw HO
  clear hb1 hO ho hg h hn
  go_enter Tryd.func11, Tryd.ntmps11
  go_wp2_with fail
  clear hmk hw
  go_loopw [3, 5, 12] (fun o _ s wx => ∃ (j m : Nat) (A' : Option Addr) (c' : Nat), j ≤ n ∧ m = 4 * j ∧ s = .int .i64 j ∧ o = .slice A' m c' ∧ Own wx w.heap.size A' m c' ((L.take j).flatMap by4) ∧ Below w.heap.size w wx) (fun _ _ s _ => n - (intOf s).toNat)
  case atStart => exact ⟨0, 0, some ⟨w.heap.size, 0, none⟩, N, by omega, rfl, rfl, rfl, HO.out, HB.out⟩
  case round =>
    clear HO HB
    obtain ⟨j, m, A', c', hj, hm, rfl, rfl, ho, hb⟩ := hrel
    have HM := Lib.hid hm
    clear hm
    by_cases hjn : j < n
    · have hjn' : (j : Int) < (n : Int) := by omega
      obtain ⟨ad, x, rfl, had, hx, c0, ck⟩ := (HR.out.on hb).at_ ic_len (by omega) hjn
      have c0' := c0 _ rfl
      have c1' := ck 1 _ (by omega) rfl
      have c2' := ck 2 _ (by omega) rfl
      have c3' := ck 3 _ (by omega) rfl
      have HX := Lib.hid hx
      clear c0 ck hx had
      have HO := Lib.hid ho
      have HB := Lib.hid hb
      clear ho hb hj
      go_upto_region 5 with fail
      have hb1 := bl1 wr (.cells #[.int .i64 x.o, .int .i64 x.a, .int .i64 x.b, .int .i64 x.c] 26)
      obtain ⟨d0, d1, d2, d3⟩ := new_four (Below.refl (wr.alloc (.cells #[.int .i64 x.o, .int .i64 x.a, .int .i64 x.b, .int .i64 x.c] 26)).heap.size (wr.alloc (.cells #[.int .i64 x.o, .int .i64 x.a, .int .i64 x.b, .int .i64 x.c] 26)))
      have HO1 := Lib.hid (HO.out.below rfl hb1)
      have HB1 := Lib.hid (HB.out.trans (hb1.mono HB.out.size))
      clear HO HB hb1 c0' c1' c2' c3'
      generalize wr.alloc (.cells #[.int .i64 x.o, .int .i64 x.a, .int .i64 x.b, .int .i64 x.c] 26) = W1 at d0 d1 d2 d3 HO1 HB1 ⊢
      generalize wr.heap.size = g1 at d0 d1 d2 d3 ⊢
      have HBY : Hid ([low8 x.o, low8 x.a, low8 x.b, low8 x.c] = by4 x) := Lib.hid rfl
      have v0 := low8_eq x.o
      have v1 := low8_eq x.a
      have v2 := low8_eq x.b
      have v3 := low8_eq x.c
      generalize low8 x.o = b0 at v0 HBY
      generalize low8 x.a = b1 at v1 HBY
      generalize low8 x.b = b2 at v2 HBY
      generalize low8 x.c = b3 at v3 HBY
      have hm4 : m + 4 ≤ 140737488355328 := by have := HM.out; have := HN.out; omega
      go_wp2_with (at_builtin; go_loud (refine wpList_app rfl (.tmp 16) (.tmp 29) rfl rfl w.heap.size A' m c' _ rfl (HO1.out.below rfl (bl1 W1 _)) (some ⟨W1.heap.size, 0, none⟩) 4 4 [b0, b1, b2, b3] _ rfl (rd_lit W1 _ _ _ rfl) (m + 4) rfl _ rfl hm4 (Nat.le_trans HB1.out.size (bl1 W1 _).size) ?_; intro A2 c2 w2 hw2 hb2))
      have hwj : wrap64 ((j : Int) + 1) = ((j + 1 : Nat) : Int) := by have := HN.out; unfold wrap64; omega
      have he : L.take (j + 1) = L.take j ++ [x] := by rw [List.take_add_one, HX.out]; rfl
      rw [hwj]
      have hm' : m + 4 = 4 * (j + 1) := by rw [HM.out]; rfl
      clear hwj v0 v1 v2 v3 hm4
      refine ⟨⟨j + 1, m + 4, A2, c2, hjn, hm', rfl, rfl, ?_, HB1.out.trans (((bl1 W1 _).mono HB1.out.size).trans hb2)⟩, ?_⟩
      · rw [he, List.flatMap_append, List.flatMap_singleton, ← HBY.out]
        exact hw2
      · exact Nat.sub_lt_sub_left hjn (Nat.lt_succ_self j)
    · have hjn' : ¬ (j : Int) < (n : Int) := by omega
      obtain rfl : j = n := by omega
      have hL := HR.out.len
      have HO := Lib.hid ho
      have HB := Lib.hid hb
      clear ho hb hj
      go_wp2_with fail
      go_ret
      exact ⟨A', m, c', rfl, by rw [List.take_of_length_le (by omega)] at HO; exact HO.out.rd, HO.out.cap, HB.out⟩
/-- What package isa answers. -/
theorem isaW : IsaW where
  fetch := ifetch_any
  right := iright_any
  imm := iimm_any
  name := iname_any
  bytes := ibytes_any
end Go.Proofs.YtomaommamjhmmaaDoor
