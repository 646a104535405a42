/- Chapter 15: what package isa is to answer; the chapter's runs. -/
import Derived.Test.YtomaommamjhmmaaDoorJc
import Derived.Laws.StructEq
namespace Go.Proofs.YtomaommamjhmmaaDoor
open Go.RowKit
set_option linter.unusedSimpArgs false
set_option linter.unusedVariables false

/-- The name of an op, none of no op. -/
def nameO (o : Int) : ByteArray := if 0 ≤ o then opL[o.toNat]?.getD ⟨#[]⟩ else ⟨#[]⟩
/-- A number's low eight bits. -/
def low8 (z : Int) : UInt8 := UInt8.ofNat (z % 256).toNat
def by4 (x : InsV) : List UInt8 := [low8 x.o, low8 x.a, low8 x.b, low8 x.c]
/-- An instruction's cells. -/
def ic (x : InsV) : List Value := [.int .i64 x.o, .int .i64 x.a, .int .i64 x.b, .int .i64 x.c]
/-- A row of bytes. -/
def ByI (l : List UInt8) (w : World) (e : Ending) (w' : World) : Prop := ∃ A n c, e = .returned (.slice A n c) ∧ Rd w' w'.heap.size A n l ∧ n ≤ c ∧ Below w.heap.size w w'
/-- The names of the ops lie in their variable. -/
def NamW (w : World) : Prop := ∀ i s, opL[i]? = some s → w.cell? ⟨0, i, none⟩ = some (.string s)
theorem NamW.on {w w' : World} (h : NamW w) (hb : Below w.heap.size w w') : NamW w' := fun i s hi => (hb.cell (World.block_lt_of_cell? w _ (h i s hi))).trans (h i s hi)
/-- What package isa is to answer. -/
structure IsaW : Prop where
  fetch : ∀ (A : Option Addr) (n k : Nat) (l : List UInt8) (pc : Int) (w : World), Rd w w.heap.size A n l → n ≤ 140737488355328 → n ≤ k → (-9223372036854775808 ≤ pc ∧ pc ≤ 9223372036854775807) → Calls Tryd.prog 12 #[.slice A n k, .int .i64 pc] w (Ans (.tuple #[iv (fetF l pc), .bool (fetB l pc)]) w)
  right : ∀ (x : InsV) (w : World), Calls Tryd.prog 13 #[iv x] w (Ans (.bool (rightF x)) w)
  imm : ∀ (x : InsV) (w : World), Calls Tryd.prog 15 #[iv x] w (Ans (.int .u32 (immF x)) w)
  name : ∀ (o : Int) (w : World), NamW w → Calls Tryd.prog 14 #[.int .i64 o] w (Ans (.string (nameO o)) w)
  bytes : ∀ (A : Option Addr) (n k : Nat) (L : List InsV) (w : World), RdB ic w w.heap.size A n L → n ≤ 1048576 → n ≤ k → Calls Tryd.prog 11 #[.slice A n k] w (ByI (L.flatMap by4) w)
theorem in_eqs (x y : InsV) (W : World) : (binOp .eql 26 (iv x) (iv y)).run Tryd.prog W = .ok (.bool (decide (x = y))) W := by
  obtain ⟨a, b, c, d⟩ := x
  obtain ⟨e, f, g, h⟩ := y
  unfold iv
  by_cases h1 : a = e
  · by_cases h2 : b = f
    · by_cases h3 : c = g
      · by_cases h4 : d = h
        · subst h1; subst h2; subst h3; subst h4
          simp [run_eql_struct, go_sem]
        · subst h1; subst h2; subst h3
          simp [run_eql_struct, go_sem, h4]
      · subst h1; subst h2
        simp [run_eql_struct, go_sem, h3]
    · subst h1
      simp [run_eql_struct, go_sem, h2]
  · simp [run_eql_struct, go_sem, h1]
theorem rd_lit (w : World) (l : List UInt8) (C : Array Value) (t : TypeId) (hC : C = (l.map fun x => Value.int .u8 (x.toNat : Int)).toArray) : Rd (w.alloc (.cells C t)) (w.alloc (.cells C t)).heap.size (some ⟨w.heap.size, 0, none⟩) l.length l := by
  subst hC
  refine ⟨rfl, fun _ => ⟨_, rfl, by simp, fun j hj => ?_⟩⟩
  rw [mk_addI, World.cell?_alloc_mark]
  simp [hj]
theorem str_toListI (l : List UInt8) : (str l).toList = l := by
  rw [ByteArray.toList_eq]
  rfl
theorem rdI_lit (w : World) (x : InsV) : RdB ic (w.alloc (.cells #[.int .i64 x.o, .int .i64 x.a, .int .i64 x.b, .int .i64 x.c] 26)) (w.alloc (.cells #[.int .i64 x.o, .int .i64 x.a, .int .i64 x.b, .int .i64 x.c] 26)).heap.size (some ⟨w.heap.size, 0, none⟩) 1 [x] :=
  ⟨rfl, rdV_new w #[.int .i64 x.o, .int .i64 x.a, .int .i64 x.b, .int .i64 x.c] 26 ([x].flatMap ic) rfl⟩
theorem new_four {w w1 : World} {a b c d : Int} {t : TypeId} (hb : Below (w.alloc (.cells #[.int .i64 a, .int .i64 b, .int .i64 c, .int .i64 d] t)).heap.size (w.alloc (.cells #[.int .i64 a, .int .i64 b, .int .i64 c, .int .i64 d] t)) w1) :
    w1.cell? ⟨w.heap.size, 0, none⟩ = some (.int .i64 a) ∧ w1.cell? ⟨w.heap.size, 1, none⟩ = some (.int .i64 b) ∧ w1.cell? ⟨w.heap.size, 2, none⟩ = some (.int .i64 c) ∧ w1.cell? ⟨w.heap.size, 3, none⟩ = some (.int .i64 d) := by
  have lt0 : w.heap.size < (w.alloc (.cells #[.int .i64 a, .int .i64 b, .int .i64 c, .int .i64 d] t)).heap.size := by simp
  exact ⟨(hb.cell (p := ⟨w.heap.size, 0, none⟩) lt0).trans (World.cell?_alloc_mark _ _ _ _ _), (hb.cell (p := ⟨w.heap.size, 1, none⟩) lt0).trans (World.cell?_alloc_mark _ _ _ _ _), (hb.cell (p := ⟨w.heap.size, 2, none⟩) lt0).trans (World.cell?_alloc_mark _ _ _ _ _), (hb.cell (p := ⟨w.heap.size, 3, none⟩) lt0).trans (World.cell?_alloc_mark _ _ _ _ _)⟩
set_option maxRecDepth 100000 in
set_option maxHeartbeats 8000000 in
theorem known15_any (H : IsaW) (w : World) (hnw : NamW w) : Calls Tryd.prog 9 #[] w (Yes w) := by
  have HNW := Lib.hid hnw
  clear hnw
  have F0 : fetF [1, 2, 3, 4] 0 = ⟨1, 2, 3, 4⟩ := by decide
  have B0 : fetB [1, 2, 3, 4] 0 = true := by decide
  have F1 : fetF [1, 2, 3, 4] 1 = ⟨0, 0, 0, 0⟩ := by decide
  have B1 : fetB [1, 2, 3, 4] 1 = false := by decide
  have C0 := Lib.hid fun W => H.fetch (some ⟨W.heap.size, 0, none⟩) 4 4 [1, 2, 3, 4] 0 (W.alloc (.cells #[.int .u8 1, .int .u8 2, .int .u8 3, .int .u8 4] 5)) (rd_lit W _ _ _ rfl) (by omega) (by omega) (by omega)
  have C1 := Lib.hid fun W => H.fetch (some ⟨W.heap.size, 0, none⟩) 4 4 [1, 2, 3, 4] 1 (W.alloc (.cells #[.int .u8 1, .int .u8 2, .int .u8 3, .int .u8 4] 5)) (rd_lit W _ _ _ rfl) (by omega) (by omega) (by omega)
  rw [F0, B0] at C0
  rw [F1, B1] at C1
  clear F0 B0 F1 B1
  unfold iv at C0 C1
  have HB0 := Lib.hid (bl1 w (.cells #[.int .u8 1, .int .u8 2, .int .u8 3, .int .u8 4] 5))
  go_enter Tryd.func9, Tryd.ntmps9
  go_wp2_with fail
  refine (C0.out w).mono ?_
  rintro e w1 ⟨rfl, hb1⟩
  have HB1 := Lib.hid (HB0.out.trans (hb1.mono HB0.out.size))
  clear hb1 HB0 C0
  go_wp2_with fail
  have hsz : w1.heap.size + 1 = (w1.alloc (.cells #[.int .i64 1, .int .i64 2, .int .i64 3, .int .i64 4] 26)).heap.size := by simp
  have HN := Lib.hid fun V (hv : Below (w1.alloc (.cells #[.int .i64 1, .int .i64 2, .int .i64 3, .int .i64 4] 26)).heap.size (w1.alloc (.cells #[.int .i64 1, .int .i64 2, .int .i64 3, .int .i64 4] 26)) V) => new_four hv
  have HB2 := Lib.hid (HB1.out.trans ((bl1 w1 (.cells #[.int .i64 1, .int .i64 2, .int .i64 3, .int .i64 4] 26)).mono HB1.out.size))
  rw [hsz]
  clear hsz HB1
  generalize w1.alloc (.cells #[.int .i64 1, .int .i64 2, .int .i64 3, .int .i64 4] 26) = W1 at HN HB2 ⊢
  generalize w1.heap.size = g1 at HN ⊢
  refine (C1.out W1).mono ?_
  rintro e w2 ⟨rfl, hb2⟩
  have hb3 := (bl1 W1 (.cells #[.int .u8 1, .int .u8 2, .int .u8 3, .int .u8 4] 5)).trans (hb2.mono (bl1 W1 (.cells #[.int .u8 1, .int .u8 2, .int .u8 3, .int .u8 4] 5)).size)
  have HN3 := Lib.hid fun V (hv : Below w2.heap.size w2 V) => HN.out V (hb3.trans (hv.mono hb3.size))
  have HB3 := Lib.hid (HB2.out.trans (hb3.mono HB2.out.size))
  clear hb2 hb3 HN HB2 C1
  have HI : immF ⟨0, 0, 1, 2⟩ = 258 := by decide
  have R1 : rightF ⟨8, 200, 0, 0⟩ = true := by decide
  have R2 : rightF ⟨1, 8, 0, 0⟩ = false := by decide
  have R3 : rightF ⟨18, 0, 0, 0⟩ = false := by decide
  have N1 : nameO 18 = ⟨#[]⟩ := by decide
  have N2 : nameO 16 = ⟨#[115, 116, 111, 112, 97, 108, 108]⟩ := by decide
  have CI := Lib.hid fun W => H.imm ⟨0, 0, 1, 2⟩ W
  have CR1 := Lib.hid fun W => H.right ⟨8, 200, 0, 0⟩ W
  have CR2 := Lib.hid fun W => H.right ⟨1, 8, 0, 0⟩ W
  have CR3 := Lib.hid fun W => H.right ⟨18, 0, 0, 0⟩ W
  have CN1 := Lib.hid fun W (hW : NamW W) => H.name 18 W hW
  have CN2 := Lib.hid fun W (hW : NamW W) => H.name 16 W hW
  rw [HI] at CI
  rw [R1] at CR1
  rw [R2] at CR2
  rw [R3] at CR3
  rw [N1] at CN1
  rw [N2] at CN2
  unfold iv at CI CR1 CR2 CR3
  clear HI R1 R2 R3 N1 N2
  have hbz := bl1 w2 (.cells #[.int .i64 0, .int .i64 0, .int .i64 0, .int .i64 0] 26)
  obtain ⟨m0, m1, m2, m3⟩ := HN3.out _ hbz
  clear hbz
  go_wp2_with fail
  have K3 := Lib.hid (bl1 w2 (.cells #[.int .i64 0, .int .i64 0, .int .i64 0, .int .i64 0] 26))
  clear m0 m1 m2 m3
  generalize w2.alloc (.cells #[.int .i64 0, .int .i64 0, .int .i64 0, .int .i64 0] 26) = w3 at K3 ⊢
  refine (CI.out w3).mono ?_
  rintro e w4 ⟨rfl, hb4⟩
  have K4 := Lib.hid (K3.out.trans (hb4.mono K3.out.size))
  clear hb4 K3 CI
  go_wp2_with fail
  refine (CR1.out w4).mono ?_
  rintro e w5 ⟨rfl, hb5⟩
  have K5 := Lib.hid (K4.out.trans (hb5.mono K4.out.size))
  clear hb5 K4 CR1
  go_wp2_with fail
  refine (CR2.out w5).mono ?_
  rintro e w6 ⟨rfl, hb6⟩
  have K6 := Lib.hid (K5.out.trans (hb6.mono K5.out.size))
  clear hb6 K5 CR2
  go_wp2_with fail
  refine (CR3.out w6).mono ?_
  rintro e w7 ⟨rfl, hb7⟩
  have K7 := Lib.hid (K6.out.trans (hb7.mono K6.out.size))
  clear hb7 K6 CR3
  go_wp2_with fail
  refine (CN1.out w7 (HNW.out.on (HB3.out.trans (K7.out.mono HB3.out.size)))).mono ?_
  rintro e w8 ⟨rfl, hb8⟩
  have K8 := Lib.hid (K7.out.trans (hb8.mono K7.out.size))
  clear hb8 K7 CN1
  go_wp2_with fail
  refine (CN2.out w8 (HNW.out.on (HB3.out.trans (K8.out.mono HB3.out.size)))).mono ?_
  rintro e w9 ⟨rfl, hb9⟩
  have K9 := Lib.hid (K8.out.trans (hb9.mono K8.out.size))
  clear hb9 K8 CN2
  obtain ⟨m0, m1, m2, m3⟩ := HN3.out w9 K9.out
  have CB := Lib.hid (H.bytes (some ⟨w9.heap.size, 0, none⟩) 1 1 [⟨1, 2, 3, 4⟩] (w9.alloc (.cells #[.int .i64 1, .int .i64 2, .int .i64 3, .int .i64 4] 26)) (rdI_lit w9 ⟨1, 2, 3, 4⟩) (by omega) (by omega))
  have KA := Lib.hid (K9.out.trans ((bl1 w9 (.cells #[.int .i64 1, .int .i64 2, .int .i64 3, .int .i64 4] 26)).mono K9.out.size))
  clear K9 HN3
  go_wp2_with fail
  refine CB.out.mono ?_
  rintro e wz ⟨A, n, c, rfl, hrd, hnc, hbz⟩
  have hcv := run_conv wz _ A n c _ hrd
  rw [show [(⟨1, 2, 3, 4⟩ : InsV)].flatMap by4 = [1, 2, 3, 4] by decide] at hcv
  have hst : (str [1, 2, 3, 4]).toList = [1, 2, 3, 4] := str_toListI _
  have KB := Lib.hid (KA.out.trans (hbz.mono KA.out.size))
  clear hrd hbz hnc m0 m1 m2 m3 CB
  generalize str [1, 2, 3, 4] = st at hcv hst
  go_wp2_with fail
  go_ret
  exact ⟨rfl, HB3.out.trans (KB.out.mono HB3.out.size)⟩
end Go.Proofs.YtomaommamjhmmaaDoor
