import Derived.Test.YtdkngfdnfekgfaaGreatLod38
import Derived.Test.YtdkngfdnfekgfaaGreatLod27
import Derived.Test.YtdkngfdnfekgfaaGreatLod21
import Derived.Deep.Cut
import Derived.Test.YtdkngfdnfekgfaaGreatLod10
import Derived.Test.YtdkngfdnfekgfaaGreatLod30
import Derived.Lib.SlBytesConst
namespace Go.Proofs.YtdkngfdnfekgfaaGreat
open Go.RowKit Tab
set_option linter.unusedSimpArgs false
set_option linter.unusedVariables false
structure SmX (m : Nat) (x : Cf) : Prop where
  p1 : 1 ≤ x.n1
  p2 : x.n1 ≤ m
  c : x.n2 ≤ m
  t : x.n3 ≤ m
  pr : ∀ y ∈ x.P, y.1.pn ≤ m
  nd : ∀ y ∈ x.T, y.n ≤ 1024 + m
def OdV (m : Nat) (v : Value) (w : World) : Prop := ∃ y, v = cfv y ∧ CfR w y ∧ SmX m y
theorem OdV.on {m : Nat} {v : Value} {w w' : World} (h : OdV m v w) (hb : Below w.heap.size w w') : OdV m v w' := by
  obtain ⟨y, h1, h2, h3⟩ := h
  exact ⟨y, h1, h2.on hb, h3⟩
theorem In64.and (a : Int) (m : Nat) (hm : m < 9223372036854775808) : In64 (bits .and .i64 a (m : Int)) := by
  obtain ⟨M, hM, hle⟩ := and_mask a m hm
  rw [hM]
  unfold In64
  omega
structure TapeC : Prop where
  cfg : ∀ (A : Option Addr) (n cap : Nat) (f : Nat → Int) (w : World), RdC w w.heap.size A n (fun j => .int .i64 (f j)) → n ≤ 140737488351232 →
    Calls Tryz.prog 8 #[.pointer (some ⟨w.heap.size, 0, none⟩)] (w.alloc (.cells #[.slice A n cap, .int .i64 0] 31)) (fun e w' => ∃ y, e = .returned (cfv y) ∧ CfR w' y ∧ SmX 16 y ∧ Below w.heap.size w w')
end Go.Proofs.YtdkngfdnfekgfaaGreat
namespace Go.Proofs.YtdkngfdnfekgfaaGreat
set_option maxRecDepth 100000
open Go.RowKit Tab
set_option linter.unusedSimpArgs false
set_option linter.unusedVariables false
def MdA (l : List UInt8) (w : World) (e : Ending) (w' : World) : Prop := ∃ A n c, e = .returned (.slice A n c) ∧ Own w' w.heap.size A n c l ∧ Below w.heap.size w w'
end Go.Proofs.YtdkngfdnfekgfaaGreat
namespace Go.Proofs.YtdkngfdnfekgfaaGreat
set_option maxRecDepth 100000
open Go.RowKit Tab
set_option linter.unusedSimpArgs false
set_option linter.unusedVariables false
theorem Own.bel {B n c : Nat} {A A' : Option Addr} {l : List UInt8} {w w' : World} (h : Own w B A n c l) (g : Grew A A' w w') (hB : B ≤ w.heap.size) : Below B w w' := ⟨g.gb.os, g.gb.tape, g.gb.output, g.gb.size, fun i hi => g.gb.block i (by omega) fun e => by have := (OwnV.obk_ge h e.symm).1; omega⟩
theorem KpS.bow {B n c : Nat} {A : Option Addr} {l : List UInt8} {w w' : World} (k : KpS (fun q => obk A = some q) w w') (h : Own w B A n c l) (hB : B ≤ w.heap.size) : Below B w w' := k.below (fun q e => (OwnV.obk_ge h e).1) hB
theorem enc_pos (z : Int) : 0 < (Num.enc z).length := by rw [Num.enc_length]; omega
theorem procE_few {q : Int × Int} (h : In64 q.1 ∧ In64 q.2) : (procE q).length ≤ 18 := by
  have e1 := enc_few _ h.1
  have e2 := enc_few _ h.2
  unfold procE
  rw [List.length_append]
  omega
theorem nodeE_few {z : Nd} (h : NdIn z) : (nodeE z).length ≤ 27 := by
  have e1 := enc_few _ h.1
  have e2 := enc_few _ h.2.1
  have e3 := enc_few _ h.2.2
  unfold nodeE
  simp only [List.length_append]
  omega
theorem flat_few {α : Type} (f : α → List UInt8) (k : Nat) : ∀ (L : List α), (∀ x ∈ L, (f x).length ≤ k) → (L.flatMap f).length ≤ L.length * k
  | [], _ => by simp
  | x :: L, h => by
    have h1 := h x (by simp)
    have h2 := flat_few f k L fun y hy => h y (by simp [hy])
    rw [List.flatMap_cons, List.length_append, List.length_cons, Nat.succ_mul]
    omega
theorem mda_of {B n c : Nat} {A : Option Addr} {l : List UInt8} {w0 W0 w : World} (ho : Own w B A n c l) (hB : w0.heap.size ≤ B) (h0 : Below w0.heap.size w0 W0) (hb : Below B W0 w) : MdA l w0 (.returned (.slice A n c)) w := ⟨A, n, c, rfl, ho.weak hB, h0.trans (hb.mono hB)⟩
set_option maxHeartbeats 4000000 in
theorem wchan_any (x : ChV) (w : World) (hx : ChanIn x) : Calls Tryz.prog 56 #[cv x] w (MdA (chanE x) w) := by
  obtain ⟨f, t, q, c, m, l⟩ := x
  have HIN : Hid (In64 f ∧ In64 t ∧ In64 c ∧ In64 l) := Lib.hid ⟨hx.fr, hx.tt, hx.cap, hx.late⟩
  have HB0 := Lib.hid (bl1 w (.cells #[.int .i64 f, .int .i64 t, .bool q, .int .i64 c, .int .u32 m, .int .i64 l] 63))
  have hbx : ∀ o v, (#[.int .i64 f, .int .i64 t, .bool q, .int .i64 c, .int .u32 m, .int .i64 l] : Array Value)[o]? = some v → (w.alloc (.cells #[.int .i64 f, .int .i64 t, .bool q, .int .i64 c, .int .u32 m, .int .i64 l] 63)).cell? ⟨w.heap.size, o, none⟩ = some v := fun o v hv => (World.cell?_alloc_mark _ _ _ _ _).trans hv
  have hgl : w.heap.size < (w.alloc (.cells #[.int .i64 f, .int .i64 t, .bool q, .int .i64 c, .int .u32 m, .int .i64 l] 63)).heap.size := by simp
  have HN0 : Hid (([] ++ [f, t].flatMap Num.enc).length ≤ 1000000) := Lib.hid (by
    have h2 := enc_few f HIN.out.1
    have h3 := enc_few t HIN.out.2.1
    simp only [List.nil_append, List.flatMap_cons, List.flatMap_nil, List.append_nil, List.length_append]
    omega)
  clear hx
  go_enter Tryz.func56, Tryz.ntmps56
  go_upto_region 1 with fail
  generalize w.alloc (.cells #[.int .i64 f, .int .i64 t, .bool q, .int .i64 c, .int .u32 m, .int .i64 l] 63) = W0 at HB0 hbx hgl ⊢
  have HGL := Lib.hid hgl
  obtain ⟨g0, hg0⟩ : ∃ g, g = w.heap.size := ⟨_, rfl⟩
  rw [← hg0] at hbx hgl ⊢
  have HBX : Hid (∀ V, Below W0.heap.size W0 V → ∀ (o : Nat) (v : Value), (#[.int .i64 f, .int .i64 t, .bool q, .int .i64 c, .int .u32 m, .int .i64 l] : Array Value)[o]? = some v → V.cell? ⟨g0, o, none⟩ = some v) := Lib.hid fun V hv o v h => (hv.cell (p := ⟨g0, o, none⟩) hgl).trans (hbx o v h)
  have HNIL : Hid (Own W0 W0.heap.size none 0 0 []) := Lib.hid (World.ownsRow_nil _ _ _ _)
  have HCB := Lib.hid fun V (hv : KpS (fun q => obk none = some q) W0.drew V) => HBX.out V ((Below.refl _ _).drew.trans (hv.below (fun k e => by cases e) (Nat.le_refl _)))
  clear hbx hgl hg0
  refine Rgs.region (by kernel_rfl) (by kernel_rfl) (fun (opn : Nat) (vl : Value) (_ : World) => match opn with
      | 0 => vl = .pointer (some ⟨g0, 0, none⟩)
      | 1 => vl = .int .i64 f
      | 2 => vl = .pointer (some ⟨g0, 1, none⟩)
      | 3 => vl = .int .i64 t
      | 6 => vl = .pointer (some ⟨g0, 2, none⟩)
      | 7 => vl = .bool q
      | _ => True) (ChS W0.heap.size 5 8 9 4 91 9 12 3 8 901 3 3 [.int .i64 f, .int .i64 t] [] (none) 0 0 ([]) ([] ++ [f, t].flatMap Num.enc) (([] ++ [f, t].flatMap Num.enc) ++ Num.enc (fl q)) (_) W0.drew) (ChS.start (HNIL.out) rfl) (Rgs.steps_of ?_) ?_
  · refine ⟨?_, ?_, ?_, ?_, ?_, ?_, ?_, ?_, ?_, ?_, trivial⟩
    · intro a w1 live S E D C h0 hk hX
      have e0 : a.eval (.tmp 1) = .pointer (some ⟨g0, 0, none⟩) := E 1 rfl
      exact Rgs.val rfl (Reg.wanted_free rfl) (.pointer (some ⟨g0, 0, none⟩)) (by have c := Reg.consts a; generalize a.eval = ρ at *; simp [execOp, go_sem, c.1, c.2, e0]) rfl (hX.id 0 4 _ (by decide) (by decide))
    · intro a w1 live S E D C h0 hk hX
      have e0 : a.eval (.tmp 4) = .pointer (some ⟨g0, 0, none⟩) := D 0 rfl _ _ rfl rfl
      have hc := HCB.out w1 hX.kp 0 _ rfl
      exact Rgs.val rfl (Reg.wanted_free rfl) (.int .i64 f) (by have c := Reg.consts a; generalize a.eval = ρ at *; simp [execOp, go_sem, c.1, c.2, e0, hc]) rfl (hX.id 1 5 _ (by decide) (by decide))
    · intro a w1 live S E D C h0 hk hX
      have e0 : a.eval (.tmp 1) = .pointer (some ⟨g0, 0, none⟩) := E 1 rfl
      exact Rgs.val rfl (Reg.wanted_free rfl) (.pointer (some ⟨g0, 1, none⟩)) (by have c := Reg.consts a; generalize a.eval = ρ at *; simp [execOp, go_sem, c.1, c.2, e0]) rfl (hX.id 2 6 _ (by decide) (by decide))
    · intro a w1 live S E D C h0 hk hX
      have e0 : a.eval (.tmp 6) = .pointer (some ⟨g0, 1, none⟩) := D 2 rfl _ _ rfl rfl
      have hc := HCB.out w1 hX.kp 1 _ rfl
      exact Rgs.val rfl (Reg.wanted_free rfl) (.int .i64 t) (by have c := Reg.consts a; generalize a.eval = ρ at *; simp [execOp, go_sem, c.1, c.2, e0, hc]) rfl (hX.id 3 7 _ (by decide) (by decide))
    · intro a w1 live S E D C h0 hk hX
      have e0 : a.eval (.tmp 5) = .int .i64 f := D 1 rfl _ _ rfl rfl
      have e1 : a.eval (.tmp 7) = .int .i64 t := D 3 rfl _ _ rfl rfl
      exact Rgs.grow rfl (Reg.wanted_free rfl) (.slice (some ⟨w1.heap.size, 0, none⟩) 2 2) (w1.alloc (.cells #[.int .i64 f, .int .i64 t] 3)) (by have c := Reg.consts a; generalize a.eval = ρ at *; simp [execOp, go_sem, c.1, c.2, e0, e1]) trivial (hX.lit1 (by decide) (by decide) (by simp) (by rw [S]; exact (by decide : 8 < 25))) (fun _ _ _ h => h)
    · intro a w1 live S E D C h0 hk hX
      have l8 := Reg.not_live C h0 (j := 8) rfl rfl
      obtain ⟨gq, dq, hq⟩ := hX.p1 (hk 4 rfl) h0
      have dq2 : a.eval (.tmp 8) = .slice (some ⟨gq, 0, none⟩) 2 2 := dq
      refine Rgs.call rfl (Reg.wanted_free rfl) 54 #[.slice none 0 0, .slice (some ⟨gq, 0, none⟩) 2 2] (by have c := Reg.consts a; generalize a.eval = ρ at *; simp [execOp, go_sem, c.1, c.2, dq2]) ?_
      refine (puti_row (E := 3) (zs := [f, t]) (hX.s0 h0) (hX.kp.size) hq (by decide) (by intro z hz; simp only [List.mem_cons, List.not_mem_nil, or_false] at hz; rcases hz with rfl | rfl; exact HIN.out.1; exact HIN.out.2.1) (by omega) (by simp)).mono ?_
      rintro e w5 ⟨A5, n5, c5, rfl, ho5, hg5⟩
      exact ⟨_, rfl, trivial, hX.call1 h0 l8 (by decide) (by decide) (by decide) (by rw [S]; exact (by decide : 9 < 25)) ho5 hg5, fun _ _ _ h => h⟩
    · intro a w1 live S E D C h0 hk hX
      have e0 : a.eval (.tmp 1) = .pointer (some ⟨g0, 0, none⟩) := E 1 rfl
      exact Rgs.val rfl (Reg.wanted_free rfl) (.pointer (some ⟨g0, 2, none⟩)) (by have c := Reg.consts a; generalize a.eval = ρ at *; simp [execOp, go_sem, c.1, c.2, e0]) rfl (hX.id 6 10 _ (by decide) (by decide))
    · intro a w1 live S E D C h0 hk hX
      have e0 : a.eval (.tmp 10) = .pointer (some ⟨g0, 2, none⟩) := D 6 rfl _ _ rfl rfl
      have hc := HCB.out w1 hX.kp 2 _ rfl
      exact Rgs.val rfl (Reg.wanted_free rfl) (.bool q) (by have c := Reg.consts a; generalize a.eval = ρ at *; simp [execOp, go_sem, c.1, c.2, e0, hc]) rfl (hX.id 7 11 _ (by decide) (by decide))
    · intro a w1 live S E D C h0 hk hX
      have l9 := Reg.not_live C h0 (j := 9) rfl rfl
      obtain ⟨A1, n1, c1, f1, ho1, nw1⟩ := hX.s1 (hk 5 rfl) h0
      have hl1 := ho1.len
      have d11 : a.eval (.tmp 11) = .bool q := D 7 rfl _ _ rfl rfl
      refine Rgs.call rfl (Reg.wanted_free rfl) 84 #[.slice A1 n1 c1, .bool q] (by have c := Reg.consts a; generalize a.eval = ρ at *; simp [execOp, go_sem, c.1, c.2, f1, d11]) ?_
      refine ((flag_any A1 n1 c1 _ q w1 ho1.rd (by rw [← hl1]; have := HN0.out; omega)).mono fun _ _ h => PutA.made (A := A1) h hX.kp.size (by omega)).mono ?_
      rintro e w5 ⟨A5, n5, c5, rfl, ho5, hg5⟩
      exact ⟨_, rfl, trivial, hX.call2 (hk 5 rfl) l9 (by decide) (by decide) (by rw [S]; exact (by decide : 12 < 25)) nw1 ho5 hg5, fun _ _ _ h => h⟩
    · intro a w1 live S E D C h0 hk hX
      obtain ⟨A5, n5, c5, e5, hX5⟩ := hX.asg (c1 := 5) (c2 := 8) (C 8 _ rfl (hk 8 rfl) 5 rfl) (hk 8 rfl) (by decide) (by decide) (by rw [S]; exact (by decide : 3 < 25))
      exact Rgs.val rfl (Reg.wanted_free rfl) (.slice A5 n5 c5) (by have c := Reg.consts a; generalize a.eval = ρ at *; simp [execOp, go_sem, c.1, c.2, e5]) trivial hX5
  · intro a w4 live hs hd E D Hl hX
    obtain ⟨A1, n1, c1, e4, ho4, hg4⟩ := hX.fin (Hl 8 (by decide)) (Hl 9 (by decide))
    rw [Rgs.act_ws a _ _ hs hd E [4, 5, 6, 7, 8, 9, 10, 11, 12, 3] (by kernel_rfl)]
    simp only [List.foldl, List.setIfInBounds_toArray, List.set_cons_succ, List.set_cons_zero, e4]
    have HO1 := Lib.hid ho4
    have HG1 := Lib.hid hg4.drew
    clear E D Hl hX e4 ho4 hg4
    generalize a.eval = ρ
    clear a hs hd
    generalize w4 = w1 at HO1 HG1 ⊢
    have HB1 := Lib.hid (HNIL.out.bel HG1.out (Nat.le_refl _))
    have HN : Hid (n1 ≤ 1000000 ∧ ((([] ++ [f, t].flatMap Num.enc) ++ Num.enc (fl q)) ++ [c].flatMap Num.enc).length ≤ 1000000) := Lib.hid (by
      have h1 := HO1.out.len
      have h2 := enc_few f HIN.out.1
      have h3 := enc_few t HIN.out.2.1
      have h4 := enc_few _ (fl_in q)
      have h5 := enc_few c HIN.out.2.2.1
      simp only [List.nil_append, List.flatMap_cons, List.flatMap_nil, List.append_nil, List.length_append] at h1 ⊢
      omega)
    have HCB := Lib.hid fun V (hv : KpS (fun q => obk A1 = some q) w1.drew V) => HBX.out V (HB1.out.trans ((Below.refl _ _).drew.trans (hv.bow (w := w1.drew) HO1.out HB1.out.size)))
    go_upto_region 2 with fail
    refine Rgs.region (by kernel_rfl) (by kernel_rfl) (fun (opn : Nat) (vl : Value) (_ : World) => match opn with
        | 0 => vl = .slice A1 n1 c1
        | 1 => vl = .pointer (some ⟨g0, 3, none⟩)
        | 2 => vl = .int .i64 c
        | 5 => vl = .pointer (some ⟨g0, 4, none⟩)
        | 6 => vl = .int .u32 m
        | 7 => vl = .int .i64 (IntKind.i64.wrap m)
        | 8 => vl = .pointer (some ⟨g0, 5, none⟩)
        | 9 => vl = .int .i64 l
        | _ => True) (ChS W0.heap.size 4 11 12 3 10 17 24 2 16 23 3 2 [.int .i64 c] [.int .i64 (IntKind.i64.wrap m), .int .i64 l] (A1) n1 c1 (([] ++ [f, t].flatMap Num.enc) ++ Num.enc (fl q)) ((([] ++ [f, t].flatMap Num.enc) ++ Num.enc (fl q)) ++ [c].flatMap Num.enc) (((([] ++ [f, t].flatMap Num.enc) ++ Num.enc (fl q)) ++ [c].flatMap Num.enc) ++ [IntKind.i64.wrap m, l].flatMap Num.enc) (_) w1.drew) (ChS.start (HO1.out) rfl) (Rgs.steps_of ?_) ?_
    · refine ⟨?_, ?_, ?_, ?_, ?_, ?_, ?_, ?_, ?_, ?_, ?_, ?_, ?_, trivial⟩
      · intro a w1 live S E D C h0 hk hX
        have e0 : a.eval (.tmp 3) = .slice A1 n1 c1 := E 3 rfl
        exact Rgs.val rfl (Reg.wanted_free rfl) (.slice A1 n1 c1) (by have c := Reg.consts a; generalize a.eval = ρ at *; simp [execOp, go_sem, c.1, c.2, e0]) rfl (hX.id 0 13 _ (by decide) (by decide))
      · intro a w1 live S E D C h0 hk hX
        have e0 : a.eval (.tmp 1) = .pointer (some ⟨g0, 0, none⟩) := E 1 rfl
        exact Rgs.val rfl (Reg.wanted_free rfl) (.pointer (some ⟨g0, 3, none⟩)) (by have c := Reg.consts a; generalize a.eval = ρ at *; simp [execOp, go_sem, c.1, c.2, e0]) rfl (hX.id 1 14 _ (by decide) (by decide))
      · intro a w1 live S E D C h0 hk hX
        have e0 : a.eval (.tmp 14) = .pointer (some ⟨g0, 3, none⟩) := D 1 rfl _ _ rfl rfl
        have hc := HCB.out w1 hX.kp 3 _ rfl
        exact Rgs.val rfl (Reg.wanted_free rfl) (.int .i64 c) (by have c := Reg.consts a; generalize a.eval = ρ at *; simp [execOp, go_sem, c.1, c.2, e0, hc]) rfl (hX.id 2 15 _ (by decide) (by decide))
      · intro a w1 live S E D C h0 hk hX
        have e0 : a.eval (.tmp 15) = .int .i64 c := D 2 rfl _ _ rfl rfl
        exact Rgs.grow rfl (Reg.wanted_free rfl) (.slice (some ⟨w1.heap.size, 0, none⟩) 1 1) (w1.alloc (.cells #[.int .i64 c] 3)) (by have c := Reg.consts a; generalize a.eval = ρ at *; simp [execOp, go_sem, c.1, c.2, e0]) trivial (hX.lit1 (by decide) (by decide) (by simp) (by rw [S]; exact (by decide : 16 < 25))) (fun _ _ _ h => h)
      · intro a w1 live S E D C h0 hk hX
        have l11 := Reg.not_live C h0 (j := 11) rfl rfl
        obtain ⟨gq, dq, hq⟩ := hX.p1 (hk 3 rfl) h0
        have dq2 : a.eval (.tmp 16) = .slice (some ⟨gq, 0, none⟩) 1 1 := dq
        have d13 : a.eval (.tmp 13) = .slice A1 n1 c1 := D 0 rfl _ _ rfl rfl
        refine Rgs.call rfl (Reg.wanted_free rfl) 54 #[.slice A1 n1 c1, .slice (some ⟨gq, 0, none⟩) 1 1] (by have c := Reg.consts a; generalize a.eval = ρ at *; simp [execOp, go_sem, c.1, c.2, dq2, d13]) ?_
        refine (puti_row (E := 3) (zs := [c]) (hX.s0 h0) (Nat.le_trans HB1.out.size hX.kp.size) hq (by decide) (by intro z hz; simp only [List.mem_cons, List.not_mem_nil, or_false] at hz; subst hz; exact HIN.out.2.2.1) (HN.out.1) (by simp)).mono ?_
        rintro e w5 ⟨A5, n5, c5, rfl, ho5, hg5⟩
        exact ⟨_, rfl, trivial, hX.call1 h0 l11 (by decide) (by decide) (by decide) (by rw [S]; exact (by decide : 17 < 25)) ho5 hg5, fun _ _ _ h => h⟩
      · intro a w1 live S E D C h0 hk hX
        have e0 : a.eval (.tmp 1) = .pointer (some ⟨g0, 0, none⟩) := E 1 rfl
        exact Rgs.val rfl (Reg.wanted_free rfl) (.pointer (some ⟨g0, 4, none⟩)) (by have c := Reg.consts a; generalize a.eval = ρ at *; simp [execOp, go_sem, c.1, c.2, e0]) rfl (hX.id 5 18 _ (by decide) (by decide))
      · intro a w1 live S E D C h0 hk hX
        have e0 : a.eval (.tmp 18) = .pointer (some ⟨g0, 4, none⟩) := D 5 rfl _ _ rfl rfl
        have hc := HCB.out w1 hX.kp 4 _ rfl
        exact Rgs.val rfl (Reg.wanted_free rfl) (.int .u32 m) (by have c := Reg.consts a; generalize a.eval = ρ at *; simp [execOp, go_sem, c.1, c.2, e0, hc]) rfl (hX.id 6 19 _ (by decide) (by decide))
      · intro a w1 live S E D C h0 hk hX
        have e0 : a.eval (.tmp 19) = .int .u32 m := D 6 rfl _ _ rfl rfl
        exact Rgs.val rfl (Reg.wanted_free rfl) (.int .i64 (IntKind.i64.wrap m)) (by have c := Reg.consts a; generalize a.eval = ρ at *; simp [execOp, go_sem, c.1, c.2, e0]) rfl (hX.id 7 20 _ (by decide) (by decide))
      · intro a w1 live S E D C h0 hk hX
        have e0 : a.eval (.tmp 1) = .pointer (some ⟨g0, 0, none⟩) := E 1 rfl
        exact Rgs.val rfl (Reg.wanted_free rfl) (.pointer (some ⟨g0, 5, none⟩)) (by have c := Reg.consts a; generalize a.eval = ρ at *; simp [execOp, go_sem, c.1, c.2, e0]) rfl (hX.id 8 21 _ (by decide) (by decide))
      · intro a w1 live S E D C h0 hk hX
        have e0 : a.eval (.tmp 21) = .pointer (some ⟨g0, 5, none⟩) := D 8 rfl _ _ rfl rfl
        have hc := HCB.out w1 hX.kp 5 _ rfl
        exact Rgs.val rfl (Reg.wanted_free rfl) (.int .i64 l) (by have c := Reg.consts a; generalize a.eval = ρ at *; simp [execOp, go_sem, c.1, c.2, e0, hc]) rfl (hX.id 9 22 _ (by decide) (by decide))
      · intro a w1 live S E D C h0 hk hX
        have e0 : a.eval (.tmp 20) = .int .i64 (IntKind.i64.wrap m) := D 7 rfl _ _ rfl rfl
        have e1 : a.eval (.tmp 22) = .int .i64 l := D 9 rfl _ _ rfl rfl
        exact Rgs.grow rfl (Reg.wanted_free rfl) (.slice (some ⟨w1.heap.size, 0, none⟩) 2 2) (w1.alloc (.cells #[.int .i64 (IntKind.i64.wrap m), .int .i64 l] 2)) (by have c := Reg.consts a; generalize a.eval = ρ at *; simp [execOp, go_sem, c.1, c.2, e0, e1]) trivial (hX.lit2 (by decide) (by decide) (by simp) (by rw [S]; exact (by decide : 23 < 25))) (fun _ _ _ h => h)
      · intro a w1 live S E D C h0 hk hX
        have l12 := Reg.not_live C h0 (j := 12) rfl rfl
        obtain ⟨A1, n1, c1, f1, ho1, nw1⟩ := hX.s1 (hk 4 rfl) h0
        have hl1 := ho1.len
        obtain ⟨gq, dq, hq⟩ := hX.p2 (hk 10 rfl) h0
        have dq2 : a.eval (.tmp 23) = .slice (some ⟨gq, 0, none⟩) 2 2 := dq
        refine Rgs.call rfl (Reg.wanted_free rfl) 82 #[.slice A1 n1 c1, .slice (some ⟨gq, 0, none⟩) 2 2] (by have c := Reg.consts a; generalize a.eval = ρ at *; simp [execOp, go_sem, c.1, c.2, f1, dq2]) ?_
        refine (putl_row (E := 2) (zs := [IntKind.i64.wrap m, l]) (ho1) (Nat.le_trans HB1.out.size hX.kp.size) hq (by decide) (by intro z hz; simp only [List.mem_cons, List.not_mem_nil, or_false] at hz; rcases hz with rfl | rfl; exact wrap_in m; exact HIN.out.2.2.2) (by rw [← hl1]; exact HN.out.2) (by simp)).mono ?_
        rintro e w5 ⟨A5, n5, c5, rfl, ho5, hg5⟩
        exact ⟨_, rfl, trivial, hX.call2 (hk 4 rfl) l12 (by decide) (by decide) (by rw [S]; exact (by decide : 24 < 25)) nw1 ho5 hg5, fun _ _ _ h => h⟩
      · intro a w1 live S E D C h0 hk hX
        obtain ⟨A5, n5, c5, e5, hX5⟩ := hX.asg (c1 := 4) (c2 := 11) (C 11 _ rfl (hk 11 rfl) 4 rfl) (hk 11 rfl) (by decide) (by decide) (by rw [S]; exact (by decide : 2 < 25))
        exact Rgs.val rfl (Reg.wanted_free rfl) (.slice A5 n5 c5) (by have c := Reg.consts a; generalize a.eval = ρ at *; simp [execOp, go_sem, c.1, c.2, e5]) trivial hX5
    · intro a w4 live hs hd E D Hl hX
      obtain ⟨A2, n2, c2, e4, ho4, hg4⟩ := hX.fin (Hl 11 (by decide)) (Hl 12 (by decide))
      rw [Rgs.act_ws a _ _ hs hd E [13, 14, 15, 16, 17, 18, 19, 20, 21, 22, 23, 24, 2] (by kernel_rfl)]
      simp only [List.foldl, List.setIfInBounds_toArray, List.set_cons_succ, List.set_cons_zero, e4]
      have HO2 := Lib.hid ho4
      have HG2 := Lib.hid hg4.drew
      clear E D Hl hX e4 ho4 hg4
      generalize a.eval = ρ
      clear a hs hd
      generalize w4 = w2 at HO2 HG2 ⊢
      have HB2 := Lib.hid (HB1.out.trans ((HO1.out.bel HG2.out HB1.out.size).mono (Nat.le_refl _)))
      go_wp2_with fail
      go_ret
      have h := mda_of (l := ((([] ++ [f, t].flatMap Num.enc) ++ Num.enc (fl q)) ++ [c].flatMap Num.enc) ++ [IntKind.i64.wrap m, l].flatMap Num.enc) HO2.out (Nat.le_of_lt HGL.out) HB0.out HB2.out
      rw [show ((([] ++ [f, t].flatMap Num.enc) ++ Num.enc (fl q)) ++ [c].flatMap Num.enc) ++ [IntKind.i64.wrap m, l].flatMap Num.enc = chanE ⟨f, t, q, c, m, l⟩ from by unfold chanE; simp only [List.nil_append, List.flatMap_cons, List.flatMap_nil, List.append_nil, List.append_assoc]] at h
      exact h
set_option maxHeartbeats 8000000 in
theorem wpart_any (y : Pq) (w : World) (hy : PartIn y) (hr : RdB prc w w.heap.size y.1.pa y.1.pn y.2) : Calls Tryz.prog 55 #[pv y.1] w (MdA (partE (coreK y)) w) := by
  obtain ⟨⟨nm, bu, pe, sc, st, pa, pn, pc, h0, h1, h2, h3, h4⟩, L⟩ := y
  have HIN : Hid (nm.size ≤ 12 ∧ In64 bu ∧ In64 pe) := Lib.hid ⟨hy.name, hy.bud, hy.per⟩
  have HPN : Hid (pn ≤ 3) := Lib.hid hy.few
  have HLL : Hid (L.length = pn) := Lib.hid hy.len
  have HPR : Hid (∀ q ∈ L, In64 q.1 ∧ In64 q.2) := Lib.hid hy.pr
  have HHL : Hid (In64 h0 ∧ In64 h1 ∧ In64 h2 ∧ In64 h3 ∧ In64 h4) := Lib.hid ⟨hy.hl 0, hy.hl 1, hy.hl 2, hy.hl 3, hy.hl 4⟩
  have HPP : Hid (RdB prc w w.heap.size pa pn L) := Lib.hid hr
  have HB0 := Lib.hid (bl1 w (.cells #[.string nm, .int .i64 bu, .int .i64 pe, .bool sc, .bool st, .slice pa pn pc, .int .i64 h0, .int .i64 h1, .int .i64 h2, .int .i64 h3, .int .i64 h4] 57))
  have hbx : ∀ o v, (#[.string nm, .int .i64 bu, .int .i64 pe, .bool sc, .bool st, .slice pa pn pc, .int .i64 h0, .int .i64 h1, .int .i64 h2, .int .i64 h3, .int .i64 h4] : Array Value)[o]? = some v → (w.alloc (.cells #[.string nm, .int .i64 bu, .int .i64 pe, .bool sc, .bool st, .slice pa pn pc, .int .i64 h0, .int .i64 h1, .int .i64 h2, .int .i64 h3, .int .i64 h4] 57)).cell? ⟨w.heap.size, o, none⟩ = some v := fun o v hv => (World.cell?_alloc_mark _ _ _ _ _).trans hv
  have hgl : w.heap.size < (w.alloc (.cells #[.string nm, .int .i64 bu, .int .i64 pe, .bool sc, .bool st, .slice pa pn pc, .int .i64 h0, .int .i64 h1, .int .i64 h2, .int .i64 h3, .int .i64 h4] 57)).heap.size := by simp
  have HN0 : Hid (([] ++ Num.enc nm.size ++ nm.data.toList).length ≤ 1000) := Lib.hid (by
    have h6 := enc_few nm.size (by have := HIN.out.1; unfold In64; omega)
    have h7 := HIN.out.1
    have h8 : nm.data.toList.length = nm.size := by rw [Array.length_toList]; rfl
    simp only [List.nil_append, List.length_append]
    omega)
  show Calls Tryz.prog 55 #[.agg #[.string nm, .int .i64 bu, .int .i64 pe, .bool sc, .bool st, .slice pa pn pc, .int .i64 h0, .int .i64 h1, .int .i64 h2, .int .i64 h3, .int .i64 h4]] w (MdA (partE ⟨nm, bu, pe, sc, st, L, [h0, h1, h2, h3, h4]⟩) w)
  clear hy hr
  go_enter Tryz.func55, Tryz.ntmps55
  go_upto_region 1 with fail
  generalize w.alloc (.cells #[.string nm, .int .i64 bu, .int .i64 pe, .bool sc, .bool st, .slice pa pn pc, .int .i64 h0, .int .i64 h1, .int .i64 h2, .int .i64 h3, .int .i64 h4] 57) = W0 at HB0 hbx hgl ⊢
  have HGW := Lib.hid hgl
  obtain ⟨g0, hg0⟩ : ∃ g, g = w.heap.size := ⟨_, rfl⟩
  rw [← hg0] at hbx hgl ⊢
  have HGL := Lib.hid hgl
  have HBX : Hid (∀ V, Below W0.heap.size W0 V → ∀ (o : Nat) (v : Value), (#[.string nm, .int .i64 bu, .int .i64 pe, .bool sc, .bool st, .slice pa pn pc, .int .i64 h0, .int .i64 h1, .int .i64 h2, .int .i64 h3, .int .i64 h4] : Array Value)[o]? = some v → V.cell? ⟨g0, o, none⟩ = some v) := Lib.hid fun V hv o v h => (hv.cell (p := ⟨g0, o, none⟩) hgl).trans (hbx o v h)
  have HNIL : Hid (Own W0 W0.heap.size none 0 0 []) := Lib.hid (World.ownsRow_nil _ _ _ _)
  have HCB := Lib.hid fun V (hv : KpS (fun q => obk none = some q) W0.drew V) => HBX.out V ((Below.refl _ _).drew.trans (hv.below (fun k e => by cases e) (Nat.le_refl _)))
  clear hbx hgl hg0
  refine Rgs.region (by kernel_rfl) (by kernel_rfl) (fun (opn : Nat) (vl : Value) (_ : World) => match opn with
      | 0 => vl = .pointer (some ⟨g0, 0, none⟩)
      | 1 => vl = .string nm
      | 3 => vl = .pointer (some ⟨g0, 1, none⟩)
      | 4 => vl = .int .i64 bu
      | 5 => vl = .pointer (some ⟨g0, 2, none⟩)
      | 6 => vl = .int .i64 pe
      | _ => True) (ChS W0.heap.size 2 8 9 90 7 8 14 3 900 13 3 2 [] [.int .i64 bu, .int .i64 pe] (none) 0 0 ([]) ([] ++ Num.enc nm.size ++ nm.data.toList) (([] ++ Num.enc nm.size ++ nm.data.toList) ++ [bu, pe].flatMap Num.enc) (_) W0.drew) (ChS.start (HNIL.out) rfl) (Rgs.steps_of ?_) ?_
  · refine ⟨?_, ?_, ?_, ?_, ?_, ?_, ?_, ?_, ?_, ?_, trivial⟩
    · intro a w1 live S E D C h0 hk hX
      have e0 : a.eval (.tmp 1) = .pointer (some ⟨g0, 0, none⟩) := E 1 rfl
      exact Rgs.val rfl (Reg.wanted_free rfl) (.pointer (some ⟨g0, 0, none⟩)) (by have c := Reg.consts a; generalize a.eval = ρ at *; simp [execOp, go_sem, c.1, c.2, e0]) rfl (hX.id 0 6 _ (by decide) (by decide))
    · intro a w1 live S E D C h0 hk hX
      have e0 : a.eval (.tmp 6) = .pointer (some ⟨g0, 0, none⟩) := D 0 rfl _ _ rfl rfl
      have hc := HCB.out w1 hX.kp 0 _ rfl
      exact Rgs.val rfl (Reg.wanted_free rfl) (.string nm) (by have c := Reg.consts a; generalize a.eval = ρ at *; simp [execOp, go_sem, c.1, c.2, e0, hc]) rfl (hX.id 1 7 _ (by decide) (by decide))
    · intro a w1 live S E D C h0 hk hX
      have l8 := Reg.not_live C h0 (j := 8) rfl rfl
      have d7 : a.eval (.tmp 7) = .string nm := D 1 rfl _ _ rfl rfl
      refine Rgs.call rfl (Reg.wanted_free rfl) 83 #[.slice none 0 0, .string nm] (by have c := Reg.consts a; generalize a.eval = ρ at *; simp [execOp, go_sem, c.1, c.2, d7]) ?_
      refine ((text_any none 0 0 [] nm w1 (rd_nil _ _) (by have := HIN.out.1; omega)).mono fun _ _ h => PutA.made (A := none) h hX.kp.size (by omega)).mono ?_
      rintro e w5 ⟨A5, n5, c5, rfl, ho5, hg5⟩
      exact ⟨_, rfl, trivial, hX.call1 h0 l8 (by decide) (by decide) (by decide) (by rw [S]; exact (by decide : 8 < 47)) ho5 hg5, fun _ _ _ h => h⟩
    · intro a w1 live S E D C h0 hk hX
      have e0 : a.eval (.tmp 1) = .pointer (some ⟨g0, 0, none⟩) := E 1 rfl
      exact Rgs.val rfl (Reg.wanted_free rfl) (.pointer (some ⟨g0, 1, none⟩)) (by have c := Reg.consts a; generalize a.eval = ρ at *; simp [execOp, go_sem, c.1, c.2, e0]) rfl (hX.id 3 9 _ (by decide) (by decide))
    · intro a w1 live S E D C h0 hk hX
      have e0 : a.eval (.tmp 9) = .pointer (some ⟨g0, 1, none⟩) := D 3 rfl _ _ rfl rfl
      have hc := HCB.out w1 hX.kp 1 _ rfl
      exact Rgs.val rfl (Reg.wanted_free rfl) (.int .i64 bu) (by have c := Reg.consts a; generalize a.eval = ρ at *; simp [execOp, go_sem, c.1, c.2, e0, hc]) rfl (hX.id 4 10 _ (by decide) (by decide))
    · intro a w1 live S E D C h0 hk hX
      have e0 : a.eval (.tmp 1) = .pointer (some ⟨g0, 0, none⟩) := E 1 rfl
      exact Rgs.val rfl (Reg.wanted_free rfl) (.pointer (some ⟨g0, 2, none⟩)) (by have c := Reg.consts a; generalize a.eval = ρ at *; simp [execOp, go_sem, c.1, c.2, e0]) rfl (hX.id 5 11 _ (by decide) (by decide))
    · intro a w1 live S E D C h0 hk hX
      have e0 : a.eval (.tmp 11) = .pointer (some ⟨g0, 2, none⟩) := D 5 rfl _ _ rfl rfl
      have hc := HCB.out w1 hX.kp 2 _ rfl
      exact Rgs.val rfl (Reg.wanted_free rfl) (.int .i64 pe) (by have c := Reg.consts a; generalize a.eval = ρ at *; simp [execOp, go_sem, c.1, c.2, e0, hc]) rfl (hX.id 6 12 _ (by decide) (by decide))
    · intro a w1 live S E D C h0 hk hX
      have e0 : a.eval (.tmp 10) = .int .i64 bu := D 4 rfl _ _ rfl rfl
      have e1 : a.eval (.tmp 12) = .int .i64 pe := D 6 rfl _ _ rfl rfl
      exact Rgs.grow rfl (Reg.wanted_free rfl) (.slice (some ⟨w1.heap.size, 0, none⟩) 2 2) (w1.alloc (.cells #[.int .i64 bu, .int .i64 pe] 2)) (by have c := Reg.consts a; generalize a.eval = ρ at *; simp [execOp, go_sem, c.1, c.2, e0, e1]) trivial (hX.lit2 (by decide) (by decide) (by simp) (by rw [S]; exact (by decide : 13 < 47))) (fun _ _ _ h => h)
    · intro a w1 live S E D C h0 hk hX
      have l9 := Reg.not_live C h0 (j := 9) rfl rfl
      obtain ⟨A1, n1, c1, f1, ho1, nw1⟩ := hX.s1 (hk 2 rfl) h0
      have hl1 := ho1.len
      obtain ⟨gq, dq, hq⟩ := hX.p2 (hk 7 rfl) h0
      have dq2 : a.eval (.tmp 13) = .slice (some ⟨gq, 0, none⟩) 2 2 := dq
      refine Rgs.call rfl (Reg.wanted_free rfl) 82 #[.slice A1 n1 c1, .slice (some ⟨gq, 0, none⟩) 2 2] (by have c := Reg.consts a; generalize a.eval = ρ at *; simp [execOp, go_sem, c.1, c.2, f1, dq2]) ?_
      refine (putl_row (E := 2) (zs := [bu, pe]) (ho1) (hX.kp.size) hq (by decide) (by intro z hz; simp only [List.mem_cons, List.not_mem_nil, or_false] at hz; rcases hz with rfl | rfl; exact HIN.out.2.1; exact HIN.out.2.2) (by rw [← hl1]; have := HN0.out; omega) (by simp)).mono ?_
      rintro e w5 ⟨A5, n5, c5, rfl, ho5, hg5⟩
      exact ⟨_, rfl, trivial, hX.call2 (hk 2 rfl) l9 (by decide) (by decide) (by rw [S]; exact (by decide : 14 < 47)) nw1 ho5 hg5, fun _ _ _ h => h⟩
    · intro a w1 live S E D C h0 hk hX
      obtain ⟨A5, n5, c5, e5, hX5⟩ := hX.asg (c1 := 2) (c2 := 8) (C 8 _ rfl (hk 8 rfl) 2 rfl) (hk 8 rfl) (by decide) (by decide) (by rw [S]; exact (by decide : 3 < 47))
      exact Rgs.val rfl (Reg.wanted_free rfl) (.slice A5 n5 c5) (by have c := Reg.consts a; generalize a.eval = ρ at *; simp [execOp, go_sem, c.1, c.2, e5]) trivial hX5
  · intro a w4 live hs hd E D Hl hX
    obtain ⟨A1, n1, c1, e4, ho4, hg4⟩ := hX.fin (Hl 8 (by decide)) (Hl 9 (by decide))
    rw [Rgs.act_ws a _ _ hs hd E [6, 7, 8, 9, 10, 11, 12, 13, 14, 3] (by kernel_rfl)]
    simp only [List.foldl, List.setIfInBounds_toArray, List.set_cons_succ, List.set_cons_zero, e4]
    have HO1 := Lib.hid ho4
    have HG1 := Lib.hid hg4.drew
    clear E D Hl hX e4 ho4 hg4
    generalize a.eval = ρ
    clear a hs hd
    generalize w4 = w1 at HO1 HG1 ⊢
    have HB1 := Lib.hid (HNIL.out.bel HG1.out (Nat.le_refl _))
    have HNL : Hid ((((([] ++ Num.enc nm.size ++ nm.data.toList) ++ [bu, pe].flatMap Num.enc) ++ Num.enc (fl sc)) ++ Num.enc (fl st)).length ≤ 1000) := Lib.hid (by
      have h2 := enc_few bu HIN.out.2.1
      have h3 := enc_few pe HIN.out.2.2
      have h4 := enc_few _ (fl_in sc)
      have h5 := enc_few _ (fl_in st)
      have h6 := enc_few nm.size (by have := HIN.out.1; unfold In64; omega)
      have h7 := HIN.out.1
      have h8 : nm.data.toList.length = nm.size := by rw [Array.length_toList]; rfl
      simp only [List.nil_append, List.flatMap_cons, List.flatMap_nil, List.append_nil, List.length_append]
      omega)
    have HN : Hid (n1 ≤ 1000000 ∧ ((([] ++ Num.enc nm.size ++ nm.data.toList) ++ [bu, pe].flatMap Num.enc) ++ Num.enc (fl sc)).length ≤ 1000000) := Lib.hid (by
      have h1 := HO1.out.len
      have h2 := HNL.out
      simp only [List.length_append] at h1 h2 ⊢
      omega)
    have HCB := Lib.hid fun V (hv : KpS (fun q => obk A1 = some q) w1.drew V) => HBX.out V (HB1.out.trans ((Below.refl _ _).drew.trans (hv.bow (w := w1.drew) HO1.out HB1.out.size)))
    go_upto_region 2 with fail
    refine Rgs.region (by kernel_rfl) (by kernel_rfl) (fun (opn : Nat) (vl : Value) (_ : World) => match opn with
        | 0 => vl = .slice A1 n1 c1
        | 1 => vl = .pointer (some ⟨g0, 3, none⟩)
        | 2 => vl = .bool sc
        | 4 => vl = .pointer (some ⟨g0, 4, none⟩)
        | 5 => vl = .bool st
        | _ => True) (ChS W0.heap.size 3 6 7 90 91 18 21 3 900 901 3 3 [] [] (A1) n1 c1 (([] ++ Num.enc nm.size ++ nm.data.toList) ++ [bu, pe].flatMap Num.enc) ((([] ++ Num.enc nm.size ++ nm.data.toList) ++ [bu, pe].flatMap Num.enc) ++ Num.enc (fl sc)) (((([] ++ Num.enc nm.size ++ nm.data.toList) ++ [bu, pe].flatMap Num.enc) ++ Num.enc (fl sc)) ++ Num.enc (fl st)) (.slice A1 n1 c1) w1.drew) (ChS.start (HO1.out) rfl) (Rgs.steps_of ?_) ?_
    · refine ⟨?_, ?_, ?_, ?_, ?_, ?_, ?_, ?_, trivial⟩
      · intro a w1 live S E D C h0 hk hX
        have l3 := Reg.not_live C h0 (j := 3) rfl rfl
        have l6 := Reg.not_live C l3 (j := 6) rfl rfl
        have l7 := Reg.not_live C l6 (j := 7) rfl rfl
        have e0 := hX.e3 l7
        exact Rgs.val rfl (Reg.wanted_free rfl) (.slice A1 n1 c1) (by have c := Reg.consts a; generalize a.eval = ρ at *; simp [execOp, go_sem, c.1, c.2, e0]) rfl (hX.id 0 15 _ (by decide) (by decide))
      · intro a w1 live S E D C h0 hk hX
        have e0 : a.eval (.tmp 1) = .pointer (some ⟨g0, 0, none⟩) := E 1 rfl
        exact Rgs.val rfl (Reg.wanted_free rfl) (.pointer (some ⟨g0, 3, none⟩)) (by have c := Reg.consts a; generalize a.eval = ρ at *; simp [execOp, go_sem, c.1, c.2, e0]) rfl (hX.id 1 16 _ (by decide) (by decide))
      · intro a w1 live S E D C h0 hk hX
        have e0 : a.eval (.tmp 16) = .pointer (some ⟨g0, 3, none⟩) := D 1 rfl _ _ rfl rfl
        have hc := HCB.out w1 hX.kp 3 _ rfl
        exact Rgs.val rfl (Reg.wanted_free rfl) (.bool sc) (by have c := Reg.consts a; generalize a.eval = ρ at *; simp [execOp, go_sem, c.1, c.2, e0, hc]) rfl (hX.id 2 17 _ (by decide) (by decide))
      · intro a w1 live S E D C h0 hk hX
        have l6 := Reg.not_live C h0 (j := 6) rfl rfl
        have d15 : a.eval (.tmp 15) = .slice A1 n1 c1 := D 0 rfl _ _ rfl rfl
        have d17 : a.eval (.tmp 17) = .bool sc := D 2 rfl _ _ rfl rfl
        refine Rgs.call rfl (Reg.wanted_free rfl) 84 #[.slice A1 n1 c1, .bool sc] (by have c := Reg.consts a; generalize a.eval = ρ at *; simp [execOp, go_sem, c.1, c.2, d15, d17]) ?_
        refine ((flag_any A1 n1 c1 _ sc w1 (hX.s0 h0).rd (by have := HN.out.1; omega)).mono fun _ _ h => PutA.made (A := A1) h (Nat.le_trans HB1.out.size hX.kp.size) (by omega)).mono ?_
        rintro e w5 ⟨A5, n5, c5, rfl, ho5, hg5⟩
        exact ⟨_, rfl, trivial, hX.call1 h0 l6 (by decide) (by decide) (by decide) (by rw [S]; exact (by decide : 18 < 47)) ho5 hg5, fun _ _ _ h => h⟩
      · intro a w1 live S E D C h0 hk hX
        have e0 : a.eval (.tmp 1) = .pointer (some ⟨g0, 0, none⟩) := E 1 rfl
        exact Rgs.val rfl (Reg.wanted_free rfl) (.pointer (some ⟨g0, 4, none⟩)) (by have c := Reg.consts a; generalize a.eval = ρ at *; simp [execOp, go_sem, c.1, c.2, e0]) rfl (hX.id 4 19 _ (by decide) (by decide))
      · intro a w1 live S E D C h0 hk hX
        have e0 : a.eval (.tmp 19) = .pointer (some ⟨g0, 4, none⟩) := D 4 rfl _ _ rfl rfl
        have hc := HCB.out w1 hX.kp 4 _ rfl
        exact Rgs.val rfl (Reg.wanted_free rfl) (.bool st) (by have c := Reg.consts a; generalize a.eval = ρ at *; simp [execOp, go_sem, c.1, c.2, e0, hc]) rfl (hX.id 5 20 _ (by decide) (by decide))
      · intro a w1 live S E D C h0 hk hX
        have l7 := Reg.not_live C h0 (j := 7) rfl rfl
        obtain ⟨A1, n1, c1, f1, ho1, nw1⟩ := hX.s1 (hk 3 rfl) h0
        have hl1 := ho1.len
        have d20 : a.eval (.tmp 20) = .bool st := D 5 rfl _ _ rfl rfl
        refine Rgs.call rfl (Reg.wanted_free rfl) 84 #[.slice A1 n1 c1, .bool st] (by have c := Reg.consts a; generalize a.eval = ρ at *; simp [execOp, go_sem, c.1, c.2, f1, d20]) ?_
        refine ((flag_any A1 n1 c1 _ st w1 ho1.rd (by rw [← hl1]; have := HN.out.2; omega)).mono fun _ _ h => PutA.made (A := A1) h (Nat.le_trans HB1.out.size hX.kp.size) (by omega)).mono ?_
        rintro e w5 ⟨A5, n5, c5, rfl, ho5, hg5⟩
        exact ⟨_, rfl, trivial, hX.call2 (hk 3 rfl) l7 (by decide) (by decide) (by rw [S]; exact (by decide : 21 < 47)) nw1 ho5 hg5, fun _ _ _ h => h⟩
      · intro a w1 live S E D C h0 hk hX
        obtain ⟨A5, n5, c5, e5, hX5⟩ := hX.asg (c1 := 3) (c2 := 6) (C 6 _ rfl (hk 6 rfl) 3 rfl) (hk 6 rfl) (by decide) (by decide) (by rw [S]; exact (by decide : 3 < 47))
        exact Rgs.val rfl (Reg.wanted_free rfl) (.slice A5 n5 c5) (by have c := Reg.consts a; generalize a.eval = ρ at *; simp [execOp, go_sem, c.1, c.2, e5]) trivial hX5
    · intro a w4 live hs hd E D Hl hX
      obtain ⟨A2, n2, c2, e4, ho4, hg4⟩ := hX.fin (Hl 6 (by decide)) (Hl 7 (by decide))
      rw [Rgs.act_ws a _ _ hs hd E [15, 16, 17, 18, 19, 20, 21, 3] (by kernel_rfl)]
      simp only [List.foldl, List.setIfInBounds_toArray, List.set_cons_succ, List.set_cons_zero, e4]
      have HO2 := Lib.hid ho4
      have HG2 := Lib.hid hg4.drew
      clear E D Hl hX e4 ho4 hg4
      generalize a.eval = ρ
      clear a hs hd
      generalize w4 = w2 at HO2 HG2 ⊢
      have HB2 := Lib.hid (HB1.out.trans (HO1.out.bel HG2.out HB1.out.size))
      have c5 := HBX.out w2 HB2.out 5 _ rfl
      have hwb := bl1 w2 (.cells #[.int .i64 (pn : Int)] 3)
      have hor := HO2.out.below rfl hwb
      have HC3 := Lib.hid (puti_row (zs := [(pn : Int)]) hor (Nat.le_trans HB2.out.size hwb.size) (ownV_lit w2 3 1 w2.heap.size #[.int .i64 (pn : Int)] 1 rfl (Nat.le_refl _) (by unfold maxLen; omega)) (by decide) (by intro z hz; simp only [List.mem_cons, List.not_mem_nil, or_false] at hz; subst hz; unfold In64; have := HPN.out; omega) (by have := HO2.out.len; have := HNL.out; omega) (by simp))
      have HOR := Lib.hid hor
      have HBL := Lib.hid (HB2.out.trans (hwb.mono HB2.out.size))
      clear hor hwb
      go_wp2_with (go_at_call 54; refine HC3.out.mono ?_; rintro e w3 ⟨A3, n3, c3, rfl, ho3, hg3⟩; have c5 := HBX.out w3 (HBL.out.trans (HOR.out.bel hg3 HBL.out.size)) 5 _ rfl)
      have HB3 := Lib.hid (HBL.out.trans (HOR.out.bel hg3 HBL.out.size))
      have HO3 := Lib.hid ho3
      clear ho3 hg3 HC3 HOR HBL c5 HO1 HO2 HG1 HG2 HB1 HB2 HCB HNIL
      go_loopw [3, 5, 31] (fun o _ q wr => ∃ (k n' c' : Nat) (A' : Option Addr), k ≤ pn ∧ q = .int .i64 k ∧ o = .slice A' n' c' ∧ Own wr W0.heap.size A' n' c' (((((([] ++ Num.enc nm.size ++ nm.data.toList) ++ [bu, pe].flatMap Num.enc) ++ Num.enc (fl sc)) ++ Num.enc (fl st)) ++ [(pn : Int)].flatMap Num.enc) ++ (L.take k).flatMap procE) ∧ Below W0.heap.size W0 wr) (fun _ _ q _ => pn - (intOf q).toNat)
      case atStart => exact ⟨0, n3, c3, A3, by omega, rfl, rfl, by simpa using HO3.out, HB3.out⟩
      case round =>
        obtain ⟨k, n1, c1, A1, hk, rfl, rfl, ho, hb⟩ := hrel
        have HO := Lib.hid ho
        have HB := Lib.hid hb
        clear ho hb HB3 HO3
        have HLN : Hid (n1 ≤ 1000000) := Lib.hid (by
          have h1 := HO.out.len
          have h2 := HNL.out
          have h3 := enc_few (pn : Int) (by unfold In64; have := HPN.out; omega)
          have h4 := flat_few procE 18 (L.take k) fun q hq => (procE_few (HPR.out q (List.mem_of_mem_take hq)))
          have h5 : (L.take k).length ≤ 3 := by rw [List.length_take]; have := HPN.out; omega
          simp only [List.flatMap_cons, List.flatMap_nil, List.append_nil, List.length_append] at h1 h2
          omega)
        by_cases hlt : k < pn
        · have hlti : (k : Int) < (pn : Int) := by omega
          obtain ⟨ad, q, rfl, had, hx, d0, dk⟩ := (HPP.out.on (HB0.out.trans (HB.out.mono HB0.out.size))).at_ prc_len (by omega) hlt
          have d0 := d0 _ rfl
          have d1 := dk 1 _ (by omega) rfl
          have hin := HPR.out q (List.mem_of_getElem? hx)
          have HTK : Hid (L.take (k + 1) = L.take k ++ [q]) := Lib.hid (by rw [List.take_add_one, hx]; rfl)
          obtain ⟨e1, p1⟩ := q
          dsimp only at d0 d1
          have hw1 := bl1 wr (.cells #[.int .i64 e1, .int .i64 p1] 59)
          have hw2 := hw1.trans ((bl1 (wr.alloc (.cells #[.int .i64 e1, .int .i64 p1] 59)) (.cells #[.int .i64 e1, .int .i64 p1] 3)).mono (by simp))
          have hor := HO.out.below rfl hw2
          have HC3 := Lib.hid (puti_row (zs := [e1, p1]) hor (Nat.le_trans HB.out.size hw2.size) (ownV_lit (wr.alloc (.cells #[.int .i64 e1, .int .i64 p1] 59)) 3 1 w.heap.size #[.int .i64 e1, .int .i64 p1] 2 rfl (Nat.le_trans HB0.out.size (Nat.le_trans HB.out.size hw1.size)) (by unfold maxLen; omega)) (by decide) (by intro z hz; simp only [List.mem_cons, List.not_mem_nil, or_false] at hz; rcases hz with rfl | rfl; exact hin.1; exact hin.2) HLN.out (by simp))
          have HOR := Lib.hid hor
          have HBL := Lib.hid (HB.out.trans (hw2.mono HB.out.size))
          have hsz : (wr.alloc (.cells #[.int .i64 e1, .int .i64 p1] 59)).heap.size = wr.heap.size + 1 := by simp
          rw [hsz] at HC3
          clear hor hw1 hw2 hin hx dk
          have hp3 := HPN.out
          go_wp2_with (go_at_call 54; refine HC3.out.mono ?_; rintro e w3 ⟨A3, n3, c3, rfl, ho3, hg3⟩)
          have HB3 := Lib.hid (HBL.out.trans (HOR.out.bel hg3 HBL.out.size))
          have HO3 := Lib.hid ho3
          clear ho3 hg3 HC3 HOR HBL
          go_roundw
          case rel => exact ⟨k + 1, n3, c3, A3, by omega, by go_num, rfl, by rw [HTK.out, List.flatMap_append, ← List.append_assoc]; simpa [procE] using HO3.out, HB3.out⟩
          case measure => simp [intOf]; omega
        · have hlti : ¬ (k : Int) < (pn : Int) := by omega
          have hke : L.take k = L := List.take_of_length_le (by have := HLL.out; omega)
          have HO4 : Hid (Own wr W0.heap.size A1 n1 c1 (((((([] ++ Num.enc nm.size ++ nm.data.toList) ++ [bu, pe].flatMap Num.enc) ++ Num.enc (fl sc)) ++ Num.enc (fl st)) ++ [(pn : Int)].flatMap Num.enc) ++ L.flatMap procE)) := Lib.hid (by rw [← hke]; exact HO.out)
          have HC4 := Lib.hid (puti_any W0.heap.size A1 n1 c1 _ ⟨g0, 6, none⟩ 5 5 (fun j => [h0, h1, h2, h3, h4][j]?.getD 0) wr (.inl HO4.out) HB.out.size (fun j hj => by
            have h := HBX.out wr HB.out (6 + j)
            rcases (by omega : j = 0 ∨ j = 1 ∨ j = 2 ∨ j = 3 ∨ j = 4) with rfl | rfl | rfl | rfl | rfl
            · simpa [Addr.add] using h _ rfl
            · simpa [Addr.add] using h _ rfl
            · simpa [Addr.add] using h _ rfl
            · simpa [Addr.add] using h _ rfl
            · simpa [Addr.add] using h _ rfl) (Nat.lt_of_lt_of_le HGL.out HB.out.size) (fun e => by have := (OwnV.obk_ge HO4.out e).1; have := HGL.out; have e2 : (⟨g0, 6, none⟩ : Addr).block = g0 := rfl; omega) (fun j hj => by
            rcases (by omega : j = 0 ∨ j = 1 ∨ j = 2 ∨ j = 3 ∨ j = 4) with rfl | rfl | rfl | rfl | rfl
            · exact HHL.out.1
            · exact HHL.out.2.1
            · exact HHL.out.2.2.1
            · exact HHL.out.2.2.2.1
            · exact HHL.out.2.2.2.2) HLN.out (by omega) (by omega))
          clear HO hke
          go_wp2_with (go_at_call 54; refine HC4.out.mono ?_; rintro e w3 ⟨A3, n3, c3, rfl, ho3, hg3⟩)
          go_ret
          have h := mda_of (l := _) ho3 (Nat.le_of_lt HGW.out) HB0.out (HB.out.trans (HO4.out.bel hg3 HB.out.size))
          rw [show encN (fun j => [h0, h1, h2, h3, h4][j]?.getD 0) 5 = [h0, h1, h2, h3, h4].flatMap Num.enc from row_enc _ [h0, h1, h2, h3, h4] fun j x hx => by rw [hx]; rfl, show ((((([] ++ Num.enc nm.size ++ nm.data.toList) ++ [bu, pe].flatMap Num.enc) ++ Num.enc (fl sc)) ++ Num.enc (fl st)) ++ [(pn : Int)].flatMap Num.enc) ++ L.flatMap procE ++ [h0, h1, h2, h3, h4].flatMap Num.enc = partE ⟨nm, bu, pe, sc, st, L, [h0, h1, h2, h3, h4]⟩ from by unfold partE; rw [HLL.out]; simp only [List.nil_append, List.flatMap_cons, List.flatMap_nil, List.append_nil, List.append_assoc]] at h
          exact h
set_option maxHeartbeats 8000000 in
theorem wtab_any (A : Option Addr) (n c : Nat) (T : List Nd) (w : World) (hr : RdN w w.heap.size A n T) (hn : n ≤ 1040) : Calls Tryz.prog 57 #[.slice A n c] w (MdA (tabE T) w) := by
  have HTT := Lib.hid hr
  have HTN : Hid (T.length = n ∧ n ≤ 1040) := Lib.hid ⟨hr.len, hn⟩
  have hwb := bl1 w (.cells #[.int .i64 (n : Int)] 3)
  have hnil : Own (w.alloc (.cells #[.int .i64 (n : Int)] 3)) w.heap.size none 0 0 [] := World.ownsRow_nil _ _ _ _
  have HC3 := Lib.hid (puti_row (zs := [(n : Int)]) hnil hwb.size (ownV_lit w 3 1 w.heap.size #[.int .i64 (n : Int)] 1 rfl (Nat.le_refl _) (by unfold maxLen; omega)) (by decide) (by intro z hz; simp only [List.mem_cons, List.not_mem_nil, or_false] at hz; subst hz; unfold In64; omega) (by omega) (by simp))
  have HOR := Lib.hid hnil
  have HBL := Lib.hid hwb
  clear hr hnil hwb
  go_enter Tryz.func57, Tryz.ntmps57
  go_wp2_with (go_at_call 54; refine HC3.out.mono ?_; rintro e w3 ⟨A3, n3, c3, rfl, ho3, hg3⟩)
  have HB3 := Lib.hid (HBL.out.trans (HOR.out.bel hg3 HBL.out.size))
  have HO3 := Lib.hid ho3
  clear ho3 hg3 HC3 HOR HBL
  obtain ⟨l, hl⟩ : ∃ l, l = [] ++ [(n : Int)].flatMap Num.enc := ⟨_, rfl⟩
  have HL := Lib.hid hl
  have HLF : Hid (l.length ≤ 9) := Lib.hid (by
    have h3 := enc_few (n : Int) (by unfold In64; omega)
    rw [hl]
    simpa using h3)
  rw [← hl] at HO3
  clear hl
  go_loopw [3, 5, 12] (fun o _ q wr => ∃ (k n' c' : Nat) (A' : Option Addr), k ≤ n ∧ q = .int .i64 k ∧ o = .slice A' n' c' ∧ Own wr w.heap.size A' n' c' (l ++ (T.take k).flatMap nodeE) ∧ Below w.heap.size w wr) (fun _ _ q _ => n - (intOf q).toNat)
  case atStart => exact ⟨0, n3, c3, A3, by omega, rfl, rfl, by simpa using HO3.out, HB3.out⟩
  case round =>
    obtain ⟨k, n1, c1, A1, hk, rfl, rfl, ho, hb⟩ := hrel
    have HO := Lib.hid ho
    have HB := Lib.hid hb
    clear ho hb HB3 HO3
    by_cases hlt : k < n
    · have hlti : (k : Int) < (n : Int) := by omega
      obtain ⟨ad, ⟨zk, zp, zn⟩, rfl, had, hx, d0, d1, d2⟩ := (HTT.out.on HB.out).at_ hlt
      have HZI := Lib.hid (HTT.out.bd _ (List.mem_of_getElem? hx))
      have HTK : Hid (T.take (k + 1) = T.take k ++ [⟨zk, zp, zn⟩]) := Lib.hid (by rw [List.take_add_one, hx]; rfl)
      have HN5 : Hid (n1 ≤ 100000) := Lib.hid (by
        have h1 := HO.out.len
        have h2 := HLF.out
        have h4 := flat_few nodeE 27 (T.take k) fun q hq => nodeE_few (HTT.out.bd q (List.mem_of_mem_take hq))
        have h5 : (T.take k).length ≤ 1040 := by rw [List.length_take]; have := HTN.out; omega
        simp only [List.length_append] at h1
        omega)
      have HN6 : Hid (((l ++ (T.take k).flatMap nodeE) ++ [zk, zp].flatMap Num.enc).length ≤ 100100) := Lib.hid (by
        have h1 := HO.out.len
        have h2 := HN5.out
        have h3 := enc_few zk HZI.out.1
        have h4 := enc_few zp HZI.out.2.1
        simp only [List.flatMap_cons, List.flatMap_nil, List.append_nil, List.length_append] at h1 ⊢
        omega)
      dsimp only at d0 d1 d2
      have hw1 := bl1 wr (.cells #[.int .i64 zk, .int .i64 zp, .int .i64 zn] 70)
      have ho5 := HO.out.below rfl hw1
      have hbx : ∀ o v, (#[.int .i64 zk, .int .i64 zp, .int .i64 zn] : Array Value)[o]? = some v → (wr.alloc (.cells #[.int .i64 zk, .int .i64 zp, .int .i64 zn] 70)).cell? ⟨wr.heap.size, o, none⟩ = some v := fun o v hv => (World.cell?_alloc_mark _ _ _ _ _).trans hv
      have hg5 : wr.heap.size < (wr.alloc (.cells #[.int .i64 zk, .int .i64 zp, .int .i64 zn] 70)).heap.size := by simp
      have hA5 : obk A1 ≠ some wr.heap.size := fun e => by have := (OwnV.obk_ge HO.out e).2; omega
      have HB5 := Lib.hid (HB.out.trans (hw1.mono HB.out.size))
      clear hw1 hx had
      go_upto_region 5 with fail
      generalize wr.alloc (.cells #[.int .i64 zk, .int .i64 zp, .int .i64 zn] 70) = w5 at ho5 hbx hg5 HB5 ⊢
      generalize wr.heap.size = g5 at hbx hg5 hA5 ⊢
      have HO5 := Lib.hid ho5
      have HCB : Hid (∀ V, KpS (fun q => obk A1 = some q) w5.drew V → ∀ (o : Nat) (v : Value), (#[.int .i64 zk, .int .i64 zp, .int .i64 zn] : Array Value)[o]? = some v → V.cell? ⟨g5, o, none⟩ = some v) := Lib.hid fun V kp o v hv => (kp.cell (p := ⟨g5, o, none⟩) hg5 hA5).trans (hbx o v hv)
      clear d0 d1 d2 ho5 hbx hg5 hA5 HO HB
      refine Rgs.region (by kernel_rfl) (by kernel_rfl) (fun (opn : Nat) (vl : Value) (_ : World) => match opn with
          | 0 => vl = .slice A1 n1 c1
          | 1 => vl = .pointer (some ⟨g5, 0, none⟩)
          | 2 => vl = .int .i64 zk
          | 3 => vl = .pointer (some ⟨g5, 1, none⟩)
          | 4 => vl = .int .i64 zp
          | 7 => vl = .pointer (some ⟨g5, 2, none⟩)
          | 8 => vl = .int .i64 zn
          | _ => True) (ChS w.heap.size 6 10 11 5 9 22 26 3 21 25 3 2 [.int .i64 zk, .int .i64 zp] [.int .i64 zn] (A1) n1 c1 (l ++ (T.take k).flatMap nodeE) ((l ++ (T.take k).flatMap nodeE) ++ [zk, zp].flatMap Num.enc) (((l ++ (T.take k).flatMap nodeE) ++ [zk, zp].flatMap Num.enc) ++ [zn].flatMap Num.enc) (.slice A1 n1 c1) w5.drew) (ChS.start (HO5.out) rfl) (Rgs.steps_of ?_) ?_
      · refine ⟨?_, ?_, ?_, ?_, ?_, ?_, ?_, ?_, ?_, ?_, ?_, ?_, trivial⟩
        · intro a w1 live S E D C h0 hk hX
          have l6 := Reg.not_live C h0 (j := 6) rfl rfl
          have l10 := Reg.not_live C l6 (j := 10) rfl rfl
          have l11 := Reg.not_live C l10 (j := 11) rfl rfl
          have e0 := hX.e3 l11
          exact Rgs.val rfl (Reg.wanted_free rfl) (.slice A1 n1 c1) (by have c := Reg.consts a; generalize a.eval = ρ at *; simp [execOp, go_sem, c.1, c.2, e0]) rfl (hX.id 0 16 _ (by decide) (by decide))
        · intro a w1 live S E D C h0 hk hX
          have e0 : a.eval (.tmp 5) = .pointer (some ⟨g5, 0, none⟩) := E 5 rfl
          exact Rgs.val rfl (Reg.wanted_free rfl) (.pointer (some ⟨g5, 0, none⟩)) (by have c := Reg.consts a; generalize a.eval = ρ at *; simp [execOp, go_sem, c.1, c.2, e0]) rfl (hX.id 1 17 _ (by decide) (by decide))
        · intro a w1 live S E D C h0 hk hX
          have e0 : a.eval (.tmp 17) = .pointer (some ⟨g5, 0, none⟩) := D 1 rfl _ _ rfl rfl
          have hc := HCB.out w1 hX.kp 0 _ rfl
          exact Rgs.val rfl (Reg.wanted_free rfl) (.int .i64 zk) (by have c := Reg.consts a; generalize a.eval = ρ at *; simp [execOp, go_sem, c.1, c.2, e0, hc]) rfl (hX.id 2 18 _ (by decide) (by decide))
        · intro a w1 live S E D C h0 hk hX
          have e0 : a.eval (.tmp 5) = .pointer (some ⟨g5, 0, none⟩) := E 5 rfl
          exact Rgs.val rfl (Reg.wanted_free rfl) (.pointer (some ⟨g5, 1, none⟩)) (by have c := Reg.consts a; generalize a.eval = ρ at *; simp [execOp, go_sem, c.1, c.2, e0]) rfl (hX.id 3 19 _ (by decide) (by decide))
        · intro a w1 live S E D C h0 hk hX
          have e0 : a.eval (.tmp 19) = .pointer (some ⟨g5, 1, none⟩) := D 3 rfl _ _ rfl rfl
          have hc := HCB.out w1 hX.kp 1 _ rfl
          exact Rgs.val rfl (Reg.wanted_free rfl) (.int .i64 zp) (by have c := Reg.consts a; generalize a.eval = ρ at *; simp [execOp, go_sem, c.1, c.2, e0, hc]) rfl (hX.id 4 20 _ (by decide) (by decide))
        · intro a w1 live S E D C h0 hk hX
          have e0 : a.eval (.tmp 18) = .int .i64 zk := D 2 rfl _ _ rfl rfl
          have e1 : a.eval (.tmp 20) = .int .i64 zp := D 4 rfl _ _ rfl rfl
          exact Rgs.grow rfl (Reg.wanted_free rfl) (.slice (some ⟨w1.heap.size, 0, none⟩) 2 2) (w1.alloc (.cells #[.int .i64 zk, .int .i64 zp] 3)) (by have c := Reg.consts a; generalize a.eval = ρ at *; simp [execOp, go_sem, c.1, c.2, e0, e1]) trivial (hX.lit1 (by decide) (by decide) (by simp) (by rw [S]; exact (by decide : 21 < 29))) (fun _ _ _ h => h)
        · intro a w1 live S E D C h0 hk hX
          have l10 := Reg.not_live C h0 (j := 10) rfl rfl
          obtain ⟨gq, dq, hq⟩ := hX.p1 (hk 5 rfl) h0
          have dq2 : a.eval (.tmp 21) = .slice (some ⟨gq, 0, none⟩) 2 2 := dq
          have d16 : a.eval (.tmp 16) = .slice A1 n1 c1 := D 0 rfl _ _ rfl rfl
          refine Rgs.call rfl (Reg.wanted_free rfl) 54 #[.slice A1 n1 c1, .slice (some ⟨gq, 0, none⟩) 2 2] (by have c := Reg.consts a; generalize a.eval = ρ at *; simp [execOp, go_sem, c.1, c.2, dq2, d16]) ?_
          refine (puti_row (E := 3) (zs := [zk, zp]) (hX.s0 h0) (Nat.le_trans HB5.out.size hX.kp.size) hq (by decide) (by intro z hz; simp only [List.mem_cons, List.not_mem_nil, or_false] at hz; rcases hz with rfl | rfl; exact HZI.out.1; exact HZI.out.2.1) (by have := HN5.out; omega) (by simp)).mono ?_
          rintro e w5 ⟨A5, n5, c5, rfl, ho5, hg5⟩
          exact ⟨_, rfl, trivial, hX.call1 h0 l10 (by decide) (by decide) (by decide) (by rw [S]; exact (by decide : 22 < 29)) ho5 hg5, fun _ _ _ h => h⟩
        · intro a w1 live S E D C h0 hk hX
          have e0 : a.eval (.tmp 5) = .pointer (some ⟨g5, 0, none⟩) := E 5 rfl
          exact Rgs.val rfl (Reg.wanted_free rfl) (.pointer (some ⟨g5, 2, none⟩)) (by have c := Reg.consts a; generalize a.eval = ρ at *; simp [execOp, go_sem, c.1, c.2, e0]) rfl (hX.id 7 23 _ (by decide) (by decide))
        · intro a w1 live S E D C h0 hk hX
          have e0 : a.eval (.tmp 23) = .pointer (some ⟨g5, 2, none⟩) := D 7 rfl _ _ rfl rfl
          have hc := HCB.out w1 hX.kp 2 _ rfl
          exact Rgs.val rfl (Reg.wanted_free rfl) (.int .i64 zn) (by have c := Reg.consts a; generalize a.eval = ρ at *; simp [execOp, go_sem, c.1, c.2, e0, hc]) rfl (hX.id 8 24 _ (by decide) (by decide))
        · intro a w1 live S E D C h0 hk hX
          have e0 : a.eval (.tmp 24) = .int .i64 zn := D 8 rfl _ _ rfl rfl
          exact Rgs.grow rfl (Reg.wanted_free rfl) (.slice (some ⟨w1.heap.size, 0, none⟩) 1 1) (w1.alloc (.cells #[.int .i64 zn] 2)) (by have c := Reg.consts a; generalize a.eval = ρ at *; simp [execOp, go_sem, c.1, c.2, e0]) trivial (hX.lit2 (by decide) (by decide) (by simp) (by rw [S]; exact (by decide : 25 < 29))) (fun _ _ _ h => h)
        · intro a w1 live S E D C h0 hk hX
          have l11 := Reg.not_live C h0 (j := 11) rfl rfl
          obtain ⟨A1, n1, c1, f1, ho1, nw1⟩ := hX.s1 (hk 6 rfl) h0
          have hl1 := ho1.len
          obtain ⟨gq, dq, hq⟩ := hX.p2 (hk 9 rfl) h0
          have dq2 : a.eval (.tmp 25) = .slice (some ⟨gq, 0, none⟩) 1 1 := dq
          refine Rgs.call rfl (Reg.wanted_free rfl) 82 #[.slice A1 n1 c1, .slice (some ⟨gq, 0, none⟩) 1 1] (by have c := Reg.consts a; generalize a.eval = ρ at *; simp [execOp, go_sem, c.1, c.2, f1, dq2]) ?_
          refine (putl_row (E := 2) (zs := [zn]) (ho1) (Nat.le_trans HB5.out.size hX.kp.size) hq (by decide) (by intro z hz; simp only [List.mem_cons, List.not_mem_nil, or_false] at hz; subst hz; exact HZI.out.2.2) (by rw [← hl1]; have := HN6.out; omega) (by simp)).mono ?_
          rintro e w5 ⟨A5, n5, c5, rfl, ho5, hg5⟩
          exact ⟨_, rfl, trivial, hX.call2 (hk 6 rfl) l11 (by decide) (by decide) (by rw [S]; exact (by decide : 26 < 29)) nw1 ho5 hg5, fun _ _ _ h => h⟩
        · intro a w1 live S E D C h0 hk hX
          obtain ⟨A5, n5, c5, e5, hX5⟩ := hX.asg (c1 := 6) (c2 := 10) (C 10 _ rfl (hk 10 rfl) 6 rfl) (hk 10 rfl) (by decide) (by decide) (by rw [S]; exact (by decide : 3 < 29))
          exact Rgs.val rfl (Reg.wanted_free rfl) (.slice A5 n5 c5) (by have c := Reg.consts a; generalize a.eval = ρ at *; simp [execOp, go_sem, c.1, c.2, e5]) trivial hX5
      · intro a w4 live hs hd E D Hl hX
        obtain ⟨A2, n2, c2, e4, ho4, hg4⟩ := hX.fin (Hl 10 (by decide)) (Hl 11 (by decide))
        rw [Rgs.act_ws a _ _ hs hd E [16, 17, 18, 19, 20, 21, 22, 23, 24, 25, 26, 3] (by kernel_rfl)]
        simp only [List.foldl, List.setIfInBounds_toArray, List.set_cons_succ, List.set_cons_zero, e4]
        have HO2 := Lib.hid ho4
        have HG2 := Lib.hid hg4.drew
        clear E D Hl hX e4 ho4 hg4
        generalize a.eval = ρ
        clear a hs hd
        generalize w4 = w2 at HO2 HG2 ⊢
        have HB3 := Lib.hid (HB5.out.trans (HO5.out.bel HG2.out HB5.out.size))
        clear HCB HG2 HO5 HB5 HN5
        have ht3 := HTN.out.2
        go_wp2_with fail
        go_roundw
        case rel => exact ⟨k + 1, n2, c2, A2, by omega, by go_num, rfl, by rw [HTK.out, List.flatMap_append, ← List.append_assoc]; simpa [nodeE] using HO2.out, HB3.out⟩
        case measure => simp [intOf]; omega
    · have hlti : ¬ (k : Int) < (n : Int) := by omega
      have hke : T.take k = T := List.take_of_length_le (by have := HTN.out; omega)
      rw [hke, HL.out] at HO
      clear hke
      go_wp2_with fail
      go_ret
      exact ⟨A1, n1, c1, rfl, by
        have h := HO.out
        rw [show [] ++ [(n : Int)].flatMap Num.enc ++ T.flatMap nodeE = tabE T from by unfold tabE; rw [HTN.out.1]; simp only [List.nil_append, List.flatMap_cons, List.flatMap_nil, List.append_nil]] at h
        exact h, HB.out⟩
end Go.Proofs.YtdkngfdnfekgfaaGreat
