/- CodeBack: for any numbers, any bytes behind them and any cut, up to twenty numbers in a row are got one by one, each as it was put, and none by fewer bytes. -/
import Derived.Test.YtibhppjcochkgaaFrameI
import Derived.Test.YtibhppjcochkgaaReads
namespace Go.Proofs.Ytibhppjcochkgaa.codeBack
open Go.ChangeShapes Go.WideShapes Go.ChangeAt Go.RowKit
set_option linter.unusedSimpArgs false
set_option linter.unusedVariables false

def encs (f : Nat → Int) : Nat → List UInt8
  | 0 => []
  | k + 1 => encs f k ++ Num.enc (f k)
theorem encs_split (f : Nat → Int) (i m : Nat) (h : i < m) : ∃ R, encs f m = encs f i ++ (Num.enc (f i) ++ R) := by
  induction m with
  | zero => omega
  | succ m ih =>
    by_cases e : i = m
    · subst e; exact ⟨[], by simp [encs]⟩
    · obtain ⟨R, hR⟩ := ih (by omega)
      exact ⟨R ++ Num.enc (f m), by simp [encs, hR]⟩
theorem get_of (A : Option Addr) (n cap : Nat) (l : List UInt8) (z : Int) (k : Nat) (w : World) (h : Rd w w.heap.size A n l) (hn : n ≤ 140737488355328) (hcap : n ≤ cap) (hd : Num.dec l = (z, k)) :
    Calls Try.prog 14 #[.slice A n cap] w fun e w' => e = .returned (.tuple #[.int .i64 z, .int .i64 (k : Int)]) ∧ Below w.heap.size w w' := by
  refine (get_any A n cap l w h hn hcap).mono ?_
  rintro e w' ⟨he, hb⟩
  rw [hd] at he
  exact ⟨he, hb⟩

set_option maxRecDepth 100000 in
set_option maxHeartbeats 4000000 in
theorem walk_few (A0 : Option Addr) (n0 k0 : Nat) (f0 : Nat → Int) (A1 : Option Addr) (n1 k1 : Nat) (l1 : List UInt8) (a2 : Int) (w : World) (hle : n0 ≤ 20) (r0 : RdC w w.heap.size A0 n0 fun j => .int .i64 (f0 j)) (c0 : n0 ≤ k0) (b0 : k0 ≤ 140737488351232) (w0 : ∀ j, j < n0 → (Lit.int .i64 (f0 j)).wf = true) (r1 : Rd w w.heap.size A1 n1 l1) (c1 : n1 ≤ k1) (b1 : k1 ≤ 140737488351232) (w2 : (Lit.int .i64 a2).wf = true) :
    Calls Try.prog 5 #[.slice A0 n0 k0, .slice A1 n1 k1, .int .i64 a2] w (Yes w) := by
  have bd : ∀ j, j < n0 → -9223372036854775808 ≤ f0 j ∧ f0 j ≤ 9223372036854775807 := fun j hj => by simpa using bounds_i64 (w0 j hj)
  have BD := Lib.hid bd
  have R0 := Lib.hid r0
  clear bd w0 r0 w2
  · go_enter Try.func5, Try.ntmps5
    go_wp2_with fail
    go_loopw [7, 9] (fun b s wr => ∃ (i N : Nat) (A : Option Addr) (c : Nat), i ≤ n0 ∧ s = .int .i64 i ∧ b = .slice A N c ∧ Own wr w.heap.size A N c (encs f0 i) ∧ N ≤ 9 * i ∧ Below w.heap.size w wr) (fun _ s _ => n0 - (intOf s).toNat)
    case atStart => exact ⟨0, 0, none, 0, by omega, rfl, rfl, World.ownsRow_nil _ _ _ _, by omega, Below.refl _ _⟩
    case round =>
      obtain ⟨i, N, A, c, hi, rfl, rfl, hw, hN, hb⟩ := hrel
      by_cases hlt : i < n0
      · obtain ⟨ad0, rfl, _, hc⟩ := (R0.out.below hb).at_ (k := i) (by omega)
        obtain ⟨hz1, hz2⟩ := BD.out i (by omega)
        have hin : i < n0 := by omega
        have hw8 := Num.wid_int _ hz1 hz2
        go_wp2_with fail
        refine (put_any A N c _ (f0 i) wr hw.rd (by omega) hz1 hz2).mono ?_
        rintro e w1 ⟨A1, c1, rfl, hw1, hb1⟩
        clear hc
        go_wp2_with fail
        go_roundw
        case rel => exact ⟨i + 1, N + 1 + Num.wid (f0 i).natAbs, A1, c1, by omega, by go_num, rfl, hw1.weak hb.size, by omega, hb.trans (hb1.mono hb.size)⟩
        case measure => simp [intOf]; omega
      · have hge : n0 ≤ i := by omega
        have HE := Lib.hid (show i = n0 by omega)
        have HLN := Lib.hid hw.len
        have hNb : N ≤ 180 := by omega
        obtain ⟨M2, hM2⟩ : ∃ M2, N + n1 = M2 := ⟨_, rfl⟩
        have M2b : M2 ≤ 140737488355328 := by omega
        have M2c : N ≤ M2 := by omega
        have H2 := Lib.hid hM2
        clear hi hM2
        have r1' := r1.below hb
        go_wp2_with (at_builtin; go_loud (refine wpList_app rfl (.tmp 33) (.tmp 34) rfl rfl w.heap.size A N c _ rfl hw A1 n1 k1 l1 w.heap.size rfl r1' M2 H2.out (encs f0 i ++ l1) rfl M2b hb.size ?_; intro A2 c2 w2 hw2 hb2))
        have k2 := hb.trans (hb2.mono (Nat.le_refl _))
        have hT : Rd w2 w2.heap.size A2 M2 (encs f0 i ++ l1) := hw2.rd
        have hc2 : M2 ≤ c2 := hw2.cap
        clear hw hb hb2 hw2 r1' r1 hN
        rw [HE.out] at hT HLN
        go_loopw [11, 12] (fun t s wr => ∃ (i a : Nat), i ≤ n0 ∧ s = .int .i64 i ∧ t = .int .i64 a ∧ (encs f0 i).length = a ∧ Below w2.heap.size w2 wr) (fun _ s _ => n0 - (intOf s).toNat)
        case atStart => exact ⟨0, 0, by omega, rfl, rfl, rfl, Below.refl _ _⟩
        case round =>
          obtain ⟨j, a, hj, rfl, rfl, ha, hb⟩ := hrel
          have HA := Lib.hid ha
          clear ha
          have k3 := k2.trans (hb.mono k2.size)
          by_cases hlt : j < n0
          · obtain ⟨R, hR⟩ := encs_split f0 j n0 hlt
            have hT3 : Rd wr wr.heap.size A2 M2 (encs f0 n0 ++ l1) := (hT.below hb).more hb.size
            obtain ⟨hz1, hz2⟩ := BD.out j (by omega)
            have hw8 := Num.wid_int _ hz1 hz2
            obtain ⟨J, hJ⟩ : ∃ J, Num.wid (f0 j).natAbs + 1 = J := ⟨_, rfl⟩
            have hlen : a + J ≤ N := by
              have e1 := HLN.out
              rw [hR, List.length_append, List.length_append, HA.out, Num.enc_length, hJ] at e1
              omega
            have hJ1 : 1 ≤ J := by omega
            have hJ9 : J ≤ 9 := by omega
            obtain ⟨ad, _, rfl, _, _, _⟩ := hT3.at_ (k := a) (by omega)
            have hdrop : (encs f0 n0 ++ l1).drop a = Num.enc (f0 j) ++ (R ++ l1) := by
              rw [hR, List.append_assoc, List.drop_left' HA.out, List.append_assoc]
            have hrd : Rd wr wr.heap.size (some (ad.add a)) (M2 - a) (Num.enc (f0 j) ++ (R ++ l1)) := by
              have := hT3.back a (M2 - a) (by omega)
              rwa [hdrop] at this
            have hdec : Num.dec (Num.enc (f0 j) ++ (R ++ l1)) = (f0 j, J) := by rw [Num.enc_dec _ hz1 hz2, hJ]
            have DEC := Lib.hid hdec
            have HJ := Lib.hid hJ
            have hel : (Num.enc (f0 j)).length = J := by rw [Num.enc_length, hJ]
            have HEL := Lib.hid hel
            obtain ⟨ad0, rfl, _, hc⟩ := (R0.out.below k3).at_ (k := j) (by omega)
            have hjn : j < n0 := by omega
            have hca : ¬ c2 = a := by omega
            have ham : a ≤ M2 := by omega
            clear hR hdrop hdec hJ hel hT3 hc
            go_wp2_with fail
            refine (get_of _ (M2 - a) (c2 - a) _ (f0 j) J _ hrd (by omega) (by omega) DEC.out).mono ?_
            rintro e w3 ⟨rfl, hb3⟩
            have k4 := k3.trans (hb3.mono k3.size)
            have hrd3 := (hrd.below hb3).more hb3.size
            obtain ⟨ad1, e1, _, hc⟩ := (R0.out.below k4).at_ (k := j) (by omega)
            injection e1 with e1
            subst e1
            go_wp2_with fail
            refine (within_at a2 _ (J - 1) w3 (by omega) (by omega)).mono ?_
            rintro e w' ⟨k, hk, rfl, rfl⟩
            clear hc
            have hak : a + k ≤ c2 := by omega
            have hdec0 : Num.dec ((Num.enc (f0 j) ++ (R ++ l1)).take k) = (0, 0) := by
              rw [List.take_append_of_le_length (by rw [HEL.out]; omega)]
              exact Num.dec_cut _ hz1 hz2 k (by have := HJ.out; omega)
            have DEC0 := Lib.hid hdec0
            clear hdec0
            go_wp2_with fail
            refine (get_of (some (ad.add a)) k (c2 - a) _ 0 0 w3 (hrd3.front k (by omega)) (by omega) (by omega) DEC0.out).mono ?_
            rintro e w4 ⟨rfl, hb4⟩
            have k5 := hb.trans ((hb3.trans (hb4.mono hb3.size)).mono hb.size)
            go_wp2_with fail
            go_roundw
            case rel => exact ⟨j + 1, a + J, by omega, by go_num, by go_num, by simp only [encs, List.length_append]; rw [HA.out, HEL.out], k5⟩
            case measure => simp [intOf]; omega
          · have hge2 : n0 ≤ j := by omega
            have haN : a = N := by
              have e1 := HLN.out
              have e2 := HA.out
              rw [show j = n0 by omega] at e2
              omega
            subst haN
            go_wp2_with fail
            refine (known_any wr).mono ?_
            rintro e w3 ⟨rfl, hb3⟩
            have k4 := k3.trans (hb3.mono k3.size)
            go_wp2_with fail
            go_ret
            exact ⟨rfl, k4⟩

set_option maxRecDepth 100000 in
set_option maxHeartbeats 4000000 in
theorem walk_many (A0 : Option Addr) (n0 k0 : Nat) (f0 : Nat → Int) (A1 : Option Addr) (n1 k1 : Nat) (l1 : List UInt8) (a2 : Int) (w : World) (hle : ¬ n0 ≤ 20) (r0 : RdC w w.heap.size A0 n0 fun j => .int .i64 (f0 j)) (c0 : n0 ≤ k0) (b0 : k0 ≤ 140737488351232) (w0 : ∀ j, j < n0 → (Lit.int .i64 (f0 j)).wf = true) (r1 : Rd w w.heap.size A1 n1 l1) (c1 : n1 ≤ k1) (b1 : k1 ≤ 140737488351232) (w2 : (Lit.int .i64 a2).wf = true) :
    Calls Try.prog 5 #[.slice A0 n0 k0, .slice A1 n1 k1, .int .i64 a2] w (Yes w) := by
  have bd : ∀ j, j < n0 → -9223372036854775808 ≤ f0 j ∧ f0 j ≤ 9223372036854775807 := fun j hj => by simpa using bounds_i64 (w0 j hj)
  have BD := Lib.hid bd
  have R0 := Lib.hid r0
  clear bd w0 r0 w2
  · go_enter Try.func5, Try.ntmps5
    go_wp2_with fail
    obtain ⟨m, hm⟩ : ∃ m : Nat, (20 : Int) = (m : Int) := ⟨20, rfl⟩
    have hm1 : m ≤ 20 := by omega
    have hm2 : m ≤ n0 := by omega
    rw [hm]
    clear hm
    go_loopw [7, 9] (fun b s wr => ∃ (i N : Nat) (A : Option Addr) (c : Nat), i ≤ m ∧ s = .int .i64 i ∧ b = .slice A N c ∧ Own wr w.heap.size A N c (encs f0 i) ∧ N ≤ 9 * i ∧ Below w.heap.size w wr) (fun _ s _ => m - (intOf s).toNat)
    case atStart => exact ⟨0, 0, none, 0, by omega, rfl, rfl, World.ownsRow_nil _ _ _ _, by omega, Below.refl _ _⟩
    case round =>
      obtain ⟨i, N, A, c, hi, rfl, rfl, hw, hN, hb⟩ := hrel
      by_cases hlt : i < m
      · obtain ⟨ad0, rfl, _, hc⟩ := (R0.out.below hb).at_ (k := i) (by omega)
        obtain ⟨hz1, hz2⟩ := BD.out i (by omega)
        have hin : i < n0 := by omega
        have hw8 := Num.wid_int _ hz1 hz2
        go_wp2_with fail
        refine (put_any A N c _ (f0 i) wr hw.rd (by omega) hz1 hz2).mono ?_
        rintro e w1 ⟨A1, c1, rfl, hw1, hb1⟩
        clear hc
        go_wp2_with fail
        go_roundw
        case rel => exact ⟨i + 1, N + 1 + Num.wid (f0 i).natAbs, A1, c1, by omega, by go_num, rfl, hw1.weak hb.size, by omega, hb.trans (hb1.mono hb.size)⟩
        case measure => simp [intOf]; omega
      · have hge : m ≤ i := by omega
        have HE := Lib.hid (show i = m by omega)
        have HLN := Lib.hid hw.len
        have hNb : N ≤ 180 := by omega
        obtain ⟨M2, hM2⟩ : ∃ M2, N + n1 = M2 := ⟨_, rfl⟩
        have M2b : M2 ≤ 140737488355328 := by omega
        have M2c : N ≤ M2 := by omega
        have H2 := Lib.hid hM2
        clear hi hM2
        have r1' := r1.below hb
        go_wp2_with (at_builtin; go_loud (refine wpList_app rfl (.tmp 33) (.tmp 34) rfl rfl w.heap.size A N c _ rfl hw A1 n1 k1 l1 w.heap.size rfl r1' M2 H2.out (encs f0 i ++ l1) rfl M2b hb.size ?_; intro A2 c2 w2 hw2 hb2))
        have k2 := hb.trans (hb2.mono (Nat.le_refl _))
        have hT : Rd w2 w2.heap.size A2 M2 (encs f0 i ++ l1) := hw2.rd
        have hc2 : M2 ≤ c2 := hw2.cap
        clear hw hb hb2 hw2 r1' r1 hN
        rw [HE.out] at hT HLN
        go_loopw [11, 12] (fun t s wr => ∃ (i a : Nat), i ≤ m ∧ s = .int .i64 i ∧ t = .int .i64 a ∧ (encs f0 i).length = a ∧ Below w2.heap.size w2 wr) (fun _ s _ => m - (intOf s).toNat)
        case atStart => exact ⟨0, 0, by omega, rfl, rfl, rfl, Below.refl _ _⟩
        case round =>
          obtain ⟨j, a, hj, rfl, rfl, ha, hb⟩ := hrel
          have HA := Lib.hid ha
          clear ha
          have k3 := k2.trans (hb.mono k2.size)
          by_cases hlt : j < m
          · obtain ⟨R, hR⟩ := encs_split f0 j m hlt
            have hT3 : Rd wr wr.heap.size A2 M2 (encs f0 m ++ l1) := (hT.below hb).more hb.size
            obtain ⟨hz1, hz2⟩ := BD.out j (by omega)
            have hw8 := Num.wid_int _ hz1 hz2
            obtain ⟨J, hJ⟩ : ∃ J, Num.wid (f0 j).natAbs + 1 = J := ⟨_, rfl⟩
            have hlen : a + J ≤ N := by
              have e1 := HLN.out
              rw [hR, List.length_append, List.length_append, HA.out, Num.enc_length, hJ] at e1
              omega
            have hJ1 : 1 ≤ J := by omega
            have hJ9 : J ≤ 9 := by omega
            obtain ⟨ad, _, rfl, _, _, _⟩ := hT3.at_ (k := a) (by omega)
            have hdrop : (encs f0 m ++ l1).drop a = Num.enc (f0 j) ++ (R ++ l1) := by
              rw [hR, List.append_assoc, List.drop_left' HA.out, List.append_assoc]
            have hrd : Rd wr wr.heap.size (some (ad.add a)) (M2 - a) (Num.enc (f0 j) ++ (R ++ l1)) := by
              have := hT3.back a (M2 - a) (by omega)
              rwa [hdrop] at this
            have hdec : Num.dec (Num.enc (f0 j) ++ (R ++ l1)) = (f0 j, J) := by rw [Num.enc_dec _ hz1 hz2, hJ]
            have DEC := Lib.hid hdec
            have HJ := Lib.hid hJ
            have hel : (Num.enc (f0 j)).length = J := by rw [Num.enc_length, hJ]
            have HEL := Lib.hid hel
            obtain ⟨ad0, rfl, _, hc⟩ := (R0.out.below k3).at_ (k := j) (by omega)
            have hjn : j < n0 := by omega
            have hca : ¬ c2 = a := by omega
            have ham : a ≤ M2 := by omega
            clear hR hdrop hdec hJ hel hT3 hc
            go_wp2_with fail
            refine (get_of _ (M2 - a) (c2 - a) _ (f0 j) J _ hrd (by omega) (by omega) DEC.out).mono ?_
            rintro e w3 ⟨rfl, hb3⟩
            have k4 := k3.trans (hb3.mono k3.size)
            have hrd3 := (hrd.below hb3).more hb3.size
            obtain ⟨ad1, e1, _, hc⟩ := (R0.out.below k4).at_ (k := j) (by omega)
            injection e1 with e1
            subst e1
            go_wp2_with fail
            refine (within_at a2 _ (J - 1) w3 (by omega) (by omega)).mono ?_
            rintro e w' ⟨k, hk, rfl, rfl⟩
            clear hc
            have hak : a + k ≤ c2 := by omega
            have hdec0 : Num.dec ((Num.enc (f0 j) ++ (R ++ l1)).take k) = (0, 0) := by
              rw [List.take_append_of_le_length (by rw [HEL.out]; omega)]
              exact Num.dec_cut _ hz1 hz2 k (by have := HJ.out; omega)
            have DEC0 := Lib.hid hdec0
            clear hdec0
            go_wp2_with fail
            refine (get_of (some (ad.add a)) k (c2 - a) _ 0 0 w3 (hrd3.front k (by omega)) (by omega) (by omega) DEC0.out).mono ?_
            rintro e w4 ⟨rfl, hb4⟩
            have k5 := hb.trans ((hb3.trans (hb4.mono hb3.size)).mono hb.size)
            go_wp2_with fail
            go_roundw
            case rel => exact ⟨j + 1, a + J, by omega, by go_num, by go_num, by simp only [encs, List.length_append]; rw [HA.out, HEL.out], k5⟩
            case measure => simp [intOf]; omega
          · have hge2 : m ≤ j := by omega
            have haN : a = N := by
              have e1 := HLN.out
              have e2 := HA.out
              rw [show j = m by omega] at e2
              omega
            subst haN
            go_wp2_with fail
            refine (known_any wr).mono ?_
            rintro e w3 ⟨rfl, hb3⟩
            have k4 := k3.trans (hb3.mono k3.size)
            go_wp2_with fail
            go_ret
            exact ⟨rfl, k4⟩

theorem walk (A0 : Option Addr) (n0 k0 : Nat) (f0 : Nat → Int) (A1 : Option Addr) (n1 k1 : Nat) (l1 : List UInt8) (a2 : Int) (w : World) (r0 : RdC w w.heap.size A0 n0 fun j => .int .i64 (f0 j)) (c0 : n0 ≤ k0) (b0 : k0 ≤ 140737488351232) (w0 : ∀ j, j < n0 → (Lit.int .i64 (f0 j)).wf = true) (r1 : Rd w w.heap.size A1 n1 l1) (c1 : n1 ≤ k1) (b1 : k1 ≤ 140737488351232) (w2 : (Lit.int .i64 a2).wf = true) :
    Calls Try.prog 5 #[.slice A0 n0 k0, .slice A1 n1 k1, .int .i64 a2] w (Yes w) := by
  by_cases hle : n0 ≤ 20
  · exact walk_few A0 n0 k0 f0 A1 n1 k1 l1 a2 w hle r0 c0 b0 w0 r1 c1 b1 w2
  · exact walk_many A0 n0 k0 f0 A1 n1 k1 l1 a2 w hle r0 c0 b0 w0 r1 c1 b1 w2

set_option maxRecDepth 100000 in
theorem lifted (os : Os) (started : os.Started) (H : Type) (enc : TypeId × Value → H) :
    ReturnsInHanded {} Try.checked os 5 .any (Rows.codeBackSpec.pre6 enc Try.prog Try.f5 Rows.codeBackRow.domain false) (Rows.codeBackSpec.post enc Try.prog Try.f5 false true false false) := by
  refine returnsInHanded_of_change_sized (C := Try.checked) own started (by kernel_rfl) Try.func5
    (ChangeSpec.witness6 (enc := enc) (C := Try.checked) false ⟨#[], #[.slice none 0 0, .slice none 0 0, .int .i64 0], []⟩ 8 (by kernel_rfl) (by kernel_rfl) (by kernel_rfl) (by kernel_rfl)) ?_
  intro W base args ds gs before hval0 hW hcnd hsz0 _
  have hval : ∀ (j : Nat) t v, Try.f5.params[j]? = some t → args[j]? = some v → Value.okWide Try.prog W .any base t v := hval0
  have hW' := hW
  obtain ⟨p, q, hA0, hV, rfl, hfz, hnd⟩ := hW
  have hA : DataW.TrodAll enc Try.prog W 0 (fun _ => true) true Try.f5.params.toList args.toList ds p := hA0
  have hsz : (DataW.weightsEach Try.prog (Try.f5.params.toList ++ Rows.codeBackSpec.plain.varTypes Try.prog) (ds ++ gs)).all (· ≤ reachBytes) = true := hsz0
  rw [Try.params5] at hA hval hsz
  obtain ⟨v0, vs0, d0, ds0, p0, q0, hargs, rfl, rfl, h0, r0⟩ := trodAll_cons hA
  obtain ⟨v1, vs1, d1, ds1, p1, q1, rfl, rfl, rfl, h1, r1⟩ := trodAll_cons r0
  obtain ⟨v2, vs2, d2, ds2, p2, q2, rfl, rfl, rfl, h2, r2⟩ := trodAll_cons r1
  obtain ⟨rfl, rfl, rfl⟩ := trodAll_nil r2
  obtain rfl : args = #[v0, v1, v2] := by cases args; simp_all
  obtain ⟨rfl, rfl⟩ := trodVars_none hV
  obtain ⟨A0, n0, k0, rfl⟩ := okWide_slice Try.underlying32 (hval 0 32 v0 rfl rfl)
  have t0 := h0
  have lt0 : ∀ x ∈ p0, x.block < W.heap.size := by obtain ⟨m, hm⟩ := t0; exact DataW.trod_lt m _ _ _ hm
  obtain ⟨f0, u0, c0, b0, w0⟩ := ints_sized h0 (fun elems spare e => sized_slice hsz (j := 0) (t := 32) (e := 2) rfl (by rw [← e]; rfl) Try.underlying32)
  obtain ⟨A1, n1, k1, rfl⟩ := okWide_slice Try.underlying23 (hval 1 23 v1 rfl rfl)
  have t1 := h1
  have lt1 : ∀ x ∈ p1, x.block < W.heap.size := by obtain ⟨m, hm⟩ := t1; exact DataW.trod_lt m _ _ _ hm
  obtain ⟨l1, u1, c1, b1⟩ := row_sized h1 (fun elems spare e => sized_slice hsz (j := 1) (t := 23) (e := 5) rfl (by rw [← e]; rfl) Try.underlying23)
  obtain ⟨a2, rfl, rfl, rfl, w2⟩ := open_int Try.underlying3 (hval 2 3 v2 rfl rfl) h2
  clear hA0 hval0
  refine (walk A0 n0 k0 f0 A1 n1 k1 l1 a2 W u0 c0 b0 w0 u1 c1 b1 w2).mono fun e W' ⟨he, bel⟩ => ?_
  subst he
  exact ⟨_, rfl, _, _, _, [], _, [], hW', trodAll_mk1 (shut_bool Try.underlying4 _), (trodAll_cons_mk (Below.trod laidOut (by kernel_rfl) (of_decide_eq_true (by kernel_rfl)) t0 bel lt0) (trodAll_cons_mk (Below.trod laidOut (by kernel_rfl) (of_decide_eq_true (by kernel_rfl)) t1 bel lt1) (trodAll_cons_mk (shut_int Try.underlying3 w2) trodAll_mk0))), rfl, bel.frame _, fun h => by cases h⟩

theorem proved : Rows.CodeBackSaid :=
  OpenClaim.holds_of_wide 5 Try.f5 rfl rfl rfl rfl rfl rfl rfl ⟨rfl, rfl, rfl, rfl, rfl⟩ rfl rfl rfl rfl rfl (by kernel_rfl) Try.func5 (by kernel_rfl)
    (of_decide_eq_true (by kernel_rfl)) (by unfold Func.isWrapper; first | (rw [if_pos (by decide +kernel)]; kernel_rfl) | (rw [if_neg (by decide +kernel)]; exact ⟨rfl, rfl⟩))
    (fun os started H enc _ => lifted os started H enc)
end Go.Proofs.Ytibhppjcochkgaa.codeBack
