/- How deep a table goes, by the program; what is no table. -/
import Derived.Test.YtpjppglaieohlaaLen
namespace Go.Proofs.Ytpjppglaieohlaa
open Go.RowKit Tab
set_option linter.unusedSimpArgs false
set_option linter.unusedVariables false

set_option maxHeartbeats 400000 in
theorem length_none (A : Option Addr) (n cap : Nat) (l : List Nd) (w : World) (h : RdN w w.heap.size A n l) (hc : n ≤ cap) (hn : n ≤ 1048576) (hw : wholeB l = false) :
    Calls Try.prog 29 #[.slice A n cap] w (Len 4097 w) := by
  have HW := Lib.hid hw
  clear hw
  go_enter Try.func29, Try.ntmps29
  go_wp2_with fail
  refine (whole_any A n cap l w h hc (by omega)).mono ?_
  rw [HW.out]
  rintro e w1 ⟨rfl, hb1⟩
  go_wp2_with fail
  go_ret2
  exact Len.mk rfl rfl hb1
set_option maxHeartbeats 400000 in
theorem depth_none (A : Option Addr) (n cap : Nat) (l : List Nd) (w : World) (h : RdN w w.heap.size A n l) (hc : n ≤ cap) (hn : n ≤ 1048576) (hw : wholeB l = false) :
    Calls Try.prog 28 #[.slice A n cap] w (Ans (.int .i64 (0 : Nat)) w) := by
  have HW := Lib.hid hw
  clear hw
  go_enter Try.func28, Try.ntmps28
  go_wp2_with fail
  refine (whole_any A n cap l w h hc (by omega)).mono ?_
  rw [HW.out]
  rintro e w1 ⟨rfl, hb1⟩
  go_wp2_with fail
  go_ret
  exact Ans.mk rfl hb1
set_option maxRecDepth 100000 in
set_option maxHeartbeats 3200000 in
theorem depth_tree (A : Option Addr) (n cap : Nat) (l : List Nd) (x0 : Nd) (k0 : F) (w : World) (h : RdN w w.heap.size A n l) (hc : n ≤ cap) (hn : n ≤ 1048576) (hok : (F.cons x0 k0 .nil).ok) (hl : l = x0 :: k0.flat) :
    Calls Try.prog 28 #[.slice A n cap] w (Ans (.int .i64 (k0.dep + 1 : Nat)) w) := by
  have hwh : wholeB l = true := by rw [hl]; exact tree_whole hok
  obtain ⟨i1, i2, i3, i4⟩ := InvP.start hok rfl
  have e1 : (F.cons x0 k0 .nil).flat = l := by rw [hl]; simp [F.flat]
  have e2 : (F.cons x0 k0 .nil).dep = k0.dep + 1 := by simp [F.dep]
  have i2 := i2.trans e1
  rw [e2] at i4
  have hD : k0.dep + 1 ≤ n := by
    have := F.dep_le_sz k0
    have h1 := h.len
    rw [hl] at h1
    simp only [List.length_cons, F.flat_length] at h1
    omega
  generalize k0.dep + 1 = D at i4 hD ⊢
  generalize (F.cons x0 k0 .nil) = f0 at i1 i2 i4
  have I1 := Lib.hid i1
  have I2 := Lib.hid i2
  have I4 := Lib.hid i4
  have HWH := Lib.hid hwh
  clear i1 i2 i3 i4 hwh hok hl e1 e2
  go_enter Try.func28, Try.ntmps28
  go_wp2_with fail
  refine (whole_any A n cap l w h hc (by omega)).mono ?_
  rw [HWH.out]
  rintro e w1 ⟨rfl, hb1⟩
  go_wp2_with fail
  go_loopw [3, 4, 12] (fun sm q s wr => ∃ (i d : Nat) (st : List (Nat × Nat)) (cur : F) (fs : List F) (A1 : Option Addr) (n1 c1 : Nat), i ≤ n ∧ s = .int .i64 i ∧ sm = .int .i64 d ∧ q = .slice A1 n1 c1 ∧ OwnP wr w.heap.size A1 n1 c1 st ∧ InvP st cur fs ∧
    cur.flat ++ flats fs = l.drop i ∧ max d (deepR st cur fs) = D ∧ Below w.heap.size w wr ∧ n1 ≤ i) (fun _ _ s _ => n - (intOf s).toNat)
  case atStart => exact ⟨0, 0, [], f0, [], none, 0, 0, by omega, rfl, rfl, rfl, OwnP.nil _ _, I1.out, I2.out, by rw [I4.out]; omega, hb1, by omega⟩
  case round =>
    obtain ⟨i, d, st, cur, fs, A1, n1, c1, hi, rfl, rfl, rfl, hp, hv, hrest, hsum, hb, hn1⟩ := hrel
    have hd : d ≤ D := by omega
    have HV := Lib.hid hv
    have HR := Lib.hid hrest
    have HS := Lib.hid hsum
    clear hv hrest hsum
    by_cases hlt : i < n
    · obtain ⟨ad, x, rfl, _, hx, hin, c0, c1', c2⟩ := (h.on hb).at_ hlt
      have hdr := drop_cons hx
      have hlow := InvP.low HV.out HR.out 1048577 (by rw [List.length_drop, h.len]; omega)
      have hge := deep_ge HV.out (HR.out.trans hdr)
      obtain ⟨hf, cur', fs', j1, j2, j3, j4⟩ := Tab.step HV.out (HR.out.trans hdr)
      obtain ⟨hT1, hT2⟩ := InvP.times HV.out
      obtain ⟨xk, xp, xn⟩ := x
      have hz2 : xn ≤ 9223372036854775807 := hin.2.2.2
      have hj : max (max d (n1 + 1)) (deepR (behind st ⟨xk, xp, xn⟩) cur' fs') = D := by
        have h1 := hp.1
        have h2 := HS.out
        rw [h1]
        omega
      have HF := Lib.hid hf
      have J1 := Lib.hid j1
      have J2 := Lib.hid j2
      have J4 := Lib.hid hj
      have HLOW := Lib.hid hlow
      clear hf j1 j2 j3 j4 hdr hx hin hlow hge hj
      have hBs := hb.size
      have hb2' := bl1 wr (.cells #[.int .i64 xk, .int .i64 xp, .int .i64 xn] 44)
      have hp2 : OwnP (wr.alloc (.cells #[.int .i64 xk, .int .i64 xp, .int .i64 xn] 44)) w.heap.size A1 n1 c1 st := hp.keep fun b _ hlt => hb2'.block b hlt
      have hbw := hb.trans (hb2'.mono hb.size)
      go_wp2_with fail
      all_goals
        refine (behind_any w.heap.size A1 n1 c1 st xk xp xn _ hp2 hbw.size (by omega) HF.out hz2 hT1 hT2 (fun e he => by have := HLOW.out e he; omega)).mono ?_
        rintro e w3 ⟨A3, n3, c3, rfl, hp3, hb3⟩
        have hn3 : n3 ≤ i + 1 := by
          have h1 := hp3.1
          have h2 := behind_len st ⟨xk, xp, xn⟩
          have h3 := hp.1
          omega
        go_wp2_with fail
        go_roundw
        case rel => exact ⟨i + 1, max d (n1 + 1), _, cur', fs', A3, n3, c3, by omega, by go_num, ret_num (by omega), rfl, hp3, J1.out, J2.out.symm, J4.out, hbw.trans hb3, hn3⟩
        case measure => simp [intOf]; omega
    · have hge : n ≤ i := by omega
      obtain ⟨r0, r1⟩ := InvP.done HV.out (by rw [HR.out]; exact List.drop_eq_nil_of_le (by rw [h.len]; exact hge))
      have e4 := HS.out
      rw [r1] at e4
      have e5 : d = D := by omega
      have E5 := Lib.hid e5
      clear r0 r1 e4 e5
      go_wp2_with fail
      go_ret
      exact Ans.mk (by rw [E5.out]; rfl) hb
end Go.Proofs.Ytpjppglaieohlaa
