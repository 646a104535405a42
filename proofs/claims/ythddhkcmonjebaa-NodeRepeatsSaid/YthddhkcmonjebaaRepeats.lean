/- NodeRepeats: for any tape of numbers and any number, a table that is repeated is so many times as long, as long as that may be. -/
import Derived.Test.YthddhkcmonjebaaFrameN
import Derived.Test.YthddhkcmonjebaaTable
import Derived.Test.YthddhkcmonjebaaKnown
namespace Go.Proofs.Ythddhkcmonjebaa.nodeRepeats
open Go.ChangeShapes Go.WideShapes Go.ChangeAt Go.RowKit Tab
set_option linter.unusedSimpArgs false
set_option linter.unusedVariables false

theorem lens (T m : Nat) (hm : 1 ≤ m) (hm2 : m ≤ 65536) : 0 ≤ lv T * (m : Int) ∧ lv T * (m : Int) ≤ 9223372036854775807 ∧ ((lb T = false ∧ lb (T * m) = false) ∨ (lb T = true ∧ lv T * (m : Int) ≤ 4096 ∧ lb (T * m) = true ∧ lv (T * m) = lv T * (m : Int)) ∨ (lb T = true ∧ ¬ lv T * (m : Int) ≤ 4096 ∧ lb (T * m) = false)) := by
  by_cases h : T ≤ 4096
  · have e : lv T = (T : Int) := if_pos h
    have e2 : lb T = true := decide_eq_true h
    have h1 : T * m ≤ 4096 * 65536 := Nat.mul_le_mul h hm2
    rw [e, e2, ← Int.natCast_mul]
    by_cases h2 : T * m ≤ 4096
    · refine ⟨by omega, by omega, .inr (.inl ⟨rfl, by omega, decide_eq_true h2, if_pos h2⟩)⟩
    · exact ⟨by omega, by omega, .inr (.inr ⟨rfl, by omega, decide_eq_false h2⟩)⟩
  · have e : lv T = 0 := if_neg h
    have h1 : T * 1 ≤ T * m := Nat.mul_le_mul_left _ hm
    rw [e]
    exact ⟨by omega, by omega, .inl ⟨decide_eq_false h, decide_eq_false (by omega)⟩⟩
set_option maxRecDepth 100000 in
set_option maxHeartbeats 4000000 in
theorem walk (A0 : Option Addr) (n0 k0 : Nat) (f0 : Nat → Int) (a1 : Int) (w : World) (r0 : RdC w w.heap.size A0 n0 fun j => .int .i64 (f0 j)) (c0 : n0 ≤ k0) (b0 : k0 ≤ 140737488351232) (w0 : ∀ j, j < n0 → (Lit.int .i64 (f0 j)).wf = true) (w1 : (Lit.int .i64 a1).wf = true) :
    Calls Try.prog 6 #[.slice A0 n0 k0, .int .i64 a1] w (Ans (.bool true) w) := by
  obtain ⟨M, hM, hM2⟩ := and_mask a1 65535 (by omega)
  have hM : bits .and .i64 a1 65535 = (M : Int) := hM
  have r0' := Lib.hid r0
  clear r0 w1 w0
  go_enter Try.func6, Try.ntmps6
  go_wp2_with fail
  refine (table_box A0 n0 k0 f0 w 3 3 3 3 rfl rfl (by omega) (by omega) (by omega) r0'.out (by omega)).mono ?_
  rintro e w2 ⟨x, k, A2, n2, c2, rfl, hok, hrd, hnc, hsz, hb2⟩
  have hlen := hrd.len
  simp only [List.length_cons, F.flat_length] at hlen
  have hsz' : k.sz + 1 ≤ 625 := hsz
  have HLEN := Lib.hid hlen
  have hn2 : n2 ≤ 625 := by omega
  have hbl := bl1 w2 (.cells #[.int .i64 4, .int .i64 0, .int .i64 (1 + (M : Int))] 33)
  have ql := OwnN.lit w2 w2.heap.size #[.int .i64 4, .int .i64 0, .int .i64 (1 + (M : Int))] [⟨4, 0, 1 + (M : Int)⟩] 1 rfl rfl (Nat.le_refl _) (by omega) (by intro x hx; simp at hx; subst hx; exact ndIn_mk (by omega) (by omega) (by omega))
  have hrd3 := hrd.on hbl
  clear hlen hsz
  go_wp2_with (at_builtin; go_loud (refine wpList_appV elN rfl (.tmp 21) (.tmp 22) rfl rfl w2.heap.size _ 1 1 _ rfl ql.own A2 n2 c2 _ _ rfl hrd3.rd (by rw [ns_length, hrd3.len]) (ns_one _) (by omega) (by unfold maxLen; omega) hbl.size (1 + n2) rfl _ rfl ?_; intro A4 c4 w4 hw4 hb4 hot))
  have t4 := hbl.trans hb4
  have k4 := hb2.trans (t4.mono hb2.size)
  have ra := hrd.on t4
  have hl4 : (⟨4, 0, 1 + (M : Int)⟩ : Nd) :: (F.cons x k .nil).flat = ⟨4, 0, 1 + (M : Int)⟩ :: x :: k.flat := by simp [F.flat]
  have rl : RdN w4 w4.heap.size A4 (1 + n2) (⟨4, 0, 1 + (M : Int)⟩ :: (F.cons x k .nil).flat) := by
    rw [hl4]
    refine ⟨by simp only [List.length_cons, F.flat_length]; have := HLEN.out; omega, OwnV.rd hw4, fun y hy => ?_⟩
    rcases List.mem_cons.1 hy with rfl | hy
    · exact ndIn_mk (by omega) (by omega) (by omega)
    · exact hrd.bd y hy
  have hc4 : 1 + n2 ≤ c4 := OwnV.cap hw4
  have hok4 : (F.cons ⟨4, 0, 1 + (M : Int)⟩ (F.cons x k .nil) .nil).ok := ⟨(fine_iff _ _ _).2 (by omega), by simp [F.cnt, kn], hok, trivial⟩
  have hT2 : F.tick ⟨4, 0, 1 + (M : Int)⟩ (F.cons x k .nil).len = F.tick x k.len * (1 + M) := by
    show (F.tick x k.len + 0) * (1 + (M : Int)).toNat = _
    rw [Nat.add_zero, show (1 + (M : Int)).toNat = 1 + M by omega]
  have hLa := fun w' (h : RdN w' w'.heap.size A2 n2 (x :: k.flat)) => length_tree A2 n2 c2 _ x k w' h hnc (by omega) hok rfl
  have hLl := fun w' (h : RdN w' w'.heap.size A4 (1 + n2) (⟨4, 0, 1 + (M : Int)⟩ :: (F.cons x k .nil).flat)) => length_tree A4 (1 + n2) c4 _ _ _ w' h hc4 (by omega) hok4 rfl
  have hDa := fun w' (h : RdN w' w'.heap.size A2 n2 (x :: k.flat)) => depth_tree A2 n2 c2 _ x k w' h hnc (by omega) hok rfl
  have hDl := fun w' (h : RdN w' w'.heap.size A4 (1 + n2) (⟨4, 0, 1 + (M : Int)⟩ :: (F.cons x k .nil).flat)) => depth_tree A4 (1 + n2) c4 _ _ _ w' h hc4 (by omega) hok4 rfl
  have hS0 := (whole_size (tree_whole hok4)).2
  rw [rl.len] at hS0
  rw [hT2] at hLl
  have hdd : (F.cons x k .nil).dep + 1 = k.dep + 1 + 1 := by simp [F.dep]
  rw [hdd] at hDl
  have hdsz := F.dep_le_sz k
  have hD2 : k.dep + 1 ≤ 1000 := by omega
  have hrel := lens (F.tick x k.len) (1 + M) (by omega) (by omega)
  generalize F.tick x k.len = T at hLa hLl hrel
  unfold Len at hLa hLl
  generalize lv T = V at hLa hrel
  generalize lb T = b at hLa hrel
  generalize lv (T * (1 + M)) = V2 at hLl hrel
  generalize lb (T * (1 + M)) = b2 at hLl hrel
  generalize k.dep + 1 = D at hDa hDl hD2
  have HLA := Lib.hid hLa
  have HLL := Lib.hid hLl
  have HDA := Lib.hid hDa
  have HDL := Lib.hid hDl
  have HS0 := Lib.hid hS0
  clear hLa hLl hDa hDl hS0 hl4 hok4 hT2 hdd hw4 hb4 hot t4 hrd3 hbl ql hdsz HLEN hsz' hM hrd
  refine (HLA.out w4 ra).mono ?_
  rintro e w5 ⟨rfl, hb5⟩
  have k5 := k4.trans (hb5.mono k4.size)
  go_wp2_with fail
  refine (HLL.out w5 (rl.on hb5)).mono ?_
  rintro e w6 ⟨rfl, hb6⟩
  have t6 := hb5.trans (hb6.mono hb5.size)
  have k6 := k5.trans (hb6.mono k5.size)
  have hV2 : V * (1 + (M : Int)) ≤ 9223372036854775807 := hrel.2.1
  have hV3 : 0 ≤ V * (1 + (M : Int)) := hrel.1
  have hne : ¬ n2 = 1 + n2 := by omega
  rcases hrel.2.2 with ⟨rfl, rfl⟩ | ⟨rfl, h1, rfl, rfl⟩ | ⟨rfl, h1, rfl⟩
  all_goals
    clear hrel
    go_wp2_with fail
    refine (size_any A4 (1 + n2) c4 _ 0 _ (rl.on t6) hc4 (by omega)).mono ?_
    rw [HS0.out]
    rintro e w7 ⟨rfl, hb7⟩
    have t7 := t6.trans (hb7.mono t6.size)
    have k7 := k6.trans (hb7.mono k6.size)
    go_wp2_with fail
    refine (HDL.out w7 (rl.on t7)).mono ?_
    rintro e w8 ⟨rfl, hb8⟩
    have t8 := t7.trans (hb8.mono t7.size)
    have k8 := k7.trans (hb8.mono k7.size)
    go_wp2_with fail
    refine (HDA.out w8 (ra.on t8)).mono ?_
    rintro e w9 ⟨rfl, hb9⟩
    have k9 := k8.trans (hb9.mono k8.size)
    go_wp2_with fail
    refine (same_other A2 A4 n2 (1 + n2) c2 c4 w9 hne).mono ?_
    rintro e w10 ⟨rfl, hb10⟩
    have k10 := k9.trans (hb10.mono k9.size)
    go_wp2_with fail
    refine (known_any w10).mono ?_
    rintro e w11 ⟨rfl, hb11⟩
    have k11 := k10.trans (hb11.mono k10.size)
    go_wp2_with fail
    go_ret
    first | exact Ans.mk rfl k11 | exact Ans.mk (show Value.bool true = .bool (!decide (V * (1 + (M : Int)) ≤ 4096)) by rw [decide_eq_false (by omega)]; rfl) k11

set_option maxRecDepth 100000 in
theorem lifted (os : Os) (started : os.Started) (H : Type) (enc : TypeId × Value → H) :
    ReturnsInHanded {} Try.checked os 6 .any (Rows.nodeRepeatsSpec.pre6 enc Try.prog Try.f6 Rows.nodeRepeatsRow.domain false) (Rows.nodeRepeatsSpec.post enc Try.prog Try.f6 false true false false) := by
  refine returnsInHanded_of_change_sized (C := Try.checked) own started (by kernel_rfl) Try.func6
    (ChangeSpec.witness6 (enc := enc) (C := Try.checked) false ⟨#[], #[.slice none 0 0, .int .i64 0], []⟩ 8 (by kernel_rfl) (by kernel_rfl) (by kernel_rfl) (by kernel_rfl)) ?_
  intro W base args ds gs before hval0 hW hcnd hsz0 _
  have hval : ∀ (j : Nat) t v, Try.f6.params[j]? = some t → args[j]? = some v → Value.okWide Try.prog W .any base t v := hval0
  have hW' := hW
  obtain ⟨p, q, hA0, hV, rfl, hfz, hnd⟩ := hW
  have hA : DataW.TrodAll enc Try.prog W 0 (fun _ => true) true Try.f6.params.toList args.toList ds p := hA0
  have hsz : (DataW.weightsEach Try.prog (Try.f6.params.toList ++ Rows.nodeRepeatsSpec.plain.varTypes Try.prog) (ds ++ gs)).all (· ≤ reachBytes) = true := hsz0
  rw [Try.params6] at hA hval hsz
  obtain ⟨v0, vs0, d0, ds0, p0, q0, hargs, rfl, rfl, h0, r0⟩ := trodAll_cons hA
  obtain ⟨v1, vs1, d1, ds1, p1, q1, rfl, rfl, rfl, h1, r1⟩ := trodAll_cons r0
  obtain ⟨rfl, rfl, rfl⟩ := trodAll_nil r1
  obtain rfl : args = #[v0, v1] := by cases args; simp_all
  obtain ⟨rfl, rfl⟩ := trodVars_none hV
  obtain ⟨A0, n0, k0, rfl⟩ := okWide_slice Try.underlying24 (hval 0 24 v0 rfl rfl)
  have t0 := h0
  have lt0 : ∀ x ∈ p0, x.block < W.heap.size := by obtain ⟨m, hm⟩ := t0; exact DataW.trod_lt m _ _ _ hm
  obtain ⟨f0, u0, c0, b0, w0⟩ := ints_sized h0 (fun elems spare e => sized_slice hsz (j := 0) (t := 24) (e := 3) rfl (by rw [← e]; rfl) Try.underlying24)
  obtain ⟨a1, rfl, rfl, rfl, w1⟩ := open_int Try.underlying2 (hval 1 2 v1 rfl rfl) h1
  clear hA0 hval0
  refine (walk A0 n0 k0 f0 a1 W u0 c0 b0 w0 w1).mono fun e W' ⟨he, bel⟩ => ?_
  subst he
  exact ⟨_, rfl, _, _, _, [], _, [], hW', trodAll_mk1 (shut_bool Try.underlying4 _), (trodAll_cons_mk (Below.trod laidOut (by kernel_rfl) (of_decide_eq_true (by kernel_rfl)) t0 bel lt0) (trodAll_cons_mk (shut_int Try.underlying2 w1) trodAll_mk0)), rfl, bel.frame _, fun h => by cases h⟩

theorem proved : Rows.NodeRepeatsSaid :=
  OpenClaim.holds_of_wide 6 Try.f6 rfl rfl rfl rfl rfl rfl rfl ⟨rfl, rfl, rfl, rfl, rfl⟩ rfl rfl rfl rfl rfl (by kernel_rfl) Try.func6 (by kernel_rfl)
    (of_decide_eq_true (by kernel_rfl)) (by unfold Func.isWrapper; first | (rw [if_pos (by decide +kernel)]; kernel_rfl) | (rw [if_neg (by decide +kernel)]; exact ⟨rfl, rfl⟩))
    (fun os started H enc _ => lifted os started H enc)
end Go.Proofs.Ythddhkcmonjebaa.nodeRepeats
