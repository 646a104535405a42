/- NodeKids: for any two tapes of numbers, children lie one behind the other, each whole; a Seq of two tables is as long as both, and one deeper. -/
import Derived.Test.YthddhkcmonjebaaFrameN
import Derived.Test.YthddhkcmonjebaaTable
import Derived.Test.YthddhkcmonjebaaKnown
namespace Go.Proofs.Ythddhkcmonjebaa.nodeKids
open Go.ChangeShapes Go.WideShapes Go.ChangeAt Go.RowKit Tab
set_option linter.unusedSimpArgs false
set_option linter.unusedVariables false

theorem lens2 (S T : Nat) : 0 ≤ lv S ∧ lv S ≤ 4096 ∧ 0 ≤ lv T ∧ lv T ≤ 4096 ∧ ((lb S = false ∧ lb (S + T) = false) ∨ (lb S = true ∧ lb T = false ∧ lb (S + T) = false) ∨ (lb S = true ∧ lb T = true ∧ lv S + lv T ≤ 4096 ∧ lb (S + T) = true ∧ lv (S + T) = lv S + lv T) ∨ (lb S = true ∧ lb T = true ∧ ¬ lv S + lv T ≤ 4096 ∧ lb (S + T) = false)) := by
  by_cases h : S ≤ 4096
  · have e : lv S = (S : Int) := if_pos h
    have e2 : lb S = true := decide_eq_true h
    by_cases h' : T ≤ 4096
    · have e' : lv T = (T : Int) := if_pos h'
      have e2' : lb T = true := decide_eq_true h'
      rw [e, e2, e', e2']
      by_cases h2 : S + T ≤ 4096
      · exact ⟨by omega, by omega, by omega, by omega, .inr (.inr (.inl ⟨rfl, rfl, by omega, decide_eq_true h2, if_pos h2⟩))⟩
      · exact ⟨by omega, by omega, by omega, by omega, .inr (.inr (.inr ⟨rfl, rfl, by omega, decide_eq_false h2⟩))⟩
    · have e' : lv T = 0 := if_neg h'
      rw [e, e2, e']
      exact ⟨by omega, by omega, by omega, by omega, .inr (.inl ⟨rfl, decide_eq_false h', decide_eq_false (by omega)⟩)⟩
  · have e : lv S = 0 := if_neg h
    have h3 : 0 ≤ lv T ∧ lv T ≤ 4096 := by unfold lv; split <;> omega
    rw [e]
    exact ⟨by omega, by omega, h3.1, h3.2, .inl ⟨decide_eq_false h, decide_eq_false (by omega)⟩⟩
theorem size_fit (l : List Nd) (a : Nat) : size l (a : Int) = 0 ∨ a + size l (a : Int) ≤ l.length := by
  by_cases h : size l (a : Int) = 0
  · exact .inl h
  · obtain ⟨x, k, t, _, _, h2, h3, h4⟩ := size_tree h
    rw [Int.toNat_natCast] at h3
    have := congrArg List.length h3
    rw [List.length_drop, List.length_cons, List.length_append, F.flat_length] at this
    omega

set_option maxRecDepth 100000 in
set_option maxHeartbeats 4000000 in
theorem walk (A0 : Option Addr) (n0 k0 : Nat) (f0 : Nat → Int) (A1 : Option Addr) (n1 k1 : Nat) (f1 : Nat → Int) (w : World) (r0 : RdC w w.heap.size A0 n0 fun j => .int .i64 (f0 j)) (c0 : n0 ≤ k0) (b0 : k0 ≤ 140737488351232) (w0 : ∀ j, j < n0 → (Lit.int .i64 (f0 j)).wf = true) (r1 : RdC w w.heap.size A1 n1 fun j => .int .i64 (f1 j)) (c1 : n1 ≤ k1) (b1 : k1 ≤ 140737488351232) (w1 : ∀ j, j < n1 → (Lit.int .i64 (f1 j)).wf = true) :
    Calls Try.prog 5 #[.slice A0 n0 k0, .slice A1 n1 k1] w (Ans (.bool true) w) := by
  have R0 := Lib.hid r0
  have R1 := Lib.hid r1
  clear r0 r1 w1 w0
  go_enter Try.func5, Try.ntmps5
  go_wp2_with fail
  refine (table_box A0 n0 k0 f0 w 3 3 3 3 rfl rfl (by omega) (by omega) (by omega) R0.out (by omega)).mono ?_
  rintro e w2 ⟨xa, ka, Aa, na, ca, rfl, hoka, hra, hca, hsa, hb2⟩
  have hla := hra.len
  simp only [List.length_cons, F.flat_length] at hla
  have hsa' : ka.sz + 1 ≤ 625 := hsa
  have HLA0 := Lib.hid hla
  have hna : na ≤ 625 := by omega
  clear hla hsa
  go_wp2_with fail
  refine (table_box A1 n1 k1 f1 w2 3 3 3 3 rfl rfl (by omega) (by omega) (by omega) ((R1.out.below hb2).more hb2.size) (by omega)).mono ?_
  rintro e w3 ⟨xb, kb, Ab, nb, cb, rfl, hokb, hrb, hcb, hsb, hb3⟩
  have hlb := hrb.len
  simp only [List.length_cons, F.flat_length] at hlb
  have hsb' : kb.sz + 1 ≤ 625 := hsb
  have HLB0 := Lib.hid hlb
  have hnb : nb ≤ 625 := by omega
  clear hlb hsb
  have k3 := hb2.trans (hb3.mono hb2.size)
  have hra3 := hra.on hb3
  have hbl := bl1 w3 (.cells #[.int .i64 3, .int .i64 0, .int .i64 2] 33)
  have ql := OwnN.lit w3 w3.heap.size #[.int .i64 3, .int .i64 0, .int .i64 2] [⟨3, 0, 2⟩] 1 rfl rfl (Nat.le_refl _) (by omega) (by intro x hx; simp at hx; subst hx; exact ndIn_mk (by omega) (by omega) (by omega))
  have hra4 := hra3.on hbl
  go_wp2_with (first
    | (at_builtin; (refine wpList_appV elN rfl (.tmp 24) (.tmp 25) rfl rfl w3.heap.size _ 1 1 _ rfl ql.own Aa na ca _ _ rfl hra4.rd (by rw [ns_length, hra4.len]) (ns_one _) (by omega) (by unfold maxLen; omega) hbl.size (1 + na) rfl _ rfl ?_; intro A4 c4 w4 hw4 hb4 _; have t4 := hbl.trans hb4; have hrb4 := hrb.on t4; clear ql))
    | (at_builtin; (refine wpList_appV elN rfl (.tmp 26) (.tmp 27) rfl rfl w3.heap.size A4 (1 + na) c4 _ rfl hw4 Ab nb cb _ _ rfl hrb4.rd (by rw [ns_length, hrb4.len]) (ns_one _) (by omega) (by unfold maxLen; omega) t4.size (1 + na + nb) rfl _ rfl ?_; intro A5 c5 w5 hw5 hb5 _)))
  have t5 := t4.trans hb5
  have k5 := k3.trans (t5.mono k3.size)
  have ra := hra3.on t5
  have rb := hrb.on t5
  obtain ⟨L, hL⟩ : ∃ L : List Nd, L = ⟨3, 0, 2⟩ :: (F.cons xa ka (.cons xb kb .nil)).flat := ⟨_, rfl⟩
  have hLe : L = (⟨3, 0, 2⟩ :: (xa :: ka.flat)) ++ (xb :: kb.flat) := by rw [hL]; simp [F.flat]
  have hLlen : L.length = 1 + na + nb := by
    rw [hLe]
    simp only [List.length_append, List.length_cons, F.flat_length]
    have := HLA0.out
    have := HLB0.out
    omega
  have rl : RdN w5 w5.heap.size A5 (1 + na + nb) L := by
    refine ⟨hLlen, ?_, fun y hy => ?_⟩
    · rw [hLe, ns_append]; exact OwnV.rd hw5
    · rw [hLe] at hy
      rcases List.mem_append.1 hy with hy | hy
      · rcases List.mem_cons.1 hy with rfl | hy
        · exact ndIn_mk (by omega) (by omega) (by omega)
        · exact hra.bd y hy
      · exact hrb.bd y hy
  have hc5 : 1 + na + nb ≤ c5 := OwnV.cap hw5
  have hokl : (F.cons ⟨3, 0, 2⟩ (F.cons xa ka (.cons xb kb .nil)) .nil).ok := ⟨by decide, by simp [F.cnt, kn], ⟨hoka.1, hoka.2.1, hoka.2.2.1, hokb⟩, trivial⟩
  have hT2 : F.tick ⟨3, 0, 2⟩ (F.cons xa ka (.cons xb kb .nil)).len = F.tick xa ka.len + F.tick xb kb.len := by
    show F.tick xa ka.len + (F.tick xb kb.len + 0) = _
    rw [Nat.add_zero]
  have hLn := fun w' (h : RdN w' w'.heap.size Aa na (xa :: ka.flat)) => length_tree Aa na ca _ xa ka w' h hca (by omega) hoka rfl
  have hLb := fun w' (h : RdN w' w'.heap.size Ab nb (xb :: kb.flat)) => length_tree Ab nb cb _ xb kb w' h hcb (by omega) hokb rfl
  have hLl := fun w' (h : RdN w' w'.heap.size A5 (1 + na + nb) L) => length_tree A5 (1 + na + nb) c5 _ _ _ w' h hc5 (by omega) hokl hL
  have hDa := fun w' (h : RdN w' w'.heap.size Aa na (xa :: ka.flat)) => depth_tree Aa na ca _ xa ka w' h hca (by omega) hoka rfl
  have hDb := fun w' (h : RdN w' w'.heap.size Ab nb (xb :: kb.flat)) => depth_tree Ab nb cb _ xb kb w' h hcb (by omega) hokb rfl
  have hDl := fun w' (h : RdN w' w'.heap.size A5 (1 + na + nb) L) => depth_tree A5 (1 + na + nb) c5 _ _ _ w' h hc5 (by omega) hokl hL
  have hwl : wholeB L = true := by rw [hL]; exact tree_whole hokl
  have hS0 := (whole_size hwl).2
  rw [hLlen] at hS0
  have hd1 : L.drop 1 = (F.cons xa ka (.cons xb kb .nil)).flat ++ [] := by rw [hL]; simp
  have hS1 : size L 1 = na := by
    have h1 : size L ((1 : Nat) : Int) = 1 + ka.sz := size_at hokl.2.2.1 hd1
    have h2 := HLA0.out
    have h3 : size L 1 = size L ((1 : Nat) : Int) := rfl
    omega
  have hS2 : size L (2 + (na : Int)) ≤ nb := by
    have h1 := size_fit L (2 + na)
    rw [show ((2 + na : Nat) : Int) = 2 + (na : Int) by omega] at h1
    omega
  have hkd : kids L 0 = [1, 1 + (na : Int)] := by
    have h0 : L[0]? = some ⟨3, 0, 2⟩ := by rw [hL]; rfl
    have h1 : size L ((1 : Nat) : Int) = na := hS1
    unfold kids
    rw [if_neg (by omega), Int.toNat_zero, h0]
    show [((pos L 1 0 : Nat) : Int), ((pos L 1 1 : Nat) : Int)] = _
    simp only [pos]
    rw [h1]
    simp
  have hrel := lens2 (F.tick xa ka.len) (F.tick xb kb.len)
  have hda := F.dep_le_sz ka
  have hdb := F.dep_le_sz kb
  have hdd : (F.cons xa ka (.cons xb kb .nil)).dep + 1 = max (ka.dep + 1) (kb.dep + 1) + 1 := by simp [F.dep]
  rw [hdd] at hDl
  rw [hT2] at hLl
  have hDa2 : ka.dep + 1 ≤ 1000 := by omega
  have hDb2 : kb.dep + 1 ≤ 1000 := by omega
  generalize F.tick xa ka.len = S at hLn hLl hrel
  generalize F.tick xb kb.len = T at hLb hLl hrel
  unfold Len at hLn hLb hLl
  generalize lv S = V1 at hLn hrel
  generalize lb S = b1 at hLn hrel
  generalize lv T = V2 at hLb hrel
  generalize lb T = b2 at hLb hrel
  generalize lv (S + T) = V3 at hLl hrel
  generalize lb (S + T) = b3 at hLl hrel
  generalize ka.dep + 1 = Da at hDa hDl hDa2
  generalize kb.dep + 1 = Db at hDb hDl hDb2
  generalize hZd : size L (2 + (na : Int)) = Z at hS2
  have HZ := Lib.hid hZd
  clear hZd
  have HLA := Lib.hid hLn
  have HLB := Lib.hid hLb
  have HLL := Lib.hid hLl
  have HDA := Lib.hid hDa
  have HDB := Lib.hid hDb
  have HDL := Lib.hid hDl
  have HS0 := Lib.hid hS0
  have HS1 := Lib.hid hS1
  have HKD := Lib.hid hkd
  clear hLn hLb hLl hDa hDb hDl hS0 hS1 hkd hL hLe hLlen hokl hT2 hd1 hwl hdd hda hdb hw5 hw4 hb5 hb4 t4 t5 hra hra3 hra4 hrb hrb4 hbl HLA0 HLB0 hsa' hsb' R0 R1 hoka hokb
  refine (kids_any A5 (1 + na + nb) c5 L 0 w5 rl hc5 (by omega)).mono ?_
  rw [HKD.out]
  rintro e w6 ⟨Ak, nk, ck, rfl, hrk, hck, hb6⟩
  obtain rfl : nk = 2 := hrk.len.symm
  obtain ⟨adk, z0, rfl, _, hz0, e0⟩ := hrk.at_ (i := 0) (by omega)
  obtain ⟨adk', z1, e', _, hz1, e1⟩ := hrk.at_ (i := 1) (by omega)
  injection e' with e'
  subst e'
  obtain rfl : z0 = 1 := by simpa using hz0.symm
  obtain rfl : z1 = 1 + (na : Int) := by simpa using hz1.symm
  have e0 : w6.cell? adk = some (.int .i64 1) := by simpa [Addr.add] using e0
  have e1 : w6.cell? ⟨adk.block, adk.off + 1, none⟩ = some (.int .i64 (1 + (na : Int))) := e1
  have k6 := k5.trans (hb6.mono k5.size)
  have rl6 := rl.on hb6
  have ra6 := ra.on hb6
  have rb6 := rb.on hb6
  clear hz0 hz1 hrk rl ra rb
  go_wp2_with fail
  refine (size_any A5 (1 + na + nb) c5 L 0 w6 rl6 hc5 (by omega)).mono ?_
  rw [HS0.out]
  rintro e w7 ⟨rfl, hb7⟩
  have k7 := k6.trans (hb7.mono k6.size)
  go_wp2_with fail
  refine (size_any A5 (1 + na + nb) c5 L 1 w7 (rl6.on hb7) hc5 (by omega)).mono ?_
  rw [HS1.out]
  rintro e w8 ⟨rfl, hb8⟩
  have t8 := hb7.trans (hb8.mono hb7.size)
  have k8 := k7.trans (hb8.mono k7.size)
  go_wp2_with fail
  refine (size_any A5 (1 + na + nb) c5 L (2 + (na : Int)) w8 (rl6.on t8) hc5 (by omega)).mono ?_
  rw [HZ.out]
  rintro e w9 ⟨rfl, hb9⟩
  have t9 := t8.trans (hb9.mono t8.size)
  have k9 := k8.trans (hb9.mono k8.size)
  go_wp2_with fail
  refine (HLA.out w9 (ra6.on t9)).mono ?_
  rintro e w10 ⟨rfl, hb10⟩
  have t10 := t9.trans (hb10.mono t9.size)
  have k10 := k9.trans (hb10.mono k9.size)
  go_wp2_with fail
  refine (HLB.out w10 (rb6.on t10)).mono ?_
  rintro e w11 ⟨rfl, hb11⟩
  have t11 := t10.trans (hb11.mono t10.size)
  have k11 := k10.trans (hb11.mono k10.size)
  go_wp2_with fail
  refine (HLL.out w11 (rl6.on t11)).mono ?_
  rintro e w12 ⟨rfl, hb12⟩
  have t12 := t11.trans (hb12.mono t11.size)
  have k12 := k11.trans (hb12.mono k11.size)
  obtain ⟨v1, v2, v3, v4, hrel⟩ := hrel
  rcases hrel with ⟨rfl, rfl⟩ | ⟨rfl, rfl, rfl⟩ | ⟨rfl, rfl, h1, rfl, rfl⟩ | ⟨rfl, rfl, h1, rfl⟩
  all_goals
    go_wp2_with fail
    refine (HDL.out w12 (rl6.on t12)).mono ?_
    rintro e w13 ⟨rfl, hb13⟩
    have t13 := t12.trans (hb13.mono t12.size)
    have k13 := k12.trans (hb13.mono k12.size)
    go_wp2_with fail
    refine (HDA.out w13 (ra6.on t13)).mono ?_
    rintro e w14 ⟨rfl, hb14⟩
    have t14 := t13.trans (hb14.mono t13.size)
    have k14 := k13.trans (hb14.mono k13.size)
    go_wp2_with fail
    refine (HDB.out w14 (rb6.on t14)).mono ?_
    rintro e w15 ⟨rfl, hb15⟩
    have k15 := k14.trans (hb15.mono k14.size)
    go_wp2_with fail
    all_goals
      refine (known_any w15).mono ?_
      rintro e w16 ⟨rfl, hb16⟩
      have k16 := k15.trans (hb16.mono k15.size)
      go_wp2_with fail
      go_ret
      first | exact Ans.mk rfl k16 | exact Ans.mk (show Value.bool true = .bool (!decide (V1 + V2 ≤ 4096)) by rw [decide_eq_false (by omega)]; rfl) k16

set_option maxRecDepth 100000 in
theorem lifted (os : Os) (started : os.Started) (H : Type) (enc : TypeId × Value → H) :
    ReturnsInHanded {} Try.checked os 5 .any (Rows.nodeKidsSpec.pre6 enc Try.prog Try.f5 Rows.nodeKidsRow.domain false) (Rows.nodeKidsSpec.post enc Try.prog Try.f5 false true false false) := by
  refine returnsInHanded_of_change_sized (C := Try.checked) own started (by kernel_rfl) Try.func5
    (ChangeSpec.witness6 (enc := enc) (C := Try.checked) false ⟨#[], #[.slice none 0 0, .slice none 0 0], []⟩ 8 (by kernel_rfl) (by kernel_rfl) (by kernel_rfl) (by kernel_rfl)) ?_
  intro W base args ds gs before hval0 hW hcnd hsz0 _
  have hval : ∀ (j : Nat) t v, Try.f5.params[j]? = some t → args[j]? = some v → Value.okWide Try.prog W .any base t v := hval0
  have hW' := hW
  obtain ⟨p, q, hA0, hV, rfl, hfz, hnd⟩ := hW
  have hA : DataW.TrodAll enc Try.prog W 0 (fun _ => true) true Try.f5.params.toList args.toList ds p := hA0
  have hsz : (DataW.weightsEach Try.prog (Try.f5.params.toList ++ Rows.nodeKidsSpec.plain.varTypes Try.prog) (ds ++ gs)).all (· ≤ reachBytes) = true := hsz0
  rw [Try.params5] at hA hval hsz
  obtain ⟨v0, vs0, d0, ds0, p0, q0, hargs, rfl, rfl, h0, r0⟩ := trodAll_cons hA
  obtain ⟨v1, vs1, d1, ds1, p1, q1, rfl, rfl, rfl, h1, r1⟩ := trodAll_cons r0
  obtain ⟨rfl, rfl, rfl⟩ := trodAll_nil r1
  obtain rfl : args = #[v0, v1] := by cases args; simp_all
  obtain ⟨rfl, rfl⟩ := trodVars_none hV
  obtain ⟨A0, n0, k0, rfl⟩ := okWide_slice Try.underlying24 (hval 0 24 v0 rfl rfl)
  have t0 := h0
  have lt0 : ∀ x ∈ p0, x.block < W.heap.size := by obtain ⟨m, hm⟩ := t0; exact DataW.trod_lt m _ _ _ hm
  obtain ⟨f0, u0, c0, b0, w0⟩ := ints_sized h0 (fun elems spare e => sized_slice hsz (j := 0) (t := 24) (e := 3) rfl (by rw [← e]; rfl) Try.underlying24)
  obtain ⟨A1, n1, k1, rfl⟩ := okWide_slice Try.underlying24 (hval 1 24 v1 rfl rfl)
  have t1 := h1
  have lt1 : ∀ x ∈ p1, x.block < W.heap.size := by obtain ⟨m, hm⟩ := t1; exact DataW.trod_lt m _ _ _ hm
  obtain ⟨f1, u1, c1, b1, w1⟩ := ints_sized h1 (fun elems spare e => sized_slice hsz (j := 1) (t := 24) (e := 3) rfl (by rw [← e]; rfl) Try.underlying24)
  clear hA0 hval0
  refine (walk A0 n0 k0 f0 A1 n1 k1 f1 W u0 c0 b0 w0 u1 c1 b1 w1).mono fun e W' ⟨he, bel⟩ => ?_
  subst he
  exact ⟨_, rfl, _, _, _, [], _, [], hW', trodAll_mk1 (shut_bool Try.underlying4 _), (trodAll_cons_mk (Below.trod laidOut (by kernel_rfl) (of_decide_eq_true (by kernel_rfl)) t0 bel lt0) (trodAll_cons_mk (Below.trod laidOut (by kernel_rfl) (of_decide_eq_true (by kernel_rfl)) t1 bel lt1) trodAll_mk0)), rfl, bel.frame _, fun h => by cases h⟩

theorem proved : Rows.NodeKidsSaid :=
  OpenClaim.holds_of_wide 5 Try.f5 rfl rfl rfl rfl rfl rfl rfl ⟨rfl, rfl, rfl, rfl, rfl⟩ rfl rfl rfl rfl rfl (by kernel_rfl) Try.func5 (by kernel_rfl)
    (of_decide_eq_true (by kernel_rfl)) (by unfold Func.isWrapper; first | (rw [if_pos (by decide +kernel)]; kernel_rfl) | (rw [if_neg (by decide +kernel)]; exact ⟨rfl, rfl⟩))
    (fun os started H enc _ => lifted os started H enc)
end Go.Proofs.Ythddhkcmonjebaa.nodeKids
