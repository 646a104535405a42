import Derived.Test.YtfmndmhjjbeokaaGreatDoorLow31
import Derived.Test.YtfmndmhjjbeokaaGreatDoorLow41
import Derived.Test.YtfmndmhjjbeokaaGreatDoorLow49
import Derived.Test.YtfmndmhjjbeokaaGreatDoorTie
import Derived.Test.YtfmndmhjjbeokaaGreatDoorCards
namespace Go.Proofs.YtfmndmhjjbeokaaGreatDoor.textTables
open Go.ChangeShapes Go.WideShapes Go.ChangeAt Go.RowKit Tab Txt
set_option linter.unusedSimpArgs false
set_option linter.unusedVariables false
set_option maxRecDepth 100000 in
set_option maxHeartbeats 4000000 in
theorem walk (A0 : Option Addr) (n0 k0 : Nat) (f0 : Nat → Int) (A1 : Option Addr) (n1 k1 : Nat) (f1 : Nat → Int) (a2 : Int) (w : World) (r0 : RdC w w.heap.size A0 n0 fun j => .int .i64 (f0 j)) (c0 : n0 ≤ k0) (b0 : k0 ≤ 140737488351232) (w0 : ∀ j, j < n0 → (Lit.int .i64 (f0 j)).wf = true) (r1 : RdC w w.heap.size A1 n1 fun j => .int .i64 (f1 j)) (c1 : n1 ≤ k1) (b1 : k1 ≤ 140737488351232) (w1 : ∀ j, j < n1 → (Lit.int .i64 (f1 j)).wf = true) (w2 : (Lit.int .i64 a2).wf = true) (ht : TabW w) :
    Calls Tryz.prog 6 #[.slice A0 n0 k0, .slice A1 n1 k1, .int .i64 a2] w (Ans (.bool true) w) := by
  obtain ⟨M, hM, hM2⟩ := and_mask a2 3 (by omega)
  have hM : bits .and .i64 a2 3 = (M : Int) := hM
  have R0 := Lib.hid r0
  have R1 := Lib.hid r1
  have HT := Lib.hid ht
  clear r0 r1 w1 w0 w2 ht
  go_enter Tryz.func6, Tryz.ntmps6
  go_wp2_with fail
  refine (table_boxn A0 n0 k0 f0 w 3 2 3 2 rfl rfl (by omega) (by omega) (by omega) R0.out (by omega)).mono ?_
  rintro e w2 ⟨xa, ka, Aa, na, ca, rfl, hoka, hra, hca, hsa, hda, hqa, hb2⟩
  have OKA := Lib.hid hoka
  have QA : Hid (∀ z ∈ xa :: ka.flat, z.n ≤ 4) := Lib.hid fun z hz => (hqa z hz).2.2
  have DA := Lib.hid hda
  have hna : na ≤ 21 ∧ ka.sz + 1 = na := by
    have h1 := hra.len
    simp only [List.length_cons, F.flat_length] at h1
    have h2 := (few_right hoka (fun z hz => (hqa z hz).2.2) hda).1
    omega
  clear hoka hqa hda hsa
  go_wp2_with fail
  refine (table_boxn A1 n1 k1 f1 w2 3 2 3 2 rfl rfl (by omega) (by omega) (by omega) ((R1.out.below hb2).more hb2.size) (by omega)).mono ?_
  rintro e w3 ⟨xb, kb, Ab, nb, cb, rfl, hokb, hrb, hcb, hsb, hdb, hqb, hb3⟩
  have OKB := Lib.hid hokb
  have QB : Hid (∀ z ∈ xb :: kb.flat, z.n ≤ 4) := Lib.hid fun z hz => (hqb z hz).2.2
  have DB := Lib.hid hdb
  have hnb : nb ≤ 21 ∧ kb.sz + 1 = nb := by
    have h1 := hrb.len
    simp only [List.length_cons, F.flat_length] at h1
    have h2 := (few_right hokb (fun z hz => (hqb z hz).2.2) hdb).1
    omega
  clear hokb hqb hdb hsb
  have B3 := Lib.hid (hb2.trans (hb3.mono hb2.size))
  have RA := Lib.hid (hra.on hb3)
  have RB := Lib.hid hrb
  clear hra hrb hb2 hb3
  have NA := Lib.hid fun W (hb : Below w3.heap.size w3 W) => tNode_tree Aa na ca xa ka W (RA.out.on hb) hca (by omega) OKA.out (by
    have h := right_tree Aa na ca _ xa ka W (RA.out.on hb) hca (by omega) OKA.out rfl
    rw [few_rt OKA.out QA.out DA.out hna.2] at h
    exact h) (HT.out.on (B3.out.trans (hb.mono B3.out.size)))
  have NB := Lib.hid fun W (hb : Below w3.heap.size w3 W) => tNode_tree Ab nb cb xb kb W (RB.out.on hb) hcb (by omega) OKB.out (by
    have h := right_tree Ab nb cb _ xb kb W (RB.out.on hb) hcb (by omega) OKB.out rfl
    rw [few_rt OKB.out QB.out DB.out hnb.2] at h
    exact h) (HT.out.on (B3.out.trans (hb.mono B3.out.size)))
  have LA := nodeT_len OKA.out QA.out DA.out
  have LB := nodeT_len OKB.out QB.out DB.out
  have NEA := nodeT_ne xa ka
  have NEB := nodeT_ne xb kb
  have PT := put_text xa xb ka kb M
  have PR := put_tree OKA.out OKB.out QA.out QB.out DA.out DB.out hM2
  rw [PT] at PR
  have LM : (numB (1 + M)).length = 1 := by rw [numB_low (by omega)]; rfl
  obtain ⟨P, hP⟩ : ∃ P, P = nodeT xa ka := ⟨_, rfl⟩
  obtain ⟨Q, hQ⟩ : ∃ Q, Q = nodeT xb kb := ⟨_, rfl⟩
  obtain ⟨D, hD⟩ : ∃ D, D = numB (1 + M) := ⟨_, rfl⟩
  rw [← hP] at NA LA NEA PR
  rw [← hQ] at NB LB NEB PR
  rw [← hD] at LM PR
  obtain ⟨u, hu⟩ : ∃ u, u = [115, 40] ++ (P ++ ([44, 114] ++ (D ++ ([40] ++ (Q ++ [41, 41]))))) := ⟨_, rfl⟩
  rw [← hu] at PR
  have hul : u.length ≤ 1048576 := by rw [hu]; simp only [List.length_append, List.length_cons, List.length_nil]; omega
  have HTAB := Lib.hid fun W => tTable_any u W hul
  rw [PR] at HTAB
  have HNM : Hid (∀ W, Calls Tryz.prog 23 #[.int .i64 (1 + (M : Int))] W (Just (.string (bsOf D)) W)) := Lib.hid fun W => by
    have h := rnumber_any (1 + M) (by omega) W
    rw [← hD, show ((1 + M : Nat) : Int) = 1 + (M : Int) by omega] at h
    exact h
  obtain ⟨sp, hsp⟩ : ∃ s, s = bsOf P := ⟨_, rfl⟩
  obtain ⟨sq, hsq⟩ : ∃ s, s = bsOf Q := ⟨_, rfl⟩
  obtain ⟨sd, hsd⟩ : ∃ s, s = bsOf D := ⟨_, rfl⟩
  obtain ⟨s1, hs1⟩ : ∃ s, s = bsOf ([115, 40] ++ P) := ⟨_, rfl⟩
  obtain ⟨s2, hs2⟩ : ∃ s, s = bsOf (([115, 40] ++ P) ++ [44, 114]) := ⟨_, rfl⟩
  obtain ⟨s3, hs3⟩ : ∃ s, s = bsOf ((([115, 40] ++ P) ++ [44, 114]) ++ D) := ⟨_, rfl⟩
  obtain ⟨s4, hs4⟩ : ∃ s, s = bsOf (((([115, 40] ++ P) ++ [44, 114]) ++ D) ++ [40]) := ⟨_, rfl⟩
  obtain ⟨s5, hs5⟩ : ∃ s, s = bsOf ((((([115, 40] ++ P) ++ [44, 114]) ++ D) ++ [40]) ++ Q) := ⟨_, rfl⟩
  obtain ⟨s6, hs6⟩ : ∃ s, s = bsOf u := ⟨_, rfl⟩
  have ad1 : ∀ W, (Op.stringOp .add ⟨#[115, 40]⟩ sp).run Tryz.prog W = .ok (.string s1) W := by rw [hsp, hs1]; exact sadd [115, 40] P (by simp only [List.length_append, List.length_cons, List.length_nil]; omega)
  have ad2 : ∀ W, (Op.stringOp .add s1 ⟨#[44, 114]⟩).run Tryz.prog W = .ok (.string s2) W := by rw [hs1, hs2]; exact sadd _ [44, 114] (by simp only [List.length_append, List.length_cons, List.length_nil]; omega)
  have ad3 : ∀ W, (Op.stringOp .add s2 sd).run Tryz.prog W = .ok (.string s3) W := by rw [hs2, hsd, hs3]; exact sadd _ _ (by simp only [List.length_append, List.length_cons, List.length_nil]; omega)
  have ad4 : ∀ W, (Op.stringOp .add s3 ⟨#[40]⟩).run Tryz.prog W = .ok (.string s4) W := by rw [hs3, hs4]; exact sadd _ [40] (by simp only [List.length_append, List.length_cons, List.length_nil]; omega)
  have ad5 : ∀ W, (Op.stringOp .add s4 sq).run Tryz.prog W = .ok (.string s5) W := by rw [hs4, hsq, hs5]; exact sadd _ _ (by simp only [List.length_append, List.length_cons, List.length_nil]; omega)
  have ad6 : ∀ W, (Op.stringOp .add s5 ⟨#[41, 41]⟩).run Tryz.prog W = .ok (.string s6) W := by
    have h := sadd (((((([115, 40] ++ P) ++ [44, 114]) ++ D) ++ [40]) ++ Q)) [41, 41] (by simp only [List.length_append, List.length_cons, List.length_nil]; omega)
    rw [hs5, hs6, hu]
    simp only [List.append_assoc] at h ⊢
    exact h
  have e1 : sp.toList.isEmpty = false := by rw [hsp, bs_emp]; exact decide_eq_false fun e => NEA (by have h := congrArg toL e; rw [toL_bsOf] at h; exact h)
  have e2 : sq.toList.isEmpty = false := by rw [hsq, bs_emp]; exact decide_eq_false fun e => NEB (by have h := congrArg toL e; rw [toL_bsOf] at h; exact h)
  rw [← hsp] at NA
  rw [← hsq] at NB
  rw [← hsd] at HNM
  rw [← hs6] at HTAB
  clear hP hQ hD hu hul hsp hsq hsd hs1 hs2 hs3 hs4 hs5 hs6 PT PR LM LA LB NEA NEB
  go_wp2_with fail
  refine (NA.out w3 (Below.refl _ _)).mono ?_
  rintro e w4 ⟨rfl, hb4⟩
  go_wp2_with fail
  refine (NB.out w4 hb4).mono ?_
  rintro e w5 ⟨rfl, hb5⟩
  have B5 := Lib.hid (hb4.trans (hb5.mono hb4.size))
  clear hb4 hb5
  go_wp2_with fail
  refine (HNM.out w5).mono ?_
  rintro e w5' ⟨rfl, rfl⟩
  go_wp2_with fail
  refine (HTAB.out w5).mono ?_
  rintro e w6 ⟨hb6, Al, cl, rfl, hol⟩
  obtain ⟨L, hL⟩ : ∃ L : List Nd, L = ⟨3, 0, 2⟩ :: ((xa :: ka.flat) ++ (⟨4, 0, 1 + (M : Int)⟩ :: (xb :: kb.flat))) := ⟨_, rfl⟩
  rw [← hL] at hol
  have hLl : L.length = 1 + na + (1 + nb) := by
    rw [hL]
    simp only [List.length_append, List.length_cons, F.flat_length]
    omega
  have B6 := Lib.hid (B5.out.trans (hb6.mono B5.out.size))
  have OL := Lib.hid hol
  have hra6 := RA.out.on B6.out
  have hrb6 := RB.out.on B6.out
  have HBD : Hid (∀ y ∈ L, NdIn y) := Lib.hid (by
    rw [hL]
    intro y hy
    rcases List.mem_cons.1 hy with rfl | hy
    · exact ndIn_mk (by omega) (by omega) (by omega)
    rcases List.mem_append.1 hy with hy | hy
    · exact hra6.bd y hy
    rcases List.mem_cons.1 hy with rfl | hy
    · exact ndIn_mk (by omega) (by omega) (by omega)
    · exact hrb6.bd y hy)
  have hbl := bl1 w6 (.cells #[.int .i64 3, .int .i64 0, .int .i64 2] 54)
  have ql := OwnN.lit w6 w6.heap.size #[.int .i64 3, .int .i64 0, .int .i64 2] [⟨3, 0, 2⟩] 1 rfl rfl (Nat.le_refl _) (by omega) (by intro x hx; simp at hx; subst hx; exact ndIn_mk (by omega) (by omega) (by omega))
  have hra7 := hra6.on hbl
  clear hb6 hol hra6
  rw [← hL, hLl]
  go_wp2_with (first
    | (at_builtin; (refine wpList_appV elN rfl (.tmp 45) (.tmp 46) rfl rfl w6.heap.size _ 1 1 _ rfl ql.own Aa na ca _ _ rfl hra7.rd (by rw [ns_length, hra7.len]) (ns_one _) (by omega) (by unfold maxLen; omega) hbl.size (1 + na) rfl _ rfl ?_; intro A7 c7 w7 hw7 hb7 _; have t7 := hbl.trans hb7; have hbl8 := bl1 w7 (.cells #[.int .i64 4, .int .i64 0, .int .i64 (1 + (M : Int))] 54); have hw8 := OwnV.below hw7 rfl hbl8; have hr8 := rdV_new w7 #[.int .i64 4, .int .i64 0, .int .i64 (1 + (M : Int))] 54 (ns [⟨4, 0, 1 + (M : Int)⟩]) rfl; have t8 := t7.trans (hbl8.mono t7.size); clear ql hra7))
    | (at_builtin; (refine wpList_appV elN rfl (.tmp 48) (.tmp 51) rfl rfl w6.heap.size A7 (1 + na) c7 _ rfl hw8 _ 1 1 (ns [⟨4, 0, 1 + (M : Int)⟩]) _ rfl hr8 rfl (ns_one _) (by omega) (by unfold maxLen; omega) t8.size (1 + na + 1) rfl _ rfl ?_; intro A9 c9 w9 hw9 hb9 _; have t9 := t8.trans hb9; have hrb9 := hrb6.on t9))
    | (at_builtin; (refine wpList_appV elN rfl (.tmp 52) (.tmp 53) rfl rfl w6.heap.size A9 (1 + na + 1) c9 _ rfl hw9 Ab nb cb _ _ rfl hrb9.rd (by rw [ns_length, hrb9.len]) (ns_one _) (by omega) (by unfold maxLen; omega) t9.size (1 + na + (1 + nb)) (by omega) _ rfl ?_; intro A10 c10 w10 hw10 hb10 _)))
  have t10 := t9.trans hb10
  have B10 := Lib.hid (B6.out.trans (t10.mono B6.out.size))
  have rl : RdN w10 w10.heap.size A10 (1 + na + (1 + nb)) L := by
    refine ⟨hLl, ?_, HBD.out⟩
    have h := OwnV.rd hw10
    have e : ns L = ns [⟨3, 0, 2⟩] ++ ns (xa :: ka.flat) ++ ns [⟨4, 0, 1 + (M : Int)⟩] ++ ns (xb :: kb.flat) := by
      rw [← ns_append, ← ns_append, ← ns_append, hL]
      congr 1
      simp
    rw [e]
    exact h
  have rt : RdN w10 w10.heap.size Al (1 + na + (1 + nb)) L := by
    have h := OL.out
    rw [hLl] at h
    exact RdN.on ⟨hLl, h.rd, HBD.out⟩ t10
  have HNO := Lib.hid (rnodes_any Al A10 (1 + na + (1 + nb)) (1 + na + (1 + nb)) cl c10 L L w10 rt rl (by omega))
  rw [sameN_refl] at HNO
  clear hw7 hb7 hbl8 hw8 hr8 hw9 hb9 hrb9 hw10 hb10 rl rt hrb6 hbl t7 t8 t9 t10 hLl hL hM
  go_wp2_with fail
  refine HNO.out.mono ?_
  rintro e w11 h11
  obtain ⟨rfl, hb11⟩ := h11.ans
  have B11 := Lib.hid (B10.out.trans (hb11.mono B10.out.size))
  clear h11 hb11
  go_wp2_with fail
  refine (known13_any w11 (HT.out.on (B3.out.trans (B11.out.mono B3.out.size)))).mono ?_
  rintro e w12 ⟨rfl, hb12⟩
  go_wp2_with fail
  go_ret
  exact Ans.mk rfl (B3.out.trans ((B11.out.trans (hb12.mono B11.out.size)).mono B3.out.size))
set_option maxRecDepth 100000 in
theorem lifted (os : Os) (started : os.Started) (H : Type) (enc : TypeId × Value → H) :
    ReturnsInHanded {} Tryz.checked os 6 .any (fun w args => (Rows.textTablesSpec.pre enc Tryz.prog Tryz.f6 [] false w args ∧ laidMetH Tryz.prog laid13 w) ∧ sizedMet enc Tryz.prog Tryz.f6 (OpenSpec.ofChange Rows.textTablesSpec) false w args)
      (Rows.textTablesSpec.post enc Tryz.prog Tryz.f6 false true false false) := by
  refine returnsInHanded_of_change_and (C := Tryz.checked) (X := fun w _ => laidMetH Tryz.prog laid13 w) (fun _ _ _ hh h => h.of_heap hh) own started (by kernel_rfl) Tryz.func6
    (ChangeSpec.witness_shaped (enc := enc) (C := Tryz.checked) (os := os) (X := fun w _ => laidMetH Tryz.prog laid13 w) false (World.doorLaid Tryz.prog 24 os) #[.slice none 0 0, .slice none 0 0, .int .i64 0] 8 rfl (World.shaped_of_RefB (by kernel_rfl) (by kernel_rfl)) (by kernel_rfl) (by kernel_rfl) (by kernel_rfl) (door_met os _)) ?_
  intro W base args ds gs before hval0 hW hcnd hsz0 hL _
  have hval : ∀ (j : Nat) t v, Tryz.f6.params[j]? = some t → args[j]? = some v → Value.okWide Tryz.prog W .any base t v := hval0
  have hW' := hW
  obtain ⟨p, q, hA0, hV, rfl, hfz, hnd⟩ := hW
  have hA : DataW.TrodAll enc Tryz.prog W 0 (fun _ => true) true Tryz.f6.params.toList args.toList ds p := hA0
  have hsz : (DataW.weightsEach Tryz.prog (Tryz.f6.params.toList ++ Rows.textTablesSpec.plain.varTypes Tryz.prog) (ds ++ gs)).all (· ≤ reachBytes) = true := hsz0
  rw [Tryz.params6] at hA hval hsz
  obtain ⟨v0, vs0, d0, ds0, p0, q0, hargs, rfl, rfl, h0, r0⟩ := trodAll_cons hA
  obtain ⟨v1, vs1, d1, ds1, p1, q1, rfl, rfl, rfl, h1, r1⟩ := trodAll_cons r0
  obtain ⟨v2, vs2, d2, ds2, p2, q2, rfl, rfl, rfl, h2, r2⟩ := trodAll_cons r1
  obtain ⟨rfl, rfl, rfl⟩ := trodAll_nil r2
  obtain rfl : args = #[v0, v1, v2] := by cases args; simp_all
  obtain ⟨rfl, rfl⟩ := trodVars_none hV
  obtain ⟨A0, n0, k0, rfl⟩ := okWide_slice Tryz.underlying23 (hval 0 23 v0 rfl rfl)
  have t0 := h0
  have lt0 : ∀ x ∈ p0, x.block < W.heap.size := by obtain ⟨m, hm⟩ := t0; exact DataW.trod_lt m _ _ _ hm
  obtain ⟨f0, u0, c0, b0, w0⟩ := ints_sized h0 (fun elems spare e => sized_slice hsz (j := 0) (t := 23) (e := 3) rfl (by rw [← e]; rfl) Tryz.underlying23)
  obtain ⟨A1, n1, k1, rfl⟩ := okWide_slice Tryz.underlying23 (hval 1 23 v1 rfl rfl)
  have t1 := h1
  have lt1 : ∀ x ∈ p1, x.block < W.heap.size := by obtain ⟨m, hm⟩ := t1; exact DataW.trod_lt m _ _ _ hm
  obtain ⟨f1, u1, c1, b1, w1⟩ := ints_sized h1 (fun elems spare e => sized_slice hsz (j := 1) (t := 23) (e := 3) rfl (by rw [← e]; rfl) Tryz.underlying23)
  obtain ⟨a2, rfl, rfl, rfl, w2⟩ := open_int Tryz.underlying2 (hval 2 2 v2 rfl rfl) h2
  clear hA0 hval0
  refine (walk A0 n0 k0 f0 A1 n1 k1 f1 a2 W u0 c0 b0 w0 u1 c1 b1 w1 w2 (tabW_of_laid hL)).mono fun e W' ⟨he, bel⟩ => ?_
  subst he
  exact ⟨_, rfl, _, _, _, [], _, [], hW', trodAll_mk1 (shut_bool Tryz.underlying4 _), (trodAll_cons_mk (Below.trod laidOut (by kernel_rfl) (of_decide_eq_true (by kernel_rfl)) t0 bel lt0) (trodAll_cons_mk (Below.trod laidOut (by kernel_rfl) (of_decide_eq_true (by kernel_rfl)) t1 bel lt1) (trodAll_cons_mk (shut_int Tryz.underlying2 w2) trodAll_mk0))), rfl, bel.frame _, fun h => by cases h⟩
theorem proved : Rows.TextTablesSaid :=
  OpenClaim.holds_of_wide 6 Tryz.f6 rfl rfl rfl rfl rfl rfl rfl ⟨rfl, rfl, rfl, rfl, rfl⟩ rfl rfl rfl rfl rfl (by kernel_rfl) Tryz.func6 (by kernel_rfl)
    (of_decide_eq_true (by kernel_rfl)) (by unfold Func.isWrapper; first | (rw [if_pos (by decide +kernel)]; kernel_rfl) | (rw [if_neg (by decide +kernel)]; exact ⟨rfl, rfl⟩))
    (fun os started H enc _ => lifted os started H enc)
theorem card : Rows.TextTablesCardSaid :=
  Claim7.holds_tied_plain_at .later [] [.data, .data, .data] true Rows.textTablesCard.stood.harness false
    proved (fun _ h => by cases h) (by kernel_rfl) (fun _ h => by cases h) textTables_row_tie rfl ⟨rfl, rfl⟩ (by kernel_rfl) (by kernel_rfl)
    (fun f fn hf hfn => by
      obtain rfl : f = 6 := Option.some.inj ((show Tryz.prog.funcNamed Rows.textTablesRow.func = some 6 by kernel_rfl).symm.trans hf) |>.symm
      obtain rfl : fn = Tryz.f6 := (Option.some.inj (Tryz.func6.symm.trans hfn)).symm
      refine ⟨by kernel_rfl, fun j t ht => ?_⟩
      have hall : (Tryz.f6.params.toList.all fun u => !Tryz.prog.wantsStandIn u) = true := by kernel_rfl
      have hm : t ∈ Tryz.f6.params.toList := by simpa using Array.mem_of_getElem? ht
      have h1 := List.all_eq_true.1 hall t hm
      show Tryz.prog.wantsStandIn t = false
      simpa using h1)
    (by kernel_rfl)
end Go.Proofs.YtfmndmhjjbeokaaGreatDoor.textTables
