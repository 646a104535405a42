/- Whether a move fits, of whatever row whose Do is known: by the document's own answer. -/
import Derived.Test.YtoaocdmcjjohgaaPz
import Derived.Test.YtoaocdmcjjohgaaLow7
namespace Go.Proofs.Ytoaocdmcjjohgaa
open Go.RowKit Tab
set_option linter.unusedSimpArgs false
set_option linter.unusedVariables false

set_option maxRecDepth 100000 in
set_option maxHeartbeats 4000000 in
theorem rfitsP_any (A1 A2 A3 A : Option Addr) (n1 n2 n3 n c1 c2 c3 c : Nat) (P : List PtV) (C : List ChV) (ps : List Int) (R : List Rn) (I J : Int) (rt : Bool) (w : World) (hCf : CfW w w.heap.size A1 A2 n1 n2 P C) (hL : RdP w w.heap.size A n ps)
    (q1 : n1 ≤ 1024) (q2 : n2 ≤ 1048576) (hc : n ≤ c) (hn : n ≤ 1048576) (hRl : R.length ≤ 1048576) (hRt : ticks R ≤ 8192) (hz : ∀ x ∈ P, In64 x.per) (hps : ∀ q ∈ ps, -1 ≤ q ∧ q ≤ 1024)
    (hdo : mayZ (depW P.length (depF (P.map ptOf) (C.map chOf))) ps I J = true → ∀ W, Below w.heap.size w W → Calls Try.prog 32 #[.slice A n c, .agg #[.int .i64 I, .int .i64 J, .bool rt]] W (RowQ R W)) :
    Calls Try.prog 30 #[.agg #[.slice A1 n1 c1, .slice A2 n2 c2, .slice A3 n3 c3], .slice A n c, .agg #[.int .i64 I, .int .i64 J, .bool rt]] w (Ans (.bool (mayZ (depW P.length (depF (P.map ptOf) (C.map chOf))) ps I J && decide (holdsF (wordsL R) P C = 0))) w) := by
  have hb1 := bl1 w (.cells #[.slice A1 n1 c1, .slice A2 n2 c2, .slice A3 n3 c3] 31)
  have hb2 := bl1 (w.alloc (.cells #[.slice A1 n1 c1, .slice A2 n2 c2, .slice A3 n3 c3] 31)) (.cells #[.int .i64 I, .int .i64 J, .bool rt] 76)
  have hbb := hb1.trans (hb2.mono hb1.size)
  have hbox := (box_vec w (.slice A1 n1 c1) (.slice A2 n2 c2) (.slice A3 n3 c3) 31).on hb2
  have hsz : (w.alloc (.cells #[.slice A1 n1 c1, .slice A2 n2 c2, .slice A3 n3 c3] 31)).heap.size = w.heap.size + 1 := by simp
  have f0 : ((w.alloc (.cells #[.slice A1 n1 c1, .slice A2 n2 c2, .slice A3 n3 c3] 31)).alloc (.cells #[.int .i64 I, .int .i64 J, .bool rt] 76)).cell? ⟨(w.alloc (.cells #[.slice A1 n1 c1, .slice A2 n2 c2, .slice A3 n3 c3] 31)).heap.size, 0, none⟩ = some (.int .i64 I) := World.cell?_alloc_mark _ _ _ _ _
  have f1 : ((w.alloc (.cells #[.slice A1 n1 c1, .slice A2 n2 c2, .slice A3 n3 c3] 31)).alloc (.cells #[.int .i64 I, .int .i64 J, .bool rt] 76)).cell? ⟨(w.alloc (.cells #[.slice A1 n1 c1, .slice A2 n2 c2, .slice A3 n3 c3] 31)).heap.size, 1, none⟩ = some (.int .i64 J) := World.cell?_alloc_mark _ _ _ _ _
  have f2 : ((w.alloc (.cells #[.slice A1 n1 c1, .slice A2 n2 c2, .slice A3 n3 c3] 31)).alloc (.cells #[.int .i64 I, .int .i64 J, .bool rt] 76)).cell? ⟨(w.alloc (.cells #[.slice A1 n1 c1, .slice A2 n2 c2, .slice A3 n3 c3] 31)).heap.size, 2, none⟩ = some (.bool rt) := World.cell?_alloc_mark _ _ _ _ _
  rw [hsz] at f0 f1 f2
  have hPl : P.length = n1 := hCf.p.len
  have HBB := Lib.hid hbb
  have HCF := Lib.hid (hCf.on hbb)
  have HL := Lib.hid (hL.on hbb)
  rw [hPl] at hdo ⊢
  obtain ⟨v, hv⟩ : ∃ v, v = (mayZ (depW n1 (depF (P.map ptOf) (C.map chOf))) ps I J && decide (holdsF (wordsL R) P C = 0)) := ⟨_, rfl⟩
  rw [← hv]
  have HDOQ := Lib.hid hdo
  have HV := Lib.hid hv
  have HPS := Lib.hid hps
  have HZ := Lib.hid hz
  clear hb1 hb2 hbb hsz hCf hL hdo hv hps hz hPl
  go_enter Try.func30, Try.ntmps30
  go_upto_region 1 with fail
  generalize (w.alloc (.cells #[.slice A1 n1 c1, .slice A2 n2 c2, .slice A3 n3 c3] 31)).alloc (.cells #[.int .i64 I, .int .i64 J, .bool rt] 76) = wb at HBB HCF HL hbox f0 f1 f2 ⊢
  generalize w.heap.size + 1 = gm at f0 f1 f2 ⊢
  obtain ⟨gc, hgc⟩ : ∃ gc, gc = w.heap.size := ⟨_, rfl⟩
  rw [← hgc] at hbox ⊢
  clear hgc
  obtain ⟨m0, m1, m2⟩ := hbox.three
  clear hbox
  have HDP := Lib.hid fun W (hb : Below wb.heap.size wb W) => rdepends_any A1 A2 A3 n1 n2 n3 c1 c2 c3 P C W (HCF.out.on hb) q1 q2
  have HMA := Lib.hid fun W (hb : Below wb.heap.size wb W) A9 c9 (hm9 : RdM W W.heap.size A9 n1 (fun _ => n1) (depF (P.map ptOf) (C.map chOf))) => rmay_any A A9 n c n1 c9 ps (depF (P.map ptOf) (C.map chOf)) I J rt W (HL.out.on hb) hm9 hc hn q1 HPS.out
  have HHO := Lib.hid fun W (hb : Below wb.heap.size wb W) A9 c9 (hr9 : RdR W W.heap.size A9 R.length R) (hc9 : R.length ≤ c9) => holdsx_any A1 A2 A3 A9 n1 n2 n3 R.length c1 c2 c3 c9 P C R W (HCF.out.on hb).p (HCF.out.on hb).c hr9 (by omega) q2 hc9 hRl hRt HZ.out
  generalize holdsF (wordsL R) P C = hz at HHO HV
  obtain ⟨hb, hhb⟩ : ∃ hb, hb = decide (hz = 0) := ⟨_, rfl⟩
  have HHB : Hid ((hz == 0) = hb) := Lib.hid (by rw [hhb]; rfl)
  rw [← hhb] at HV
  have HDO0 := Lib.hid fun (hm : mayZ (depW n1 (depF (P.map ptOf) (C.map chOf))) ps I J = true) W (hb : Below wb.heap.size wb W) => HDOQ.out hm W (HBB.out.trans (hb.mono HBB.out.size))
  generalize mayZ (depW n1 (depF (P.map ptOf) (C.map chOf))) ps I J = bm at HMA HV HDO0
  clear hhb HDOQ
  cases bm with
  | true =>
    have e : v = hb := by rw [HV.out]; simp
    subst e
    have HDO := Lib.hid (HDO0.out rfl)
    go_wp2_with fail
    refine Rgs.region (by kernel_rfl) (by kernel_rfl) (fun (opn : Nat) (vl : Value) (wo : World) => match opn with | 0 => vl = .slice A n c | 1 => vl = .agg #[.slice A1 n1 c1, .slice A2 n2 c2, .slice A3 n3 c3] | 2 => MtX n1 (depF (P.map ptOf) (C.map chOf)) vl wo | 3 => vl = .agg #[.int .i64 I, .int .i64 J, .bool rt] | 4 => vl = .bool true | 5 => vl = .bool true | 6 => vl = .agg #[.slice A1 n1 c1, .slice A2 n2 c2, .slice A3 n3 c3] | 7 => vl = .slice A n c | 8 => vl = .agg #[.int .i64 I, .int .i64 J, .bool rt] | 9 => RowX R vl wo | 10 => vl = .int .i64 hz | 11 => vl = .bool v | 12 => vl = .bool v | 13 => vl = .bool v | _ => True) (fun _ _ w' => Below wb.heap.size wb w') (Below.refl _ _).drew (Rgs.steps_of ?_) ?_
    · refine ⟨?_, ?_, ?_, ?_, ?_, ?_, ?_, ?_, ?_, ?_, ?_, ?_, ?_, ?_, trivial⟩
      · intro a w1 live S E D C0 h0 hk hW
        have e1 : a.eval (.tmp 1) = .slice A n c := E 1 rfl
        exact Rgs.val rfl (Reg.wanted_free rfl) (.slice A n c) (by have c := Reg.consts a; generalize a.eval = ρ at *; simp [execOp, go_sem, c.1, c.2, e1]) rfl hW
      · intro a w1 live S E D C0 h0 hk hW
        have e3 : a.eval (.tmp 3) = .pointer (some ⟨gc, 0, none⟩) := E 3 rfl
        have hc0 := (hW.cell (p := ⟨gc, 0, none⟩) (World.block_lt_of_cell? _ _ m0)).trans m0
        have hc1 := (hW.cell (p := ⟨gc, 1, none⟩) (World.block_lt_of_cell? _ _ m1)).trans m1
        have hc2 := (hW.cell (p := ⟨gc, 2, none⟩) (World.block_lt_of_cell? _ _ m2)).trans m2
        exact Rgs.val rfl (Reg.wanted_free rfl) (.agg #[.slice A1 n1 c1, .slice A2 n2 c2, .slice A3 n3 c3]) (by have c := Reg.consts a; generalize a.eval = ρ at *; simp [execOp, go_sem, c.1, c.2, e3, hc0, hc1, hc2]) rfl hW
      · intro a w1 live S E D C0 h0 hk hW
        have d1 : a.eval (.tmp 8) = .agg #[.slice A1 n1 c1, .slice A2 n2 c2, .slice A3 n3 c3] := D 1 rfl _ _ rfl rfl
        refine Rgs.call rfl (Reg.wanted_free rfl) 15 #[.agg #[.slice A1 n1 c1, .slice A2 n2 c2, .slice A3 n3 c3]] (by have c := Reg.consts a; generalize a.eval = ρ at *; simp [execOp, go_sem, c.1, c.2, d1]) ?_
        refine (HDP.out w1 hW).mono ?_
        intro e w5 hdep
        obtain ⟨A9, c9, rfl, hc9, hm9, hb5⟩ := hdep.m
        exact ⟨_, rfl, ⟨A9, c9, rfl, hc9, hm9⟩, hW.trans (hb5.mono hW.size), fun j v _ hv => by
            revert hv
            match j with
            | 2 => exact fun h => h.on hb5
            | 9 => exact fun h => h.on hb5
            | 0 | 1 | 3 | 4 | 5 | 6 | 7 | 8 | 10 | 11 | 12 | 13 | _ + 14 => exact fun h => h⟩
      · intro a w1 live S E D C0 h0 hk hW
        have e5 : a.eval (.tmp 5) = .pointer (some ⟨gm, 0, none⟩) := E 5 rfl
        have hc0 := (hW.cell (p := ⟨gm, 0, none⟩) (World.block_lt_of_cell? _ _ f0)).trans f0
        have hc1 := (hW.cell (p := ⟨gm, 1, none⟩) (World.block_lt_of_cell? _ _ f1)).trans f1
        have hc2 := (hW.cell (p := ⟨gm, 2, none⟩) (World.block_lt_of_cell? _ _ f2)).trans f2
        exact Rgs.val rfl (Reg.wanted_free rfl) (.agg #[.int .i64 I, .int .i64 J, .bool rt]) (by have c := Reg.consts a; generalize a.eval = ρ at *; simp [execOp, go_sem, c.1, c.2, e5, hc0, hc1, hc2]) rfl hW
      · intro a w1 live S E D C0 h0 hk hW
        have d0 : a.eval (.tmp 7) = .slice A n c := D 0 rfl _ _ rfl rfl
        obtain ⟨A9, c9, d2, hc9, hm9⟩ : MtX n1 (depF (P.map ptOf) (C.map chOf)) (a.eval (.tmp 9)) w1 := D 2 rfl _ _ rfl rfl
        have d3 : a.eval (.tmp 10) = .agg #[.int .i64 I, .int .i64 J, .bool rt] := D 3 rfl _ _ rfl rfl
        refine Rgs.call rfl (Reg.wanted_free rfl) 27 #[.slice A n c, .slice A9 n1 c9, .agg #[.int .i64 I, .int .i64 J, .bool rt]] (by have c := Reg.consts a; generalize a.eval = ρ at *; simp [execOp, go_sem, c.1, c.2, d0, d2, d3]) ?_
        refine (HMA.out w1 hW A9 c9 hm9).mono ?_
        rintro e w5 ⟨rfl, hb5⟩
        exact ⟨_, rfl, rfl, hW.trans (hb5.mono hW.size), fun j v _ hv => by
            revert hv
            match j with
            | 2 => exact fun h => h.on hb5
            | 9 => exact fun h => h.on hb5
            | 0 | 1 | 3 | 4 | 5 | 6 | 7 | 8 | 10 | 11 | 12 | 13 | _ + 14 => exact fun h => h⟩
      · intro a w1 live S E D C0 h0 hk hW
        have d4 : a.eval (.tmp 11) = .bool true := D 4 rfl _ _ rfl rfl
        exact Rgs.val rfl (Reg.wanted_free rfl) (.bool true) (by have c := Reg.consts a; generalize a.eval = ρ at *; simp [execOp, go_sem, c.1, c.2, d4]) rfl hW
      · intro a w1 live S E D C0 h0 hk hW
        have dg : a.eval (.tmp 12) = .bool true := D 5 rfl _ _ rfl rfl
        have e3 : a.eval (.tmp 3) = .pointer (some ⟨gc, 0, none⟩) := E 3 rfl
        have hc0 := (hW.cell (p := ⟨gc, 0, none⟩) (World.block_lt_of_cell? _ _ m0)).trans m0
        have hc1 := (hW.cell (p := ⟨gc, 1, none⟩) (World.block_lt_of_cell? _ _ m1)).trans m1
        have hc2 := (hW.cell (p := ⟨gc, 2, none⟩) (World.block_lt_of_cell? _ _ m2)).trans m2
        exact Rgs.val rfl (Reg.wanted_if rfl rfl dg rfl) (.agg #[.slice A1 n1 c1, .slice A2 n2 c2, .slice A3 n3 c3]) (by have c := Reg.consts a; generalize a.eval = ρ at *; simp [execOp, go_sem, c.1, c.2, e3, hc0, hc1, hc2]) rfl hW
      · intro a w1 live S E D C0 h0 hk hW
        have dg : a.eval (.tmp 12) = .bool true := D 5 rfl _ _ rfl rfl
        have e1 : a.eval (.tmp 1) = .slice A n c := E 1 rfl
        exact Rgs.val rfl (Reg.wanted_if rfl rfl dg rfl) (.slice A n c) (by have c := Reg.consts a; generalize a.eval = ρ at *; simp [execOp, go_sem, c.1, c.2, e1]) rfl hW
      · intro a w1 live S E D C0 h0 hk hW
        have dg : a.eval (.tmp 12) = .bool true := D 5 rfl _ _ rfl rfl
        have e5 : a.eval (.tmp 5) = .pointer (some ⟨gm, 0, none⟩) := E 5 rfl
        have hc0 := (hW.cell (p := ⟨gm, 0, none⟩) (World.block_lt_of_cell? _ _ f0)).trans f0
        have hc1 := (hW.cell (p := ⟨gm, 1, none⟩) (World.block_lt_of_cell? _ _ f1)).trans f1
        have hc2 := (hW.cell (p := ⟨gm, 2, none⟩) (World.block_lt_of_cell? _ _ f2)).trans f2
        exact Rgs.val rfl (Reg.wanted_if rfl rfl dg rfl) (.agg #[.int .i64 I, .int .i64 J, .bool rt]) (by have c := Reg.consts a; generalize a.eval = ρ at *; simp [execOp, go_sem, c.1, c.2, e5, hc0, hc1, hc2]) rfl hW
      · intro a w1 live S E D C0 h0 hk hW
        have dg : a.eval (.tmp 12) = .bool true := D 5 rfl _ _ rfl rfl
        have d7 : a.eval (.tmp 14) = .slice A n c := D 7 rfl _ _ rfl rfl
        have d8 : a.eval (.tmp 15) = .agg #[.int .i64 I, .int .i64 J, .bool rt] := D 8 rfl _ _ rfl rfl
        refine Rgs.call rfl (Reg.wanted_if rfl rfl dg rfl) 32 #[.slice A n c, .agg #[.int .i64 I, .int .i64 J, .bool rt]] (by have c := Reg.consts a; generalize a.eval = ρ at *; simp [execOp, go_sem, c.1, c.2, d7, d8]) ?_
        refine (HDO.out w1 hW).mono ?_
        rintro e w5 ⟨A9, c9, rfl, hr9, hc9, hb5⟩
        exact ⟨_, rfl, ⟨A9, c9, rfl, hc9, hr9⟩, hW.trans (hb5.mono hW.size), fun j v _ hv => by
            revert hv
            match j with
            | 2 => exact fun h => h.on hb5
            | 9 => exact fun h => h.on hb5
            | 0 | 1 | 3 | 4 | 5 | 6 | 7 | 8 | 10 | 11 | 12 | 13 | _ + 14 => exact fun h => h⟩
      · intro a w1 live S E D C0 h0 hk hW
        have dg : a.eval (.tmp 12) = .bool true := D 5 rfl _ _ rfl rfl
        have d6 : a.eval (.tmp 13) = .agg #[.slice A1 n1 c1, .slice A2 n2 c2, .slice A3 n3 c3] := D 6 rfl _ _ rfl rfl
        obtain ⟨A9, c9, d9, hc9, hr9⟩ : RowX R (a.eval (.tmp 16)) w1 := D 9 rfl _ _ rfl rfl
        refine Rgs.call rfl (Reg.wanted_if rfl rfl dg rfl) 53 #[.agg #[.slice A1 n1 c1, .slice A2 n2 c2, .slice A3 n3 c3], .slice A9 R.length c9] (by have c := Reg.consts a; generalize a.eval = ρ at *; simp [execOp, go_sem, c.1, c.2, d6, d9]) ?_
        refine (HHO.out w1 hW A9 c9 hr9 hc9).mono ?_
        rintro e w5 ⟨rfl, hb5⟩
        exact ⟨_, rfl, rfl, hW.trans (hb5.mono hW.size), fun j v _ hv => by
            revert hv
            match j with
            | 2 => exact fun h => h.on hb5
            | 9 => exact fun h => h.on hb5
            | 0 | 1 | 3 | 4 | 5 | 6 | 7 | 8 | 10 | 11 | 12 | 13 | _ + 14 => exact fun h => h⟩
      · intro a w1 live S E D C0 h0 hk hW
        have dg : a.eval (.tmp 12) = .bool true := D 5 rfl _ _ rfl rfl
        have d10 : a.eval (.tmp 17) = .int .i64 hz := D 10 rfl _ _ rfl rfl
        have hh := HHB.out
        exact Rgs.val rfl (Reg.wanted_if rfl rfl dg rfl) (.bool v) (by have c := Reg.consts a; generalize a.eval = ρ at *; simp [execOp, go_sem, c.1, c.2, d10, hh]) rfl hW
      · intro a w1 live S E D C0 h0 hk hW
        have d5 : a.eval (.tmp 12) = .bool true := D 5 rfl _ _ rfl rfl
        have d11 : a.eval (.tmp 18) = .bool v := D 11 rfl _ _ rfl rfl
        exact Rgs.val rfl (Reg.wanted_free rfl) (.bool v) (by have c := Reg.consts a; generalize a.eval = ρ at *; simp [execOp, go_sem, c.1, c.2, d5, d11]) rfl hW
      · intro a w1 live S E D C0 h0 hk hW
        have d12 : a.eval (.tmp 19) = .bool v := D 12 rfl _ _ rfl rfl
        exact Rgs.val rfl (Reg.wanted_free rfl) (.bool v) (by have c := Reg.consts a; generalize a.eval = ρ at *; simp [execOp, go_sem, c.1, c.2, d12]) rfl hW
    · intro a w4 live hs hd E D Hl hW
      have e6 : a.eval (.tmp 6) = .bool v := by
        obtain ⟨v, hv, he⟩ := D 13 _ rfl
        exact (he 6 rfl).trans hv
      rw [Rgs.act_ws a _ _ hs hd E [7, 8, 9, 10, 11, 12, 13, 14, 15, 16, 17, 18, 19, 6] (by kernel_rfl)]
      simp only [List.foldl, List.setIfInBounds_toArray, List.set_cons_succ, List.set_cons_zero, e6]
      have HB9 := Lib.hid (HBB.out.trans (Below.mono hW HBB.out.size))
      clear E D Hl hW e6 HDP HMA HDO HHO m0 m1 m2 f0 f1 f2
      generalize a.eval = ρ
      clear a hs hd
      go_wp2_with fail
      go_ret
      exact Ans.mk rfl HB9.out
  | false =>
    have e : v = false := by rw [HV.out]; simp
    subst e
    have HDO := HDO0
    go_wp2_with fail
    refine Rgs.region (by kernel_rfl) (by kernel_rfl) (fun (opn : Nat) (vl : Value) (wo : World) => match opn with | 0 => vl = .slice A n c | 1 => vl = .agg #[.slice A1 n1 c1, .slice A2 n2 c2, .slice A3 n3 c3] | 2 => MtX n1 (depF (P.map ptOf) (C.map chOf)) vl wo | 3 => vl = .agg #[.int .i64 I, .int .i64 J, .bool rt] | 4 => vl = .bool false | 5 => vl = .bool false | 6 => vl = undef | 7 => vl = undef | 8 => vl = undef | 9 => vl = undef | 10 => vl = undef | 11 => vl = undef | 12 => vl = .bool false | 13 => vl = .bool false | _ => True) (fun _ _ w' => Below wb.heap.size wb w') (Below.refl _ _).drew (Rgs.steps_of ?_) ?_
    · refine ⟨?_, ?_, ?_, ?_, ?_, ?_, ?_, ?_, ?_, ?_, ?_, ?_, ?_, ?_, trivial⟩
      · intro a w1 live S E D C0 h0 hk hW
        have e1 : a.eval (.tmp 1) = .slice A n c := E 1 rfl
        exact Rgs.val rfl (Reg.wanted_free rfl) (.slice A n c) (by have c := Reg.consts a; generalize a.eval = ρ at *; simp [execOp, go_sem, c.1, c.2, e1]) rfl hW
      · intro a w1 live S E D C0 h0 hk hW
        have e3 : a.eval (.tmp 3) = .pointer (some ⟨gc, 0, none⟩) := E 3 rfl
        have hc0 := (hW.cell (p := ⟨gc, 0, none⟩) (World.block_lt_of_cell? _ _ m0)).trans m0
        have hc1 := (hW.cell (p := ⟨gc, 1, none⟩) (World.block_lt_of_cell? _ _ m1)).trans m1
        have hc2 := (hW.cell (p := ⟨gc, 2, none⟩) (World.block_lt_of_cell? _ _ m2)).trans m2
        exact Rgs.val rfl (Reg.wanted_free rfl) (.agg #[.slice A1 n1 c1, .slice A2 n2 c2, .slice A3 n3 c3]) (by have c := Reg.consts a; generalize a.eval = ρ at *; simp [execOp, go_sem, c.1, c.2, e3, hc0, hc1, hc2]) rfl hW
      · intro a w1 live S E D C0 h0 hk hW
        have d1 : a.eval (.tmp 8) = .agg #[.slice A1 n1 c1, .slice A2 n2 c2, .slice A3 n3 c3] := D 1 rfl _ _ rfl rfl
        refine Rgs.call rfl (Reg.wanted_free rfl) 15 #[.agg #[.slice A1 n1 c1, .slice A2 n2 c2, .slice A3 n3 c3]] (by have c := Reg.consts a; generalize a.eval = ρ at *; simp [execOp, go_sem, c.1, c.2, d1]) ?_
        refine (HDP.out w1 hW).mono ?_
        intro e w5 hdep
        obtain ⟨A9, c9, rfl, hc9, hm9, hb5⟩ := hdep.m
        exact ⟨_, rfl, ⟨A9, c9, rfl, hc9, hm9⟩, hW.trans (hb5.mono hW.size), fun j v _ hv => by
            revert hv
            match j with
            | 2 => exact fun h => h.on hb5
            | 0 | 1 | 3 | 4 | 5 | 6 | 7 | 8 | 9 | 10 | 11 | 12 | 13 | _ + 14 => exact fun h => h⟩
      · intro a w1 live S E D C0 h0 hk hW
        have e5 : a.eval (.tmp 5) = .pointer (some ⟨gm, 0, none⟩) := E 5 rfl
        have hc0 := (hW.cell (p := ⟨gm, 0, none⟩) (World.block_lt_of_cell? _ _ f0)).trans f0
        have hc1 := (hW.cell (p := ⟨gm, 1, none⟩) (World.block_lt_of_cell? _ _ f1)).trans f1
        have hc2 := (hW.cell (p := ⟨gm, 2, none⟩) (World.block_lt_of_cell? _ _ f2)).trans f2
        exact Rgs.val rfl (Reg.wanted_free rfl) (.agg #[.int .i64 I, .int .i64 J, .bool rt]) (by have c := Reg.consts a; generalize a.eval = ρ at *; simp [execOp, go_sem, c.1, c.2, e5, hc0, hc1, hc2]) rfl hW
      · intro a w1 live S E D C0 h0 hk hW
        have d0 : a.eval (.tmp 7) = .slice A n c := D 0 rfl _ _ rfl rfl
        obtain ⟨A9, c9, d2, hc9, hm9⟩ : MtX n1 (depF (P.map ptOf) (C.map chOf)) (a.eval (.tmp 9)) w1 := D 2 rfl _ _ rfl rfl
        have d3 : a.eval (.tmp 10) = .agg #[.int .i64 I, .int .i64 J, .bool rt] := D 3 rfl _ _ rfl rfl
        refine Rgs.call rfl (Reg.wanted_free rfl) 27 #[.slice A n c, .slice A9 n1 c9, .agg #[.int .i64 I, .int .i64 J, .bool rt]] (by have c := Reg.consts a; generalize a.eval = ρ at *; simp [execOp, go_sem, c.1, c.2, d0, d2, d3]) ?_
        refine (HMA.out w1 hW A9 c9 hm9).mono ?_
        rintro e w5 ⟨rfl, hb5⟩
        exact ⟨_, rfl, rfl, hW.trans (hb5.mono hW.size), fun j v _ hv => by
            revert hv
            match j with
            | 2 => exact fun h => h.on hb5
            | 0 | 1 | 3 | 4 | 5 | 6 | 7 | 8 | 9 | 10 | 11 | 12 | 13 | _ + 14 => exact fun h => h⟩
      · intro a w1 live S E D C0 h0 hk hW
        have d4 : a.eval (.tmp 11) = .bool false := D 4 rfl _ _ rfl rfl
        exact Rgs.val rfl (Reg.wanted_free rfl) (.bool false) (by have c := Reg.consts a; generalize a.eval = ρ at *; simp [execOp, go_sem, c.1, c.2, d4]) rfl hW
      · intro a w1 live S E D C0 h0 hk hW
        have dg : a.eval (.tmp 12) = .bool false := D 5 rfl _ _ rfl rfl
        exact Rgs.skip rfl (Rgs.wanted_not rfl rfl dg rfl) rfl hW
      · intro a w1 live S E D C0 h0 hk hW
        have dg : a.eval (.tmp 12) = .bool false := D 5 rfl _ _ rfl rfl
        exact Rgs.skip rfl (Rgs.wanted_not rfl rfl dg rfl) rfl hW
      · intro a w1 live S E D C0 h0 hk hW
        have dg : a.eval (.tmp 12) = .bool false := D 5 rfl _ _ rfl rfl
        exact Rgs.skip rfl (Rgs.wanted_not rfl rfl dg rfl) rfl hW
      · intro a w1 live S E D C0 h0 hk hW
        have dg : a.eval (.tmp 12) = .bool false := D 5 rfl _ _ rfl rfl
        exact Rgs.skip rfl (Rgs.wanted_not rfl rfl dg rfl) rfl hW
      · intro a w1 live S E D C0 h0 hk hW
        have dg : a.eval (.tmp 12) = .bool false := D 5 rfl _ _ rfl rfl
        exact Rgs.skip rfl (Rgs.wanted_not rfl rfl dg rfl) rfl hW
      · intro a w1 live S E D C0 h0 hk hW
        have dg : a.eval (.tmp 12) = .bool false := D 5 rfl _ _ rfl rfl
        exact Rgs.skip rfl (Rgs.wanted_not rfl rfl dg rfl) rfl hW
      · intro a w1 live S E D C0 h0 hk hW
        have d5 : a.eval (.tmp 12) = .bool false := D 5 rfl _ _ rfl rfl
        have d11 : a.eval (.tmp 18) = undef := D 11 rfl _ _ rfl rfl
        exact Rgs.val rfl (Reg.wanted_free rfl) (.bool false) (by have c := Reg.consts a; generalize a.eval = ρ at *; simp [execOp, go_sem, c.1, c.2, d5, d11]) rfl hW
      · intro a w1 live S E D C0 h0 hk hW
        have d12 : a.eval (.tmp 19) = .bool false := D 12 rfl _ _ rfl rfl
        exact Rgs.val rfl (Reg.wanted_free rfl) (.bool false) (by have c := Reg.consts a; generalize a.eval = ρ at *; simp [execOp, go_sem, c.1, c.2, d12]) rfl hW
    · intro a w4 live hs hd E D Hl hW
      have e6 : a.eval (.tmp 6) = .bool false := by
        obtain ⟨v, hv, he⟩ := D 13 _ rfl
        exact (he 6 rfl).trans hv
      rw [Rgs.act_ws a _ _ hs hd E [7, 8, 9, 10, 11, 12, 13, 14, 15, 16, 17, 18, 19, 6] (by kernel_rfl)]
      simp only [List.foldl, List.setIfInBounds_toArray, List.set_cons_succ, List.set_cons_zero, e6]
      have HB9 := Lib.hid (HBB.out.trans (Below.mono hW HBB.out.size))
      clear E D Hl hW e6 HDP HMA HDO HHO m0 m1 m2 f0 f1 f2
      generalize a.eval = ρ
      clear a hs hd
      go_wp2_with fail
      go_ret
      exact Ans.mk rfl HB9.out
end Go.Proofs.Ytoaocdmcjjohgaa
