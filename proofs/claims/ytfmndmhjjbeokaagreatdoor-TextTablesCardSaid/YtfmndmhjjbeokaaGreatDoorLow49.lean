import Derived.Test.YtfmndmhjjbeokaaGreatDoorLow48
namespace Go.Proofs.YtfmndmhjjbeokaaGreatDoor
set_option maxRecDepth 100000
open Go.RowKit Tab Txt
set_option linter.unusedSimpArgs false
set_option linter.unusedVariables false
set_option maxHeartbeats 1000000 in
theorem tPrint_wrong (x : Cf) (z : Int) (hz : ¬ z = 0) (w : World) (h : ∀ W, Below w.heap.size w W → Calls Tryz.prog 30 #[cfv x] W (Ans (.int .i64 z) W)) : Calls Tryz.prog 11 #[cfv x] w (Ans (.string (bsOf [])) w) := by
  have hb := bl1 w (.cells #[.slice x.A1 x.n1 x.c1, .slice x.A2 x.n2 x.c2, .slice x.A3 x.n3 x.c3] 31)
  have H := Lib.hid (h _ hb)
  have HB := Lib.hid hb
  have hf : ∀ o v, (#[Value.slice x.A1 x.n1 x.c1, .slice x.A2 x.n2 x.c2, .slice x.A3 x.n3 x.c3] : Array Value)[o]? = some v → (w.alloc (.cells #[.slice x.A1 x.n1 x.c1, .slice x.A2 x.n2 x.c2, .slice x.A3 x.n3 x.c3] 31)).cell? ⟨w.heap.size, o, none⟩ = some v := fun o v hv => (World.cell?_alloc_mark _ _ _ _ _).trans hv
  have m0 := hf 0 _ rfl
  have m1 := hf 1 _ rfl
  have m2 := hf 2 _ rfl
  have i1 : (z != 0) = true := bne_iff_ne.2 hz
  clear h hb hf hz
  unfold cfv at H ⊢
  go_enter Tryz.func11, Tryz.ntmps11
  go_wp2_with fail
  refine H.out.mono ?_
  rintro e w1 ⟨rfl, h1⟩
  clear m0 m1 m2
  go_wp2_with fail
  go_ret
  exact ⟨rfl, HB.out.trans (h1.mono HB.out.size)⟩
theorem right_none0 (w : World) : Calls Tryz.prog 30 #[cfv cf0] w (Ans (.int .i64 3) w) := by
  have := cfright_any none none none 0 0 0 0 0 0 [] [] [] w ⟨rfl, RdV.nil⟩ ⟨rfl, RdV.nil⟩ ⟨rfl, RdV.nil⟩ (fun x hx => (by cases hx)) (fun x hx => (by cases hx)) (Nat.le_refl _)
  rw [wh_none] at this
  exact this
theorem tPrint_none (w : World) : Calls Tryz.prog 11 #[cfv cf0] w (Ans (.string (bsOf [])) w) := tPrint_wrong cf0 3 (by decide) w fun W _ => right_none0 W
theorem tNode_i5 (g : Nat) (w : World) (h : RdN w w.heap.size (some ⟨g, 0, none⟩) 1 [⟨2, 0, 5⟩]) (ht : TabW w) : Calls Tryz.prog 13 #[.slice (some ⟨g, 0, none⟩) 1 1] w (Ans (.string (bsOf [105, 53])) w) := by
  have hok : (F.cons (⟨2, 0, 5⟩ : Nd) .nil .nil).ok := by simp [F.ok, fine, kn, F.cnt]
  have hr := right_tree _ 1 1 [⟨2, 0, 5⟩] ⟨2, 0, 5⟩ .nil w h (Nat.le_refl _) (by omega) hok rfl
  have := tNode_tree _ 1 1 ⟨2, 0, 5⟩ .nil w h (Nat.le_refl _) (by omega) hok hr ht
  exact this
theorem k13_x {x : Cf} {w : World} {B : Nat} (hr : CfR w x) (hc : Ctn x k13c) (ho : OwnV 60 11 w B x.A1 x.n1 x.c1 (x.P.flatMap pcq)) (hp : OwnV 34 1 w B x.A3 x.n3 x.c3 (x.T.flatMap tcn)) :
    ∃ (g1 g3 : Nat) (pa : Option Addr) (pc : Nat) (tA : Option Addr) (tc : Nat) (nm : ByteArray) (b p h0 h1 h3 h4 : Int), x.A1 = some ⟨g1, 0, none⟩ ∧ x.A3 = some ⟨g3, 0, none⟩ ∧ x.n1 = 1 ∧ x.n3 = 1 ∧
      OwnV 60 11 w B (some ⟨g1, 0, none⟩) 1 x.c1 [.string nm, .int .i64 b, .int .i64 p, .bool true, .bool true, .slice pa 2 pc, .int .i64 h0, .int .i64 h1, .int .i64 2, .int .i64 h3, .int .i64 h4] ∧ OwnV 34 1 w B (some ⟨g3, 0, none⟩) 1 x.c3 [.slice tA 2 tc] := by
  have hlen := hr.lens
  have htt := hr.tt
  have e1 : x.P.map stripP = [(⟨bsOf [97], 0, 0, true, true, none, 2, 2, 0, 1, 2, 0, 0⟩, [(0, 1), (4, 2)])] := hc.ep
  have e3 : x.T.map (fun t => ndT0 t.l) = [ndT0 [⟨4, 0, 2⟩, ⟨1, 0, 3⟩]] := hc.et
  have l1 : x.P.length = 1 := by have := congrArg List.length e1; rwa [List.length_map] at this
  have l3 : x.T.length = 1 := by have := congrArg List.length e3; rwa [List.length_map] at this
  obtain ⟨y, hy⟩ := List.length_eq_one_iff.1 l1
  obtain ⟨t, ht⟩ := List.length_eq_one_iff.1 l3
  have n1 : x.n1 = 1 := by rw [← hr.pp.len, l1]
  have n3 : x.n3 = 1 := by rw [← hr.tb.len, l3]
  rw [hy] at e1 ho
  rw [ht] at e3 hp
  rw [n1] at ho
  rw [n3] at hp
  obtain ⟨g1, hg1, _⟩ := OwnV.block ho (by omega)
  obtain ⟨g3, hg3, _⟩ := OwnV.block hp (by omega)
  rw [hg1] at ho
  rw [hg3] at hp
  have hpn := hlen y (by rw [hy]; simp)
  have htn := (htt t (by rw [ht]; simp)).rd.len
  injection e1 with e1
  injection e3 with e3
  obtain ⟨⟨nm, bu, pe, sc, st, pa, pn, pc, h0, h1, h2, h3, h4⟩, L⟩ := y
  unfold stripP at e1
  simp only [Prod.mk.injEq, PtV.mk.injEq] at e1
  obtain ⟨⟨-, -, -, rfl, rfl, -, -, -, -, -, rfl, -, -⟩, rfl⟩ := e1
  have hpn2 : pn = 2 := hpn.symm
  subst hpn2
  have htl : t.l = [⟨4, 0, 2⟩, ⟨1, 0, 3⟩] := by unfold ndT0 at e3; injection e3
  rw [htl] at htn
  have htn2 : t.n = 2 := htn.symm
  refine ⟨g1, g3, pa, pc, t.A, t.c, nm, bu, pe, h0, h1, h3, h4, hg1, hg3, n1, n3, ho, ?_⟩
  have : tcn t = [.slice t.A 2 t.c] := by unfold tcn; rw [htn2]
  rw [List.flatMap_cons, List.flatMap_nil, List.append_nil, this] at hp
  exact hp
set_option maxHeartbeats 8000000 in
theorem known13_any (w : World) (ht : TabW w) : Calls Tryz.prog 16 #[] w (Ans (.bool true) w) := by
  have HT := Lib.hid ht
  have H1 := Lib.hid fun W => tTable_any k13s1 W (by decide)
  have H2 := Lib.hid fun W => tTable_any k13s2 W (by decide)
  have H3 := Lib.hid fun W => tParse_any [] W (by decide)
  have H4 := Lib.hid fun W => tParse_any k13m4 W (by decide)
  have H5 := Lib.hid fun W => tParse_any k13m5 W (by decide)
  rw [k13_1] at H1
  rw [k13_2] at H2
  unfold ParX at H3 H4 H5
  rw [k13_p3] at H3
  rw [k13_p4] at H4
  rw [k13_p5] at H5
  clear ht
  go_enter Tryz.func16, Tryz.ntmps16
  go_wp2_with fail
  refine (H1.out w).mono ?_
  rintro e w1 ⟨hb1, A1, c1, rfl, _⟩
  have B1 := Lib.hid hb1
  clear hb1
  go_wp2_with fail
  refine (H2.out w1).mono ?_
  rintro e w2 ⟨hb2, rfl⟩
  have B2 := Lib.hid (B1.out.trans (hb2.mono B1.out.size))
  clear hb2
  go_wp2_with fail
  refine (H3.out w2).mono ?_
  rintro e w3 ⟨hb3, x3, rfl, _⟩
  have B3 := Lib.hid (B2.out.trans (hb3.mono B2.out.size))
  have hbx := bl1 w3 (.cells #[.slice x3.A1 x3.n1 x3.c1, .slice x3.A2 x3.n2 x3.c2, .slice x3.A3 x3.n3 x3.c3] 31)
  have B3x := Lib.hid (B3.out.trans (hbx.mono B3.out.size))
  clear hb3 hbx
  unfold cfv
  go_wp2_with fail
  refine (H4.out _).mono ?_
  rintro e w4 ⟨hb4, x4, rfl, hr4, hc4, ho4, hp4⟩
  obtain ⟨g1, g3, pa, pc, tA, tc, nm, bu, pe, h0, h1, h3, h4, ea, eb, en1, en3, o1, o3⟩ := k13_x hr4 hc4 ho4 hp4
  clear hr4 hc4 ho4 hp4
  obtain ⟨X1, X2, X3, y1, y2, y3, z1, z2, z3, XP, XC, XT⟩ := x4
  dsimp only at ea eb en1 en3 o1 o3
  subst ea; subst eb; subst en1; subst en3
  have B4 := Lib.hid (B3x.out.trans (hb4.mono B3x.out.size))
  have hby := bl1 w4 (.cells #[.slice (some ⟨g1, 0, none⟩) 1 z1, .slice X2 y2 z2, .slice (some ⟨g3, 0, none⟩) 1 z3] 31)
  have B4x := Lib.hid (B4.out.trans (hby.mono B4.out.size))
  have o1b := OwnV.below o1 rfl hby
  have o3b := OwnV.below o3 rfl hby
  have hcf : (w4.alloc (.cells #[.slice (some ⟨g1, 0, none⟩) 1 z1, .slice X2 y2 z2, .slice (some ⟨g3, 0, none⟩) 1 z3] 31)).cell? ⟨w4.heap.size, 0, none⟩ = some (.slice (some ⟨g1, 0, none⟩) (1 : Nat) z1) := World.cell?_alloc_mark _ _ _ _ _
  have hcf2 : (w4.alloc (.cells #[.slice (some ⟨g1, 0, none⟩) 1 z1, .slice X2 y2 z2, .slice (some ⟨g3, 0, none⟩) 1 z3] 31)).cell? ⟨w4.heap.size, 2, none⟩ = some (.slice (some ⟨g3, 0, none⟩) (1 : Nat) z3) := World.cell?_alloc_mark _ _ _ _ _
  have hlt4 : w4.heap.size < (w4.alloc (.cells #[.slice (some ⟨g1, 0, none⟩) 1 z1, .slice X2 y2 z2, .slice (some ⟨g3, 0, none⟩) 1 z3] 31)).heap.size := by simp
  have O1 := Lib.hid o1b
  have O3 := Lib.hid o3b
  have HCF := Lib.hid hcf
  have HCF2 := Lib.hid hcf2
  have HLT4 := Lib.hid hlt4
  clear hb4 hby o1 o3 o1b o3b hcf hcf2 hlt4
  unfold cfv
  go_wp2_with fail
  generalize w4.alloc (.cells #[.slice (some ⟨g1, 0, none⟩) 1 z1, .slice X2 y2 z2, .slice (some ⟨g3, 0, none⟩) 1 z3] 31) = v4 at B4x O1 O3 HCF HCF2 HLT4 ⊢
  refine (H5.out v4).mono ?_
  rintro e w5 ⟨hb5, x5, rfl, _⟩
  have hbz := bl1 w5 (.cells #[.slice x5.A1 x5.n1 x5.c1, .slice x5.A2 x5.n2 x5.c2, .slice x5.A3 x5.n3 x5.c3] 31)
  have hb6 := hb5.trans (hbz.mono hb5.size)
  have B5 := Lib.hid (B4x.out.trans (hb6.mono B4x.out.size))
  have p1 := OwnV.below O1.out rfl hb6
  have p3 := OwnV.below O3.out rfl hb6
  have HTB5 := Lib.hid (HT.out.on B5.out)
  have m0 := (hb6.cell (p := ⟨w4.heap.size, 0, none⟩) HLT4.out).trans HCF.out
  have m2 := (hb6.cell (p := ⟨w4.heap.size, 2, none⟩) HLT4.out).trans HCF2.out
  have c3 := World.ownsRow.cellAt p1 3 (by omega)
  have c4 := World.ownsRow.cellAt p1 4 (by omega)
  have c5 := World.ownsRow.cellAt p1 5 (by omega)
  have c8 := World.ownsRow.cellAt p1 8 (by omega)
  have d0 := World.ownsRow.cellAt p3 0 (by omega)
  have c3 : _ = some (Value.bool true) := c3
  have c4 : _ = some (Value.bool true) := c4
  have c5 : _ = some (Value.slice pa 2 pc) := c5
  have c8 : _ = some (Value.int .i64 2) := c8
  have d0 : _ = some (Value.slice tA 2 tc) := d0
  clear hb5 hbz hb6 p1 p3
  unfold cfv
  have hz5 : (w5.alloc (.cells #[.slice x5.A1 x5.n1 x5.c1, .slice x5.A2 x5.n2 x5.c2, .slice x5.A3 x5.n3 x5.c3] 31)).heap.size = w5.heap.size + 1 := by simp
  have hbn := bl1 (w5.alloc (.cells #[.slice x5.A1 x5.n1 x5.c1, .slice x5.A2 x5.n2 x5.c2, .slice x5.A3 x5.n3 x5.c3] 31)) (.cells #[.int .i64 2, .int .i64 0, .int .i64 5] 54)
  have hrn := rdV_new (w5.alloc (.cells #[.slice x5.A1 x5.n1 x5.c1, .slice x5.A2 x5.n2 x5.c2, .slice x5.A3 x5.n3 x5.c3] 31)) #[.int .i64 2, .int .i64 0, .int .i64 5] 54 (ns [⟨2, 0, 5⟩]) rfl
  rw [hz5] at hrn
  have HN5 := Lib.hid (tNode_i5 (w5.heap.size + 1) _ ⟨rfl, hrn, fun z hz => by rw [List.mem_singleton.1 hz]; exact ⟨⟨by decide, by decide⟩, ⟨by decide, by decide⟩, ⟨by decide, by decide⟩⟩⟩ (HTB5.out.on hbn))
  have B6 := Lib.hid (B5.out.trans (hbn.mono B5.out.size))
  have q5 : ((bsOf [105, 53]).toList == [105, 53]) = true := by rw [word_dec _ _ (by kernel_rfl)]; exact decide_eq_true rfl
  have q6 : (bsOf []).toList.isEmpty = true := by rw [bs_emp]; exact decide_eq_true rfl
  clear hz5 hbn hrn
  go_wp2_with fail
  refine HN5.out.mono ?_
  rintro e w7 ⟨rfl, hb7⟩
  have B7 := Lib.hid (B6.out.trans (hb7.mono B6.out.size))
  clear hb7 HN5 m0 m2 c3 c4 c5 c8 d0
  generalize bsOf [105, 53] = s5 at q5
  go_wp2_with fail
  refine (tPrint_none w7).mono ?_
  rintro e w8 ⟨rfl, hb8⟩
  generalize bsOf [] = s6 at q6
  go_wp2_with fail
  go_ret
  exact ⟨rfl, B7.out.trans (hb8.mono B7.out.size)⟩
end Go.Proofs.YtfmndmhjjbeokaaGreatDoor
