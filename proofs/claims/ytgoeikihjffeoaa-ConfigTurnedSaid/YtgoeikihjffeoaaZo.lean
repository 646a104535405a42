/- ConfigTurned: tables in another order, or one twice, are right as before: the walk. -/
import Derived.Test.YtgoeikihjffeoaaZj
import Derived.Test.YtgoeikihjffeoaaZk
import Derived.Test.YtgoeikihjffeoaaYq
import Derived.Test.YtgoeikihjffeoaaYj
namespace Go.Proofs.Ytgoeikihjffeoaa
open Go.RowKit Tab
set_option linter.unusedSimpArgs false
set_option linter.unusedVariables false

section
variable {B gc g : Nat} {x : Cf} {w w' : World}
/-- A store into another configuration's own cells. -/
theorem CvS.otherC {B' n c : Nat} {l : List Value} (h : CvS B gc x w) (ht : OwnV 27 3 w B' (some ⟨g, 0, none⟩) n c l) (hne : gc ≠ g) (k : Nat) (v : Value) : CvS B gc x (w.setCell ⟨g, k, none⟩ v) :=
  ⟨⟨h.s.cf.other _ _ (fun q e => by injection e with e; injection e with e; rw [← e]; exact hne), ⟨h.s.pp.len, h.s.pp.own.other _ _ (h.s.pp.own.ne' ht (by decide))⟩, ⟨h.s.ch.len, h.s.ch.own.other _ _ (h.s.ch.own.ne' ht (by decide))⟩, ⟨h.s.tb.len, h.s.tb.own.other _ _ (h.s.tb.own.ne' ht (by decide))⟩⟩,
    fun y hy => (h.pt y hy).other _ _ ((h.pt y hy).ne' ht (by decide)), fun y hy => (h.tt y hy).other _ _ ((h.tt y hy).ne' ht (by decide)), h.ok⟩
/-- A store into another configuration's tables. -/
theorem CvS.otherT {B' n c : Nat} {l : List Value} (h : CvS B gc x w) (ht : OwnV 34 1 w B' (some ⟨g, 0, none⟩) n c l) (hne : obk x.A3 ≠ some g) (k : Nat) (v : Value) : CvS B gc x (w.setCell ⟨g, k, none⟩ v) :=
  ⟨⟨h.s.cf.other _ _ (h.s.cf.ne' ht (by decide)), ⟨h.s.pp.len, h.s.pp.own.other _ _ (h.s.pp.own.ne' ht (by decide))⟩, ⟨h.s.ch.len, h.s.ch.own.other _ _ (h.s.ch.own.ne' ht (by decide))⟩, ⟨h.s.tb.len, h.s.tb.own.other _ _ (fun q e => by intro e2; apply hne; rw [e]; show some q = some g; exact congrArg some e2)⟩⟩,
    fun y hy => (h.pt y hy).other _ _ ((h.pt y hy).ne' ht (by decide)), fun y hy => (h.tt y hy).other _ _ ((h.tt y hy).ne' ht (by decide)), h.ok⟩
/-- Another configuration's tables grow. -/
theorem CvS.grewT {B' n c : Nat} {A A' : Option Addr} {l : List Value} (h : CvS B gc x w) (ht : OwnV 34 1 w B' A n c l) (hne : ∀ k, obk x.A3 = some k → obk A ≠ some k) (hg : Grew A A' w w') : CvS B gc x w' :=
  ⟨⟨h.s.cf.grew ht (by decide) hg, ⟨h.s.pp.len, h.s.pp.own.grew ht (by decide) hg⟩, ⟨h.s.ch.len, h.s.ch.own.grew ht (by decide) hg⟩, ⟨h.s.tb.len, h.s.tb.own.keep' fun k hk => hg.keep (h.s.tb.own.obk_ge hk).2 fun e => hne k hk e⟩⟩,
    fun y hy => (h.pt y hy).grew ht (by decide) hg, fun y hy => (h.tt y hy).grew ht (by decide) hg, h.ok⟩
end
/-- A table more. -/
theorem CvS.tabs {B gc : Nat} {A1 A2 A3 : Option Addr} {n1 n2 n3 c1 c2 c3 : Nat} {P : List Pq} {C : List ChV} {T : List NdT} {w w' : World} (h : CvS B gc ⟨A1, A2, A3, n1, n2, n3, c1, c2, c3, P, C, T⟩ w) {A' : Option Addr} {c' : Nat} {x : NdT} (hg : Grew A3 A' w w') (hx : x ∈ T) (ho : OwnV 34 1 w' B A' (n3 + 1) c' ((T ++ [x]).flatMap tcn)) (hn : (n3 + 1) * 24 ≤ 140737488351232) :
    CvS B gc ⟨A1, A2, A', n1, n2, n3 + 1, c1, c2, c', P, C, T ++ [x]⟩ (w'.setCell ⟨gc, 2, none⟩ (.slice A' (n3 + 1 : Nat) c')) := by
  have htb := h.s.tb.own
  have c1' := h.s.cf.grew htb (by decide) hg
  have p1 := h.s.pp.own.grew htb (by decide) hg
  have t1 := h.s.ch.own.grew htb (by decide) hg
  have hm : ∀ y ∈ T ++ [x], y ∈ T := fun y hy => by
    rcases List.mem_append.1 hy with hy | hy
    · exact hy
    · obtain rfl : y = x := by simpa using hy
      exact hx
  refine ⟨⟨c1'.set 2 _ (by show 2 < 3; omega), ⟨h.s.pp.len, p1.other _ _ (p1.ne' c1' (by decide))⟩, ⟨h.s.ch.len, t1.other _ _ (t1.ne' c1' (by decide))⟩, ⟨by rw [List.length_append, h.s.tb.len]; rfl, ho.other _ _ (ho.ne' c1' (by decide))⟩⟩, fun y hy => ?_, fun y hy => ?_, ⟨h.ok.l1, h.ok.l2, by show (T ++ [x]).length = n3 + 1; rw [List.length_append, h.s.tb.len]; rfl, h.ok.pt, fun y hy => h.ok.tt y (hm y hy), h.ok.m1, h.ok.m2, by show n3 + 1 ≤ _; omega, h.ok.z.1, h.ok.z.2.1, hn, h.ok.z.2.2.2.1, fun y hy => h.ok.z.2.2.2.2 y (hm y hy)⟩⟩
  · have p := (h.pt y hy).grew htb (by decide) hg
    exact p.other _ _ (p.ne' c1' (by decide))
  · have p := (h.tt y (hm y hy)).grew htb (by decide) hg
    exact p.other _ _ (p.ne' c1' (by decide))
theorem RiX.tabs {A1 A2 A3 A1' A2' A3' : Option Addr} {n1 n2 n3 c1 c2 c3 n1' n2' n3' c1' c2' c3' : Nat} {P : List Pq} {C : List ChV} {T T' : List NdT} (h : RiX ⟨A1, A2, A3, n1, n2, n3, c1, c2, c3, P, C, T⟩) (hl : 1 ≤ T'.length ∧ T'.length ≤ 3) (hm : ∀ t ∈ T', t ∈ T) : RiX ⟨A1', A2', A3', n1', n2', n3', c1', c2', c3', P, C, T'⟩ :=
  ⟨⟨h.sz.1, h.sz.2.1, h.sz.2.2.1, hl.1, hl.2⟩, h.pt, h.ch, fun t ht => h.tb t (hm t ht)⟩
/-- One copy under way. -/
structure Tu1 (B : Nat) (y : Cf) (lc la ls : Bool) (vz vp : Value) (w : World) : Prop where
  c : lc = true → ∃ z, vz = cfv z ∧ CfR w z ∧ SamX z y ∧ CfO w B z
  a : la = true → ls = false → ∃ g, vp = .pointer (some ⟨g, 0, none⟩) ∧ OwnV 27 3 w B (some ⟨g, 0, none⟩) 1 1 [.slice none 0 0, .slice none 0 0, .slice none 0 0]
  s : ls = true → ∃ g z, vp = .pointer (some ⟨g, 0, none⟩) ∧ vz = cfv z ∧ CvS B g z w ∧ SamX z y
section
variable {B : Nat} {y : Cf} {lc la ls : Bool} {vz vp : Value} {w w' : World}
theorem CfO.bel {x : Cf} (h : CfO w B x) (hb : Below w.heap.size w w') : CfO w' B x :=
  ⟨h.pp.below rfl hb, h.ch.below rfl hb, h.tb.below rfl hb, fun y hy => ⟨(h.pt y hy).1.below rfl hb, (h.pt y hy).2⟩, fun y hy => ⟨(h.tt y hy).1.below rfl hb, (h.tt y hy).2⟩, h.d12, h.d13, h.d23, h.dp, h.dt, h.dq⟩
theorem CfO.far {x : Cf} {g B' n c : Nat} {l : List Value} (h : CfO w B x) (ht : OwnV 27 3 w B' (some ⟨g, 0, none⟩) n c l) (k : Nat) (v : Value) : CfO (w.setCell ⟨g, k, none⟩ v) B x :=
  ⟨h.pp.other _ _ (h.pp.ne' ht (by decide)), h.ch.other _ _ (h.ch.ne' ht (by decide)), h.tb.other _ _ (h.tb.ne' ht (by decide)), fun y hy => ⟨(h.pt y hy).1.other _ _ ((h.pt y hy).1.ne' ht (by decide)), (h.pt y hy).2⟩, fun y hy => ⟨(h.tt y hy).1.other _ _ ((h.tt y hy).1.ne' ht (by decide)), (h.tt y hy).2⟩, h.d12, h.d13, h.d23, h.dp, h.dt, h.dq⟩
theorem CfR.own {x : Cf} (h : CfO w B x) (k : CfC x) : CfR w x :=
  ⟨⟨k.l1, h.pp.rd⟩, ⟨k.l2, h.ch.rd⟩, ⟨k.l3, h.tb.rd⟩, fun y hy => ⟨⟨(k.pt y hy).1, (k.pt y hy).2.1, ⟨(k.pt y hy).2.2.1, (h.pt y hy).1.rd⟩⟩, (h.pt y hy).1.cap, (k.pt y hy).2.2.2⟩, fun y hy => ⟨⟨(k.tt y hy).1, (h.tt y hy).1.rd, (k.tt y hy).2.1⟩, (h.tt y hy).1.cap, (k.tt y hy).2.2⟩, h.pp.cap, h.ch.cap, h.tb.cap, k.m1, k.m2, k.m3, k.z⟩
theorem Tu1.on (h : Tu1 B y lc la ls vz vp w) (hb : Below w.heap.size w w') : Tu1 B y lc la ls vz vp w' := by
  refine ⟨fun e => ?_, fun e e2 => ?_, fun e => ?_⟩
  · obtain ⟨z, h1, h2, h3, h4⟩ := h.c e
    exact ⟨z, h1, h2.on hb, h3, h4.bel hb⟩
  · obtain ⟨g, h1, h2⟩ := h.a e e2
    exact ⟨g, h1, h2.below rfl hb⟩
  · obtain ⟨g, z, h1, h2, h3, h4⟩ := h.s e
    exact ⟨g, z, h1, h2, h3.on hb, h4⟩
theorem Tu1.far {g B' n c : Nat} {l : List Value} (h : Tu1 B y lc la ls vz vp w) (ht : OwnV 27 3 w B' (some ⟨g, 0, none⟩) n c l) (hl : ls = true → la = true) (hne : la = true → vp ≠ .pointer (some ⟨g, 0, none⟩)) (k : Nat) (v : Value) : Tu1 B y lc la ls vz vp (w.setCell ⟨g, k, none⟩ v) := by
  refine ⟨fun e => ?_, fun e e2 => ?_, fun e => ?_⟩
  · obtain ⟨z, h1, h2, h3, h4⟩ := h.c e
    exact ⟨z, h1, CfR.own (h4.far ht k v) (CfC.of h2), h3, h4.far ht k v⟩
  · obtain ⟨g', h1, h2⟩ := h.a e e2
    exact ⟨g', h1, h2.other _ _ (fun q e3 => by injection e3 with e3; injection e3 with e3; intro e4; exact hne e (by rw [h1, e3, e4]))⟩
  · obtain ⟨g', z, h1, h2, h3, h4⟩ := h.s e
    exact ⟨g', z, h1, h2, h3.otherC ht (fun e4 => hne (hl e) (by rw [h1, e4])) k v, h4⟩
theorem Tu1.ptr (h : Tu1 B y lc la ls vz vp w) (e : la = true) : ∃ g, vp = .pointer (some ⟨g, 0, none⟩) ∧ g < w.heap.size := by
  cases hs : ls with
  | false =>
    obtain ⟨g, h1, h2⟩ := h.a e hs
    exact ⟨g, h1, (h2.obk_ge (b := g) rfl).2⟩
  | true =>
    obtain ⟨g, z, h1, _, h3, _⟩ := h.s hs
    exact ⟨g, h1, (h3.s.cf.obk_ge (b := g) rfl).2⟩
end
/-- Their tables' rows differ. -/
def Ap3 (v v' : Value) : Prop := ∀ z z' : Cf, v = cfv z → v' = cfv z' → ∀ k, obk z.A3 = some k → obk z'.A3 ≠ some k
structure TuW (B : Nat) (W0 : World) (y : Cf) (live : Nat → Bool) (a : Act) (w : World) : Prop where
  on : Below B W0 w
  d : Tu1 B y (live 1) (live 4) (live 6) (a.eval (.tmp 13)) (a.eval (.tmp 4)) w
  e : Tu1 B y (live 3) (live 5) (live 7) (a.eval (.tmp 15)) (a.eval (.tmp 5)) w
  ne : live 4 = true → live 5 = true → a.eval (.tmp 4) ≠ a.eval (.tmp 5)
  ap : live 1 = true → live 3 = true → Ap3 (a.eval (.tmp 13)) (a.eval (.tmp 15))
theorem TuW.upd {B : Nat} {W0 : World} {y : Cf} {live : Nat → Bool} {a : Act} {w : World} (h : TuW B W0 y live a w) (i : Nat) (d : Tmp) (v : Value) (hi : i = 0 ∨ i = 2) (hd : d = 12 ∨ d = 14) : TuW B W0 y (Rgs.upd live i) (a.put (some d) v) w := by
  have e : ∀ k, k ≠ i → Rgs.upd live i k = live k := fun k hk => by unfold Rgs.upd; simp [hk]
  have q : ∀ t, d ≠ t → (a.put (some d) v).eval (.tmp t) = a.eval (.tmp t) := fun t ht => Reg.eval_other _ _ _ _ ht
  have h1 := e 1 (by omega)
  have h3 := e 3 (by omega)
  have h4 := e 4 (by omega)
  have h5 := e 5 (by omega)
  have h6 := e 6 (by omega)
  have h7 := e 7 (by omega)
  have k4 := q 4 (by rcases hd with rfl | rfl <;> decide)
  have k5 := q 5 (by rcases hd with rfl | rfl <;> decide)
  have k13 := q 13 (by rcases hd with rfl | rfl <;> decide)
  have k15 := q 15 (by rcases hd with rfl | rfl <;> decide)
  exact ⟨h.on, by rw [h1, h4, h6, k13, k4]; exact h.d, by rw [h3, h5, h7, k15, k5]; exact h.e, by rw [h4, h5, k4, k5]; exact h.ne, by rw [h1, h3, k13, k15]; exact h.ap⟩
/-- What an operation of the copies yields. -/
def TuV (y : Cf) (j : Nat) (v : Value) (w : World) : Prop := (j = 0 ∨ j = 2) → v = cfv y
set_option maxRecDepth 100000 in
set_option maxHeartbeats 16000000 in
theorem turned12_walk (hW : ConfigW) (A : Option Addr) (n cap : Nat) (f : Nat → Int) (w : World) (hA : RdC w w.heap.size A n fun j => .int .i64 (f j)) (hn : n ≤ 140737488351232) :
    Calls Try.prog 4 #[.slice A n cap] w (Ans (.bool true) w) := by
  have HWW := Lib.hid hW
  have HKN := Lib.hid fun V => known12_any hW V
  have HCF := Lib.hid (tape_right A n cap f w hA hn)
  clear hW hA hn
  go_enter Try.func4, Try.ntmps4
  go_wp2_with fail
  refine HCF.out.mono ?_
  rintro e w1 ⟨y, rfl, hyR, hyS, hyz, ⟨hy2, hy3⟩, hb1⟩
  have hbx := bl1 w1 (.cells #[.slice y.A1 y.n1 y.c1, .slice y.A2 y.n2 y.c2, .slice y.A3 y.n3 y.c3] 27)
  have hbox := box_vec w1 (.slice y.A1 y.n1 y.c1) (.slice y.A2 y.n2 y.c2) (.slice y.A3 y.n3 y.c3) 27
  have HRI := Lib.hid (RiX.of hyz)
  have HYR := Lib.hid (hyR.on hbx)
  have HY3 := Lib.hid hy3
  have HY0 : Hid (y.n3 = y.T.length) := Lib.hid hyR.tb.len.symm
  have HYL := Lib.hid hyR.lens
  have HB1 := Lib.hid (hb1.trans (hbx.mono hb1.size))
  dsimp only [cfv]
  clear hyR hyS hyz hy2 hy3 hb1 hbx HCF
  go_upto_region 2 with fail
  generalize w1.alloc (.cells #[.slice y.A1 y.n1 y.c1, .slice y.A2 y.n2 y.c2, .slice y.A3 y.n3 y.c3] 27) = W0 at hbox HYR HB1 ⊢
  generalize w1.heap.size = gb at hbox ⊢
  obtain ⟨m0, m1, m2⟩ := hbox.three
  have hgb := World.block_lt_of_cell? _ _ m0
  have HCP := Lib.hid fun V (hv : Below W0.heap.size W0 V) => HWW.out.copy y V (HYR.out.on hv)
  have HBX := Lib.hid hbox
  clear hbox
  refine Rgs.region (by kernel_rfl) (by kernel_rfl) (TuV y) (TuW W0.heap.size W0 y) ⟨(Below.refl _ _).drew, ⟨fun e => absurd e (by decide), fun e => absurd e (by decide), fun e => absurd e (by decide)⟩, ⟨fun e => absurd e (by decide), fun e => absurd e (by decide), fun e => absurd e (by decide)⟩, fun e => absurd e (by decide), fun e => absurd e (by decide)⟩ (Rgs.steps_of ?_) ?_
  · refine ⟨?_, ?_, ?_, ?_, ?_, ?_, ?_, ?_, trivial⟩
    · intro a w1 live S E D C' h0 hk hW
      have e3 : a.eval (.tmp 3) = .pointer (some ⟨gb, 0, none⟩) := E 3 rfl
      have k0 := (hW.on.cell (p := ⟨gb, 0, none⟩) hgb).trans m0
      have k1 := (hW.on.cell (p := ⟨gb, 1, none⟩) hgb).trans m1
      have k2 := (hW.on.cell (p := ⟨gb, 2, none⟩) hgb).trans m2
      exact Rgs.val rfl (Reg.wanted_free rfl) (cfv y) (by have c := Reg.consts a; generalize a.eval = ρ at *; simp [execOp, go_sem, c.1, c.2, e3, k0, k1, k2, cfv]) (fun _ => rfl) (hW.upd 0 12 _ (by decide) (by decide))
    · intro a w1 live S E D C' h0 hk hW
      have d1 : a.eval (.tmp 12) = cfv y := D 0 rfl _ _ rfl rfl (by decide)
      refine Rgs.call rfl (Reg.wanted_free rfl) 5 #[cfv y] (by have c := Reg.consts a; generalize a.eval = ρ at *; simp [execOp, go_sem, c.1, c.2, d1, cfv]) ?_
      refine (HCP.out w1 hW.on).mono ?_
      rintro e w5 ⟨z, rfl, hzR, hzS, hzO, hb5⟩
      have hz2 : CfO w5 W0.heap.size z := ⟨hzO.pp.weak hW.on.size, hzO.ch.weak hW.on.size, hzO.tb.weak hW.on.size, fun u hu => ⟨(hzO.pt u hu).1.weak hW.on.size, (hzO.pt u hu).2⟩, fun u hu => ⟨(hzO.tt u hu).1.weak hW.on.size, (hzO.tt u hu).2⟩, hzO.d12, hzO.d13, hzO.d23, hzO.dp, hzO.dt, hzO.dq⟩
      have u : ∀ k, k ≠ 1 → Rgs.upd live 1 k = live k := fun k hk => by unfold Rgs.upd; simp [hk]
      have q : ∀ t, (13 : Nat) ≠ t → (a.put (some 13) (cfv z)).eval (.tmp t) = a.eval (.tmp t) := fun t ht => Reg.eval_other _ _ _ _ ht
      have q0 : (a.put (some 13) (cfv z)).eval (.tmp 13) = cfv z := Reg.eval_same _ _ _ (by rw [S]; exact (by decide : 13 < 86))
      have ls0 := Reg.not_live C' h0 (j := 6) rfl rfl
      have hd := (hW.d.on hb5)
      have ho := (hW.e.on hb5)
      have hap : live 3 = true → ∀ z' : Cf, a.eval (.tmp 15) = cfv z' → (∀ k, obk z.A3 = some k → obk z'.A3 ≠ some k) ∧ (∀ k, obk z'.A3 = some k → obk z.A3 ≠ some k) := fun l z' e => by
        obtain ⟨z2, e2, _, _, o2⟩ := hW.e.c l
        rw [e] at e2
        have e3 : z'.A3 = z2.A3 := by
          unfold cfv at e2
          injection e2 with e2
          injection e2 with e2
          simp at e2
          exact e2.2.2.1
        refine ⟨fun k h1 h2 => ?_, fun k h1 h2 => ?_⟩
        · have := (hzO.tb.obk_ge h1).1
          rw [e3] at h2
          have := (o2.tb.obk_ge h2).2
          omega
        · have := (hzO.tb.obk_ge h2).1
          rw [e3] at h1
          have := (o2.tb.obk_ge h1).2
          omega
      refine ⟨_, rfl, (fun h => absurd h (by decide)), ?_, fun j v _ h => h⟩
      refine ⟨hW.on.trans (hb5.mono hW.on.size), ?_, ?_, ?_, ?_⟩
      · rw [u 4 (by decide), u 6 (by decide), q0, q 4 (by decide)]
        exact ⟨fun _ => ⟨z, rfl, hzR, hzS, hz2⟩, hd.a, fun e => by rw [ls0] at e; cases e⟩
      · rw [u 3 (by decide), u 5 (by decide), u 7 (by decide), q 15 (by decide), q 5 (by decide)]
        exact ho
      · rw [u 4 (by decide), u 5 (by decide), q 4 (by decide), q 5 (by decide)]
        exact hW.ne
      · rw [u 3 (by decide), q0, q 15 (by decide)]
        exact fun _ l z1 z2 e1 e2 => by
          have e3 : z1.A3 = z.A3 := by
            unfold cfv at e1
            injection e1 with e1
            injection e1 with e1
            simp at e1
            exact e1.2.2.1.symm
          rw [e3]
          exact (hap l z2 e2).1
    · intro a w1 live S E D C' h0 hk hW
      have e3 : a.eval (.tmp 3) = .pointer (some ⟨gb, 0, none⟩) := E 3 rfl
      have k0 := (hW.on.cell (p := ⟨gb, 0, none⟩) hgb).trans m0
      have k1 := (hW.on.cell (p := ⟨gb, 1, none⟩) hgb).trans m1
      have k2 := (hW.on.cell (p := ⟨gb, 2, none⟩) hgb).trans m2
      exact Rgs.val rfl (Reg.wanted_free rfl) (cfv y) (by have c := Reg.consts a; generalize a.eval = ρ at *; simp [execOp, go_sem, c.1, c.2, e3, k0, k1, k2, cfv]) (fun _ => rfl) (hW.upd 2 14 _ (by decide) (by decide))
    · intro a w1 live S E D C' h0 hk hW
      have d1 : a.eval (.tmp 14) = cfv y := D 2 rfl _ _ rfl rfl (by decide)
      refine Rgs.call rfl (Reg.wanted_free rfl) 5 #[cfv y] (by have c := Reg.consts a; generalize a.eval = ρ at *; simp [execOp, go_sem, c.1, c.2, d1, cfv]) ?_
      refine (HCP.out w1 hW.on).mono ?_
      rintro e w5 ⟨z, rfl, hzR, hzS, hzO, hb5⟩
      have hz2 : CfO w5 W0.heap.size z := ⟨hzO.pp.weak hW.on.size, hzO.ch.weak hW.on.size, hzO.tb.weak hW.on.size, fun u hu => ⟨(hzO.pt u hu).1.weak hW.on.size, (hzO.pt u hu).2⟩, fun u hu => ⟨(hzO.tt u hu).1.weak hW.on.size, (hzO.tt u hu).2⟩, hzO.d12, hzO.d13, hzO.d23, hzO.dp, hzO.dt, hzO.dq⟩
      have u : ∀ k, k ≠ 3 → Rgs.upd live 3 k = live k := fun k hk => by unfold Rgs.upd; simp [hk]
      have q : ∀ t, (15 : Nat) ≠ t → (a.put (some 15) (cfv z)).eval (.tmp t) = a.eval (.tmp t) := fun t ht => Reg.eval_other _ _ _ _ ht
      have q0 : (a.put (some 15) (cfv z)).eval (.tmp 15) = cfv z := Reg.eval_same _ _ _ (by rw [S]; exact (by decide : 15 < 86))
      have ls0 := Reg.not_live C' h0 (j := 7) rfl rfl
      have hd := (hW.e.on hb5)
      have ho := (hW.d.on hb5)
      have hap : live 1 = true → ∀ z' : Cf, a.eval (.tmp 13) = cfv z' → (∀ k, obk z.A3 = some k → obk z'.A3 ≠ some k) ∧ (∀ k, obk z'.A3 = some k → obk z.A3 ≠ some k) := fun l z' e => by
        obtain ⟨z2, e2, _, _, o2⟩ := hW.d.c l
        rw [e] at e2
        have e3 : z'.A3 = z2.A3 := by
          unfold cfv at e2
          injection e2 with e2
          injection e2 with e2
          simp at e2
          exact e2.2.2.1
        refine ⟨fun k h1 h2 => ?_, fun k h1 h2 => ?_⟩
        · have := (hzO.tb.obk_ge h1).1
          rw [e3] at h2
          have := (o2.tb.obk_ge h2).2
          omega
        · have := (hzO.tb.obk_ge h2).1
          rw [e3] at h1
          have := (o2.tb.obk_ge h1).2
          omega
      refine ⟨_, rfl, (fun h => absurd h (by decide)), ?_, fun j v _ h => h⟩
      refine ⟨hW.on.trans (hb5.mono hW.on.size), ?_, ?_, ?_, ?_⟩
      · rw [u 1 (by decide), u 4 (by decide), u 6 (by decide), q 13 (by decide), q 4 (by decide)]
        exact ho
      · rw [u 5 (by decide), u 7 (by decide), q0, q 5 (by decide)]
        exact ⟨fun _ => ⟨z, rfl, hzR, hzS, hz2⟩, hd.a, fun e => by rw [ls0] at e; cases e⟩
      · rw [u 4 (by decide), u 5 (by decide), q 4 (by decide), q 5 (by decide)]
        exact hW.ne
      · rw [u 1 (by decide), q0, q 13 (by decide)]
        exact fun l _ z1 z2 e1 e2 => by
          have e3 : z2.A3 = z.A3 := by
            unfold cfv at e2
            injection e2 with e2
            injection e2 with e2
            simp at e2
            exact e2.2.2.1.symm
          rw [e3]
          exact (hap l z1 e1).2
    · intro a w1 live S E D C' h0 hk hW
      have l6 := Reg.not_live C' h0 (j := 6) rfl rfl
      have hb1 := bl1 w1 (.cells #[.slice none 0 0, .slice none 0 0, .slice none 0 0] 27)
      have u : ∀ k, k ≠ 4 → Rgs.upd live 4 k = live k := fun k hk => by unfold Rgs.upd; simp [hk]
      have q : ∀ t, (4 : Nat) ≠ t → (a.put (some 4) (.pointer (some ⟨w1.heap.size, 0, none⟩))).eval (.tmp t) = a.eval (.tmp t) := fun t ht => Reg.eval_other _ _ _ _ ht
      have q0 : (a.put (some 4) (.pointer (some ⟨w1.heap.size, 0, none⟩))).eval (.tmp 4) = .pointer (some ⟨w1.heap.size, 0, none⟩) := Reg.eval_same _ _ _ (by rw [S]; exact (by decide : 4 < 86))
      have hd := hW.d.on hb1
      have ho := hW.e.on hb1
      have hne : live 5 = true → a.eval (.tmp 5) ≠ .pointer (some ⟨w1.heap.size, 0, none⟩) := fun l e => by
        obtain ⟨g, e2, hg⟩ := hW.e.ptr l
        rw [e] at e2
        injection e2 with e2
        injection e2 with e2
        injection e2 with e2
        omega
      refine Rgs.grow rfl (Reg.wanted_free rfl) (.pointer (some ⟨w1.heap.size, 0, none⟩)) (w1.alloc (.cells #[.slice none 0 0, .slice none 0 0, .slice none 0 0] 27)) (by have c := Reg.consts a; generalize a.eval = ρ at *; simp [execOp, go_sem, c.1, c.2, go_sem]) (fun h => absurd h (by decide)) ⟨hW.on.trans (hb1.mono hW.on.size), ?_, ?_, ?_, ?_⟩ (fun j v _ h => h)
      · rw [u 1 (by decide), u 6 (by decide), q0, q 13 (by decide)]
        exact ⟨hd.c, fun _ _ => ⟨w1.heap.size, rfl, ownV_lit w1 27 3 W0.heap.size #[.slice none 0 0, .slice none 0 0, .slice none 0 0] 1 rfl hW.on.size (by unfold maxLen; omega)⟩, fun e => by rw [l6] at e; cases e⟩
      · rw [u 3 (by decide), u 5 (by decide), u 7 (by decide), q 15 (by decide), q 5 (by decide)]
        exact ho
      · rw [u 5 (by decide), q0, q 5 (by decide)]
        exact fun _ l e => hne l e.symm
      · rw [u 1 (by decide), u 3 (by decide), q 13 (by decide), q 15 (by decide)]
        exact hW.ap
    · intro a w1 live S E D C' h0 hk hW
      have l6 := Reg.not_live C' h0 (j := 7) rfl rfl
      have hb1 := bl1 w1 (.cells #[.slice none 0 0, .slice none 0 0, .slice none 0 0] 27)
      have u : ∀ k, k ≠ 5 → Rgs.upd live 5 k = live k := fun k hk => by unfold Rgs.upd; simp [hk]
      have q : ∀ t, (5 : Nat) ≠ t → (a.put (some 5) (.pointer (some ⟨w1.heap.size, 0, none⟩))).eval (.tmp t) = a.eval (.tmp t) := fun t ht => Reg.eval_other _ _ _ _ ht
      have q0 : (a.put (some 5) (.pointer (some ⟨w1.heap.size, 0, none⟩))).eval (.tmp 5) = .pointer (some ⟨w1.heap.size, 0, none⟩) := Reg.eval_same _ _ _ (by rw [S]; exact (by decide : 5 < 86))
      have hd := hW.e.on hb1
      have ho := hW.d.on hb1
      have hne : live 4 = true → a.eval (.tmp 4) ≠ .pointer (some ⟨w1.heap.size, 0, none⟩) := fun l e => by
        obtain ⟨g, e2, hg⟩ := hW.d.ptr l
        rw [e] at e2
        injection e2 with e2
        injection e2 with e2
        injection e2 with e2
        omega
      refine Rgs.grow rfl (Reg.wanted_free rfl) (.pointer (some ⟨w1.heap.size, 0, none⟩)) (w1.alloc (.cells #[.slice none 0 0, .slice none 0 0, .slice none 0 0] 27)) (by have c := Reg.consts a; generalize a.eval = ρ at *; simp [execOp, go_sem, c.1, c.2, go_sem]) (fun h => absurd h (by decide)) ⟨hW.on.trans (hb1.mono hW.on.size), ?_, ?_, ?_, ?_⟩ (fun j v _ h => h)
      · rw [u 1 (by decide), u 4 (by decide), u 6 (by decide), q 13 (by decide), q 4 (by decide)]
        exact ho
      · rw [u 3 (by decide), u 7 (by decide), q0, q 15 (by decide)]
        exact ⟨hd.c, fun _ _ => ⟨w1.heap.size, rfl, ownV_lit w1 27 3 W0.heap.size #[.slice none 0 0, .slice none 0 0, .slice none 0 0] 1 rfl hW.on.size (by unfold maxLen; omega)⟩, fun e => by rw [l6] at e; cases e⟩
      · rw [u 4 (by decide), q0, q 4 (by decide)]
        exact fun l _ e => hne l e
      · rw [u 1 (by decide), u 3 (by decide), q 13 (by decide), q 15 (by decide)]
        exact hW.ap
    · intro a w1 live S E D C' h0 hk hW
      obtain ⟨z, qz, hzR, hzS, hzO⟩ := hW.d.c (hk 1 rfl)
      obtain ⟨g, qp, ho⟩ := hW.d.a (hk 4 rfl) h0
      have u : ∀ k, k ≠ 6 → Rgs.upd live 6 k = live k := fun k hk => by unfold Rgs.upd; simp [hk]
      have z0 : w1.cell? ⟨g, 0, none⟩ = some (.slice none 0 0) := World.ownsRow.cellAt ho 0 (by omega)
      have z1 : w1.cell? ⟨g, 1, none⟩ = some (.slice none 0 0) := World.ownsRow.cellAt ho 1 (by omega)
      have z2 : w1.cell? ⟨g, 2, none⟩ = some (.slice none 0 0) := World.ownsRow.cellAt ho 2 (by omega)
      have f0 := World.ownsRow.frozenAt ho 0
      have f1 := World.ownsRow.frozenAt ho 1
      have f2 := World.ownsRow.frozenAt ho 2
      have hgB := (ho.obk_ge (b := g) rfl).1
      have s1 := ho.set 0 (.slice z.A1 z.n1 z.c1) (by show 0 < 3; omega)
      have s2 := s1.set 1 (.slice z.A2 z.n2 z.c2) (by show 1 < 3; omega)
      have s3 := s2.set 2 (.slice z.A3 z.n3 z.c3) (by show 2 < 3; omega)
      have hbl : Below W0.heap.size W0 (((w1.setCell ⟨g, 0, none⟩ (.slice z.A1 z.n1 z.c1)).setCell ⟨g, 1, none⟩ (.slice z.A2 z.n2 z.c2)).setCell ⟨g, 2, none⟩ (.slice z.A3 z.n3 z.c3)) := ((hW.on.setCell (p := ⟨g, 0, none⟩) hgB _).setCell (p := ⟨g, 1, none⟩) hgB _).setCell (p := ⟨g, 2, none⟩) hgB _
      have hO3 := ((hzO.far ho 0 (.slice z.A1 z.n1 z.c1)).far s1 1 (.slice z.A2 z.n2 z.c2)).far s2 2 (.slice z.A3 z.n3 z.c3)
      have hcc := CfC.of hzR
      have hR3 := CfR.own hO3 hcc
      have hne : live 5 = true → a.eval (.tmp 5) ≠ .pointer (some ⟨g, 0, none⟩) := fun l e => hW.ne (hk 4 rfl) l (by rw [qp, e])
      have hll : live 7 = true → live 5 = true := fun l => C' _ _ rfl l 5 rfl
      have ho3 := ((hW.e.far ho hll hne 0 (.slice z.A1 z.n1 z.c1)).far s1 hll hne 1 (.slice z.A2 z.n2 z.c2)).far s2 hll hne 2 (.slice z.A3 z.n3 z.c3)
      have qz' : a.eval (.tmp 13) = .agg #[.slice z.A1 z.n1 z.c1, .slice z.A2 z.n2 z.c2, .slice z.A3 z.n3 z.c3] := qz
      refine Rgs.store rfl (Reg.wanted_free rfl) (((w1.setCell ⟨g, 0, none⟩ (.slice z.A1 z.n1 z.c1)).setCell ⟨g, 1, none⟩ (.slice z.A2 z.n2 z.c2)).setCell ⟨g, 2, none⟩ (.slice z.A3 z.n3 z.c3)) ?_ (fun h => absurd h (by decide)) ⟨hbl, ?_, ?_, ?_, ?_⟩ (fun j v _ h => h)
      · have c := Reg.consts a
        generalize a.eval = ρ at *
        simp [execOp, go_sem, c.1, c.2, qz', qp, z0, z1, z2, f0, f1, f2]
      · rw [u 1 (by decide), u 4 (by decide), Rgs.upd_self]
        exact ⟨fun _ => ⟨z, qz, hR3, hzS, hO3⟩, (fun _ e => by cases e), fun _ => ⟨g, z, qp, qz, ⟨⟨s3, ⟨hcc.l1, hO3.pp⟩, ⟨hcc.l2, hO3.ch⟩, ⟨hcc.l3, hO3.tb⟩⟩, fun u hu => (hO3.pt u hu).1, fun u hu => (hO3.tt u hu).1, hcc⟩, hzS⟩⟩
      · rw [u 3 (by decide), u 5 (by decide), u 7 (by decide)]
        exact ho3
      · rw [u 4 (by decide), u 5 (by decide)]
        exact hW.ne
      · rw [u 1 (by decide), u 3 (by decide)]
        exact hW.ap
    · intro a w1 live S E D C' h0 hk hW
      obtain ⟨z, qz, hzR, hzS, hzO⟩ := hW.e.c (hk 3 rfl)
      obtain ⟨g, qp, ho⟩ := hW.e.a (hk 5 rfl) h0
      have u : ∀ k, k ≠ 7 → Rgs.upd live 7 k = live k := fun k hk => by unfold Rgs.upd; simp [hk]
      have z0 : w1.cell? ⟨g, 0, none⟩ = some (.slice none 0 0) := World.ownsRow.cellAt ho 0 (by omega)
      have z1 : w1.cell? ⟨g, 1, none⟩ = some (.slice none 0 0) := World.ownsRow.cellAt ho 1 (by omega)
      have z2 : w1.cell? ⟨g, 2, none⟩ = some (.slice none 0 0) := World.ownsRow.cellAt ho 2 (by omega)
      have f0 := World.ownsRow.frozenAt ho 0
      have f1 := World.ownsRow.frozenAt ho 1
      have f2 := World.ownsRow.frozenAt ho 2
      have hgB := (ho.obk_ge (b := g) rfl).1
      have s1 := ho.set 0 (.slice z.A1 z.n1 z.c1) (by show 0 < 3; omega)
      have s2 := s1.set 1 (.slice z.A2 z.n2 z.c2) (by show 1 < 3; omega)
      have s3 := s2.set 2 (.slice z.A3 z.n3 z.c3) (by show 2 < 3; omega)
      have hbl : Below W0.heap.size W0 (((w1.setCell ⟨g, 0, none⟩ (.slice z.A1 z.n1 z.c1)).setCell ⟨g, 1, none⟩ (.slice z.A2 z.n2 z.c2)).setCell ⟨g, 2, none⟩ (.slice z.A3 z.n3 z.c3)) := ((hW.on.setCell (p := ⟨g, 0, none⟩) hgB _).setCell (p := ⟨g, 1, none⟩) hgB _).setCell (p := ⟨g, 2, none⟩) hgB _
      have hO3 := ((hzO.far ho 0 (.slice z.A1 z.n1 z.c1)).far s1 1 (.slice z.A2 z.n2 z.c2)).far s2 2 (.slice z.A3 z.n3 z.c3)
      have hcc := CfC.of hzR
      have hR3 := CfR.own hO3 hcc
      have hne : live 4 = true → a.eval (.tmp 4) ≠ .pointer (some ⟨g, 0, none⟩) := fun l e => hW.ne l (hk 5 rfl) (by rw [qp, e])
      have hll : live 6 = true → live 4 = true := fun l => C' _ _ rfl l 4 rfl
      have ho3 := ((hW.d.far ho hll hne 0 (.slice z.A1 z.n1 z.c1)).far s1 hll hne 1 (.slice z.A2 z.n2 z.c2)).far s2 hll hne 2 (.slice z.A3 z.n3 z.c3)
      have qz' : a.eval (.tmp 15) = .agg #[.slice z.A1 z.n1 z.c1, .slice z.A2 z.n2 z.c2, .slice z.A3 z.n3 z.c3] := qz
      refine Rgs.store rfl (Reg.wanted_free rfl) (((w1.setCell ⟨g, 0, none⟩ (.slice z.A1 z.n1 z.c1)).setCell ⟨g, 1, none⟩ (.slice z.A2 z.n2 z.c2)).setCell ⟨g, 2, none⟩ (.slice z.A3 z.n3 z.c3)) ?_ (fun h => absurd h (by decide)) ⟨hbl, ?_, ?_, ?_, ?_⟩ (fun j v _ h => h)
      · have c := Reg.consts a
        generalize a.eval = ρ at *
        simp [execOp, go_sem, c.1, c.2, qz', qp, z0, z1, z2, f0, f1, f2]
      · rw [u 1 (by decide), u 4 (by decide), u 6 (by decide)]
        exact ho3
      · rw [u 3 (by decide), u 5 (by decide), Rgs.upd_self]
        exact ⟨fun _ => ⟨z, qz, hR3, hzS, hO3⟩, (fun _ e => by cases e), fun _ => ⟨g, z, qp, qz, ⟨⟨s3, ⟨hcc.l1, hO3.pp⟩, ⟨hcc.l2, hO3.ch⟩, ⟨hcc.l3, hO3.tb⟩⟩, fun u hu => (hO3.pt u hu).1, fun u hu => (hO3.tt u hu).1, hcc⟩, hzS⟩⟩
      · rw [u 4 (by decide), u 5 (by decide)]
        exact hW.ne
      · rw [u 1 (by decide), u 3 (by decide)]
        exact hW.ap
  · intro a w3 live hs hd E D Hl hW
    obtain ⟨gd, zd, p4, q13, hD, hSd⟩ := hW.d.s (Hl 6 (by decide))
    obtain ⟨ge, ze, p5, q15, hE, hSe⟩ := hW.e.s (Hl 7 (by decide))
    have hne := hW.ne (Hl 4 (by decide)) (Hl 5 (by decide))
    have hap := hW.ap (Hl 1 (by decide)) (Hl 3 (by decide)) zd ze q13 q15
    rw [p4, p5] at hne
    have hde : gd ≠ ge := fun e => hne (by rw [e])
    rw [Rgs.act_ws a _ _ hs hd E [12, 13, 14, 15, 4, 5] (by kernel_rfl)]
    simp only [List.foldl, List.setIfInBounds_toArray, List.set_cons_succ, List.set_cons_zero, p4, p5]
    have HD := Lib.hid hD
    have HE := Lib.hid hE
    have HAP := Lib.hid hap
    have HON := Lib.hid hW.on
    clear E D Hl hW p4 p5 q13 q15 hne hD hE hap HCP
    generalize a.eval = ρ
    clear a hs hd
    have hn3 : zd.n3 = y.n3 := by rw [← HD.out.s.tb.len, hSd.2.1]; exact HY0.out.symm
    have hk3 : ze.n3 = y.n3 := by rw [← HE.out.s.tb.len, hSe.2.1]; exact HY0.out.symm
    have HRD := Lib.hid (RiX.of (x := zd) (by rw [whF_same hSd HD.out.r.lens HYL.out, HRI.out.ok]))
    have HRE := Lib.hid (RiX.of (x := ze) (by rw [whF_same hSe HE.out.r.lens HYL.out, HRI.out.ok]))
    have hy3 := HY3.out
    have hy1 : 1 ≤ y.n3 := by rw [HY0.out]; exact HRI.out.sz.2.2.2.1
    clear hSd hSe
    obtain ⟨E1, E2, E3, n1, n2, n3, c1, c2, c3, P, C, T⟩ := zd
    obtain ⟨F1, F2, F3, k1, k2, k3, b1, b2, b3, Q, D, U⟩ := ze
    dsimp only at hn3 hk3
    obtain ⟨g3, e3, hBg3, hg3⟩ := HD.out.s.tb.block (by show 0 < n3; omega)
    obtain ⟨h3, e4, hBh3, hh3⟩ := HE.out.s.tb.block (by show 0 < k3; omega)
    have e3 : E3 = some ⟨g3, 0, none⟩ := e3
    have e4 : F3 = some ⟨h3, 0, none⟩ := e4
    subst e3
    subst e4
    have hgh : g3 ≠ h3 := fun e => HAP.out g3 rfl (by rw [e]; rfl)
    clear HAP
    rw [← hn3] at hk3 hy3 hy1
    subst hk3
    clear hn3 HY3
    have HBW := Lib.hid (HB1.out.trans (HON.out.mono HB1.out.size))
    obtain ⟨kk, hkk⟩ : ∃ kk, kk = k3 := ⟨_, rfl⟩
    have HEK : Hid (CvS W0.heap.size ge ⟨F1, F2, some ⟨h3, 0, none⟩, k1, k2, kk, b1, b2, b3, Q, D, U⟩ w3) := by rw [hkk]; exact HE
    have HKK := Lib.hid hkk
    clear HE hkk
    rcases (by omega : k3 = 1 ∨ k3 = 2) with rfl | rfl
    · obtain ⟨m0, m1, m2⟩ := HD.out.s.cells
      dsimp only at m0 m1 m2
      go_wp2_with fail
      go_loopw [7] (fun s wx => ∃ (i : Nat) (T' : List NdT), s = .int .i64 i ∧ i ≤ 0 ∧ CvS W0.heap.size gd ⟨E1, E2, some ⟨g3, 0, none⟩, n1, n2, 1, c1, c2, c3, P, C, T'⟩ wx ∧ CvS W0.heap.size ge ⟨F1, F2, some ⟨h3, 0, none⟩, k1, k2, kk, b1, b2, b3, Q, D, U⟩ wx ∧ Below W0.heap.size W0 wx ∧ (i = 0 → T' = T) ∧ (∀ t ∈ T', t ∈ T) ∧ T'.length = 1) (fun s _ => 2 - (intOf s).toNat)
      case atStart => exact ⟨0, T, rfl, by omega, HD.out, HEK.out, HON.out, fun _ => rfl, fun t ht => ht, HD.out.s.tb.len⟩
      case round =>
        obtain ⟨i, T', rfl, hi, hD, hE, hb, h0, hm, hl⟩ := hrel
        have HD2 := Lib.hid hD
        have HE2 := Lib.hid hE
        have HBB := Lib.hid hb
        have HM := Lib.hid hm
        clear HD HEK HON HBW m0 m1 m2 hD hE hb hm
        obtain rfl : i = 0 := by omega
        obtain ⟨m0, m1, m2⟩ := HE2.out.s.cells
        have hk0 : 0 < kk := by have := HKK.out; omega
        have hk2 : kk ≤ 2 := by have := HKK.out; omega
        have hki : (0 : Int) < (kk : Int) := by omega
        obtain ⟨u0, hu0⟩ : ∃ u0, U[0]? = some u0 := ⟨_, List.getElem?_eq_getElem (by have : U.length = kk := HE2.out.s.tb.len; omega)⟩
        have hum := List.mem_of_getElem? hu0
        have HUM := Lib.hid hum
        have hbl := bl1 wr (.cells #[.slice u0.A u0.n u0.c] 34)
        have hE7 := HE2.out.on hbl
        have hD7 := HD2.out.on hbl
        have hown := hE7.s.tb.own
        have hr2 := rdV_new wr #[.slice u0.A u0.n u0.c] 34 ([u0].flatMap tcn) rfl
        have hsz : W0.heap.size ≤ (wr.alloc (.cells #[.slice u0.A u0.n u0.c] 34)).heap.size := Nat.le_trans HBB.out.size hbl.size
        obtain ⟨zt, ft⟩ := HE2.out.s.tb.cell tcn_len (i := 0) (k := 0) (v := .slice u0.A u0.n u0.c) hu0 (by omega) rfl
        have zt : wr.cell? ⟨h3, 0, none⟩ = some (.slice u0.A u0.n u0.c) := zt
        have HST : Hid (∀ A4 w4, Grew (some ⟨h3, 0, none⟩) A4 (wr.alloc (.cells #[.slice u0.A u0.n u0.c] 34)) w4 → w4.cell? ⟨ge, 2, none⟩ = some (.slice (some ⟨h3, 0, none⟩) kk b3) ∧ w4.frozen? ⟨ge, 2, none⟩ = false) := Lib.hid fun A4 w4 hg => by
          have h := hE7.s.cf.grew hE7.s.tb.own (by decide) hg
          exact ⟨World.ownsRow.cellAt h 2 (by omega), World.ownsRow.frozenAt h 2⟩
        have HFI : Hid (∀ A4 c4 w4, OwnV 34 1 w4 W0.heap.size A4 (kk + 1) c4 ((U ++ [u0]).flatMap tcn) → Below W0.heap.size (wr.alloc (.cells #[.slice u0.A u0.n u0.c] 34)) w4 → Grew (some ⟨h3, 0, none⟩) A4 (wr.alloc (.cells #[.slice u0.A u0.n u0.c] 34)) w4 → CvS W0.heap.size ge ⟨F1, F2, A4, k1, k2, kk + 1, b1, b2, c4, Q, D, U ++ [u0]⟩ (w4.setCell ⟨ge, 2, none⟩ (.slice A4 (kk + 1 : Nat) c4)) ∧ CvS W0.heap.size gd ⟨E1, E2, some ⟨g3, 0, none⟩, n1, n2, 1, c1, c2, c3, P, C, T'⟩ (w4.setCell ⟨ge, 2, none⟩ (.slice A4 (kk + 1 : Nat) c4)) ∧ Below W0.heap.size W0 (w4.setCell ⟨ge, 2, none⟩ (.slice A4 (kk + 1 : Nat) c4))) := Lib.hid fun A4 c4 w4 ho hb hg => by
          have h := hE7.tabs hg hum ho (by have := HKK.out; omega)
          have h4 := hD7.grewT hE7.s.tb.own (fun k e e2 => hgh (by injection e with e; injection e2 with e2; rw [show g3 = k from e, show h3 = k from e2])) hg
          have hc4 := hE7.s.cf.grew hE7.s.tb.own (by decide) hg
          exact ⟨h, h4.otherC hc4 hde 2 _, ((HBB.out.trans (hbl.mono HBB.out.size)).trans hb).setCell (p := ⟨ge, 2, none⟩) (hc4.obk_ge (b := ge) rfl).1 _⟩
        have m2a := (hbl.cell (p := ⟨ge, 2, none⟩) (World.block_lt_of_cell? _ _ m2)).trans m2
        have zta := (hbl.cell (p := ⟨h3, 0, none⟩) (World.block_lt_of_cell? _ _ zt)).trans zt
        clear hE7 hD7 hbl
        dsimp only at m0 m1 m2 m2a
        go_upto_region 9 with fail
        go_region_law (refine step_appX elNN rfl (.tmp 58) (.tmp 63) rfl rfl W0.heap.size (some ⟨h3, 0, none⟩) kk b3 _ rfl hown _ 1 1 _ _ rfl hr2 rfl Nat.one_pos (tcn_one _) (by omega) (by unfold maxLen; omega) hsz (kk + 1) rfl ((U ++ [u0]).flatMap tcn) (by rw [List.flatMap_append]) ?_; intro A4 c4 w4 hw4 hb4 hg4; obtain ⟨s0, s1⟩ := HST.out A4 w4 hg4.drew)
        all_goals
          obtain ⟨hE9, hD9, hb9⟩ := HFI.out A4 c4 w4 hw4 ⟨hb4.os, hb4.tape, hb4.output, hb4.size, hb4.block⟩ hg4.drew
          have HUL : Hid (U.length = kk) := Lib.hid HE2.out.s.tb.len
          clear s0 s1 hw4 hb4 hg4 HST HFI hown hr2 hsz m0 m1 m2 zt ft m2a zta HD2 HE2 HBB
          generalize w4.setCell ⟨ge, 2, none⟩ (.slice A4 (kk + 1 : Nat) c4) = W9 at hE9 hD9 hb9 ⊢
          have R1 : (whF y).1 = 0 := by rw [HRI.out.ok]
          have R2 : (whF ⟨E1, E2, some ⟨g3, 0, none⟩, n1, n2, 1, c1, c2, c3, P, C, T'⟩).1 = 0 := by rw [(HRD.out.tabs (T' := T') ⟨by omega, by omega⟩ HM.out).ok]
          have R3 : (whF ⟨F1, F2, A4, k1, k2, kk + 1, b1, b2, c4, Q, D, U ++ [u0]⟩).1 = 0 := by
            have hul := HUL.out
            have hkk := HKK.out
            rw [(HRE.out.tabs (T' := U ++ [u0]) ⟨by rw [List.length_append]; show 1 ≤ U.length + 1; omega, by rw [List.length_append]; show U.length + 1 ≤ 3; omega⟩ (fun t ht => by
              rcases List.mem_append.1 ht with ht | ht
              · exact ht
              · obtain rfl : t = u0 := by simpa using ht
                exact HUM.out)).ok]
          obtain ⟨x0, x1, x2⟩ := (HBX.out.on hb9).three
          have HW1 := Lib.hid (HWW.out.right y W9 (HYR.out.on hb9))
          have HE9 := Lib.hid hE9
          have HD9 := Lib.hid hD9
          have HB9 := Lib.hid hb9
          have RR2 := Lib.hid R2
          have RR3 := Lib.hid R3
          rw [R1] at HW1
          dsimp only [cfv] at HW1
          clear hE9 hD9 hb9 R1 R2 R3
          go_wp2_with fail
          refine HW1.out.mono ?_
          rintro e w10 ⟨rfl, hb10⟩
          have HD10 := Lib.hid (HD9.out.on hb10)
          have HE10 := Lib.hid (HE9.out.on hb10)
          have HB10 := Lib.hid (HB9.out.trans (hb10.mono HB9.out.size))
          clear hb10 HD9 HE9 HB9 x0 x1 x2 HW1
          have HW2 := Lib.hid (HWW.out.right _ w10 HD10.out.r)
          rw [RR2.out] at HW2
          dsimp only [cfv] at HW2
          obtain ⟨x0, x1, x2⟩ := HD10.out.s.cells
          dsimp only at x0 x1 x2
          go_wp2_with fail
          refine HW2.out.mono ?_
          rintro e w11 ⟨rfl, hb11⟩
          have HE11 := Lib.hid (HE10.out.on hb11)
          have HB11 := Lib.hid (HB10.out.trans (hb11.mono HB10.out.size))
          clear hb11 HD10 HE10 HB10 x0 x1 x2 HW2
          have HW3 := Lib.hid (HWW.out.right _ w11 HE11.out.r)
          rw [RR3.out] at HW3
          dsimp only [cfv] at HW3
          obtain ⟨x0, x1, x2⟩ := HE11.out.s.cells
          dsimp only at x0 x1 x2
          go_wp2_with fail
          refine HW3.out.mono ?_
          rintro e w12 ⟨rfl, hb12⟩
          have HB12 := Lib.hid (HB11.out.trans (hb12.mono HB11.out.size))
          clear hb12 HE11 HB11 x0 x1 x2 HW3
          have HKV := Lib.hid (HKN.out w12)
          go_wp2_with fail
          refine HKV.out.mono ?_
          rintro e w13 ⟨rfl, hb13⟩
          have HB13 := Lib.hid ((HB1.out.trans (HB12.out.mono HB1.out.size)).trans (hb13.mono (Nat.le_trans HB1.out.size HB12.out.size)))
          clear hb13 HKV
          go_wp2_with fail
          go_ret
          exact Ans.mk rfl HB13.out
    · obtain ⟨m0, m1, m2⟩ := HD.out.s.cells
      dsimp only at m0 m1 m2
      go_wp2_with fail
      go_loopw [7] (fun s wx => ∃ (i : Nat) (T' : List NdT), s = .int .i64 i ∧ i ≤ 1 ∧ CvS W0.heap.size gd ⟨E1, E2, some ⟨g3, 0, none⟩, n1, n2, 2, c1, c2, c3, P, C, T'⟩ wx ∧ CvS W0.heap.size ge ⟨F1, F2, some ⟨h3, 0, none⟩, k1, k2, kk, b1, b2, b3, Q, D, U⟩ wx ∧ Below W0.heap.size W0 wx ∧ (i = 0 → T' = T) ∧ (∀ t ∈ T', t ∈ T) ∧ T'.length = 2) (fun s _ => 2 - (intOf s).toNat)
      case atStart => exact ⟨0, T, rfl, by omega, HD.out, HEK.out, HON.out, fun _ => rfl, fun t ht => ht, HD.out.s.tb.len⟩
      case round =>
        obtain ⟨i, T', rfl, hi, hD, hE, hb, h0, hm, hl⟩ := hrel
        have HD2 := Lib.hid hD
        have HE2 := Lib.hid hE
        have HBB := Lib.hid hb
        have HM := Lib.hid hm
        clear HD HEK HON HBW m0 m1 m2 hD hE hb hm
        rcases (by omega : i = 0 ∨ i = 1) with rfl | rfl
        · obtain rfl := h0 rfl
          obtain ⟨t0, ht0⟩ : ∃ t0, T'[0]? = some t0 := ⟨_, List.getElem?_eq_getElem (by omega)⟩
          obtain ⟨t1, ht1⟩ : ∃ t1, T'[1]? = some t1 := ⟨_, List.getElem?_eq_getElem (by omega)⟩
          have hm0 := List.mem_of_getElem? ht0
          have hm1 := List.mem_of_getElem? ht1
          have hok1 := HD2.out.ok.tt t1 hm1
          have hok0 := HD2.out.ok.tt t0 hm0
          have hcv1 := HD2.out.tab ht0 t1 (HD2.out.tt t1 hm1) hok1.1 hok1.2.1 (HD2.out.ok.z.2.2.2.2 t1 hm1)
          have hx1 : (T'.set 0 t1)[1]? = some t1 := by rw [List.getElem?_set_ne (by omega)]; exact ht1
          have hcv0 := hcv1.tab hx1 t0 ((HD2.out.tt t0 hm0).other _ _ ((HD2.out.tt t0 hm0).ne' HD2.out.s.tb.own (by decide))) hok0.1 hok0.2.1 (HD2.out.ok.z.2.2.2.2 t0 hm0)
          have hE1 := HE2.out.otherT HD2.out.s.tb.own (fun e => hgh (by injection e with e; exact e.symm)) 0 (.slice t1.A t1.n t1.c)
          have hE0 := hE1.otherT hcv1.s.tb.own (fun e => hgh (by injection e with e; exact e.symm)) 1 (.slice t0.A t0.n t0.c)
          have hb0 := (HBB.out.setCell (p := ⟨g3, 0, none⟩) hBg3 (.slice t1.A t1.n t1.c)).setCell (p := ⟨g3, 1, none⟩) hBg3 (.slice t0.A t0.n t0.c)
          obtain ⟨z0, f0⟩ := HD2.out.s.tb.cell tcn_len (i := 0) (k := 0) (v := .slice t0.A t0.n t0.c) ht0 (by omega) rfl
          obtain ⟨z1, f1⟩ := HD2.out.s.tb.cell tcn_len (i := 1) (k := 0) (v := .slice t1.A t1.n t1.c) ht1 (by omega) rfl
          have z0 : wr.cell? ⟨g3, 0, none⟩ = some (.slice t0.A t0.n t0.c) := z0
          have f0 : wr.frozen? ⟨g3, 0, none⟩ = false := f0
          have z1 : wr.cell? ⟨g3, 1, none⟩ = some (.slice t1.A t1.n t1.c) := z1
          have f1 : wr.frozen? ⟨g3, 1, none⟩ = false := f1
          have HC0 := Lib.hid (hcv0.on (Below.refl _ _).drew)
          have HC1 := Lib.hid (hE0.on (Below.refl _ _).drew)
          have HC2 := Lib.hid hb0.drew
          obtain ⟨m0, m1, m2⟩ := HD2.out.s.cells
          dsimp only at m0 m1 m2
          clear hcv0 hcv1 hE1 hE0 hb0 hok0 hok1
          go_upto_region 7 with fail
          go_region
          all_goals
            generalize ((wr.setCell ⟨g3, 0, none⟩ (.slice t1.A t1.n t1.c)).setCell ⟨g3, 1, none⟩ (.slice t0.A t0.n t0.c)).drew = W7 at HC0 HC1 HC2 ⊢
            clear z0 z1 f0 f1 m0 m1 m2 HD2 HE2 HBB
            go_wp2_with fail
            go_roundw
            case rel => exact ⟨1, (T'.set 0 t1).set 1 t0, by go_num, by omega, HC0.out, HC1.out, HC2.out, (fun h => by cases h), (fun t ht => by
              rcases List.mem_or_eq_of_mem_set ht with ht | rfl
              · rcases List.mem_or_eq_of_mem_set ht with ht | rfl
                · exact ht
                · exact hm1
              · exact hm0), by rw [List.length_set, List.length_set]; exact hl⟩
            case measure => simp [intOf]
        · obtain ⟨m0, m1, m2⟩ := HE2.out.s.cells
          have hk0 : 0 < kk := by have := HKK.out; omega
          have hk2 : kk ≤ 2 := by have := HKK.out; omega
          have hki : (0 : Int) < (kk : Int) := by omega
          obtain ⟨u0, hu0⟩ : ∃ u0, U[0]? = some u0 := ⟨_, List.getElem?_eq_getElem (by have : U.length = kk := HE2.out.s.tb.len; omega)⟩
          have hum := List.mem_of_getElem? hu0
          have HUM := Lib.hid hum
          have hbl := bl1 wr (.cells #[.slice u0.A u0.n u0.c] 34)
          have hE7 := HE2.out.on hbl
          have hD7 := HD2.out.on hbl
          have hown := hE7.s.tb.own
          have hr2 := rdV_new wr #[.slice u0.A u0.n u0.c] 34 ([u0].flatMap tcn) rfl
          have hsz : W0.heap.size ≤ (wr.alloc (.cells #[.slice u0.A u0.n u0.c] 34)).heap.size := Nat.le_trans HBB.out.size hbl.size
          obtain ⟨zt, ft⟩ := HE2.out.s.tb.cell tcn_len (i := 0) (k := 0) (v := .slice u0.A u0.n u0.c) hu0 (by omega) rfl
          have zt : wr.cell? ⟨h3, 0, none⟩ = some (.slice u0.A u0.n u0.c) := zt
          have HST : Hid (∀ A4 w4, Grew (some ⟨h3, 0, none⟩) A4 (wr.alloc (.cells #[.slice u0.A u0.n u0.c] 34)) w4 → w4.cell? ⟨ge, 2, none⟩ = some (.slice (some ⟨h3, 0, none⟩) kk b3) ∧ w4.frozen? ⟨ge, 2, none⟩ = false) := Lib.hid fun A4 w4 hg => by
            have h := hE7.s.cf.grew hE7.s.tb.own (by decide) hg
            exact ⟨World.ownsRow.cellAt h 2 (by omega), World.ownsRow.frozenAt h 2⟩
          have HFI : Hid (∀ A4 c4 w4, OwnV 34 1 w4 W0.heap.size A4 (kk + 1) c4 ((U ++ [u0]).flatMap tcn) → Below W0.heap.size (wr.alloc (.cells #[.slice u0.A u0.n u0.c] 34)) w4 → Grew (some ⟨h3, 0, none⟩) A4 (wr.alloc (.cells #[.slice u0.A u0.n u0.c] 34)) w4 → CvS W0.heap.size ge ⟨F1, F2, A4, k1, k2, kk + 1, b1, b2, c4, Q, D, U ++ [u0]⟩ (w4.setCell ⟨ge, 2, none⟩ (.slice A4 (kk + 1 : Nat) c4)) ∧ CvS W0.heap.size gd ⟨E1, E2, some ⟨g3, 0, none⟩, n1, n2, 2, c1, c2, c3, P, C, T'⟩ (w4.setCell ⟨ge, 2, none⟩ (.slice A4 (kk + 1 : Nat) c4)) ∧ Below W0.heap.size W0 (w4.setCell ⟨ge, 2, none⟩ (.slice A4 (kk + 1 : Nat) c4))) := Lib.hid fun A4 c4 w4 ho hb hg => by
            have h := hE7.tabs hg hum ho (by have := HKK.out; omega)
            have h4 := hD7.grewT hE7.s.tb.own (fun k e e2 => hgh (by injection e with e; injection e2 with e2; rw [show g3 = k from e, show h3 = k from e2])) hg
            have hc4 := hE7.s.cf.grew hE7.s.tb.own (by decide) hg
            exact ⟨h, h4.otherC hc4 hde 2 _, ((HBB.out.trans (hbl.mono HBB.out.size)).trans hb).setCell (p := ⟨ge, 2, none⟩) (hc4.obk_ge (b := ge) rfl).1 _⟩
          have m2a := (hbl.cell (p := ⟨ge, 2, none⟩) (World.block_lt_of_cell? _ _ m2)).trans m2
          have zta := (hbl.cell (p := ⟨h3, 0, none⟩) (World.block_lt_of_cell? _ _ zt)).trans zt
          clear hE7 hD7 hbl
          dsimp only at m0 m1 m2 m2a
          go_upto_region 9 with fail
          go_region_law (refine step_appX elNN rfl (.tmp 58) (.tmp 63) rfl rfl W0.heap.size (some ⟨h3, 0, none⟩) kk b3 _ rfl hown _ 1 1 _ _ rfl hr2 rfl Nat.one_pos (tcn_one _) (by omega) (by unfold maxLen; omega) hsz (kk + 1) rfl ((U ++ [u0]).flatMap tcn) (by rw [List.flatMap_append]) ?_; intro A4 c4 w4 hw4 hb4 hg4; obtain ⟨s0, s1⟩ := HST.out A4 w4 hg4.drew)
          all_goals
            obtain ⟨hE9, hD9, hb9⟩ := HFI.out A4 c4 w4 hw4 ⟨hb4.os, hb4.tape, hb4.output, hb4.size, hb4.block⟩ hg4.drew
            have HUL : Hid (U.length = kk) := Lib.hid HE2.out.s.tb.len
            clear s0 s1 hw4 hb4 hg4 HST HFI hown hr2 hsz m0 m1 m2 zt ft m2a zta HD2 HE2 HBB
            generalize w4.setCell ⟨ge, 2, none⟩ (.slice A4 (kk + 1 : Nat) c4) = W9 at hE9 hD9 hb9 ⊢
            have R1 : (whF y).1 = 0 := by rw [HRI.out.ok]
            have R2 : (whF ⟨E1, E2, some ⟨g3, 0, none⟩, n1, n2, 2, c1, c2, c3, P, C, T'⟩).1 = 0 := by rw [(HRD.out.tabs (T' := T') ⟨by omega, by omega⟩ HM.out).ok]
            have R3 : (whF ⟨F1, F2, A4, k1, k2, kk + 1, b1, b2, c4, Q, D, U ++ [u0]⟩).1 = 0 := by
              have hul := HUL.out
              have hkk := HKK.out
              rw [(HRE.out.tabs (T' := U ++ [u0]) ⟨by rw [List.length_append]; show 1 ≤ U.length + 1; omega, by rw [List.length_append]; show U.length + 1 ≤ 3; omega⟩ (fun t ht => by
                rcases List.mem_append.1 ht with ht | ht
                · exact ht
                · obtain rfl : t = u0 := by simpa using ht
                  exact HUM.out)).ok]
            obtain ⟨x0, x1, x2⟩ := (HBX.out.on hb9).three
            have HW1 := Lib.hid (HWW.out.right y W9 (HYR.out.on hb9))
            have HE9 := Lib.hid hE9
            have HD9 := Lib.hid hD9
            have HB9 := Lib.hid hb9
            have RR2 := Lib.hid R2
            have RR3 := Lib.hid R3
            rw [R1] at HW1
            dsimp only [cfv] at HW1
            clear hE9 hD9 hb9 R1 R2 R3
            go_wp2_with fail
            refine HW1.out.mono ?_
            rintro e w10 ⟨rfl, hb10⟩
            have HD10 := Lib.hid (HD9.out.on hb10)
            have HE10 := Lib.hid (HE9.out.on hb10)
            have HB10 := Lib.hid (HB9.out.trans (hb10.mono HB9.out.size))
            clear hb10 HD9 HE9 HB9 x0 x1 x2 HW1
            have HW2 := Lib.hid (HWW.out.right _ w10 HD10.out.r)
            rw [RR2.out] at HW2
            dsimp only [cfv] at HW2
            obtain ⟨x0, x1, x2⟩ := HD10.out.s.cells
            dsimp only at x0 x1 x2
            go_wp2_with fail
            refine HW2.out.mono ?_
            rintro e w11 ⟨rfl, hb11⟩
            have HE11 := Lib.hid (HE10.out.on hb11)
            have HB11 := Lib.hid (HB10.out.trans (hb11.mono HB10.out.size))
            clear hb11 HD10 HE10 HB10 x0 x1 x2 HW2
            have HW3 := Lib.hid (HWW.out.right _ w11 HE11.out.r)
            rw [RR3.out] at HW3
            dsimp only [cfv] at HW3
            obtain ⟨x0, x1, x2⟩ := HE11.out.s.cells
            dsimp only at x0 x1 x2
            go_wp2_with fail
            refine HW3.out.mono ?_
            rintro e w12 ⟨rfl, hb12⟩
            have HB12 := Lib.hid (HB11.out.trans (hb12.mono HB11.out.size))
            clear hb12 HE11 HB11 x0 x1 x2 HW3
            have HKV := Lib.hid (HKN.out w12)
            go_wp2_with fail
            refine HKV.out.mono ?_
            rintro e w13 ⟨rfl, hb13⟩
            have HB13 := Lib.hid ((HB1.out.trans (HB12.out.mono HB1.out.size)).trans (hb13.mono (Nat.le_trans HB1.out.size HB12.out.size)))
            clear hb13 HKV
            go_wp2_with fail
            go_ret
            exact Ans.mk rfl HB13.out
end Go.Proofs.Ytgoeikihjffeoaa
