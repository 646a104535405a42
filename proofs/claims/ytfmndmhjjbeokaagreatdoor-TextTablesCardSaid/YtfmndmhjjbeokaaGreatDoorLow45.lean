import Derived.Test.YtfmndmhjjbeokaaGreatDoorLow44
import Derived.Test.YtfmndmhjjbeokaaGreatDoorLow29
import Derived.Test.YtfmndmhjjbeokaaGreatDoorLow40
import Derived.Test.YtfmndmhjjbeokaaGreatDoorLow38
namespace Go.Proofs.YtfmndmhjjbeokaaGreatDoor
open Go.RowKit Tab
set_option linter.unusedSimpArgs false
set_option linter.unusedVariables false
structure CfC (x : Cf) : Prop where
  l1 : x.P.length = x.n1
  l2 : x.C.length = x.n2
  l3 : x.T.length = x.n3
  pt : ∀ y ∈ x.P, In64 y.1.per ∧ y.1.name.size ≤ 140737488351232 ∧ y.2.length = y.1.pn ∧ y.1.pn ≤ 140737488351232
  tt : ∀ y ∈ x.T, y.l.length = y.n ∧ (∀ z ∈ y.l, NdIn z) ∧ y.n ≤ 140737488351232
  m1 : x.n1 ≤ 140737488351232
  m2 : x.n2 ≤ 140737488351232
  m3 : x.n3 ≤ 140737488351232
  z : SizX x
theorem CfC.of {w : World} {x : Cf} (h : CfR w x) : CfC x :=
  ⟨h.pp.len, h.ch.len, h.tb.len, fun y hy => ⟨(h.pt y hy).1.per, (h.pt y hy).1.name, (h.pt y hy).1.procs.len, (h.pt y hy).2.2⟩, fun y hy => ⟨(h.tt y hy).rd.len, (h.tt y hy).rd.bd, (h.tt y hy).few⟩, h.m1, h.m2, h.m3, h.z⟩
structure CvS (B gc : Nat) (x : Cf) (w : World) : Prop where
  s : CpS B gc x.A1 x.A2 x.A3 x.n1 x.n2 x.n3 x.c1 x.c2 x.c3 x.P x.C x.T w
  pt : ∀ y ∈ x.P, OwnV 62 2 w B y.1.pa y.1.pn y.1.pc (y.2.flatMap prc)
  tt : ∀ y ∈ x.T, OwnV 54 3 w B y.A y.n y.c (ns y.l)
  ok : CfC x
section
variable {B gc : Nat} {x : Cf} {w w' : World}
theorem CvS.on (h : CvS B gc x w) (hb : Below w.heap.size w w') : CvS B gc x w' := ⟨h.s.on hb, fun y hy => (h.pt y hy).below rfl hb, fun y hy => (h.tt y hy).below rfl hb, h.ok⟩
theorem CvS.r (h : CvS B gc x w) : CfR w x :=
  ⟨h.s.pp.rdb, h.s.ch.rdb, h.s.tb.rdb, fun y hy => ⟨⟨(h.ok.pt y hy).1, (h.ok.pt y hy).2.1, ⟨(h.ok.pt y hy).2.2.1, (h.pt y hy).rd⟩⟩, (h.pt y hy).cap, (h.ok.pt y hy).2.2.2⟩, fun y hy => ⟨⟨(h.ok.tt y hy).1, (h.tt y hy).rd, (h.ok.tt y hy).2.1⟩, (h.tt y hy).cap, (h.ok.tt y hy).2.2⟩, h.s.pp.cap, h.s.ch.cap, h.s.tb.cap, h.ok.m1, h.ok.m2, h.ok.m3, h.ok.z⟩
theorem CvS.new {x : Cf} {w : World} {B : Nat} (h : CfO w B x) (c : CfR w x) (hB : B ≤ w.heap.size) : CvS B w.heap.size x (w.alloc (.cells #[.slice x.A1 x.n1 x.c1, .slice x.A2 x.n2 x.c2, .slice x.A3 x.n3 x.c3] 31)) :=
  have hb := bl1 w (.cells #[.slice x.A1 x.n1 x.c1, .slice x.A2 x.n2 x.c2, .slice x.A3 x.n3 x.c3] 31)
  ⟨⟨ownV_lit w 31 3 B #[.slice x.A1 x.n1 x.c1, .slice x.A2 x.n2 x.c2, .slice x.A3 x.n3 x.c3] 1 rfl hB (by unfold maxLen; omega), ⟨c.pp.len, h.pp.below rfl hb⟩, ⟨c.ch.len, h.ch.below rfl hb⟩, ⟨c.tb.len, h.tb.below rfl hb⟩⟩, fun y hy => (h.pt y hy).1.below rfl hb, fun y hy => (h.tt y hy).1.below rfl hb, CfC.of c⟩
end
section
variable {B gc g : Nat} {A1 A2 A3 : Option Addr} {n1 n2 n3 c1 c2 c3 : Nat} {P : List Pq} {C : List ChV} {T : List NdT} {w w' : World}
theorem OwnV.grew {E E' s s' B B' n c : Nat} {A A0 A' : Option Addr} {l l0 : List Value} {n0 c0 : Nat} (h : OwnV E s w B A n c l) (h0 : OwnV E' s' w B' A0 n0 c0 l0) (hE : E ≠ E') (hg : Grew A0 A' w w') : OwnV E s w' B A n c l :=
  h.keep' fun k hk => hg.keep (h.obk_ge hk).2 fun e => h.ne h0 hE k hk e
end
end Go.Proofs.YtfmndmhjjbeokaaGreatDoor
namespace Go.Proofs.YtfmndmhjjbeokaaGreatDoor
set_option maxRecDepth 100000
open Go.RowKit Tab Txt
set_option linter.unusedSimpArgs false
set_option linter.unusedVariables false
structure PchW (W0 : World) (L : List Value) (live : Nat → Bool) (a : Act) (w : World) : Prop where
  on : Below W0.heap.size W0 w
  un : live 16 = true → live 17 = false → ∃ g, a.eval (.tmp 6) = .pointer (some ⟨g, 0, none⟩) ∧ W0.heap.size ≤ g ∧ OwnV 66 6 w W0.heap.size (some ⟨g, 0, none⟩) 1 1 [.int .i64 0, .int .i64 0, .bool false, .int .i64 0, .int .u32 0, .int .i64 0]
  at_ : live 17 = true → ∃ g, a.eval (.tmp 6) = .pointer (some ⟨g, 0, none⟩) ∧ W0.heap.size ≤ g ∧ OwnV 66 6 w W0.heap.size (some ⟨g, 0, none⟩) 1 1 L
theorem PchW.upd {W0 : World} {L : List Value} {live : Nat → Bool} {a : Act} {w : World} (h : PchW W0 L live a w) (i : Nat) (d : Tmp) (v : Value) (hi : i ≠ 16) (hj : i ≠ 17) (hd : d ≠ 6) : PchW W0 L (Rgs.upd live i) (a.put (some d) v) w := by
  have e : Rgs.upd live i 16 = live 16 := by unfold Rgs.upd; simp [Ne.symm hi]
  have e2 : Rgs.upd live i 17 = live 17 := by unfold Rgs.upd; simp [Ne.symm hj]
  refine ⟨h.on, fun h1 h2 => ?_, fun h1 => ?_⟩
  · rw [Reg.eval_other _ _ _ _ hd]; exact h.un (e ▸ h1) (e2 ▸ h2)
  · rw [Reg.eval_other _ _ _ _ hd]; exact h.at_ (e2 ▸ h1)
end Go.Proofs.YtfmndmhjjbeokaaGreatDoor
namespace Go.Proofs.YtfmndmhjjbeokaaGreatDoor
set_option maxRecDepth 100000
open Go.RowKit Tab Txt
set_option linter.unusedSimpArgs false
set_option linter.unusedVariables false
def stripP (y : Pq) : Pq := (⟨y.1.name, y.1.bud, y.1.per, y.1.sched, y.1.stop, none, y.2.length, y.2.length, y.1.h0, y.1.h1, y.1.h2, y.1.h3, y.1.h4⟩, y.2)
theorem names_strip (P : List Pq) : namesP (P.map stripP) = namesP P := by
  unfold namesP
  rw [List.map_map]
  rfl
structure NmsR (N : List (List UInt8)) : Prop where
  ok : ∀ s ∈ N, ∃ t, nameF t = true ∧ s = toL t
  one : ∀ (i j : Nat) (s : List UInt8), i < j → N[i]? = some s → N[j]? ≠ some s
theorem NmsR.at_ {N : List (List UInt8)} (h : NmsR N) {p : Int} (hp : 0 ≤ p ∧ p < N.length) : ∃ t, nameF t = true ∧ nmP N p = toL t ∧ findF N (nmP N p) = p := by
  have hlt : p.toNat < N.length := by omega
  have e := List.getElem?_eq_getElem hlt
  have hn := nmP_get hp.1 e
  obtain ⟨t, h1, h2⟩ := h.ok _ (List.mem_of_getElem? e)
  refine ⟨t, h1, by rw [hn, h2], ?_⟩
  rw [hn, findF_at e fun j hj he => h.one j _ _ hj he e]
  omega
theorem NmsR.ne {N : List (List UInt8)} (h : NmsR N) {b : UInt8} (hb : b.toNat < 48) (p : Int) : b ∉ nmP N p := by
  unfold nmP
  split
  · rw [List.getD_eq_getElem?_getD]
    cases e : N[p.toNat]? with
    | none => simp
    | some s =>
      obtain ⟨t, h1, h2⟩ := h.ok _ (List.mem_of_getElem? e)
      rw [Option.getD_some, h2]
      exact name_ne h1 (.inl hb)
  · simp
structure TbIn (n : Nat) (f : F) : Prop where
  one : ∃ x k, f = .cons x k .nil
  ok : f.ok
  dep : f.dep ≤ 16
  sz : f.sz ≤ 128
  nl : ∀ y ∈ f.flat, y.n.toNat ≤ lim40
  p : ∀ y ∈ f.flat, y.k = 1 → 0 ≤ y.p ∧ y.p < n
end Go.Proofs.YtfmndmhjjbeokaaGreatDoor
