/- A configuration of one's own: what is stored into it; where it is wrong then. -/
import Derived.Test.YtebcfiifaclniaaGreatZi
import Derived.Test.YtebcfiifaclniaaGreatYn
namespace Go.Proofs.YtebcfiifaclniaaGreat
open Go.RowKit Tab
set_option linter.unusedSimpArgs false
set_option linter.unusedVariables false

/-- What a configuration says, wherever it lies. -/
structure CfC (x : Cf) : Prop where
  l1 : x.P.length = x.n1
  l2 : x.C.length = x.n2
  l3 : x.T.length = x.n3
  pt : ∀ y ∈ x.P, In64 y.1.per ∧ y.1.name.size ≤ 140737488351232 ∧ y.2.length = y.1.pn ∧ y.1.pn ≤ 140737488351232
  tt : ∀ y ∈ x.T, y.l.length = y.n ∧ (∀ z ∈ y.l, NdIn z) ∧ y.n ≤ 140737488351232
  m1 : x.n1 ≤ 140737488351232
  m2 : x.n2 ≤ 140737488351232
  m3 : x.n3 ≤ 140737488351232
  z : SizX x
theorem CfC.of {w : World} {x : Cf} (h : CfR w x) : CfC x :=
  ⟨h.pp.len, h.ch.len, h.tb.len, fun y hy => ⟨(h.pt y hy).1.per, (h.pt y hy).1.name, (h.pt y hy).1.procs.len, (h.pt y hy).2.2⟩, fun y hy => ⟨(h.tt y hy).rd.len, (h.tt y hy).rd.bd, (h.tt y hy).few⟩, h.m1, h.m2, h.m3, h.z⟩
/-- A configuration that lies in rows of its own; its own cells at gc. -/
structure CvS (B gc : Nat) (x : Cf) (w : World) : Prop where
  s : CpS B gc x.A1 x.A2 x.A3 x.n1 x.n2 x.n3 x.c1 x.c2 x.c3 x.P x.C x.T w
  pt : ∀ y ∈ x.P, OwnV 41 2 w B y.1.pa y.1.pn y.1.pc (y.2.flatMap prc)
  tt : ∀ y ∈ x.T, OwnV 43 3 w B y.A y.n y.c (ns y.l)
  ok : CfC x
section
variable {B gc : Nat} {x : Cf} {w w' : World}
theorem CvS.on (h : CvS B gc x w) (hb : Below w.heap.size w w') : CvS B gc x w' := ⟨h.s.on hb, fun y hy => (h.pt y hy).below rfl hb, fun y hy => (h.tt y hy).below rfl hb, h.ok⟩
theorem CvS.r (h : CvS B gc x w) : CfR w x :=
  ⟨h.s.pp.rdb, h.s.ch.rdb, h.s.tb.rdb, fun y hy => ⟨⟨(h.ok.pt y hy).1, (h.ok.pt y hy).2.1, ⟨(h.ok.pt y hy).2.2.1, (h.pt y hy).rd⟩⟩, (h.pt y hy).cap, (h.ok.pt y hy).2.2.2⟩, fun y hy => ⟨⟨(h.ok.tt y hy).1, (h.tt y hy).rd, (h.ok.tt y hy).2.1⟩, (h.tt y hy).cap, (h.ok.tt y hy).2.2⟩, h.s.pp.cap, h.s.ch.cap, h.s.tb.cap, h.ok.m1, h.ok.m2, h.ok.m3, h.ok.z⟩
/-- A copy, its cells laid anew. -/
theorem CvS.new {x : Cf} {w : World} {B : Nat} (h : CfO w B x) (c : CfR w x) (hB : B ≤ w.heap.size) : CvS B w.heap.size x (w.alloc (.cells #[.slice x.A1 x.n1 x.c1, .slice x.A2 x.n2 x.c2, .slice x.A3 x.n3 x.c3] 27)) :=
  have hb := bl1 w (.cells #[.slice x.A1 x.n1 x.c1, .slice x.A2 x.n2 x.c2, .slice x.A3 x.n3 x.c3] 27)
  ⟨⟨ownV_lit w 27 3 B #[.slice x.A1 x.n1 x.c1, .slice x.A2 x.n2 x.c2, .slice x.A3 x.n3 x.c3] 1 rfl hB (by unfold maxLen; omega), ⟨c.pp.len, h.pp.below rfl hb⟩, ⟨c.ch.len, h.ch.below rfl hb⟩, ⟨c.tb.len, h.tb.below rfl hb⟩⟩, fun y hy => (h.pt y hy).1.below rfl hb, fun y hy => (h.tt y hy).1.below rfl hb, CfC.of c⟩
end
section
variable {B gc g : Nat} {A1 A2 A3 : Option Addr} {n1 n2 n3 c1 c2 c3 : Nat} {P : List Pq} {C : List ChV} {T : List NdT} {w w' : World}
/-- A table put in the place of another one. -/
theorem CvS.tab (h : CvS B gc ⟨A1, A2, some ⟨g, 0, none⟩, n1, n2, n3, c1, c2, c3, P, C, T⟩ w) {i : Nat} {x : NdT} (hx : T[i]? = some x) (y : NdT) (ho : OwnV 43 3 w B y.A y.n y.c (ns y.l)) (hl : y.l.length = y.n) (hz : ∀ z ∈ y.l, NdIn z) (hn : y.n * 24 ≤ 140737488351232) :
    CvS B gc ⟨A1, A2, some ⟨g, 0, none⟩, n1, n2, n3, c1, c2, c3, P, C, T.set i y⟩ (w.setCell ⟨g, i, none⟩ (.slice y.A y.n y.c)) := by
  have htb := h.s.tb.own
  refine ⟨h.s.putT hx rfl, fun z hz => (h.pt z hz).other _ _ ((h.pt z hz).ne' htb (by decide)), fun z hz => ?_, ⟨h.ok.l1, h.ok.l2, by show (T.set i y).length = n3; rw [List.length_set]; exact h.ok.l3, h.ok.pt, fun z hz => ?_, h.ok.m1, h.ok.m2, h.ok.m3, h.ok.z.1, h.ok.z.2.1, h.ok.z.2.2.1, h.ok.z.2.2.2.1, fun z hz => ?_⟩⟩
  · rcases List.mem_or_eq_of_mem_set hz with hz | rfl
    · exact (h.tt z hz).other _ _ ((h.tt z hz).ne' htb (by decide))
    · exact ho.other _ _ (ho.ne' htb (by decide))
  · rcases List.mem_or_eq_of_mem_set hz with hz | rfl
    · exact h.ok.tt z hz
    · exact ⟨hl, ‹_›, by omega⟩
  · rcases List.mem_or_eq_of_mem_set hz with hz | rfl
    · exact h.ok.z.2.2.2.2 z hz
    · exact hn
/-- A partition's field put in. -/
theorem CvS.part (h : CvS B gc ⟨some ⟨g, 0, none⟩, A2, A3, n1, n2, n3, c1, c2, c3, P, C, T⟩ w) {i k : Nat} {x y : Pq} {v : Value} (hx : P[i]? = some x) (hk : k < 11) (hy : pcq y = (pcq x).set k v) (ho : OwnV 41 2 w B y.1.pa y.1.pn y.1.pc (y.2.flatMap prc)) (hc : In64 y.1.per ∧ y.1.name.size ≤ 140737488351232 ∧ y.2.length = y.1.pn ∧ y.1.pn * 16 ≤ 140737488351232) :
    CvS B gc ⟨some ⟨g, 0, none⟩, A2, A3, n1, n2, n3, c1, c2, c3, P.set i y, C, T⟩ (w.setCell ⟨g, i * 11 + k, none⟩ v) := by
  have hpp := h.s.pp.own
  refine ⟨h.s.put hx hk hy, fun z hz => ?_, fun z hz => (h.tt z hz).other _ _ ((h.tt z hz).ne' hpp (by decide)), ⟨by show (P.set i y).length = n1; rw [List.length_set]; exact h.ok.l1, h.ok.l2, h.ok.l3, fun z hz => ?_, h.ok.tt, h.ok.m1, h.ok.m2, h.ok.m3, h.ok.z.1, h.ok.z.2.1, h.ok.z.2.2.1, fun z hz => ?_, h.ok.z.2.2.2.2⟩⟩
  · rcases List.mem_or_eq_of_mem_set hz with hz | rfl
    · exact (h.pt z hz).other _ _ ((h.pt z hz).ne' hpp (by decide))
    · exact ho.other _ _ (ho.ne' hpp (by decide))
  · rcases List.mem_or_eq_of_mem_set hz with hz | rfl
    · exact h.ok.pt z hz
    · exact ⟨hc.1, hc.2.1, hc.2.2.1, by omega⟩
  · rcases List.mem_or_eq_of_mem_set hz with hz | rfl
    · exact h.ok.z.2.2.2.1 z hz
    · exact hc.2.2.2
theorem OwnV.grew {E E' s s' B B' n c : Nat} {A A0 A' : Option Addr} {l l0 : List Value} {n0 c0 : Nat} (h : OwnV E s w B A n c l) (h0 : OwnV E' s' w B' A0 n0 c0 l0) (hE : E ≠ E') (hg : Grew A0 A' w w') : OwnV E s w' B A n c l :=
  h.keep' fun k hk => hg.keep (h.obk_ge hk).2 fun e => h.ne h0 hE k hk e
/-- A channel more. -/
theorem CvS.chan (h : CvS B gc ⟨A1, A2, A3, n1, n2, n3, c1, c2, c3, P, C, T⟩ w) {A' : Option Addr} {c' : Nat} {x : ChV} (hg : Grew A2 A' w w') (ho : OwnV 47 6 w' B A' (n2 + 1) c' ((C ++ [x]).flatMap cc)) (hn : (n2 + 1) * 48 ≤ 140737488351232) :
    CvS B gc ⟨A1, A', A3, n1, n2 + 1, n3, c1, c', c3, P, C ++ [x], T⟩ (w'.setCell ⟨gc, 1, none⟩ (.slice A' (n2 + 1 : Nat) c')) := by
  have hch := h.s.ch.own
  have c1' := h.s.cf.grew hch (by decide) hg
  have p1 := h.s.pp.own.grew hch (by decide) hg
  have t1 := h.s.tb.own.grew hch (by decide) hg
  refine ⟨⟨c1'.set 1 _ (by show 1 < 3; omega), ⟨h.s.pp.len, p1.other _ _ (p1.ne' c1' (by decide))⟩, ⟨by rw [List.length_append, h.s.ch.len]; rfl, ho.other _ _ (ho.ne' c1' (by decide))⟩, ⟨h.s.tb.len, t1.other _ _ (t1.ne' c1' (by decide))⟩⟩, fun y hy => ?_, fun y hy => ?_, ⟨h.ok.l1, by show (C ++ [x]).length = n2 + 1; rw [List.length_append, h.s.ch.len]; rfl, h.ok.l3, h.ok.pt, h.ok.tt, h.ok.m1, by show n2 + 1 ≤ _; omega, h.ok.m3, h.ok.z.1, hn, h.ok.z.2.2⟩⟩
  · have p := (h.pt y hy).grew hch (by decide) hg
    exact p.other _ _ (p.ne' c1' (by decide))
  · have p := (h.tt y hy).grew hch (by decide) hg
    exact p.other _ _ (p.ne' c1' (by decide))
end
/-- Where it is wrong, once something is put in. -/
theorem ptE_right {P : List Pq} {k : Nat} {x : Pq} (hx : P[k]? = some x) (h : ptE P k = 0) : nameF x.1.name = true ∧ (P.take k).any (fun y => decide (y.1.name = x.1.name)) = false ∧ partF x.1 x.2 = true := by
  unfold ptE at h
  rw [hx] at h
  have h : ptW P k x = 0 := h
  unfold ptW at h
  split at h
  · cases h
  · rename_i h1
    split at h
    · rename_i h2
      simp only [Bool.or_eq_true, Bool.not_eq_true', not_or] at h1
      exact ⟨by simpa using h1.1, by simpa using h1.2, h2⟩
    · cases h
theorem ptE_set_low {P : List Pq} {j k : Nat} {y : Pq} (h : j < k) : ptE (P.set k y) j = ptE P j := by
  unfold ptE
  rw [List.getElem?_set_ne (by omega)]
  cases P[j]? with
  | none => rfl
  | some x =>
    show ptW _ j x = ptW _ j x
    unfold ptW
    rw [List.take_set_of_le (by omega)]
theorem ptE_set_procs {P : List Pq} {k : Nat} {x y : Pq} (hx : P[k]? = some x) (h : ptE P k = 0) (hn : y.1.name = x.1.name) (hp : partF y.1 y.2 = false) : ptE (P.set k y) k = 16 := by
  obtain ⟨h1, h2, _⟩ := ptE_right hx h
  have hk := (List.getElem?_eq_some_iff.1 hx).1
  unfold ptE
  rw [List.getElem?_set_self hk]
  show ptW _ k y = 16
  unfold ptW
  rw [List.take_set_of_le (Nat.le_refl _), hn, h1, h2, hp]
  rfl
theorem ptE_set_name {P : List Pq} {k : Nat} {x y : Pq} (hx : P[k]? = some x) (hn : nameF y.1.name = false) : ptE (P.set k y) k = 15 := by
  have hk := (List.getElem?_eq_some_iff.1 hx).1
  unfold ptE
  rw [List.getElem?_set_self hk]
  show ptW _ k y = 15
  unfold ptW
  rw [hn]
  rfl
theorem chE_more {C : List ChV} {n j : Nat} {x : ChV} (h : j < C.length) : chE (C ++ [x]) n j = chE C n j := by
  unfold chE
  rw [List.getElem?_append_left h]
theorem chE_last {C : List ChV} {n : Nat} {x : ChV} (h : chanF x n = false) : chE (C ++ [x]) n C.length = 17 := by
  unfold chE
  rw [List.getElem?_append_right (Nat.le_refl _), Nat.sub_self]
  show (if chanF x n = true then (0 : Int) else 17) = 17
  rw [h]
  rfl
theorem tbW_nil (P : List Pq) (C : List ChV) : tbW P C [] = 12 := by
  unfold tbW
  have h : ofF [] = (rn 0, []) := ofF_none (by simp [wholeB])
  rw [h]
  rfl
end Go.Proofs.YtebcfiifaclniaaGreat
