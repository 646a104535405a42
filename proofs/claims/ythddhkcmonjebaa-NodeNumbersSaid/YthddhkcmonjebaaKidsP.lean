/- The places of a node's children, by the program. -/
import Derived.Test.YthddhkcmonjebaaKids
namespace Go.Proofs.Ythddhkcmonjebaa
open Go.RowKit Tab
set_option linter.unusedSimpArgs false
set_option linter.unusedVariables false

/-- Tables behind one another end where the node's does. -/
theorem pos_fit {l : List Nd} {a : Nat} (h : size l (a : Int) ≠ 0) : ∃ x, l[a]? = some x ∧ fine x = true ∧ ∀ j, j ≤ kn x → pos l (a + 1) j ≤ l.length := by
  obtain ⟨x, k, t, hok, _, h2, h3, h4⟩ := size_tree h
  rw [Int.toNat_natCast] at h3
  have hd : l.drop (a + 1) = k.flat ++ t := by
    rw [← List.drop_drop, h3]
    rfl
  refine ⟨x, ?_, hok.1, fun j hj => (pos_dr hok.2.2.1 hd (by omega) j (by rw [hok.2.1]; exact hj)).2.2.2⟩
  have : (l.drop a)[0]? = some x := by rw [h3]; rfl
  simpa using this
set_option maxRecDepth 100000 in
set_option maxHeartbeats 1600000 in
theorem kids_in (A : Option Addr) (n cap : Nat) (l : List Nd) (a : Nat) (w : World) (h : RdN w w.heap.size A n l) (hc : n ≤ cap) (hn : n ≤ 1099511627776) (ha : a < n) (hs : size l (a : Int) ≠ 0) :
    Calls Try.prog 15 #[.slice A n cap, .int .i64 a] w (MadeI (kids l a) w) := by
  obtain ⟨x, hx, hf, hpos⟩ := pos_fit hs
  have hkd : kids l (a : Int) = plc l (a + 1) (kn x) := by
    unfold kids
    rw [if_neg hs, Int.toNat_natCast, hx]
    rfl
  rw [hkd]
  have hK := kz_kn hf
  have hm := kn_le hf
  rw [h.len] at hpos
  obtain ⟨xk, xp, xn⟩ := x
  generalize kn ⟨xk, xp, xn⟩ = m at hpos hK hm ⊢
  have HX := Lib.hid hx
  have HK := Lib.hid hK
  have HP := Lib.hid hpos
  have HS := Lib.hid hs
  clear hx hK hkd hf hpos
  generalize hSd : size l (a : Int) = S at hs HS
  have HSD := Lib.hid hSd
  have hs0 : 0 < S := by omega
  have hmk := run_makeI m (by omega)
  have hza : l.length = n := h.len
  have HL := Lib.hid hza
  clear hSd hs hza
  have hca : ¬ cap = a := by omega
  go_enter Try.func15, Try.ntmps15
  go_wp2_with fail
  refine (size_any A n cap l a w h hc hn).mono ?_
  rw [HSD.out]
  rintro e w1 ⟨rfl, hb1⟩
  obtain ⟨ad, x, rfl, _, hx, hin, c0, c1, c2⟩ := (h.on hb1).at_ ha
  obtain ⟨yk, yp, yn⟩ := x
  rw [HX.out] at hx
  injection hx with hx
  injection hx with e1 e2 e3
  subst e1 e2 e3
  clear hin
  go_wp2_with fail
  refine (kids1_any _ _ _ _).mono ?_
  rw [HK.out]
  rintro e w2 ⟨rfl, hb2⟩
  go_wp2_with fail
  have hb3 : Below w.heap.size w w2 := hb1.trans (hb2.mono hb1.size)
  have ho : OwnV 3 1 (w2.alloc (.cells (madeCells #[.int .i64 0] m) 3)) w.heap.size (some ⟨w2.heap.size, 0, none⟩) m m (is (plc l (a + 1) 0 ++ List.replicate (m - 0) 0)) := by
    have := ownV_lit w2 3 1 w.heap.size (madeCells #[.int .i64 0] m) m (by simp [size_madeCells]) hb3.size (by unfold maxLen; omega)
    rw [made_ints] at this
    exact this
  have hbl : Below w.heap.size w (w2.alloc (.cells (madeCells #[.int .i64 0] m) 3)) := hb3.alloc hb3.size _
  have hgl := hb3.size
  have hnd := h.on hbl
  clear c0 c1 c2 hmk
  generalize w2.alloc (.cells (madeCells #[.int .i64 0] m) 3) = w3 at ho hbl hnd ⊢
  generalize w2.heap.size = g at ho hgl ⊢
  clear hb3 hb1 hb2
  go_loopw [6, 22] (fun pl s wr => ∃ i : Nat, i ≤ m ∧ s = .int .i64 i ∧ pl = .int .i64 (pos l (a + 1) i : Nat) ∧ OwnV 3 1 wr w.heap.size (some ⟨g, 0, none⟩) m m (is (plc l (a + 1) i ++ List.replicate (m - i) 0)) ∧ Below w.heap.size w wr) (fun _ s _ => m - (intOf s).toNat)
  case atStart => exact ⟨0, by omega, rfl, ret_num (by simp [pos]), ho, hbl⟩
  case round =>
    obtain ⟨i, hi, rfl, rfl, hw, hb⟩ := hrel
    clear ho hbl hnd
    by_cases hlt : i < m
    · have hcell : wr.cell? ⟨g, i, none⟩ = some ((is (plc l (a + 1) i ++ List.replicate (m - i) 0))[i]'(by have := hw.len; omega)) := by
        rw [World.ownsRow.cellAt hw i (by omega)]
        exact List.getElem?_eq_getElem _
      generalize (is (plc l (a + 1) i ++ List.replicate (m - i) 0))[i]'(by have := hw.len; omega) = old at hcell
      have hfree := World.ownsRow.frozenAt hw i
      have hst := (World.ownsRow.stored hw i (.int .i64 (pos l (a + 1) i : Int))).1
      rw [plc_set l (a + 1) m i hlt] at hst
      have hp1 := HP.out i (by omega)
      have hp2 : pos l (a + 1) i + size l (pos l (a + 1) i : Nat) ≤ n := HP.out (i + 1) (by omega)
      have HPS : Hid (pos l (a + 1) (i + 1) = pos l (a + 1) i + size l (pos l (a + 1) i : Nat)) := Lib.hid rfl
      clear hw
      generalize pos l (a + 1) i = P at hp1 hp2 HPS hst hcell ⊢
      have hbs := hb.setCell (p := ⟨g, i, none⟩) hgl (.int .i64 (P : Int))
      go_wp2_with fail
      refine (size_any (some ad) n cap l (P : Int) _ (h.on hbs) hc hn).mono ?_
      generalize size l (P : Int) = Z at HPS hp2 ⊢
      rintro e w4 ⟨rfl, hb4⟩
      go_wp2_with fail
      go_roundw
      case rel => exact ⟨i + 1, by omega, by go_num, ret_num (by rw [HPS.out]; omega), (OwnV.below hst rfl hb4), hbs.trans (hb4.mono hbs.size)⟩
      case measure => simp [intOf]; omega
    · have hge : m ≤ i := by omega
      go_wp2_with fail
      go_ret
      have e : i = m := by omega
      subst e
      rw [Nat.sub_self, List.replicate_zero, List.append_nil] at hw
      exact MadeI.mk hw hb
theorem kids_none (l : List Nd) (a : Int) (h : size l a = 0) : kids l a = [] := by unfold kids; rw [if_pos h]
theorem madeI_nil (w w' : World) (hb : Below w.heap.size w w') : MadeI [] w (.returned (.slice none 0 0)) w' := ⟨none, 0, 0, rfl, ⟨rfl, RdV.nil⟩, Nat.le_refl _, hb⟩
set_option maxHeartbeats 400000 in
theorem kids_out (A : Option Addr) (n cap : Nat) (l : List Nd) (a : Int) (w : World) (h : RdN w w.heap.size A n l) (hc : n ≤ cap) (hn : n ≤ 1099511627776) (hs : size l a = 0) :
    Calls Try.prog 15 #[.slice A n cap, .int .i64 a] w (MadeI [] w) := by
  have HS := Lib.hid hs
  clear hs
  go_enter Try.func15, Try.ntmps15
  go_wp2_with fail
  refine (size_any A n cap l a w h hc hn).mono ?_
  rw [HS.out]
  rintro e w1 ⟨rfl, hb1⟩
  go_wp2_with fail
  go_ret
  exact madeI_nil _ _ hb1
theorem kids_any (A : Option Addr) (n cap : Nat) (l : List Nd) (a : Int) (w : World) (h : RdN w w.heap.size A n l) (hc : n ≤ cap) (hn : n ≤ 1099511627776) :
    Calls Try.prog 15 #[.slice A n cap, .int .i64 a] w (MadeI (kids l a) w) := by
  by_cases hs : size l a = 0
  · rw [kids_none l a hs]
    exact kids_out A n cap l a w h hc hn hs
  · obtain ⟨x, k, t, _, h1, h2, _⟩ := size_tree hs
    obtain ⟨a', rfl⟩ := Int.eq_ofNat_of_zero_le h1
    exact kids_in A n cap l a' w h hc hn (by have := h.len; omega) hs
end Go.Proofs.Ythddhkcmonjebaa
