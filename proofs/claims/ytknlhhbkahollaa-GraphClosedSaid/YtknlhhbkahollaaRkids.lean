/- The places of a node's children, by the document's own answer. -/
import Derived.Test.YtknlhhbkahollaaKidsM
namespace Go.Proofs.Ytknlhhbkahollaa
open Go.RowKit Tab
set_option linter.unusedSimpArgs false
set_option linter.unusedVariables false

/-- It answers a row of numbers in a new block. -/
def MadeJ (l : List Int) (w : World) (e : Ending) (w' : World) : Prop := ∃ A n c, e = .returned (.slice A n c) ∧ RdI w' w'.heap.size A n l ∧ n ≤ c ∧ Below w.heap.size w w' ∧ ∀ ad, A = some ad → w.heap.size ≤ ad.block
theorem OwnV.newer {E s : Nat} {w : World} {B n c : Nat} {A : Option Addr} {l : List Value} (h : OwnV E s w B A n c l) : ∀ ad, A = some ad → B ≤ ad.block := fun ad e => by
  rcases h.2 with ⟨hv, _⟩ | ⟨g, cap, cur, hv, hbg, _⟩
  · injection hv with h1; rw [e] at h1; cases h1
  · injection hv with h1; rw [e] at h1; injection h1 with h1; rw [h1]; exact hbg
theorem MadeJ.mk {l : List Int} {w w' : World} {A : Option Addr} {n c : Nat} (h : OwnV 3 1 w' w.heap.size A n c (is l)) (hb : Below w.heap.size w w') : MadeJ l w (.returned (.slice A n c)) w' :=
  ⟨A, n, c, rfl, ⟨by have := h.len; rw [is_length] at this; omega, h.rd⟩, h.cap, hb, h.newer⟩
theorem madeJ_nil (w w' : World) (hb : Below w.heap.size w w') : MadeJ [] w (.returned (.slice none 0 0)) w' := ⟨none, 0, 0, rfl, ⟨rfl, RdV.nil⟩, Nat.le_refl _, hb, fun _ h => by cases h⟩
/-- What a walk over the children meets. -/
theorem kids_tree {l : List Nd} {a : Nat} (h : size l (a : Int) ≠ 0) : ∃ m, kids l (a : Int) = plc l (a + 1) m ∧ m ≤ 128 ∧ ∀ j, j ≤ m → pos l (a + 1) j ≤ a + size l (a : Int) ∧ (j < m → pos l (a + 1) j < a + size l (a : Int)) ∧ (j = m → pos l (a + 1) j = a + size l (a : Int)) := by
  obtain ⟨x, k, t, hok, _, h2, h3, h4⟩ := size_tree h
  rw [Int.toNat_natCast] at h3
  have hd : l.drop (a + 1) = k.flat ++ t := by
    rw [← List.drop_drop, h3]
    rfl
  refine ⟨kn x, ?_, kn_le hok.1, fun j hj => ?_⟩
  · unfold kids
    have : (l.drop a)[0]? = some x := by rw [h3]; rfl
    have hx : l[a]? = some x := by simpa using this
    rw [if_neg h, Int.toNat_natCast, hx]
    rfl
  · obtain ⟨_, h5, _, _⟩ := pos_dr hok.2.2.1 hd (by omega) j (by rw [hok.2.1]; exact hj)
    have h6 := dr_cnt k j
    have h7 := F.cnt_le_sz (F.dr j k)
    rw [hok.2.1] at h6
    refine ⟨by omega, fun hlt => by omega, fun he => ?_⟩
    have h8 : F.dr j k = .nil := F.cnt_zero (by omega)
    rw [h8] at h5
    simp only [F.sz] at h5
    omega
set_option maxRecDepth 100000 in
set_option maxHeartbeats 1600000 in
theorem rkids_in (A : Option Addr) (n cap : Nat) (l : List Nd) (a : Nat) (w : World) (h : RdN w w.heap.size A n l) (hc : n ≤ cap) (hn : n ≤ 1099511627776) (ha : a < n) (hs : size l (a : Int) ≠ 0) :
    Calls Try.prog 62 #[.slice A n cap, .int .i64 a] w (MadeJ (kids l a) w) := by
  obtain ⟨m, hkd, hm, hpos⟩ := kids_tree hs
  rw [hkd]
  have hfit : a + size l (a : Int) ≤ n := by
    obtain ⟨_, h1, _⟩ := hpos m (Nat.le_refl _)
    obtain ⟨x, hx, _, h2⟩ := pos_fit hs
    obtain ⟨x', k, t, hok, _, h3, h4, h5⟩ := size_tree hs
    rw [Int.toNat_natCast] at h4
    have := congrArg List.length h4
    rw [List.length_drop, List.length_cons, List.length_append, F.flat_length] at this
    have := h.len
    omega
  clear hkd
  generalize hSd : size l (a : Int) = S at hs hfit hpos
  have HSD := Lib.hid hSd
  have HP := Lib.hid hpos
  clear hSd hpos hs
  have hca : ¬ cap = a := by omega
  go_enter Try.func62, Try.ntmps62
  go_wp2_with fail
  refine (rsize_any A n cap l a w h hc hn).mono ?_
  rw [HSD.out]
  rintro e w1 ⟨rfl, hb1⟩
  go_wp2_with fail
  go_loopw [6, 7] (fun o s wr => ∃ (i c : Nat) (Ao : Option Addr), i ≤ m ∧ s = .int .i64 (pos l (a + 1) i : Nat) ∧ o = .slice Ao i c ∧ OwnV 3 1 wr w.heap.size Ao i c (is (plc l (a + 1) i)) ∧ Below w.heap.size w wr) (fun o _ _ => m - lenOf o)
  case atStart => exact ⟨0, 0, none, by omega, ret_num (by simp [pos]), rfl, OwnV.nil _ _ _ _, hb1⟩
  case round =>
    obtain ⟨i, c, Ao, hi, rfl, rfl, hw, hb⟩ := hrel
    by_cases hlt : i < m
    · obtain ⟨_, hp1, _⟩ := HP.out i hi
      have hp1 := hp1 hlt
      have hp2 : pos l (a + 1) i + size l (pos l (a + 1) i : Nat) ≤ a + S := (HP.out (i + 1) (by omega)).1
      have HPS : Hid (pos l (a + 1) (i + 1) = pos l (a + 1) i + size l (pos l (a + 1) i : Nat)) := Lib.hid rfl
      have HPL := Lib.hid (plc_succ l (a + 1) i)
      generalize hPd : pos l (a + 1) i = P at hp1 hp2 HPS HPL ⊢
      have HPD := Lib.hid hPd
      clear hPd
      have hlt2 : decide ((P : Int) < (a : Int) + (S : Int)) = true := by simp; omega
      have hbs := hb.alloc hb.size (.cells #[.int .i64 (P : Int)] 3)
      have hw' := OwnV.below hw rfl (bl1 wr (.cells #[.int .i64 (P : Int)] 3))
      have hrd := rdV_new wr #[.int .i64 (P : Int)] 3 (is [(P : Int)]) rfl
      go_wp2_with (at_builtin; go_loud (refine wpList_appV elI rfl (.tmp 23) (.tmp 25) rfl rfl w.heap.size Ao i c _ rfl hw' _ 1 1 _ _ rfl hrd rfl (is_one _) (by omega) (by unfold maxLen; omega) hbs.size (i + 1) rfl (is (plc l (a + 1) (i + 1))) (by rw [HPL.out, is_append]) ?_; intro A2 c2 w2 hw2 hb2 _))
      have k2 := hbs.trans hb2
      refine (rsize_any A n cap l (P : Int) _ (h.on k2) hc hn).mono ?_
      generalize size l (P : Int) = Z at HPS hp2 ⊢
      rintro e w4 ⟨rfl, hb4⟩
      go_wp2_with fail
      go_roundw
      case rel => exact ⟨i + 1, c2, A2, by omega, ret_num (by rw [HPS.out]; omega), rfl, hw2.below rfl hb4, k2.trans (hb4.mono k2.size)⟩
      case measure => simp [lenOf]; omega
    · have hge : m ≤ i := by omega
      have e : i = m := by omega
      obtain ⟨_, _, hp1⟩ := HP.out i hi
      have hp1 := hp1 e
      generalize pos l (a + 1) i = P at hp1 ⊢
      have hlt2 : decide ((P : Int) < (a : Int) + (S : Int)) = false := by simp; omega
      have HPD := Lib.hid hp1
      have HE := Lib.hid e
      clear hp1 e
      go_wp2_with fail
      go_ret
      have e := HE.out
      subst e
      exact MadeJ.mk hw hb
set_option maxHeartbeats 400000 in
theorem rkids_out (A : Option Addr) (n cap : Nat) (l : List Nd) (a : Int) (w : World) (h : RdN w w.heap.size A n l) (hc : n ≤ cap) (hn : n ≤ 1099511627776) (hs : size l a = 0) (ha : -9223372036854775808 ≤ a) (ha2 : a < 9223372036854775807) :
    Calls Try.prog 62 #[.slice A n cap, .int .i64 a] w (MadeJ [] w) := by
  have HS := Lib.hid hs
  clear hs
  have hlt : decide (a + 1 < a) = false := decide_eq_false (by omega)
  go_enter Try.func62, Try.ntmps62
  go_wp2_with fail
  refine (rsize_any A n cap l a w h hc hn).mono ?_
  rw [HS.out]
  rintro e w1 ⟨rfl, hb1⟩
  go_wp2_with fail
  go_loopw [6, 7] (fun o s wr => o = .slice none 0 0 ∧ s = .int .i64 (a + 1) ∧ Below w.heap.size w wr) (fun _ _ _ => 0)
  case atStart => exact ⟨rfl, rfl, hb1⟩
  case round =>
    obtain ⟨rfl, rfl, hb⟩ := hrel
    go_wp2_with fail
    go_ret
    exact madeJ_nil _ _ hb
theorem rkids_new (A : Option Addr) (n cap : Nat) (l : List Nd) (a : Int) (w : World) (h : RdN w w.heap.size A n l) (hc : n ≤ cap) (hn : n ≤ 1099511627776) (ha : -9223372036854775808 ≤ a) (ha2 : a < 9223372036854775807) :
    Calls Try.prog 62 #[.slice A n cap, .int .i64 a] w (MadeJ (kids l a) w) := by
  by_cases hs : size l a = 0
  · rw [kids_none l a hs]
    exact rkids_out A n cap l a w h hc hn hs ha ha2
  · obtain ⟨x, k, t, _, h1, h2, _⟩ := size_tree hs
    obtain ⟨a', rfl⟩ := Int.eq_ofNat_of_zero_le h1
    exact rkids_in A n cap l a' w h hc hn (by have := h.len; omega) hs
theorem rkids_any (A : Option Addr) (n cap : Nat) (l : List Nd) (a : Int) (w : World) (h : RdN w w.heap.size A n l) (hc : n ≤ cap) (hn : n ≤ 1099511627776) (ha : -9223372036854775808 ≤ a) (ha2 : a < 9223372036854775807) :
    Calls Try.prog 62 #[.slice A n cap, .int .i64 a] w (MadeI (kids l a) w) := by
  refine (rkids_new A n cap l a w h hc hn ha ha2).mono ?_
  rintro e w' ⟨A, n, c, h1, h2, h3, h4, _⟩
  exact ⟨A, n, c, h1, h2, h3, h4⟩
end Go.Proofs.Ytknlhhbkahollaa
