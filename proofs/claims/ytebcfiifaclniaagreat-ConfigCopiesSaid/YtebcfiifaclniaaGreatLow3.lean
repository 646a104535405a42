/- Contracts and mathematics that the texts behind it stand on: Rkids, Rdeep, Rleaves, Times, Push, Len, Deep, Right, Next. -/
import Derived.Test.YtebcfiifaclniaaGreatLow2
import Derived.Test.YtebcfiifaclniaaGreatLow1
import Derived.Great.BuildSlice
import Derived.IntWalk
import Derived.BigQuiet
import Derived.Deep.QuietTactic
/- The places of a node's children, by the document's own answer. -/
namespace Go.Proofs.YtebcfiifaclniaaGreat
open Go.RowKit Tab
set_option linter.unusedSimpArgs false
set_option linter.unusedVariables false

/-- It answers a row of numbers in a new block. -/
def MadeJ (l : List Int) (w : World) (e : Ending) (w' : World) : Prop := ∃ A n c, e = .returned (.slice A n c) ∧ RdI w' w'.heap.size A n l ∧ n ≤ c ∧ Below w.heap.size w w' ∧ ∀ ad, A = some ad → w.heap.size ≤ ad.block
theorem OwnV.newer {E s : Nat} {w : World} {B n c : Nat} {A : Option Addr} {l : List Value} (h : OwnV E s w B A n c l) : ∀ ad, A = some ad → B ≤ ad.block := fun ad e => by
  rcases h.2 with ⟨hv, _⟩ | ⟨g, cap, cur, hv, hbg, _⟩
  · injection hv with h1; rw [e] at h1; cases h1
  · injection hv with h1; rw [e] at h1; injection h1 with h1; rw [h1]; exact hbg
theorem MadeJ.mk {l : List Int} {w w' : World} {A : Option Addr} {n c : Nat} (h : OwnV 3 1 w' w.heap.size A n c (is l)) (hb : Below w.heap.size w w') : MadeJ l w (.returned (.slice A n c)) w' :=
  ⟨A, n, c, rfl, ⟨by have := h.len; rw [is_length] at this; omega, h.rd⟩, h.cap, hb, h.newer⟩
theorem madeJ_nil (w w' : World) (hb : Below w.heap.size w w') : MadeJ [] w (.returned (.slice none 0 0)) w' := ⟨none, 0, 0, rfl, ⟨rfl, RdV.nil⟩, Nat.le_refl _, hb, fun _ h => by cases h⟩
/-- What a walk over the children meets. -/
theorem kids_tree {l : List Nd} {a : Nat} (h : size l (a : Int) ≠ 0) : ∃ m, kids l (a : Int) = plc l (a + 1) m ∧ m ≤ 128 ∧ ∀ j, j ≤ m → pos l (a + 1) j ≤ a + size l (a : Int) ∧ (j < m → pos l (a + 1) j < a + size l (a : Int)) ∧ (j = m → pos l (a + 1) j = a + size l (a : Int)) := by
  obtain ⟨x, k, t, hok, _, h2, h3, h4⟩ := size_tree h
  rw [Int.toNat_natCast] at h3
  have hd : l.drop (a + 1) = k.flat ++ t := by
    rw [← List.drop_drop, h3]
    rfl
  refine ⟨kn x, ?_, kn_le hok.1, fun j hj => ?_⟩
  · unfold kids
    have : (l.drop a)[0]? = some x := by rw [h3]; rfl
    have hx : l[a]? = some x := by simpa using this
    rw [if_neg h, Int.toNat_natCast, hx]
    rfl
  · obtain ⟨_, h5, _, _⟩ := pos_dr hok.2.2.1 hd (by omega) j (by rw [hok.2.1]; exact hj)
    have h6 := dr_cnt k j
    have h7 := F.cnt_le_sz (F.dr j k)
    rw [hok.2.1] at h6
    refine ⟨by omega, fun hlt => by omega, fun he => ?_⟩
    have h8 : F.dr j k = .nil := F.cnt_zero (by omega)
    rw [h8] at h5
    simp only [F.sz] at h5
    omega
set_option maxRecDepth 100000 in
set_option maxHeartbeats 1600000 in
theorem rkids_in (A : Option Addr) (n cap : Nat) (l : List Nd) (a : Nat) (w : World) (h : RdN w w.heap.size A n l) (hc : n ≤ cap) (hn : n ≤ 1099511627776) (ha : a < n) (hs : size l (a : Int) ≠ 0) :
    Calls Tryz.prog 77 #[.slice A n cap, .int .i64 a] w (MadeJ (kids l a) w) := by
  obtain ⟨m, hkd, hm, hpos⟩ := kids_tree hs
  rw [hkd]
  have hfit : a + size l (a : Int) ≤ n := by
    obtain ⟨_, h1, _⟩ := hpos m (Nat.le_refl _)
    obtain ⟨x, hx, _, h2⟩ := pos_fit hs
    obtain ⟨x', k, t, hok, _, h3, h4, h5⟩ := size_tree hs
    rw [Int.toNat_natCast] at h4
    have := congrArg List.length h4
    rw [List.length_drop, List.length_cons, List.length_append, F.flat_length] at this
    have := h.len
    omega
  clear hkd
  generalize hSd : size l (a : Int) = S at hs hfit hpos
  have HSD := Lib.hid hSd
  have HP := Lib.hid hpos
  clear hSd hpos hs
  have hca : ¬ cap = a := by omega
  go_enter Tryz.func77, Tryz.ntmps77
  go_wp2_with fail
  refine (rsize_any A n cap l a w h hc hn).mono ?_
  rw [HSD.out]
  rintro e w1 ⟨rfl, hb1⟩
  go_wp2_with fail
  go_loopw [6, 7] (fun o s wr => ∃ (i c : Nat) (Ao : Option Addr), i ≤ m ∧ s = .int .i64 (pos l (a + 1) i : Nat) ∧ o = .slice Ao i c ∧ OwnV 3 1 wr w.heap.size Ao i c (is (plc l (a + 1) i)) ∧ Below w.heap.size w wr) (fun o _ _ => m - lenOf o)
  case atStart => exact ⟨0, 0, none, by omega, ret_num (by simp [pos]), rfl, OwnV.nil _ _ _ _, hb1⟩
  case round =>
    obtain ⟨i, c, Ao, hi, rfl, rfl, hw, hb⟩ := hrel
    by_cases hlt : i < m
    · obtain ⟨_, hp1, _⟩ := HP.out i hi
      have hp1 := hp1 hlt
      have hp2 : pos l (a + 1) i + size l (pos l (a + 1) i : Nat) ≤ a + S := (HP.out (i + 1) (by omega)).1
      have HPS : Hid (pos l (a + 1) (i + 1) = pos l (a + 1) i + size l (pos l (a + 1) i : Nat)) := Lib.hid rfl
      have HPL := Lib.hid (plc_succ l (a + 1) i)
      generalize hPd : pos l (a + 1) i = P at hp1 hp2 HPS HPL ⊢
      have HPD := Lib.hid hPd
      clear hPd
      have hlt2 : decide ((P : Int) < (a : Int) + (S : Int)) = true := by simp; omega
      have hbs := hb.alloc hb.size (.cells #[.int .i64 (P : Int)] 3)
      have hw' := OwnV.below hw rfl (bl1 wr (.cells #[.int .i64 (P : Int)] 3))
      have hrd := rdV_new wr #[.int .i64 (P : Int)] 3 (is [(P : Int)]) rfl
      go_wp2_with (at_builtin; go_loud (refine wpList_appV elI rfl (.tmp 23) (.tmp 25) rfl rfl w.heap.size Ao i c _ rfl hw' _ 1 1 _ _ rfl hrd rfl (is_one _) (by omega) (by unfold maxLen; omega) hbs.size (i + 1) rfl (is (plc l (a + 1) (i + 1))) (by rw [HPL.out, is_append]) ?_; intro A2 c2 w2 hw2 hb2 _))
      have k2 := hbs.trans hb2
      refine (rsize_any A n cap l (P : Int) _ (h.on k2) hc hn).mono ?_
      generalize size l (P : Int) = Z at HPS hp2 ⊢
      rintro e w4 ⟨rfl, hb4⟩
      go_wp2_with fail
      go_roundw
      case rel => exact ⟨i + 1, c2, A2, by omega, ret_num (by rw [HPS.out]; omega), rfl, hw2.below rfl hb4, k2.trans (hb4.mono k2.size)⟩
      case measure => simp [lenOf]; omega
    · have hge : m ≤ i := by omega
      have e : i = m := by omega
      obtain ⟨_, _, hp1⟩ := HP.out i hi
      have hp1 := hp1 e
      generalize pos l (a + 1) i = P at hp1 ⊢
      have hlt2 : decide ((P : Int) < (a : Int) + (S : Int)) = false := by simp; omega
      have HPD := Lib.hid hp1
      have HE := Lib.hid e
      clear hp1 e
      go_wp2_with fail
      go_ret
      have e := HE.out
      subst e
      exact MadeJ.mk hw hb
set_option maxHeartbeats 400000 in
theorem rkids_out (A : Option Addr) (n cap : Nat) (l : List Nd) (a : Int) (w : World) (h : RdN w w.heap.size A n l) (hc : n ≤ cap) (hn : n ≤ 1099511627776) (hs : size l a = 0) (ha : -9223372036854775808 ≤ a) (ha2 : a < 9223372036854775807) :
    Calls Tryz.prog 77 #[.slice A n cap, .int .i64 a] w (MadeJ [] w) := by
  have HS := Lib.hid hs
  clear hs
  have hlt : decide (a + 1 < a) = false := decide_eq_false (by omega)
  go_enter Tryz.func77, Tryz.ntmps77
  go_wp2_with fail
  refine (rsize_any A n cap l a w h hc hn).mono ?_
  rw [HS.out]
  rintro e w1 ⟨rfl, hb1⟩
  go_wp2_with fail
  go_loopw [6, 7] (fun o s wr => o = .slice none 0 0 ∧ s = .int .i64 (a + 1) ∧ Below w.heap.size w wr) (fun _ _ _ => 0)
  case atStart => exact ⟨rfl, rfl, hb1⟩
  case round =>
    obtain ⟨rfl, rfl, hb⟩ := hrel
    go_wp2_with fail
    go_ret
    exact madeJ_nil _ _ hb
theorem rkids_new (A : Option Addr) (n cap : Nat) (l : List Nd) (a : Int) (w : World) (h : RdN w w.heap.size A n l) (hc : n ≤ cap) (hn : n ≤ 1099511627776) (ha : -9223372036854775808 ≤ a) (ha2 : a < 9223372036854775807) :
    Calls Tryz.prog 77 #[.slice A n cap, .int .i64 a] w (MadeJ (kids l a) w) := by
  by_cases hs : size l a = 0
  · rw [kids_none l a hs]
    exact rkids_out A n cap l a w h hc hn hs ha ha2
  · obtain ⟨x, k, t, _, h1, h2, _⟩ := size_tree hs
    obtain ⟨a', rfl⟩ := Int.eq_ofNat_of_zero_le h1
    exact rkids_in A n cap l a' w h hc hn (by have := h.len; omega) hs
theorem rkids_any (A : Option Addr) (n cap : Nat) (l : List Nd) (a : Int) (w : World) (h : RdN w w.heap.size A n l) (hc : n ≤ cap) (hn : n ≤ 1099511627776) (ha : -9223372036854775808 ≤ a) (ha2 : a < 9223372036854775807) :
    Calls Tryz.prog 77 #[.slice A n cap, .int .i64 a] w (MadeI (kids l a) w) := by
  refine (rkids_new A n cap l a w h hc hn ha ha2).mono ?_
  rintro e w' ⟨A, n, c, h1, h2, h3, h4, _⟩
  exact ⟨A, n, c, h1, h2, h3, h4⟩
end Go.Proofs.YtebcfiifaclniaaGreat

/- How deep a table goes, how many ticks it has, by the document's own answer. -/
namespace Go.Proofs.YtebcfiifaclniaaGreat
open Go.RowKit Tab
set_option linter.unusedSimpArgs false
set_option linter.unusedVariables false

theorem kids_at {l t : List Nd} {p : Nat} {x : Nd} {k r : F} (hok : (F.cons x k r).ok) (hl : l.drop p = (F.cons x k r).flat ++ t) : kids l (p : Int) = plc l (p + 1) k.cnt ∧ p + 1 + k.sz ≤ l.length ∧ l.drop (p + 1) = k.flat ++ (r.flat ++ t) ∧ l[p]? = some x := by
  have hs := size_at hok hl
  have hx : l[p]? = some x := by
    have : (l.drop p)[0]? = some x := by rw [hl]; rfl
    simpa using this
  have hd : l.drop (p + 1) = k.flat ++ (r.flat ++ t) := by
    rw [← List.drop_drop, hl]
    simp [F.flat]
  refine ⟨?_, ?_, hd, hx⟩
  · unfold kids
    rw [if_neg (by omega), Int.toNat_natCast, hx, hok.2.1]
    rfl
  · have := congrArg List.length hl
    rw [List.length_drop, List.length_append, F.flat_length] at this
    simp only [F.sz] at this
    omega
theorem plc_get (l : List Nd) (p m i : Nat) (h : i < m) : (plc l p m)[i]? = some (pos l p i : Int) := by
  simp [plc, h]
set_option maxRecDepth 100000 in
set_option maxHeartbeats 1600000 in
theorem rdepth_any (A : Option Addr) (n cap : Nat) (l : List Nd) (hc : n ≤ cap) (hn : n ≤ 1099511627776) (M : Nat) : ∀ (p : Nat) (x : Nd) (k r : F) (t : List Nd) (w : World), k.sz < M → RdN w w.heap.size A n l → (F.cons x k r).ok → l.drop p = (F.cons x k r).flat ++ t →
    Calls Tryz.prog 75 #[.slice A n cap, .int .i64 p] w (Ans (.int .i64 (k.dep + 1 : Nat)) w) := by
  induction M with
  | zero => intro p x k r t w h; omega
  | succ M ih =>
    intro p x k r t w hM h hok hl
    obtain ⟨hk, hfit, hd, hx⟩ := kids_at hok hl
    have hlen := h.len
    rw [hlen] at hfit
    have hm : k.cnt ≤ n := by have := F.cnt_le_sz k; omega
    have HPD := Lib.hid fun j hj => pos_dr hok.2.2.1 hd (by omega) j hj
    have hkok := Lib.hid hok.2.2.1
    generalize hmd : k.cnt = m at hk hm HPD
    have hp63 : (p : Int) ≤ 1099511627776 := by omega
    have hdz := F.dep_le_sz k
    have HM := Lib.hid hmd
    have HK := Lib.hid hk
    have HIH := Lib.hid ih
    clear hk hmd hl hd hx hlen hok ih
    go_enter Tryz.func75, Tryz.ntmps75
    go_wp2_with fail
    refine (rkids_any A n cap l (p : Int) w h hc hn (by omega) (by omega)).mono ?_
    rw [HK.out]
    rintro e w1 ⟨A1, n1, c1, rfl, hr1, hc1, hb1⟩
    have hn1 : n1 = m := by have := hr1.len; simp [plc] at this; omega
    subst hn1
    go_wp2_with fail
    go_loopw [5, 12] (fun d s wr => ∃ (i e : Nat), i ≤ n1 ∧ s = .int .i64 i ∧ d = .int .i64 e ∧ max e (F.dr i k).dep = k.dep ∧ Below w1.heap.size w1 wr) (fun _ s _ => n1 - (intOf s).toNat)
    case atStart => exact ⟨0, 0, by omega, rfl, rfl, by simp [F.dr], Below.refl _ _⟩
    case round =>
      obtain ⟨i, e, hi, rfl, rfl, he, hb⟩ := hrel
      have HE := Lib.hid he
      have he2 : e ≤ k.dep := by omega
      clear he
      by_cases hlt : i < n1
      · obtain ⟨hd, hsz, hp1, hp2⟩ := HPD.out i (by omega)
        obtain ⟨y, ky, r', ed⟩ := dr_cons (f := k) (j := i) (by have := HM.out; omega)
        have hok' := dr_ok hkok.out i
        have ed2 := dr_succ ed
        rw [ed] at hd hsz hok'
        have hky : ky.sz < M := by simp only [F.sz] at hsz; omega
        have hdep : max e (max (ky.dep + 1) r'.dep) = k.dep := by have := HE.out; rw [ed] at this; exact this
        have hget := plc_get l (p + 1) n1 i hlt
        have HED := Lib.hid ed2
        have HDEP := Lib.hid hdep
        clear hsz ed ed2
        generalize pos l (p + 1) i = P at hd hp1 hp2 hget
        have hky2 : ky.dep + 1 ≤ k.dep := by omega
        obtain ⟨adk, z, rfl, _, hz, hcell⟩ := (hr1.on hb).at_ hlt
        rw [hget] at hz
        injection hz with hz
        subst hz
        clear hget
        have k1 := hb1.trans (hb.mono hb1.size)
        go_wp2_with fail
        refine (HIH.out P y ky r' _ wr hky (h.on k1) hok' hd).mono ?_
        rintro e2 w4 ⟨rfl, hb4⟩
        go_wp2_with fail
        go_roundw
        case rel => exact ⟨i + 1, max e (ky.dep + 1), by omega, by go_num, ret_num (by split <;> omega), by rw [HED.out]; have := HDEP.out; omega, hb.trans (hb4.mono hb.size)⟩
        case measure => simp [intOf]; omega
      · have hge : n1 ≤ i := by omega
        go_wp2_with fail
        go_ret
        refine Ans.mk (ret_num (b := (e : Int) + 1) ?_) (hb1.trans (hb.mono hb1.size))
        have e1 := HE.out
        have e2 : F.dr i k = .nil := by rw [show i = k.cnt by have := HM.out; omega]; exact dr_all k
        rw [e2] at e1
        simp only [F.dep] at e1
        omega
/-- Ticks, held. -/
def hl4 (a : Nat) : Nat := min a 4097
theorem hl4_add (a b : Nat) : hl4 (hl4 a + b) = hl4 (a + b) := by unfold hl4; omega
theorem hl4_mul (a b : Nat) (ha : 1 ≤ a) (hb : 1 ≤ b) : hl4 (hl4 a * hl4 b) = hl4 (a * b) := by
  unfold hl4
  by_cases h1 : a ≤ 4097
  · rw [Nat.min_eq_left h1]
    by_cases h2 : b ≤ 4097
    · rw [Nat.min_eq_left h2]
    · rw [Nat.min_eq_right (by omega : 4097 ≤ b)]
      have h3 : 1 * 4097 ≤ a * 4097 := Nat.mul_le_mul_right _ ha
      have h4 : a * 4097 ≤ a * b := Nat.mul_le_mul_left _ (by omega)
      omega
  · rw [Nat.min_eq_right (by omega : 4097 ≤ a)]
    have h3 : 4097 * 1 ≤ 4097 * min b 4097 := Nat.mul_le_mul_left _ (by omega)
    have h4 : 4097 * 1 ≤ 4097 * b := Nat.mul_le_mul_left _ hb
    have h5 : 4097 * b ≤ a * b := Nat.mul_le_mul_right _ (by omega)
    omega
set_option maxRecDepth 100000 in
set_option maxHeartbeats 1600000 in
theorem rlength_any (A : Option Addr) (n cap : Nat) (l : List Nd) (hc : n ≤ cap) (hn : n ≤ 1099511627776) (M : Nat) : ∀ (p : Nat) (x : Nd) (k r : F) (t : List Nd) (w : World), k.sz < M → RdN w w.heap.size A n l → (F.cons x k r).ok → l.drop p = (F.cons x k r).flat ++ t →
    Calls Tryz.prog 76 #[.slice A n cap, .int .i64 p] w (Ans (.int .i64 (hl4 (F.tick x k.len) : Nat)) w) := by
  induction M with
  | zero => intro p x k r t w h; omega
  | succ M ih =>
    intro p x k r t w hM h hok hl
    obtain ⟨hk, hfit, hd, hx⟩ := kids_at hok hl
    have hlen := h.len
    rw [hlen] at hfit
    have hm : k.cnt ≤ n := by have := F.cnt_le_sz k; omega
    have HPD := Lib.hid fun j hj => pos_dr hok.2.2.1 hd (by omega) j hj
    have hkok := Lib.hid hok
    generalize hmd : k.cnt = m at hk hm HPD
    have hp63 : (p : Int) ≤ 1099511627776 := by omega
    have hpn : p < n := by omega
    have HM := Lib.hid hmd
    have HK := Lib.hid hk
    have HX := Lib.hid hx
    have HIH := Lib.hid ih
    clear hk hmd hl hd hx hlen hok ih
    go_enter Tryz.func76, Tryz.ntmps76
    go_wp2_with fail
    refine (rkids_any A n cap l (p : Int) w h hc hn (by omega) (by omega)).mono ?_
    rw [HK.out]
    rintro e w1 ⟨A1, n1, c1, rfl, hr1, hc1, hb1⟩
    have hn1 : n1 = m := by have := hr1.len; simp [plc] at this; omega
    subst hn1
    go_wp2_with fail
    go_loopw [5, 12] (fun d s wr => ∃ (i e : Nat), i ≤ n1 ∧ s = .int .i64 i ∧ d = .int .i64 e ∧ e ≤ 4097 ∧ hl4 (e + (F.dr i k).len) = hl4 k.len ∧ Below w1.heap.size w1 wr) (fun _ s _ => n1 - (intOf s).toNat)
    case atStart => exact ⟨0, 0, by omega, rfl, rfl, by omega, by simp [F.dr], Below.refl _ _⟩
    case round =>
      obtain ⟨i, e, hi, rfl, rfl, he2, he, hb⟩ := hrel
      have HE := Lib.hid he
      clear he
      have k1 := hb1.trans (hb.mono hb1.size)
      by_cases hlt : i < n1
      · obtain ⟨hd, hsz, hp1, hp2⟩ := HPD.out i (by omega)
        obtain ⟨y, ky, r', ed⟩ := dr_cons (f := k) (j := i) (by have := HM.out; omega)
        have hok' := dr_ok hkok.out.2.2.1 i
        have ed2 := dr_succ ed
        rw [ed] at hd hsz hok'
        have hky : ky.sz < M := by simp only [F.sz] at hsz; omega
        have hdep : hl4 (e + (F.tick y ky.len + r'.len)) = hl4 k.len := by have := HE.out; rw [ed] at this; exact this
        have hget := plc_get l (p + 1) n1 i hlt
        have HED := Lib.hid ed2
        have HDEP := Lib.hid hdep
        clear hsz ed ed2 hdep
        generalize pos l (p + 1) i = P at hd hp1 hp2 hget
        obtain ⟨adk, z, rfl, _, hz, hcell⟩ := (hr1.on hb).at_ hlt
        rw [hget] at hz
        injection hz with hz
        subst hz
        clear hget
        have hb4097 : hl4 (F.tick y ky.len) ≤ 4097 := by unfold hl4; omega
        go_wp2_with fail
        refine (HIH.out P y ky r' _ wr hky (h.on k1) hok' hd).mono ?_
        generalize hV : hl4 (F.tick y ky.len) = V at hb4097 ⊢
        have HV := Lib.hid hV
        clear hV
        rintro e2 w4 ⟨rfl, hb4⟩
        go_wp2_with fail
        go_roundw
        case rel =>
          refine ⟨i + 1, min (e + V) 4097, by omega, by go_num, ret_num (by split <;> omega), by omega, ?_, hb.trans (hb4.mono hb.size)⟩
          rw [HED.out, ← HDEP.out]
          have := HV.out
          unfold hl4 at *
          omega
        case measure => simp [intOf]; omega
      · have hge : n1 ≤ i := by omega
        have e2 : F.dr i k = .nil := by rw [show i = k.cnt by have := HM.out; omega]; exact dr_all k
        have e1 := HE.out
        rw [e2] at e1
        have e3 : e = hl4 k.len := by simp only [F.len, hl4] at e1 ⊢; omega
        have HE3 := Lib.hid e3
        clear e1 e2 e3
        obtain ⟨ad, x', rfl, _, hx', hin, c0, c1, c2⟩ := (h.on k1).at_ hpn
        obtain ⟨xk, xp, xn⟩ := x'
        rw [HX.out] at hx'
        injection hx' with hx'
        subst hx'
        have h1n : 1 ≤ xn := fine_one hkok.out.1
        have hkc : Hid (k.cnt = kn ⟨xk, xp, xn⟩) := Lib.hid hkok.out.2.1
        have hkp : Hid k.ok := Lib.hid hkok.out.2.2.1
        have hx2 : xn ≤ 9223372036854775807 := hin.2.2.2
        clear hin hr1
        by_cases h3 : xk = 3
        · subst h3
          go_wp2_with fail
          go_ret
          refine Ans.mk (ret_num (b := (e : Int)) ?_) k1
          rw [HE3.out]
          rfl
        · by_cases h4 : xk = 4
          · subst h4
            have hlp : 1 ≤ k.len := F.len_pos hkp.out (by rw [hkc.out]; exact Nat.one_pos)
            have htk : F.tick ⟨4, xp, xn⟩ k.len = k.len * xn.toNat := rfl
            have hfin : ∀ z : Nat, z = min xn.toNat 4097 → hl4 (e * z) = hl4 (k.len * xn.toNat) := fun z hz => by
              rw [hz, HE3.out]
              exact hl4_mul _ _ hlp (by omega)
            have HF := Lib.hid hfin
            have HT := Lib.hid htk
            clear hfin htk h3
            by_cases hN : 4097 < xn
            · have hpr : (0 : Int) ≤ (e : Int) * 4097 := by omega
              go_wp2_with fail
              all_goals
                go_ret
                refine Ans.mk ?_ k1
                refine ret_num ?_
                rw [HT.out, ← HF.out 4097 (by omega)]
                unfold hl4
                omega
            · obtain ⟨N, rfl⟩ := Int.eq_ofNat_of_zero_le (show 0 ≤ xn by omega)
              have hN2 : N ≤ 4097 := by omega
              have h0 : e * N ≤ 4097 * 4097 := Nat.mul_le_mul he2 hN2
              have hpr : (0 : Int) ≤ (e : Int) * (N : Int) := Int.mul_nonneg (by omega) (by omega)
              have hpr2 : (e : Int) * (N : Int) ≤ 16785409 := (Int.natCast_mul e N) ▸ (show ((e * N : Nat) : Int) ≤ 16785409 by omega)
              clear h0
              go_wp2_with fail
              all_goals
                go_ret
                refine Ans.mk ?_ k1
                refine ret_num ?_
                rw [HT.out, ← HF.out N (by omega)]
                unfold hl4
                rw [← Int.natCast_mul] at *
                omega
          · have h3' : (xk == 3) = false := beq_eq_false_iff_ne.2 h3
            have h4' : (xk == 4) = false := beq_eq_false_iff_ne.2 h4
            have htk : F.tick ⟨xk, xp, xn⟩ k.len = xn.toNat := by unfold F.tick; rw [if_neg h3, if_neg h4]
            have HT := Lib.hid htk
            clear htk h3 h4
            go_wp2_with fail
            all_goals
              go_ret
              refine Ans.mk ?_ k1
              refine ret_num ?_
              rw [HT.out]
              unfold hl4
              omega
end Go.Proofs.YtebcfiifaclniaaGreat

/- The leaves of a table, by the document's own answer. -/
namespace Go.Proofs.YtebcfiifaclniaaGreat
open Go.RowKit Tab
set_option linter.unusedSimpArgs false
set_option linter.unusedVariables false

/-- It answers the row with more behind it. -/
def MoreR (B : Nat) (A0 : Option Addr) (L : List Rn) (w : World) (e : Ending) (w' : World) : Prop := ∃ A c, e = .returned (.slice A L.length c) ∧ OwnV 95 2 w' B A L.length c (rs L) ∧ Below B w w' ∧ Grew A0 A w w'
theorem MoreR.mk {B : Nat} {L L' : List Rn} {w w' : World} {A0 A : Option Addr} {n c : Nat} (hL : L = L') (hn : n = L.length) (h : OwnV 95 2 w' B A n c (rs L)) (hb : Below B w w') (hg : Grew A0 A w w') : MoreR B A0 L' w (.returned (.slice A n c)) w' := by
  subst hL; subst hn
  exact ⟨A, c, rfl, h, hb, hg⟩
set_option maxRecDepth 100000 in
set_option maxHeartbeats 3200000 in
theorem leaf1_any (B : Nat) (A : Option Addr) (n cap : Nat) (l : List Nd) (hc : n ≤ cap) (hn : n ≤ 1099511627776) (p : Nat) (x : Nd) (w : World) (h : RdN w B A n l) (hx : l[p]? = some x) (hf : fine x = true) (h3 : ¬ x.k = 3) (h4 : ¬ x.k = 4) (hB : B ≤ w.heap.size)
    (A0 : Option Addr) (n0 c0 : Nat) (L : List Rn) (hL : L.length = n0) (h0 : OwnV 95 2 w B A0 n0 c0 (rs L)) (hs : n0 ≤ 1048576) :
    Calls Tryz.prog 64 #[.slice A n cap, .int .i64 p, .slice A0 n0 c0] w (MoreR B A0 (L ++ [⟨whose x, x.n.toNat⟩]) w) := by
  have hpl : p < n := by rw [← h.len]; exact (List.getElem?_eq_some_iff.1 hx).1
  obtain ⟨ad, y, rfl, hab, hy, hin, d0, d1, d2⟩ := h.at_ hpl
  rw [hx] at hy
  injection hy with hy
  subst hy
  obtain ⟨xk, xp, xn⟩ := x
  have hn1 := fine_one hf
  have hff := (fine_iff _ _ _).1 hf
  obtain ⟨N, rfl⟩ := Int.eq_ofNat_of_zero_le (show 0 ≤ xn by dsimp only at hn1; omega)
  have hlt0 : (p : Int) < (n : Int) := by omega
  have hlt1 : 0 ≤ (p : Int) := by omega
  dsimp only at h3 h4
  have hk : xk = 1 ∨ xk = 2 := by omega
  have H0 := Lib.hid h0
  have hal : (ad.add (p * 3)).block < w.heap.size := by rw [add_block]; omega
  clear h hf hff hx hin h0 h3 h4
  have hfin : ∀ (v : Int) (A2 : Option Addr) (c2 : Nat) (w2 : World), v = whose ⟨xk, xp, (N : Int)⟩ → OwnV 95 2 w2 B A2 (n0 + 1) c2 (rs (L ++ [⟨v, N⟩])) → Below B (w.alloc (.cells #[.int .i64 v, .int .i64 (N : Int)] 95)) w2 → Grew A0 A2 (w.alloc (.cells #[.int .i64 v, .int .i64 (N : Int)] 95)) w2 → MoreR B A0 (L ++ [⟨whose ⟨xk, xp, (N : Int)⟩, (N : Int).toNat⟩]) w (.returned (.slice A2 (n0 + 1) c2)) w2 := fun v A2 c2 w2 hv hw hb hg => by
    refine MoreR.mk (L := L ++ [⟨v, N⟩]) (by rw [hv]; simp) (by simp [hL]) hw ?_ ((Grew.bel (bl1 w _)).trans hg)
    exact ((Below.refl B w).alloc hB _).trans hb
  have HF := Lib.hid hfin
  clear hfin
  rcases hk with rfl | rfl
  · have hw1 : OwnV 95 2 (w.alloc (.cells #[.int .i64 xp, .int .i64 (N : Int)] 95)) B A0 n0 c0 (rs L) := H0.out.below rfl (bl1 w (.cells #[.int .i64 xp, .int .i64 (N : Int)] 95))
    have hr1 := rdV_new w #[.int .i64 xp, .int .i64 (N : Int)] 95 (rs [⟨xp, N⟩]) rfl
    have hB1 : B ≤ (w.alloc (.cells #[.int .i64 xp, .int .i64 (N : Int)] 95)).heap.size := by simp; omega
    go_enter Tryz.func64, Tryz.ntmps64
    go_wp2_with fail
    go_region_law (refine step_appX elR rfl (.tmp 17) (.tmp 29) rfl rfl B A0 n0 c0 _ rfl hw1 _ 1 1 _ _ rfl hr1 rfl Nat.one_pos (rs_one _) (by omega) (by unfold maxLen; omega) hB1 (n0 + 1) rfl (rs (L ++ [⟨xp, N⟩])) (rs_append _ _).symm ?_; intro A2 c2 w2 hw2 hb2 hg2)
    all_goals
      go_wp2_with fail
      go_ret
      exact HF.out xp A2 c2 w2 rfl hw2 ⟨hb2.os, hb2.tape, hb2.output, hb2.size, hb2.block⟩ hg2.drew
  · have hw1 : OwnV 95 2 (w.alloc (.cells #[.int .i64 (-1), .int .i64 (N : Int)] 95)) B A0 n0 c0 (rs L) := H0.out.below rfl (bl1 w (.cells #[.int .i64 (-1), .int .i64 (N : Int)] 95))
    have hr1 := rdV_new w #[.int .i64 (-1), .int .i64 (N : Int)] 95 (rs [⟨-1, N⟩]) rfl
    have hB1 : B ≤ (w.alloc (.cells #[.int .i64 (-1), .int .i64 (N : Int)] 95)).heap.size := by simp; omega
    go_enter Tryz.func64, Tryz.ntmps64
    go_wp2_with (at_builtin; go_loud (refine wpList_appX elR rfl (.tmp 33) (.tmp 40) rfl rfl B A0 n0 c0 _ rfl hw1 _ 1 1 _ _ rfl hr1 rfl Nat.one_pos (rs_one _) (by omega) (by unfold maxLen; omega) hB1 (n0 + 1) rfl (rs (L ++ [⟨-1, N⟩])) (rs_append _ _).symm ?_; intro A2 c2 w2 hw2 hb2 hg2))
    go_ret
    exact HF.out (-1) A2 c2 w2 rfl hw2 hb2 hg2
theorem OwnV.older {E s : Nat} {w : World} {B n c : Nat} {A : Option Addr} {l : List Value} (h : OwnV E s w B A n c l) {g : Nat} (e : obk A = some g) : g < w.heap.size := by
  rcases h.2 with ⟨hv, _⟩ | ⟨g', cap, cur, hv, _, hg, _⟩
  · injection hv with h1
    rw [h1] at e
    cases e
  · injection hv with h1
    rw [h1] at e
    injection e with e
    rw [← e]
    exact (Array.getElem?_eq_some_iff.1 hg).1
theorem reps_more (i : Nat) (s : List Rn) : reps (i + 1) s = reps i s ++ s := by
  induction i with
  | zero => simp [reps]
  | succ j ih =>
    have e : reps (j + 1) s = s ++ reps j s := rfl
    have e2 : reps (j + 1 + 1) s = s ++ reps (j + 1) s := rfl
    rw [e2, ih, ← List.append_assoc, ← e, ih]
theorem reps_split (i N : Nat) (s : List Rn) (h : i ≤ N) : reps i s ++ reps (N - i) s = reps N s := by
  induction i with
  | zero => simp [reps]
  | succ i ih =>
    rw [← ih (by omega), reps_one (n := N - i) (by omega), show N - i - 1 = N - (i + 1) by omega, ← List.append_assoc, reps_more]
set_option maxRecDepth 100000 in
set_option maxHeartbeats 3200000 in
theorem rleaves_any (B : Nat) (A : Option Addr) (n cap : Nat) (l : List Nd) (hc : n ≤ cap) (hn : n ≤ 1099511627776) (M : Nat) : ∀ (p : Nat) (x : Nd) (k r : F) (t : List Nd) (w : World) (A0 : Option Addr) (n0 c0 : Nat) (L : List Rn), k.sz < M → RdN w B A n l → (F.cons x k r).ok → l.drop p = (F.cons x k r).flat ++ t → B ≤ w.heap.size → L.length = n0 → OwnV 95 2 w B A0 n0 c0 (rs L) → n0 + (one x k.lvs).length ≤ 1048576 →
    Calls Tryz.prog 64 #[.slice A n cap, .int .i64 p, .slice A0 n0 c0] w (MoreR B A0 (L ++ one x k.lvs) w) := by
  induction M with
  | zero => intro p x k r t w A0 n0 c0 L h; omega
  | succ M ih =>
    intro p x k r t w A0 n0 c0 L hM h hok hl hB hL h0 hs
    obtain ⟨hk, hfit, hd, hx⟩ := kids_at hok hl
    have hlen := h.len
    rw [hlen] at hfit
    have hpn : p < n := by omega
    by_cases h3 : x.k = 3
    · have hm : k.cnt ≤ n := by have := F.cnt_le_sz k; omega
      have HPD := Lib.hid fun j hj => pos_dr hok.2.2.1 hd (by omega) j hj
      have hkok := Lib.hid hok
      rw [lvs_seq h3] at hs ⊢
      generalize hmd : k.cnt = m at hk hm HPD
      have hp63 : (p : Int) ≤ 1099511627776 := by omega
      obtain ⟨ad, x', rfl, hab, hx', hin, c0', c1', c2'⟩ := h.at_ hpn
      rw [hx] at hx'
      injection hx' with hx'
      subst hx'
      obtain ⟨xk, xp, xn⟩ := x
      dsimp only at h3
      subst h3
      have HM := Lib.hid hmd
      have HK := Lib.hid hk
      have HIH := Lib.hid ih
      have HR := Lib.hid h
      have H0 := Lib.hid h0
      have HL := Lib.hid hL
      clear hk hmd hl hd hx hlen hok ih hin h h0
      go_enter Tryz.func64, Tryz.ntmps64
      go_wp2_with fail
      refine (rkids_new (some ad) n cap l (p : Int) w (HR.out.more hB) hc hn (by omega) (by omega)).mono ?_
      rw [HK.out]
      rintro e w1 ⟨A1, n1, c1, rfl, hr1, hc1, hb1, hnew⟩
      have hn1 : n1 = m := by have := hr1.len; simp [plc] at this; omega
      subst hn1
      have hw1 := H0.out.below rfl hb1
      have hs1 := hb1.size
      have HFAR : Hid (∀ ad, A1 = some ad → some ad.block ≠ obk A0) := Lib.hid fun ad' e' => by
        have h1 := hnew ad' e'
        intro e2
        have h2 := H0.out.older e2.symm
        omega
      have HW1 := Lib.hid hw1
      have HR1 := Lib.hid hr1
      clear hw1 hnew hr1 c0' c1' c2'
      go_wp2_with fail
      go_loopw [2, 63] (fun o s wr => ∃ (i : Nat) (Ao : Option Addr) (co : Nat) (Li : List Rn), i ≤ n1 ∧ s = .int .i64 i ∧ o = .slice Ao (L ++ Li).length co ∧ Li ++ (F.dr i k).lvs = k.lvs ∧ OwnV 95 2 wr B Ao (L ++ Li).length co (rs (L ++ Li)) ∧ Below B w wr ∧ Grew A0 Ao w1 wr) (fun _ s _ => n1 - (intOf s).toNat)
      case atStart => exact ⟨0, A0, c0, [], by omega, rfl, by rw [List.append_nil, HL.out], by simp [F.dr], by rw [List.append_nil, HL.out]; exact HW1.out, hb1.mono hB, Grew.refl _ _⟩
      case round =>
        obtain ⟨i, Ao, co, Li, hi, rfl, rfl, hLi, how, hb, hg⟩ := hrel
        have HLI := Lib.hid hLi
        have HOW := Lib.hid how
        have HG := Lib.hid hg
        have hbs := hb.size
        clear hLi how hg
        by_cases hlt : i < n1
        · obtain ⟨hd, hsz, hp1, hp2⟩ := HPD.out i (by omega)
          obtain ⟨y, ky, r', ed⟩ := dr_cons (f := k) (j := i) (by have := HM.out; omega)
          have hok' := dr_ok hkok.out.2.2.1 i
          have ed2 := dr_succ ed
          rw [ed] at hd hsz hok'
          have hky : ky.sz < M := by simp only [F.sz] at hsz; omega
          have hlv : Li ++ (one y ky.lvs ++ r'.lvs) = k.lvs := by have := HLI.out; rw [ed] at this; exact this
          have hlen2 : (L ++ Li).length + (one y ky.lvs).length ≤ 1048576 := by
            have := congrArg List.length hlv
            simp only [List.length_append] at this ⊢
            have := HL.out
            omega
          have hget := plc_get l (p + 1) n1 i hlt
          have HED := Lib.hid ed2
          have HLV := Lib.hid hlv
          clear hsz ed ed2 hlv
          generalize pos l (p + 1) i = P at hd hp1 hp2 hget
          obtain ⟨adk, z, rfl, hadk, hz, hcell⟩ := HR1.out.at_ hlt
          rw [hget] at hz
          injection hz with hz
          subst hz
          have hcell2 : wr.cell? (adk.add i) = some (.int .i64 (P : Int)) := by
            refine (World.cell?_of_block ?_).trans hcell
            rw [add_block]
            exact HG.out.gb.block adk.block hadk (HFAR.out adk rfl)
          clear hget hcell
          have hcall := HIH.out P y ky r' _ wr Ao (L ++ Li).length co (L ++ Li) hky (HR.out.below hb) hok' hd (by omega) rfl HOW.out hlen2
          have HCALL := Lib.hid hcall
          clear hcall hd hok' hlen2
          generalize (L ++ Li).length = q at HCALL ⊢
          go_wp2_with fail
          refine HCALL.out.mono ?_
          rintro e2 w4 ⟨A4, c4, rfl, how4, hb4, hg4⟩
          have HOW4 := Lib.hid how4
          have HG4 := Lib.hid hg4
          clear how4 hg4
          generalize hqd : (L ++ Li ++ one y ky.lvs).length = q4
          have HQD := Lib.hid hqd
          clear hqd
          go_wp2_with fail
          go_roundw
          case rel => exact ⟨i + 1, A4, c4, Li ++ one y ky.lvs, by omega, by go_num, by rw [← HQD.out, List.append_assoc], by rw [HED.out, List.append_assoc]; exact HLV.out, by rw [← List.append_assoc]; exact HOW4.out, hb.trans hb4, HG.out.trans HG4.out⟩
          case measure => simp [intOf]; omega
        · have hge : n1 ≤ i := by omega
          have e2 : F.dr i k = .nil := by rw [show i = k.cnt by have := HM.out; omega]; exact dr_all k
          have e3 : Li = k.lvs := by have := HLI.out; rw [e2] at this; simpa [F.lvs] using this
          have HE3 := Lib.hid e3
          clear e2 e3
          generalize hqd : (L ++ Li).length = q
          have HQD := Lib.hid hqd
          clear hqd
          go_wp2_with fail
          go_ret
          have hw := HOW.out
          rw [HQD.out] at hw
          exact MoreR.mk (L := L ++ Li) (by rw [HE3.out]) HQD.out.symm hw hb ((Grew.bel hb1).trans HG.out)
    · by_cases h4 : x.k = 4
      · rw [lvs_rep h4] at hs ⊢
        obtain ⟨ad, x', rfl, hab, hx', hin, c0', c1', c2'⟩ := h.at_ hpn
        rw [hx] at hx'
        injection hx' with hx'
        subst hx'
        obtain ⟨xk, xp, xn⟩ := x
        dsimp only at h4 hs
        subst h4
        have hn1 := fine_one hok.1
        obtain ⟨N, rfl⟩ := Int.eq_ofNat_of_zero_le (show 0 ≤ xn by dsimp only at hn1; omega)
        have hN2 : (N : Int) ≤ 9223372036854775807 := hin.2.2.2
        have hc' : k.cnt = 1 := hok.2.1
        cases k with
        | nil => simp [F.cnt] at hc'
        | cons y q r2 =>
          obtain rfl : r2 = .nil := F.cnt_zero (by simp only [F.cnt] at hc'; omega)
          have e1 : (F.cons y q .nil).lvs = one y q.lvs := by simp [F.lvs]
          rw [Int.toNat_natCast, e1] at hs
          simp only [Int.toNat_natCast, e1]
          have hq : q.sz < M := by simp only [F.sz] at hM; omega
          have hok2 := hok.2.2.1
          have HOK := Lib.hid hok2
          have HD := Lib.hid hd
          have HIH := Lib.hid ih
          have HR := Lib.hid h
          have H0 := Lib.hid h0
          have HL := Lib.hid hL
          have hp63 : (p : Int) ≤ 1099511627776 := by omega
          have HX := Lib.hid hx
          clear h3 hk hd hx hlen hok hl ih hin h h0 hok2 hc' c2' e1 hn1 hM
          generalize hsd : one y q.lvs = sl at hs ⊢
          have HSD := Lib.hid hsd
          clear hsd
          go_enter Tryz.func64, Tryz.ntmps64
          go_wp2_with fail
          clear c0' c1'
          go_loopw [2, 7] (fun o s wr => ∃ (i : Nat) (Ao : Option Addr) (co : Nat), i ≤ N ∧ s = .int .i64 i ∧ o = .slice Ao (L ++ reps i sl).length co ∧ OwnV 95 2 wr B Ao (L ++ reps i sl).length co (rs (L ++ reps i sl)) ∧ Below B w wr ∧ Grew A0 Ao w wr) (fun _ s _ => N - (intOf s).toNat)
          case atStart => exact ⟨0, A0, c0, by omega, rfl, by simp [reps, HL.out], by simp only [reps, List.append_nil, HL.out]; exact H0.out, Below.refl _ _, Grew.refl _ _⟩
          case round =>
            obtain ⟨i, Ao, co, hi, rfl, rfl, how, hb, hg⟩ := hrel
            have HOW := Lib.hid how
            have HG := Lib.hid hg
            have hbs := hb.size
            clear how hg
            obtain ⟨ad', x', e, _, hx', _, k0, k1, k2⟩ := (HR.out.below hb).at_ hpn
            injection e with e
            subst e
            rw [HX.out] at hx'
            injection hx' with hx'
            subst hx'
            clear k0 k1
            by_cases hlt : i < N
            · have hlen2 : (L ++ reps i sl).length + (one y q.lvs).length ≤ 1048576 := by
                rw [HSD.out]
                have := congrArg List.length (reps_split (i + 1) N sl (by omega))
                rw [reps_more] at this
                simp only [List.length_append] at this ⊢
                have := HL.out
                omega
              have hcall := HIH.out (p + 1) y q .nil _ wr Ao (L ++ reps i sl).length co (L ++ reps i sl) hq (HR.out.below hb) HOK.out HD.out (by omega) rfl HOW.out hlen2
              rw [HSD.out] at hcall
              have HCALL := Lib.hid hcall
              clear hcall hlen2
              generalize (L ++ reps i sl).length = q1 at HCALL ⊢
              go_wp2_with fail
              refine HCALL.out.mono ?_
              rintro e2 w4 ⟨A4, c4, rfl, how4, hb4, hg4⟩
              have HOW4 := Lib.hid how4
              have HG4 := Lib.hid hg4
              clear how4 hg4
              generalize hqd : (L ++ reps i sl ++ sl).length = q4
              have HQD := Lib.hid hqd
              clear hqd
              go_wp2_with fail
              go_roundw
              case rel => exact ⟨i + 1, A4, c4, by omega, by go_num, by rw [← HQD.out, List.append_assoc, ← reps_more], by rw [reps_more, ← List.append_assoc]; exact HOW4.out, hb.trans hb4, HG.out.trans HG4.out⟩
              case measure => simp [intOf]; omega
            · have hge : N ≤ i := by omega
              have e3 : i = N := by omega
              have HE3 := Lib.hid e3
              clear e3
              generalize hqd : (L ++ reps i sl).length = q1
              have HQD := Lib.hid hqd
              clear hqd
              go_wp2_with fail
              go_ret
              have hw := HOW.out
              rw [HQD.out] at hw
              exact MoreR.mk (L := L ++ reps i sl) (by rw [HE3.out]) HQD.out.symm hw hb HG.out
      · have hk0 : k = .nil := F.cnt_zero (by rw [hok.2.1]; unfold kn; rw [if_neg h3, if_neg h4])
        rw [lvs_leaf h3 h4]
        exact leaf1_any B A n cap l hc hn p x w h hx hok.1 h3 h4 hB A0 n0 c0 L hL h0 (by omega)
end Go.Proofs.YtebcfiifaclniaaGreat

/- The path of open nodes in memory: how often the next node is gone through; the path behind a node. -/
namespace Go.Proofs.YtebcfiifaclniaaGreat
open Go.RowKit Tab
set_option linter.unusedSimpArgs false
set_option linter.unusedVariables false

/-- A path as cells: the outermost first. -/
def os : List (Nat × Nat) → List Value
  | [] => []
  | (a, t) :: o => os o ++ [.int .i64 (a : Int), .int .i64 (t : Int)]
theorem os_length (st : List (Nat × Nat)) : (os st).length = st.length * 2 := by
  induction st with
  | nil => rfl
  | cons e o ih => obtain ⟨a, t⟩ := e; simp only [os, List.length_append, ih, List.length_cons, List.length_nil]; omega
theorem os_last (a t : Nat) (o : List (Nat × Nat)) : (os ((a, t) :: o))[o.length * 2]? = some (.int .i64 (a : Int)) ∧ (os ((a, t) :: o))[o.length * 2 + 1]? = some (.int .i64 (t : Int)) := by
  have := os_length o
  constructor
  · simp only [os]; rw [List.getElem?_append_right (by omega), this, Nat.sub_self]; rfl
  · simp only [os]; rw [List.getElem?_append_right (by omega), this, show o.length * 2 + 1 - o.length * 2 = 1 by omega]; rfl
theorem os_set (a t : Nat) (o : List (Nat × Nat)) (b : Nat) : (os ((a, t) :: o)).set (o.length * 2) (.int .i64 (b : Int)) = os ((b, t) :: o) := by
  have := os_length o
  simp only [os]
  rw [List.set_append_right _ _ (by omega), this, Nat.sub_self]
  rfl
theorem os_dec (a t : Nat) (o : List (Nat × Nat)) (h : 1 ≤ a) : (os ((a, t) :: o)).set (o.length * 2) (.int .i64 ((a : Int) - 1)) = os ((a - 1, t) :: o) := by
  rw [show (a : Int) - 1 = ((a - 1 : Nat) : Int) by omega]
  exact os_set a t o (a - 1)
/-- A path of the call's own. -/
def OwnP (w : World) (B : Nat) (A : Option Addr) (n c : Nat) (st : List (Nat × Nat)) : Prop := n = st.length ∧ OwnV 140 2 w B A n c (os st)
theorem OwnP.nil (w : World) (B : Nat) : OwnP w B none 0 0 [] := ⟨rfl, OwnV.nil _ _ _ _⟩

set_option maxHeartbeats 400000 in
theorem times_any (B : Nat) (A : Option Addr) (n c : Nat) (st : List (Nat × Nat)) (w : World) (h : OwnP w B A n c st) (hn : n ≤ 1099511627776) :
    Calls Tryz.prog 92 #[.slice A n c] w fun e w' => e = .returned (.int .i64 (times st : Nat)) ∧ w = w' := by
  obtain ⟨h0, h⟩ := h
  cases st with
  | nil =>
    simp only [List.length_nil] at h0
    subst h0
    go_enter Tryz.func92, Tryz.ntmps92
    go_wp2_with fail
    go_ret
    exact ⟨rfl, rfl⟩
  | cons e o =>
    obtain ⟨a, t⟩ := e
    obtain ⟨g, rfl, hg, hlt⟩ := h.block (by simp at h0; omega)
    have h1 := World.ownsRow.cellAt h (o.length * 2 + 1) (by simp at h0; omega)
    rw [(os_last a t o).2] at h1
    simp only [List.length_cons] at h0
    generalize o.length = k at h0 h1
    subst h0
    clear h
    have hk : ((k : Int) + 1 == 0) = false := beq_eq_false_iff_ne.2 (by omega)
    go_enter Tryz.func92, Tryz.ntmps92
    go_wp2_with fail
    go_ret
    exact ⟨rfl, rfl⟩
theorem OwnV.front {E s : Nat} {w : World} {B : Nat} {A : Option Addr} {n c : Nat} {l : List Value} (h : OwnV E s w B A n c l) (m : Nat) (hm : m ≤ n) : OwnV E s w B A m c (l.take (m * s)) := by
  have h0 : m * s ≤ n * s := Nat.mul_le_mul_right _ hm
  refine ⟨by rw [List.length_take, h.1]; omega, ?_⟩
  rcases h.2 with ⟨hv, hz⟩ | ⟨g, cap, cur, hv, hbg, hg, hnc, hcm, hcs, ht⟩
  · refine .inl ⟨?_, by omega⟩
    simp only [Value.slice.injEq] at hv ⊢
    exact ⟨hv.1, by omega, hv.2.2⟩
  · simp only [Value.slice.injEq] at hv
    obtain ⟨rfl, _, rfl⟩ := hv
    refine .inr ⟨g, c, cur, rfl, hbg, hg, by omega, hcm, hcs, ?_⟩
    rw [← ht, List.take_take, Nat.min_eq_left h0]
theorem os_take (a t : Nat) (o : List (Nat × Nat)) : (os ((a, t) :: o)).take (o.length * 2) = os o := by
  simp only [os]
  exact List.take_left' (os_length o)
/-- It answers a path of the call's own. -/
def Paths (B : Nat) (w : World) (st : List (Nat × Nat)) (e : Ending) (w' : World) : Prop := ∃ A n c, e = .returned (.slice A n c) ∧ OwnP w' B A n c st ∧ Below B w w'
theorem pops_more {a t : Nat} {o : List (Nat × Nat)} (h : 1 < a) : pops ((a, t) :: o) = (a - 1, t) :: o := by simp only [pops]; rw [if_pos h]
theorem pops_less {a t : Nat} {o : List (Nat × Nat)} (h : ¬ 1 < a) : pops ((a, t) :: o) = pops o := by simp only [pops]; rw [if_neg h]
set_option maxRecDepth 100000 in
set_option maxHeartbeats 1600000 in
theorem behind_leaf (B : Nat) (A : Option Addr) (n c : Nat) (st : List (Nat × Nat)) (k p z : Int) (w : World) (h : OwnP w B A n c st) (hB : B ≤ w.heap.size) (hn : n ≤ 1099511627776) (h3 : ¬ k = 3) (h4 : ¬ k = 4) (ha : ∀ e ∈ st, 1 ≤ e.1 ∧ e.1 ≤ 1099511627776) :
    Calls Tryz.prog 89 #[.slice A n c, nd k p z] w (Paths B w (pops st)) := by
  have h3' : (k == 3) = false := beq_eq_false_iff_ne.2 h3
  have h4' : (k == 4) = false := beq_eq_false_iff_ne.2 h4
  have hbl : Below B w (w.alloc (.cells #[.int .i64 k, .int .i64 p, .int .i64 z] 43)) := (Below.refl _ _).alloc hB _
  have hal : OwnV 140 2 (w.alloc (.cells #[.int .i64 k, .int .i64 p, .int .i64 z] 43)) B A n c (os st) := h.2.below rfl (bl1 _ _)
  obtain ⟨h0, _⟩ := h
  have H0 := Lib.hid h0
  have HA := Lib.hid ha
  clear h3 h4 h0 ha
  go_enter Tryz.func89, Tryz.ntmps89
  go_wp2_with fail
  go_loopw [0, 5] (fun q _ wr => ∃ (m : Nat) (st' : List (Nat × Nat)), q = .slice A m c ∧ m ≤ 1099511627776 ∧ OwnP wr B A m c st' ∧ pops st' = pops st ∧ (∀ e ∈ st', 1 ≤ e.1 ∧ e.1 ≤ 1099511627776) ∧ Below B w wr) (fun q _ _ => lenOf q)
  case atStart => exact ⟨n, st, rfl, hn, ⟨H0.out, hal⟩, rfl, HA.out, hbl⟩
  case round =>
    obtain ⟨m, st', rfl, hm, ⟨hm0, hw⟩, hp, ha, hb⟩ := hrel
    have HP := Lib.hid hp
    have HA' := Lib.hid ha
    clear hp ha hal hbl
    cases st' with
    | nil =>
      simp only [List.length_nil] at hm0
      subst hm0
      go_wp2_with fail
      go_ret
      exact ⟨A, 0, c, rfl, by rw [← HP.out]; exact ⟨rfl, hw⟩, hb⟩
    | cons e o =>
      obtain ⟨a, t⟩ := e
      obtain ⟨ha1, ha2⟩ := HA'.out (a, t) (by simp)
      dsimp only at ha1 ha2
      obtain ⟨g, rfl, hg, hlt⟩ := hw.block (by simp at hm0; omega)
      have c0 := World.ownsRow.cellAt hw (o.length * 2) (by simp at hm0; omega)
      rw [(os_last a t o).1] at c0
      have hfree := World.ownsRow.frozenAt hw (o.length * 2)
      have hst := (World.ownsRow.stored hw (o.length * 2) (.int .i64 ((a : Int) - 1))).1
      rw [os_dec a t o ha1] at hst
      have hbs := hb.setCell (p := ⟨g, o.length * 2, none⟩) hg (.int .i64 ((a : Int) - 1))
      have hfr : OwnV 140 2 _ B _ _ c _ := OwnV.front hst o.length (by simp at hm0; omega)
      rw [os_take] at hfr
      have hcap := hw.cap
      simp only [List.length_cons] at hm0
      generalize hod : o.length = q at hm0 c0 hfree hst hbs hfr
      have HOD := Lib.hid hod
      clear hod hw
      subst hm0
      by_cases h1 : 1 < a
      · go_wp2_with fail
        go_ret
        exact ⟨_, q + 1, c, rfl, by rw [← HP.out, pops_more h1]; exact ⟨by simp [HOD.out], hst⟩, hbs⟩
      · have h1' : a ≤ 1 := by omega
        go_wp2_with fail
        go_roundw
        case rel => exact ⟨q, o, rfl, by omega, ⟨HOD.out.symm, hfr⟩, by rw [← HP.out, pops_less (by omega)], fun e he => HA'.out e (by simp [he]), hbs⟩
        case measure => simp [lenOf]
end Go.Proofs.YtebcfiifaclniaaGreat

/- The path behind a node that has children. -/
namespace Go.Proofs.YtebcfiifaclniaaGreat
open Go.RowKit Tab
set_option linter.unusedSimpArgs false
set_option linter.unusedVariables false

theorem run_push (w : World) (B : Nat) (A : Option Addr) (n c : Nat) (st : List (Nat × Nat)) (N T : Nat) (h : OwnP w B A n c st) (hn : n ≤ 1099511627776) (hB : B ≤ w.heap.size) (g : Nat)
    (c0 : w.cell? ⟨g, 0, none⟩ = some (.int .i64 (N : Int))) (c1 : w.cell? ⟨g, 1, none⟩ = some (.int .i64 (T : Int))) :
    ∃ A' c' w', (Builtin.append_ #[123, 123] 123 #[.slice A n c, .slice (some ⟨g, 0, none⟩) 1 1]).run Tryz.prog w = .ok (.slice A' (n + 1) c') w' ∧ OwnP w' B A' (n + 1) c' ((N, T) :: st) ∧ Below B w w' ∧ OwnP w' B A n c st ∧
      ∀ k, (∀ g', A = some ⟨g', 0, none⟩ → k ≠ g') → k < w.heap.size → w'.heap[k]? = w.heap[k]? := by
  obtain ⟨h0, h⟩ := h
  have hc : ∀ j u, ([.int .i64 (N : Int), .int .i64 (T : Int)] : List Value)[j]? = some u → w.cell? ((⟨g, 0, none⟩ : Addr).add j) = some u := by
    intro j u hu
    match j, hu with
    | 0, hu => simp at hu; subst hu; exact c0
    | 1, hu => simp at hu; subst hu; exact c1
  have hone : ∀ u ∈ ([.int .i64 (N : Int), .int .i64 (T : Int)] : List Value), u.oneCell' = true := by
    intro u hu
    simp at hu
    rcases hu with rfl | rfl <;> rfl
  have hlen : ((N, T) :: st).length = st.length + 1 := rfl
  cases A with
  | none =>
    have hgl : g < w.heap.size := World.block_lt_of_cell? w _ c0
    obtain ⟨A', c', w', h1, h2, h3, h4⟩ := run_appV elO w B none n c (os st) h (some ⟨g, 0, none⟩) 1 1 [.int .i64 (N : Int), .int .i64 (T : Int)] w.heap.size (fun _ => ⟨_, rfl, hgl, hc⟩) rfl hone (by omega) (by unfold maxLen; omega) hB
    refine ⟨A', c', w', h1, ⟨by rw [hlen, h0], h2⟩, h3, ⟨h0, ?_⟩, fun k _ hk => h4 0 (fun g' hg' => by cases hg') k (Nat.zero_le _) hk⟩
    exact h.keep fun b _ hb => h4 0 (fun g' hg' => by cases hg') b (Nat.zero_le _) hb
  | some ad =>
    have e : ∃ g', ad = ⟨g', 0, none⟩ := by
      rcases h.2 with ⟨hv, _⟩ | ⟨g', cap, cur, hv, _⟩
      · cases hv
      · injection hv with h1; injection h1 with h1; exact ⟨g', h1⟩
    obtain ⟨g', rfl⟩ := e
    obtain ⟨A', c', w', h1, h2, h3, h4, h5⟩ := run_appK elO w B g' n c (os st) h ⟨g, 0, none⟩ 1 1 [.int .i64 (N : Int), .int .i64 (T : Int)] hc rfl hone (by omega) (by unfold maxLen; omega) hB
    exact ⟨A', c', w', h1, ⟨by rw [hlen, h0], h2⟩, h3, ⟨h0, h4⟩, fun k hk hlt => h5 k (hk g' rfl) hlt⟩

/-- A literal's new block that holds a pair. -/
def LitP (bx N T : Nat) (v : Value) (w : World) : Prop := ∃ g, v = .slice (some ⟨g, 0, none⟩) 1 1 ∧ bx < g ∧ g < w.heap.size ∧ w.cell? ⟨g, 0, none⟩ = some (.int .i64 (N : Int)) ∧ w.cell? ⟨g, 1, none⟩ = some (.int .i64 (T : Int))
def PushP (B n : Nat) (st : List (Nat × Nat)) (v : Value) (w : World) : Prop := ∃ A' c', v = .slice A' (n + 1) c' ∧ OwnP w B A' (n + 1) c' st
/-- What stands while a pair is pushed. -/
structure PushW (B : Nat) (A : Option Addr) (n c : Nat) (st : List (Nat × Nat)) (bx : Nat) (z : Int) (w0 w : World) : Prop where
  bel : Below B w0 w
  own : OwnP w B A n c st
  cell : w.cell? ⟨bx, 2, none⟩ = some (.int .i64 z)
  lt : bx < w.heap.size
  low : ∀ g, A = some ⟨g, 0, none⟩ → g < bx
theorem OwnP.keep {w w' : World} {B n c : Nat} {A : Option Addr} {st : List (Nat × Nat)} (h : OwnP w B A n c st) (hk : ∀ b, B ≤ b → b < w.heap.size → w'.heap[b]? = w.heap[b]?) : OwnP w' B A n c st := ⟨h.1, h.2.keep hk⟩
theorem cell_block {w w' : World} {g o : Nat} (h : w'.heap[g]? = w.heap[g]?) : w'.cell? ⟨g, o, none⟩ = w.cell? ⟨g, o, none⟩ := World.cell?_of_block h
theorem LitP.keep {bx N T : Nat} {v : Value} {w w' : World} (h : LitP bx N T v w) (hs : w.heap.size ≤ w'.heap.size) (hk : ∀ k, bx < k → k < w.heap.size → w'.heap[k]? = w.heap[k]?) : LitP bx N T v w' := by
  obtain ⟨g, e, h1, h2, h3, h4⟩ := h
  have := hk g h1 h2
  exact ⟨g, e, h1, by omega, (cell_block this).trans h3, (cell_block this).trans h4⟩
theorem PushP.keep {B n : Nat} {st : List (Nat × Nat)} {v : Value} {w w' : World} (h : PushP B n st v w) (hk : ∀ k, k < w.heap.size → w'.heap[k]? = w.heap[k]?) : PushP B n st v w' := by
  obtain ⟨A', c', e, h⟩ := h
  exact ⟨A', c', e, h.keep fun b _ hb => hk b hb⟩
theorem PushW.alloc {B : Nat} {A : Option Addr} {n c : Nat} {st : List (Nat × Nat)} {bx : Nat} {z : Int} {w0 w : World} (h : PushW B A n c st bx z w0 w) (hB : B ≤ w0.heap.size) (o : Obj) : PushW B A n c st bx z w0 (w.alloc o) := by
  have hs := h.bel.size
  refine ⟨h.bel.alloc (by omega) o, h.own.keep fun b _ hb => Below.heap_alloc w o b hb, ?_, by simp; have := h.lt; omega, h.low⟩
  exact (cell_block (Below.heap_alloc w o bx h.lt)).trans h.cell
set_option maxRecDepth 100000 in
theorem built_pair (x y : Int) : Tryz.prog.built 140 [(0, .int .i64 x), (1, .int .i64 y)] = some #[.int .i64 x, .int .i64 y] := by
  rfl
theorem hl_hold (a b h : Nat) (e : hold a b = h) : hl (a : Int) (b : Int) = (h : Int) := by
  rw [← e]
  unfold hl hold
  rw [← Int.natCast_mul]
  split <;> split <;> omega
def SqV (B : Nat) (A : Option Addr) (n c : Nat) (st : List (Nat × Nat)) (bx N T : Nat) (j : Nat) (v : Value) (w : World) : Prop :=
  match j with
  | 0 => v = .slice A n c
  | 1 => v = .pointer (some ⟨bx, 2, none⟩)
  | 2 => v = .int .i64 (N : Int)
  | 3 => v = .slice A n c
  | 4 => v = .int .i64 (T : Int)
  | 5 => v = .agg #[.int .i64 (N : Int), .int .i64 (T : Int)]
  | 6 => LitP bx N T v w
  | 7 => PushP B n ((N, T) :: st) v w
  | 8 => PushP B n ((N, T) :: st) v w
  | _ => True
theorem SqV.keep {B : Nat} {A : Option Addr} {n c : Nat} {st : List (Nat × Nat)} {bx N T : Nat} {w w' : World} (hs : w.heap.size ≤ w'.heap.size) (hk : ∀ k, k < w.heap.size → w'.heap[k]? = w.heap[k]?) (j : Nat) (v : Value) (h : SqV B A n c st bx N T j v w) : SqV B A n c st bx N T j v w' := by
  unfold SqV at h ⊢
  split at h <;> first | exact h | exact LitP.keep h hs (fun k _ hk' => hk k hk') | exact PushP.keep h hk
theorem SqV.push {B : Nat} {A : Option Addr} {n c : Nat} {st : List (Nat × Nat)} {bx N T : Nat} {w w' : World} (hlow : ∀ g, A = some ⟨g, 0, none⟩ → g < bx) (hs : w.heap.size ≤ w'.heap.size) (hk : ∀ k, (∀ g', A = some ⟨g', 0, none⟩ → k ≠ g') → k < w.heap.size → w'.heap[k]? = w.heap[k]?) (j : Nat) (hj : j ≠ 7) (hj2 : j ≠ 8) (v : Value) (h : SqV B A n c st bx N T j v w) : SqV B A n c st bx N T j v w' := by
  unfold SqV at h ⊢
  split at h <;> first | exact h | exact LitP.keep h hs (fun k hk1 hk' => hk k (fun g' hg' => by have := hlow g' hg'; omega) hk') | (exact absurd rfl hj) | (exact absurd rfl hj2)
set_option maxRecDepth 100000 in
set_option maxHeartbeats 1600000 in
theorem behind_seq (B : Nat) (A : Option Addr) (n c : Nat) (st : List (Nat × Nat)) (p : Int) (N : Nat) (w : World) (h : OwnP w B A n c st) (hB : B ≤ w.heap.size) (hn : n ≤ 1099511627776) :
    Calls Tryz.prog 89 #[.slice A n c, nd 3 p (N : Int)] w (Paths B w ((N, times st) :: st)) := by
  generalize hTd : times st = T
  have HT : Hid (times st = T) := Lib.hid hTd
  clear hTd
  have hlow : ∀ g, A = some ⟨g, 0, none⟩ → g < w.heap.size := fun g hg => by
    rcases h.2.2 with ⟨hv, _⟩ | ⟨g', cap, cur, hv, _, hg', _⟩
    · rw [hg] at hv; cases hv
    · rw [hg] at hv
      injection hv with h1; injection h1 with h1; injection h1 with h1
      rw [h1]
      exact (Array.getElem?_eq_some_iff.1 hg').1
  have hw0 : PushW B A n c st w.heap.size (N : Int) w (w.alloc (.cells #[.int .i64 3, .int .i64 p, .int .i64 (N : Int)] 43)) :=
    ⟨(Below.refl _ _).alloc hB _, h.keep fun b _ hb => Below.heap_alloc w _ b hb, by simp [World.cell?_alloc_mark], by simp, hlow⟩
  have hB0 := hB
  clear h hlow
  have HW := Lib.hid hw0
  clear hw0
  go_enter Tryz.func89, Tryz.ntmps89
  go_wp2_with fail
  have hw0 := HW.out
  clear HW
  generalize w.alloc (.cells #[.int .i64 3, .int .i64 p, .int .i64 (N : Int)] 43) = ws at hw0 ⊢
  generalize w.heap.size = bx at hw0 ⊢
  refine Reg.region (by kernel_rfl) (by kernel_rfl) (SqV B A n c st bx N T) (PushW B A n c st bx (N : Int) w) ⟨hw0.bel.drew, hw0.own, hw0.cell, hw0.lt, hw0.low⟩ (Reg.steps_of ?_) ?_
  · refine ⟨?_, ?_, ?_, ?_, ?_, ?_, ?_, ?_, ?_, trivial⟩
    · intro a w1 E D hW
      have e0 : a.eval (.tmp 0) = .slice A n c := E 0 rfl
      exact Reg.val rfl (Reg.wanted_free rfl) hW (.slice A n c) (by have c := Reg.consts a; generalize a.eval = ρ at *; simp [go_sem, c.1, c.2, e0]) rfl
    · intro a w1 E D hW
      have e3 : a.eval (.tmp 3) = .pointer (some ⟨bx, 0, none⟩) := E 3 rfl
      exact Reg.val rfl (Reg.wanted_free rfl) hW (.pointer (some ⟨bx, 2, none⟩)) (by have c := Reg.consts a; generalize a.eval = ρ at *; simp [go_sem, c.1, c.2, e3]) rfl
    · intro a w1 E D hW
      have d1 : a.eval (.tmp 11) = .pointer (some ⟨bx, 2, none⟩) := D 1 rfl
      have hc := hW.cell
      exact Reg.val rfl (Reg.wanted_free rfl) hW (.int .i64 (N : Int)) (by have c := Reg.consts a; generalize a.eval = ρ at *; simp [go_sem, c.1, c.2, d1, hc]) rfl
    · intro a w1 E D hW
      have e0 : a.eval (.tmp 0) = .slice A n c := E 0 rfl
      exact Reg.val rfl (Reg.wanted_free rfl) hW (.slice A n c) (by have c := Reg.consts a; generalize a.eval = ρ at *; simp [go_sem, c.1, c.2, e0]) rfl
    · intro a w1 E D hW
      have d3 : a.eval (.tmp 13) = .slice A n c := D 3 rfl
      refine Reg.call rfl (Reg.wanted_free rfl) 92 #[.slice A n c] (by have c := Reg.consts a; generalize a.eval = ρ at *; simp [go_sem, c.1, c.2, d3]) ?_
      refine (times_any B A n c st w1 hW.own hn).mono ?_
      rintro e w2 ⟨rfl, rfl⟩
      exact ⟨_, rfl, HT.out ▸ rfl, hW, fun _ _ h => h⟩
    · intro a w1 E D hW
      have d2 : a.eval (.tmp 12) = .int .i64 (N : Int) := D 2 rfl
      have d4 : a.eval (.tmp 14) = .int .i64 (T : Int) := D 4 rfl
      have hbd := built_pair (N : Int) (T : Int)
      exact Reg.val rfl (Reg.wanted_free rfl) hW (.agg #[.int .i64 (N : Int), .int .i64 (T : Int)]) (by have c := Reg.consts a; generalize a.eval = ρ at *; simp [execOp, go_sem, c.1, c.2, d2, d4, hbd]) rfl
    · intro a w1 E D hW
      have d5 : a.eval (.tmp 15) = .agg #[.int .i64 (N : Int), .int .i64 (T : Int)] := D 5 rfl
      refine Reg.grow rfl (Reg.wanted_free rfl) (.slice (some ⟨w1.heap.size, 0, none⟩) 1 1) (w1.alloc (.cells #[.int .i64 (N : Int), .int .i64 (T : Int)] 140)) ?_ ?_ (hW.alloc hB0 _) (fun j v _ h => SqV.keep (by simp) (fun k hk => Below.heap_alloc w1 _ k hk) j v h)
      · have c := Reg.consts a
        generalize a.eval = ρ at *
        simp [execOp, go_sem, c.1, c.2, d5]
      · exact ⟨w1.heap.size, rfl, hW.lt, by simp, by simp [World.cell?_alloc_mark], by simp [World.cell?_alloc_mark]⟩
    · intro a w1 E D hW
      have d0 : a.eval (.tmp 10) = .slice A n c := D 0 rfl
      obtain ⟨g, d6, hg1, hg2, hg3, hg4⟩ : LitP bx N T (a.eval (.tmp 16)) w1 := D 6 rfl
      have hB1 : B ≤ w1.heap.size := by have := hW.bel.size; omega
      obtain ⟨A', c', w', hrun, h1, h2, h3, h4⟩ := run_push w1 B A n c st N T hW.own hn hB1 g hg3 hg4
      have hs := h2.size
      refine Reg.growL rfl (Reg.wanted_free rfl) (.slice A' (n + 1) c') w' ?_ ⟨A', c', rfl, h1⟩ ⟨hW.bel.trans h2, h3, (cell_block (h4 bx (fun g' hg' => by have := hW.low g' hg'; omega) hW.lt)).trans hW.cell, by have := hW.lt; omega, hW.low⟩ ?_
      · have c := Reg.consts a
        generalize a.eval = ρ at *
        simp only [execOp, resolve, invoke, builtin, Sem.run_bind, Sem.run_pure, Result.andThen_ok, List.map_toArray, List.map_cons, List.map_nil, d0, d6, hrun]
      · intro live hcl h0 j v hj hv
        refine SqV.push hW.low hs h4 j ?_ ?_ v hv
        · rintro rfl; rw [h0] at hj; cases hj
        · rintro rfl
          have := Reg.not_live hcl h0 (j := 8) rfl rfl
          rw [this] at hj; cases hj
    · intro a w1 E D hW
      obtain ⟨A', c', d7, h1⟩ : PushP B n ((N, T) :: st) (a.eval (.tmp 17)) w1 := D 7 rfl
      exact Reg.val rfl (Reg.wanted_free rfl) hW (.slice A' (n + 1) c') (by have c := Reg.consts a; generalize a.eval = ρ at *; simp [go_sem, c.1, c.2, d7]) ⟨A', c', rfl, h1⟩
  · intro a w3 hs hd E D hW
    obtain ⟨A', c', d8, h1⟩ : PushP B n ((N, T) :: st) (a.eval (.tmp 4)) w3 := D 8 (by decide)
    have hb3 := hW.bel
    rw [Reg.act_lit a 53 hs, hd]
    simp only [List.range, List.range.loop, List.map, d8]
    clear E D d8 hW hw0
    generalize a.eval = ρ
    clear a hs hd
    go_wp2_with fail
    go_ret
    exact ⟨A', n + 1, c', rfl, h1, hb3⟩
def RpV (B : Nat) (A : Option Addr) (n c : Nat) (st : List (Nat × Nat)) (bx N T H : Nat) (j : Nat) (v : Value) (w : World) : Prop :=
  match j with
  | 0 => v = .slice A n c
  | 1 => v = .pointer (some ⟨bx, 2, none⟩)
  | 2 => v = .int .i64 (N : Int)
  | 3 => v = .slice A n c
  | 4 => v = .int .i64 (T : Int)
  | 5 => v = .int .i64 (H : Int)
  | 6 => v = .agg #[.int .i64 1, .int .i64 (H : Int)]
  | 7 => LitP bx 1 H v w
  | 8 => PushP B n ((1, H) :: st) v w
  | 9 => PushP B n ((1, H) :: st) v w
  | _ => True
theorem RpV.keep {B : Nat} {A : Option Addr} {n c : Nat} {st : List (Nat × Nat)} {bx N T H : Nat} {w w' : World} (hs : w.heap.size ≤ w'.heap.size) (hk : ∀ k, k < w.heap.size → w'.heap[k]? = w.heap[k]?) (j : Nat) (v : Value) (h : RpV B A n c st bx N T H j v w) : RpV B A n c st bx N T H j v w' := by
  unfold RpV at h ⊢
  split at h <;> first | exact h | exact LitP.keep h hs (fun k _ hk' => hk k hk') | exact PushP.keep h hk
theorem RpV.push {B : Nat} {A : Option Addr} {n c : Nat} {st : List (Nat × Nat)} {bx N T H : Nat} {w w' : World} (hlow : ∀ g, A = some ⟨g, 0, none⟩ → g < bx) (hs : w.heap.size ≤ w'.heap.size) (hk : ∀ k, (∀ g', A = some ⟨g', 0, none⟩ → k ≠ g') → k < w.heap.size → w'.heap[k]? = w.heap[k]?) (j : Nat) (hj : j ≠ 8) (hj2 : j ≠ 9) (v : Value) (h : RpV B A n c st bx N T H j v w) : RpV B A n c st bx N T H j v w' := by
  unfold RpV at h ⊢
  split at h <;> first | exact h | exact LitP.keep h hs (fun k hk1 hk' => hk k (fun g' hg' => by have := hlow g' hg'; omega) hk') | (exact absurd rfl hj) | (exact absurd rfl hj2)
set_option maxRecDepth 100000 in
set_option maxHeartbeats 1600000 in
theorem behind_rep (B : Nat) (A : Option Addr) (n c : Nat) (st : List (Nat × Nat)) (p : Int) (N : Nat) (w : World) (h : OwnP w B A n c st) (hB : B ≤ w.heap.size) (hn : n ≤ 1099511627776) (hN : 1 ≤ N) (hN2 : N ≤ 9223372036854775807) (hT1 : 1 ≤ times st) (hT2 : times st ≤ 4097) :
    Calls Tryz.prog 89 #[.slice A n c, nd 4 p (N : Int)] w (Paths B w ((1, hold N (times st)) :: st)) := by
  generalize hTd : times st = T at hT1 hT2 ⊢
  generalize hHd : hold N T = H
  have HT : Hid (times st = T) := Lib.hid hTd
  have HH : Hid (hl (N : Int) (T : Int) = (H : Int)) := Lib.hid (hl_hold N T H hHd)
  clear hHd
  clear hTd
  have hlow : ∀ g, A = some ⟨g, 0, none⟩ → g < w.heap.size := fun g hg => by
    rcases h.2.2 with ⟨hv, _⟩ | ⟨g', cap, cur, hv, _, hg', _⟩
    · rw [hg] at hv; cases hv
    · rw [hg] at hv
      injection hv with h1; injection h1 with h1; injection h1 with h1
      rw [h1]
      exact (Array.getElem?_eq_some_iff.1 hg').1
  have hw0 : PushW B A n c st w.heap.size (N : Int) w (w.alloc (.cells #[.int .i64 4, .int .i64 p, .int .i64 (N : Int)] 43)) :=
    ⟨(Below.refl _ _).alloc hB _, h.keep fun b _ hb => Below.heap_alloc w _ b hb, by simp [World.cell?_alloc_mark], by simp, hlow⟩
  have hB0 := hB
  clear h hlow
  have HW := Lib.hid hw0
  clear hw0
  go_enter Tryz.func89, Tryz.ntmps89
  go_wp2_with fail
  have hw0 := HW.out
  clear HW
  generalize w.alloc (.cells #[.int .i64 4, .int .i64 p, .int .i64 (N : Int)] 43) = ws at hw0 ⊢
  generalize w.heap.size = bx at hw0 ⊢
  refine Reg.region (by kernel_rfl) (by kernel_rfl) (RpV B A n c st bx N T H) (PushW B A n c st bx (N : Int) w) ⟨hw0.bel.drew, hw0.own, hw0.cell, hw0.lt, hw0.low⟩ (Reg.steps_of ?_) ?_
  · refine ⟨?_, ?_, ?_, ?_, ?_, ?_, ?_, ?_, ?_, ?_, trivial⟩
    · intro a w1 E D hW
      have e0 : a.eval (.tmp 0) = .slice A n c := E 0 rfl
      exact Reg.val rfl (Reg.wanted_free rfl) hW (.slice A n c) (by have c := Reg.consts a; generalize a.eval = ρ at *; simp [go_sem, c.1, c.2, e0]) rfl
    · intro a w1 E D hW
      have e3 : a.eval (.tmp 3) = .pointer (some ⟨bx, 0, none⟩) := E 3 rfl
      exact Reg.val rfl (Reg.wanted_free rfl) hW (.pointer (some ⟨bx, 2, none⟩)) (by have c := Reg.consts a; generalize a.eval = ρ at *; simp [go_sem, c.1, c.2, e3]) rfl
    · intro a w1 E D hW
      have d1 : a.eval (.tmp 21) = .pointer (some ⟨bx, 2, none⟩) := D 1 rfl
      have hc := hW.cell
      exact Reg.val rfl (Reg.wanted_free rfl) hW (.int .i64 (N : Int)) (by have c := Reg.consts a; generalize a.eval = ρ at *; simp [go_sem, c.1, c.2, d1, hc]) rfl
    · intro a w1 E D hW
      have e0 : a.eval (.tmp 0) = .slice A n c := E 0 rfl
      exact Reg.val rfl (Reg.wanted_free rfl) hW (.slice A n c) (by have c := Reg.consts a; generalize a.eval = ρ at *; simp [go_sem, c.1, c.2, e0]) rfl
    · intro a w1 E D hW
      have d3 : a.eval (.tmp 23) = .slice A n c := D 3 rfl
      refine Reg.call rfl (Reg.wanted_free rfl) 92 #[.slice A n c] (by have c := Reg.consts a; generalize a.eval = ρ at *; simp [go_sem, c.1, c.2, d3]) ?_
      refine (times_any B A n c st w1 hW.own hn).mono ?_
      rintro e w2 ⟨rfl, rfl⟩
      exact ⟨_, rfl, HT.out ▸ rfl, hW, fun _ _ h => h⟩
    · intro a w1 E D hW
      have d2 : a.eval (.tmp 22) = .int .i64 (N : Int) := D 2 rfl
      have d4 : a.eval (.tmp 24) = .int .i64 (T : Int) := D 4 rfl
      refine Reg.call rfl (Reg.wanted_free rfl) 91 #[.int .i64 (N : Int), .int .i64 (T : Int)] (by have c := Reg.consts a; generalize a.eval = ρ at *; simp [go_sem, c.1, c.2, d2, d4]) ?_
      refine (held_any (N : Int) (T : Int) w1 (by omega) (by omega) (by omega) (by omega)).mono ?_
      rintro e w2 ⟨rfl, rfl⟩
      exact ⟨_, rfl, HH.out ▸ rfl, hW, fun _ _ h => h⟩
    · intro a w1 E D hW
      have d5 : a.eval (.tmp 25) = .int .i64 (H : Int) := D 5 rfl
      have hbd := built_pair 1 (H : Int)
      exact Reg.val rfl (Reg.wanted_free rfl) hW (.agg #[.int .i64 1, .int .i64 (H : Int)]) (by have c := Reg.consts a; generalize a.eval = ρ at *; simp [execOp, go_sem, c.1, c.2, d5, hbd]) rfl
    · intro a w1 E D hW
      have d6 : a.eval (.tmp 26) = .agg #[.int .i64 1, .int .i64 (H : Int)] := D 6 rfl
      refine Reg.grow rfl (Reg.wanted_free rfl) (.slice (some ⟨w1.heap.size, 0, none⟩) 1 1) (w1.alloc (.cells #[.int .i64 1, .int .i64 (H : Int)] 140)) ?_ ?_ (hW.alloc hB0 _) (fun j v _ h => RpV.keep (by simp) (fun k hk => Below.heap_alloc w1 _ k hk) j v h)
      · have c := Reg.consts a
        generalize a.eval = ρ at *
        simp [execOp, go_sem, c.1, c.2, d6]
      · exact ⟨w1.heap.size, rfl, hW.lt, by simp, by simp [World.cell?_alloc_mark], by simp [World.cell?_alloc_mark]⟩
    · intro a w1 E D hW
      have d0 : a.eval (.tmp 20) = .slice A n c := D 0 rfl
      obtain ⟨g, d7, hg1, hg2, hg3, hg4⟩ : LitP bx 1 H (a.eval (.tmp 27)) w1 := D 7 rfl
      have hB1 : B ≤ w1.heap.size := by have := hW.bel.size; omega
      obtain ⟨A', c', w', hrun, h1, h2, h3, h4⟩ := run_push w1 B A n c st 1 H hW.own hn hB1 g hg3 hg4
      have hs := h2.size
      refine Reg.growL rfl (Reg.wanted_free rfl) (.slice A' (n + 1) c') w' ?_ ⟨A', c', rfl, h1⟩ ⟨hW.bel.trans h2, h3, (cell_block (h4 bx (fun g' hg' => by have := hW.low g' hg'; omega) hW.lt)).trans hW.cell, by have := hW.lt; omega, hW.low⟩ ?_
      · have c := Reg.consts a
        generalize a.eval = ρ at *
        simp only [execOp, resolve, invoke, builtin, Sem.run_bind, Sem.run_pure, Result.andThen_ok, List.map_toArray, List.map_cons, List.map_nil, d0, d7, hrun]
      · intro live hcl h0 j v hj hv
        refine RpV.push hW.low hs h4 j ?_ ?_ v hv
        · rintro rfl; rw [h0] at hj; cases hj
        · rintro rfl
          have := Reg.not_live hcl h0 (j := 9) rfl rfl
          rw [this] at hj; cases hj
    · intro a w1 E D hW
      obtain ⟨A', c', d8, h1⟩ : PushP B n ((1, H) :: st) (a.eval (.tmp 28)) w1 := D 8 rfl
      exact Reg.val rfl (Reg.wanted_free rfl) hW (.slice A' (n + 1) c') (by have c := Reg.consts a; generalize a.eval = ρ at *; simp [go_sem, c.1, c.2, d8]) ⟨A', c', rfl, h1⟩
  · intro a w3 hs hd E D hW
    obtain ⟨A', c', d9, h1⟩ : PushP B n ((1, H) :: st) (a.eval (.tmp 4)) w3 := D 9 (by decide)
    have hb3 := hW.bel
    rw [Reg.act_lit a 53 hs, hd]
    simp only [List.range, List.range.loop, List.map, d9]
    clear E D d9 hW hw0
    generalize a.eval = ρ
    clear a hs hd
    go_wp2_with fail
    go_ret
    exact ⟨A', n + 1, c', rfl, h1, hb3⟩
end Go.Proofs.YtebcfiifaclniaaGreat

/- How many ticks a table has, how deep it goes, by the program. -/
namespace Go.Proofs.YtebcfiifaclniaaGreat
open Go.RowKit Tab
set_option linter.unusedSimpArgs false
set_option linter.unusedVariables false

theorem behind_any (B : Nat) (A : Option Addr) (n c : Nat) (st : List (Nat × Nat)) (k p z : Int) (w : World) (h : OwnP w B A n c st) (hB : B ≤ w.heap.size) (hn : n ≤ 1099511627776) (hf : fine ⟨k, p, z⟩ = true) (hz : z ≤ 9223372036854775807)
    (hT1 : 1 ≤ times st) (hT2 : times st ≤ 4097) (ha : ∀ e ∈ st, 1 ≤ e.1 ∧ e.1 ≤ 1099511627776) :
    Calls Tryz.prog 89 #[.slice A n c, nd k p z] w (Paths B w (behind st ⟨k, p, z⟩)) := by
  have hz1 : 1 ≤ z := fine_one hf
  by_cases h3 : k = 3
  · subst h3
    obtain ⟨N, rfl⟩ := Int.eq_ofNat_of_zero_le (show 0 ≤ z by omega)
    exact behind_seq B A n c st p N w h hB hn
  · by_cases h4 : k = 4
    · subst h4
      obtain ⟨N, rfl⟩ := Int.eq_ofNat_of_zero_le (show 0 ≤ z by omega)
      exact behind_rep B A n c st p N w h hB hn (by omega) (by omega) hT1 hT2
    · have e : behind st ⟨k, p, z⟩ = pops st := by unfold behind; rw [if_neg h3, if_neg h4]
      rw [e]
      exact behind_leaf B A n c st k p z w h hB hn h3 h4 ha
theorem Outer.low {o : List (Nat × Nat)} {fs : List F} (h : Outer o fs) (M : Nat) (hM : ∀ f ∈ fs, f.cnt < M) : ∀ e ∈ o, 1 ≤ e.1 ∧ e.1 ≤ M := by
  induction o generalizing fs with
  | nil => simp
  | cons x o ih =>
    obtain ⟨a, t⟩ := x
    cases fs with
    | nil => exact h.elim
    | cons f fs =>
      obtain ⟨h1, _, _, _, h5⟩ := h
      intro e he
      rcases List.mem_cons.1 he with rfl | he
      · have := hM f (by simp)
        dsimp only
        omega
      · exact ih h5 (fun g hg => hM g (by simp [hg])) e he
theorem flats_len (fs : List F) (f : F) (h : f ∈ fs) : f.cnt ≤ (flats fs).length := by
  induction fs with
  | nil => cases h
  | cons g fs ih =>
    simp only [flats, List.length_append]
    rcases List.mem_cons.1 h with rfl | h
    · have := F.cnt_le_sz f; rw [F.flat_length]; omega
    · have := ih h; omega
theorem InvP.low {st : List (Nat × Nat)} {cur : F} {fs : List F} (h : InvP st cur fs) {tl : List Nd} (hr : cur.flat ++ flats fs = tl) (M : Nat) (hM : tl.length < M) : ∀ e ∈ st, 1 ≤ e.1 ∧ e.1 ≤ M := by
  have hl := congrArg List.length hr
  rw [List.length_append, F.flat_length] at hl
  cases st with
  | nil => simp
  | cons x o =>
    obtain ⟨a, t⟩ := x
    obtain ⟨_, h1, h2, _, _, h5⟩ := h
    intro e he
    rcases List.mem_cons.1 he with rfl | he
    · have := F.cnt_le_sz cur
      dsimp only
      omega
    · exact Outer.low h5 M (fun f hf => by have := flats_len fs f hf; omega) e he

theorem pops_len (st : List (Nat × Nat)) : (pops st).length ≤ st.length := by
  induction st with
  | nil => simp [pops]
  | cons e o ih =>
    obtain ⟨a, t⟩ := e
    simp only [pops]
    split
    · simp
    · simp only [List.length_cons]; omega
theorem behind_len (st : List (Nat × Nat)) (x : Nd) : (behind st x).length ≤ st.length + 1 := by
  unfold behind
  split
  · simp
  · split
    · simp
    · have := pops_len st; omega
/-- What is told of so many ticks. -/
def lv (T : Nat) : Int := if T ≤ 4096 then (T : Int) else 0
def lb (T : Nat) : Bool := decide (T ≤ 4096)
def Len (T : Nat) (w : World) (e : Ending) (w' : World) : Prop := e = .returned (.tuple #[.int .i64 (lv T), .bool (lb T)]) ∧ Below w.heap.size w w'
theorem Len.mk {T : Nat} {z : Int} {b : Bool} {w w' : World} (h1 : lv T = z) (h2 : lb T = b) (hb : Below w.heap.size w w') : Len T w (.returned (.tuple #[.int .i64 z, .bool b])) w' := ⟨by rw [h1, h2], hb⟩
theorem times_q (B : Nat) (A : Option Addr) (n c : Nat) (st : List (Nat × Nat)) (w : World) (T : Nat) (hT : times st = T) (h : OwnP w B A n c st) (hn : n ≤ 1099511627776) :
    Calls Tryz.prog 92 #[.slice A n c] w fun e w' => e = .returned (.int .i64 (T : Int)) ∧ w' = w := by
  refine (times_any B A n c st w h hn).mono ?_
  rintro e w' ⟨rfl, rfl⟩
  exact ⟨by rw [hT], rfl⟩
theorem held_q (a b h : Nat) (w : World) (ha : 1 ≤ a) (hb : 1 ≤ b) (hb2 : b ≤ 4097) (ha2 : a ≤ 9223372036854775807) (hh : hold a b = h) : Calls Tryz.prog 91 #[.int .i64 (a : Int), .int .i64 (b : Int)] w fun e w' => e = .returned (.int .i64 (h : Int)) ∧ w' = w := by
  refine (held_any (a : Int) (b : Int) w (by omega) (by omega) (by omega) (by omega)).mono ?_
  rintro e w' ⟨rfl, rfl⟩
  exact ⟨by rw [hl_hold a b h hh], rfl⟩
theorem kn_kz {x : Nd} (h : fine x = true) (h0 : kn x = 0) : kz x = 0 := by rw [kz_kn h, h0]; rfl
theorem kn_kz' {x : Nd} (h : fine x = true) (h0 : kn x ≠ 0) : ∃ K : Nat, kz x = (K : Int) ∧ 0 < K := ⟨kn x, kz_kn h, by omega⟩

set_option maxRecDepth 100000 in
set_option maxHeartbeats 3200000 in
theorem length_tree (A : Option Addr) (n cap : Nat) (l : List Nd) (x0 : Nd) (k0 : F) (w : World) (h : RdN w w.heap.size A n l) (hc : n ≤ cap) (hn : n ≤ 1048576) (hok : (F.cons x0 k0 .nil).ok) (hl : l = x0 :: k0.flat) :
    Calls Tryz.prog 80 #[.slice A n cap] w (Len (F.tick x0 k0.len) w) := by
  have hwh : wholeB l = true := by rw [hl]; exact tree_whole hok
  obtain ⟨i1, i2, i3, i4⟩ := InvP.start hok rfl
  have e1 : (F.cons x0 k0 .nil).flat = l := by rw [hl]; simp [F.flat]
  have e2 : (F.cons x0 k0 .nil).len = F.tick x0 k0.len := by simp [F.len]
  have i2 := i2.trans e1
  rw [e2] at i3
  generalize hTd : F.tick x0 k0.len = T at i3 ⊢
  generalize (F.cons x0 k0 .nil) = f0 at i1 i2 i3
  have I1 := Lib.hid i1
  have I2 := Lib.hid i2
  have I3 := Lib.hid i3
  have HWH := Lib.hid hwh
  clear i1 i2 i3 i4 hwh hok hl e1 e2 hTd
  go_enter Tryz.func80, Tryz.ntmps80
  go_wp2_with fail
  refine (whole_any A n cap l w h hc (by omega)).mono ?_
  rw [HWH.out]
  rintro e w1 ⟨rfl, hb1⟩
  go_wp2_with fail
  go_loopw [4, 5, 13] (fun sm q s wr => ∃ (i sum : Nat) (st : List (Nat × Nat)) (cur : F) (fs : List F) (A1 : Option Addr) (n1 c1 : Nat), i ≤ n ∧ s = .int .i64 i ∧ sm = .int .i64 sum ∧ q = .slice A1 n1 c1 ∧ OwnP wr w.heap.size A1 n1 c1 st ∧ InvP st cur fs ∧
    cur.flat ++ flats fs = l.drop i ∧ min 4097 (sum + rem st cur fs) = min 4097 T ∧ sum ≤ 4096 ∧ Below w.heap.size w wr ∧ n1 ≤ i) (fun _ _ s _ => n - (intOf s).toNat)
  case atStart => exact ⟨0, 0, [], f0, [], none, 0, 0, by omega, rfl, rfl, rfl, OwnP.nil _ _, I1.out, I2.out, by rw [I3.out, Nat.zero_add], by omega, hb1, by omega⟩
  case round =>
    obtain ⟨i, sum, st, cur, fs, A1, n1, c1, hi, rfl, rfl, rfl, hp, hv, hrest, hsum, hs2, hb, hn1⟩ := hrel
    have HV := Lib.hid hv
    have HR := Lib.hid hrest
    have HS := Lib.hid hsum
    clear hv hrest hsum
    by_cases hlt : i < n
    · obtain ⟨ad, x, rfl, _, hx, hin, c0, c1', c2⟩ := (h.on hb).at_ hlt
      have hdr := drop_cons hx
      have hlow := InvP.low HV.out HR.out 1048577 (by rw [List.length_drop, h.len]; omega)
      obtain ⟨hf, cur', fs', j1, j2, j3, j4⟩ := Tab.step HV.out (HR.out.trans hdr)
      obtain ⟨hT1, hT2⟩ := InvP.times HV.out
      obtain ⟨xk, xp, xn⟩ := x
      have hz2 : xn ≤ 9223372036854775807 := hin.2.2.2
      have hz1 : 1 ≤ xn := fine_one hf
      have HF := Lib.hid hf
      have J1 := Lib.hid j1
      have J2 := Lib.hid j2
      have J3 := Lib.hid j3
      have HLOW := Lib.hid hlow
      clear hf j1 j2 j3 j4 hdr hx hin hlow
      obtain ⟨N, rfl⟩ := Int.eq_ofNat_of_zero_le (show 0 ≤ xn by omega)
      generalize hTd : times st = t at hT1 hT2
      have HT := Lib.hid hTd
      clear hTd
      by_cases hk : kn ⟨xk, xp, N⟩ = 0
      · have hkz := kn_kz HF.out hk
        have HKZ := Lib.hid hkz
        have HK := Lib.hid hk
        clear hkz hk
        go_wp2_with fail
        refine (kids1_any _ _ _ _).mono ?_
        rw [HKZ.out]
        rintro e w2 ⟨rfl, hb2⟩
        obtain ⟨d0, d1, d2⟩ := new_nd hb2
        go_wp2_with fail
        have hb2' := (bl1 wr _).trans (hb2.mono (by simp))
        have hp2 : OwnP w2 w.heap.size A1 n1 c1 st := hp.keep fun b _ hlt => hb2'.block b hlt
        have hp2d : ∀ q, OwnP (w2.drewN q) w.heap.size A1 n1 c1 st := fun _ => hp2
        have hbw := hb.trans (hb2'.mono hb.size)
        have hbd : ∀ q, Below w.heap.size w (w2.drewN q) := fun q => ⟨hbw.os, hbw.tape, hbw.output, hbw.size, hbw.block⟩
        have hBs := hbw.size
        have HPD := Lib.hid hp2d
        have HBD := Lib.hid hbd
        clear hp2d hbd hbw
        have hH := hold_le N t
        have hH1 := hold_pos (a := N) (b := t) (by omega) hT1
        generalize hHd : hold N t = H at hH hH1
        have HH := Lib.hid hHd
        clear hHd
        have hwr : IntKind.i64.wrap ((sum : Int) + (H : Int)) = (sum : Int) + (H : Int) := IntWalk.i64_in _ (by omega)
        have hN1 : 1 ≤ N := by omega
        have hN2 : N ≤ 9223372036854775807 := by omega
        go_quiet ((first | (go_at_call 92; exact Calls.quiet_of_same (times_q w.heap.size A1 n1 c1 st _ t HT.out hp2 (by omega))) | (go_at_call 91; exact Calls.quiet_of_same (held_q N t H _ hN1 hT1 hT2 hN2 HH.out))))
        clear hwr
        by_cases hs3 : sum + H ≤ 4096
        · have hs3' : (sum : Int) + (H : Int) ≤ 4096 := by omega
          go_wp2_with fail
          refine (behind_any w.heap.size A1 n1 c1 st xk xp (N : Int) _ (HPD.out _) hBs (by omega) HF.out hz2 (by rw [HT.out]; exact hT1) (by rw [HT.out]; exact hT2) (fun e he => by have := HLOW.out e he; omega)).mono ?_
          rintro e w3 ⟨A3, n3, c3, rfl, hp3, hb3⟩
          have hn3 : n3 ≤ i + 1 := by
            have h1 := hp3.1
            have h2 := behind_len st ⟨xk, xp, (N : Int)⟩
            have h3 := hp.1
            omega
          have hbb : Below w.heap.size w w3 := (HBD.out _).trans hb3
          go_wp2_with fail
          go_roundw
          case rel => exact ⟨i + 1, sum + H, _, cur', fs', A3, n3, c3, by omega, by go_num, by go_num, rfl, hp3, J1.out, J2.out.symm, by have := J3.out sum; rw [if_pos HK.out, HT.out] at this; have h2 := HH.out; rw [show ((N : Int)).toNat = N from rfl, h2] at this; exact this.trans HS.out, hs3, hbb, hn3⟩
          case measure => simp [intOf]; omega
        · have hs3' : ¬ (sum : Int) + (H : Int) ≤ 4096 := by omega
          go_wp2_with fail
          go_ret2
          have e4 : 4096 < T := by have := J3.out sum; rw [if_pos HK.out, HT.out] at this; have h1 := HS.out; have h2 := HH.out; rw [show ((N : Int)).toNat = N from rfl, h2] at this; omega
          exact Len.mk (by unfold lv; rw [if_neg (by omega)]) (by unfold lb; exact decide_eq_false (by omega)) (HBD.out _)
      · obtain ⟨K, hkz, hK0⟩ := kn_kz' HF.out hk
        have HKZ := Lib.hid hkz
        have HK := Lib.hid hk
        have hK1 : ¬ (K : Int) = 0 := by omega
        have hs3' : ¬ (4096 : Int) < (sum : Int) := by omega
        clear hkz hk
        go_wp2_with fail
        refine (kids1_any _ _ _ _).mono ?_
        rw [HKZ.out]
        rintro e w2 ⟨rfl, hb2⟩
        obtain ⟨d0, d1, d2⟩ := new_nd hb2
        have hb2' := (bl1 wr _).trans (hb2.mono (by simp))
        have hp2 : OwnP w2 w.heap.size A1 n1 c1 st := hp.keep fun b _ hlt => hb2'.block b hlt
        have hbw := hb.trans (hb2'.mono hb.size)
        have hBs := hbw.size
        go_wp2_with fail
        refine (behind_any w.heap.size A1 n1 c1 st xk xp (N : Int) _ hp2 hBs (by omega) HF.out hz2 (by rw [HT.out]; exact hT1) (by rw [HT.out]; exact hT2) (fun e he => by have := HLOW.out e he; omega)).mono ?_
        rintro e w3 ⟨A3, n3, c3, rfl, hp3, hb3⟩
        have hn3 : n3 ≤ i + 1 := by
          have h1 := hp3.1
          have h2 := behind_len st ⟨xk, xp, (N : Int)⟩
          have h3 := hp.1
          omega
        go_wp2_with fail
        go_roundw
        case rel => exact ⟨i + 1, sum, _, cur', fs', A3, n3, c3, by omega, by go_num, by go_num, rfl, hp3, J1.out, J2.out.symm, by have := J3.out sum; rw [if_neg HK.out, Nat.add_zero] at this; exact this.trans HS.out, hs2, hbw.trans hb3, hn3⟩
        case measure => simp [intOf]; omega
    · have hge : n ≤ i := by omega
      obtain ⟨r0, r1⟩ := InvP.done HV.out (by rw [HR.out]; exact List.drop_eq_nil_of_le (by rw [h.len]; exact hge))
      have e4 := HS.out
      rw [r0] at e4
      have e5 : sum = T := by omega
      have E5 := Lib.hid e5
      clear r0 r1 e4 e5
      go_wp2_with fail
      go_ret2
      exact Len.mk (by have := E5.out; unfold lv; rw [if_pos (by omega), this]) (by have := E5.out; unfold lb; exact decide_eq_true (by omega)) hb
end Go.Proofs.YtebcfiifaclniaaGreat

/- How deep a table goes, by the program; what is no table. -/
namespace Go.Proofs.YtebcfiifaclniaaGreat
open Go.RowKit Tab
set_option linter.unusedSimpArgs false
set_option linter.unusedVariables false

set_option maxHeartbeats 400000 in
theorem length_none (A : Option Addr) (n cap : Nat) (l : List Nd) (w : World) (h : RdN w w.heap.size A n l) (hc : n ≤ cap) (hn : n ≤ 1048576) (hw : wholeB l = false) :
    Calls Tryz.prog 80 #[.slice A n cap] w (Len 4097 w) := by
  have HW := Lib.hid hw
  clear hw
  go_enter Tryz.func80, Tryz.ntmps80
  go_wp2_with fail
  refine (whole_any A n cap l w h hc (by omega)).mono ?_
  rw [HW.out]
  rintro e w1 ⟨rfl, hb1⟩
  go_wp2_with fail
  go_ret2
  exact Len.mk rfl rfl hb1
set_option maxHeartbeats 400000 in
theorem depth_none (A : Option Addr) (n cap : Nat) (l : List Nd) (w : World) (h : RdN w w.heap.size A n l) (hc : n ≤ cap) (hn : n ≤ 1048576) (hw : wholeB l = false) :
    Calls Tryz.prog 79 #[.slice A n cap] w (Ans (.int .i64 (0 : Nat)) w) := by
  have HW := Lib.hid hw
  clear hw
  go_enter Tryz.func79, Tryz.ntmps79
  go_wp2_with fail
  refine (whole_any A n cap l w h hc (by omega)).mono ?_
  rw [HW.out]
  rintro e w1 ⟨rfl, hb1⟩
  go_wp2_with fail
  go_ret
  exact Ans.mk rfl hb1
set_option maxRecDepth 100000 in
set_option maxHeartbeats 3200000 in
theorem depth_tree (A : Option Addr) (n cap : Nat) (l : List Nd) (x0 : Nd) (k0 : F) (w : World) (h : RdN w w.heap.size A n l) (hc : n ≤ cap) (hn : n ≤ 1048576) (hok : (F.cons x0 k0 .nil).ok) (hl : l = x0 :: k0.flat) :
    Calls Tryz.prog 79 #[.slice A n cap] w (Ans (.int .i64 (k0.dep + 1 : Nat)) w) := by
  have hwh : wholeB l = true := by rw [hl]; exact tree_whole hok
  obtain ⟨i1, i2, i3, i4⟩ := InvP.start hok rfl
  have e1 : (F.cons x0 k0 .nil).flat = l := by rw [hl]; simp [F.flat]
  have e2 : (F.cons x0 k0 .nil).dep = k0.dep + 1 := by simp [F.dep]
  have i2 := i2.trans e1
  rw [e2] at i4
  have hD : k0.dep + 1 ≤ n := by
    have := F.dep_le_sz k0
    have h1 := h.len
    rw [hl] at h1
    simp only [List.length_cons, F.flat_length] at h1
    omega
  generalize k0.dep + 1 = D at i4 hD ⊢
  generalize (F.cons x0 k0 .nil) = f0 at i1 i2 i4
  have I1 := Lib.hid i1
  have I2 := Lib.hid i2
  have I4 := Lib.hid i4
  have HWH := Lib.hid hwh
  clear i1 i2 i3 i4 hwh hok hl e1 e2
  go_enter Tryz.func79, Tryz.ntmps79
  go_wp2_with fail
  refine (whole_any A n cap l w h hc (by omega)).mono ?_
  rw [HWH.out]
  rintro e w1 ⟨rfl, hb1⟩
  go_wp2_with fail
  go_loopw [3, 4, 12] (fun sm q s wr => ∃ (i d : Nat) (st : List (Nat × Nat)) (cur : F) (fs : List F) (A1 : Option Addr) (n1 c1 : Nat), i ≤ n ∧ s = .int .i64 i ∧ sm = .int .i64 d ∧ q = .slice A1 n1 c1 ∧ OwnP wr w.heap.size A1 n1 c1 st ∧ InvP st cur fs ∧
    cur.flat ++ flats fs = l.drop i ∧ max d (deepR st cur fs) = D ∧ Below w.heap.size w wr ∧ n1 ≤ i) (fun _ _ s _ => n - (intOf s).toNat)
  case atStart => exact ⟨0, 0, [], f0, [], none, 0, 0, by omega, rfl, rfl, rfl, OwnP.nil _ _, I1.out, I2.out, by rw [I4.out]; omega, hb1, by omega⟩
  case round =>
    obtain ⟨i, d, st, cur, fs, A1, n1, c1, hi, rfl, rfl, rfl, hp, hv, hrest, hsum, hb, hn1⟩ := hrel
    have hd : d ≤ D := by omega
    have HV := Lib.hid hv
    have HR := Lib.hid hrest
    have HS := Lib.hid hsum
    clear hv hrest hsum
    by_cases hlt : i < n
    · obtain ⟨ad, x, rfl, _, hx, hin, c0, c1', c2⟩ := (h.on hb).at_ hlt
      have hdr := drop_cons hx
      have hlow := InvP.low HV.out HR.out 1048577 (by rw [List.length_drop, h.len]; omega)
      have hge := deep_ge HV.out (HR.out.trans hdr)
      obtain ⟨hf, cur', fs', j1, j2, j3, j4⟩ := Tab.step HV.out (HR.out.trans hdr)
      obtain ⟨hT1, hT2⟩ := InvP.times HV.out
      obtain ⟨xk, xp, xn⟩ := x
      have hz2 : xn ≤ 9223372036854775807 := hin.2.2.2
      have hj : max (max d (n1 + 1)) (deepR (behind st ⟨xk, xp, xn⟩) cur' fs') = D := by
        have h1 := hp.1
        have h2 := HS.out
        rw [h1]
        omega
      have HF := Lib.hid hf
      have J1 := Lib.hid j1
      have J2 := Lib.hid j2
      have J4 := Lib.hid hj
      have HLOW := Lib.hid hlow
      clear hf j1 j2 j3 j4 hdr hx hin hlow hge hj
      have hBs := hb.size
      have hb2' := bl1 wr (.cells #[.int .i64 xk, .int .i64 xp, .int .i64 xn] 43)
      have hp2 : OwnP (wr.alloc (.cells #[.int .i64 xk, .int .i64 xp, .int .i64 xn] 43)) w.heap.size A1 n1 c1 st := hp.keep fun b _ hlt => hb2'.block b hlt
      have hbw := hb.trans (hb2'.mono hb.size)
      go_wp2_with fail
      all_goals
        refine (behind_any w.heap.size A1 n1 c1 st xk xp xn _ hp2 hbw.size (by omega) HF.out hz2 hT1 hT2 (fun e he => by have := HLOW.out e he; omega)).mono ?_
        rintro e w3 ⟨A3, n3, c3, rfl, hp3, hb3⟩
        have hn3 : n3 ≤ i + 1 := by
          have h1 := hp3.1
          have h2 := behind_len st ⟨xk, xp, xn⟩
          have h3 := hp.1
          omega
        go_wp2_with fail
        go_roundw
        case rel => exact ⟨i + 1, max d (n1 + 1), _, cur', fs', A3, n3, c3, by omega, by go_num, ret_num (by omega), rfl, hp3, J1.out, J2.out.symm, J4.out, hbw.trans hb3, hn3⟩
        case measure => simp [intOf]; omega
    · have hge : n ≤ i := by omega
      obtain ⟨r0, r1⟩ := InvP.done HV.out (by rw [HR.out]; exact List.drop_eq_nil_of_le (by rw [h.len]; exact hge))
      have e4 := HS.out
      rw [r1] at e4
      have e5 : d = D := by omega
      have E5 := Lib.hid e5
      clear r0 r1 e4 e5
      go_wp2_with fail
      go_ret
      exact Ans.mk (by rw [E5.out]; rfl) hb
end Go.Proofs.YtebcfiifaclniaaGreat

/- Refusals of tables, by the program and by the document's own answer; rows that are the same. -/
namespace Go.Proofs.YtebcfiifaclniaaGreat
open Go.RowKit Tab
set_option linter.unusedSimpArgs false
set_option linter.unusedVariables false

theorem whole_size {l : List Nd} (h : wholeB l = true) : 0 < l.length ∧ size l 0 = l.length := by
  unfold wholeB at h
  simp only [Bool.and_eq_true, decide_eq_true_eq] at h
  exact h
theorem not_whole {l : List Nd} (h : wholeB l = false) (h0 : 0 < l.length) : ¬ size l 0 = l.length := fun h1 => by
  unfold wholeB at h
  rw [decide_eq_true h0, decide_eq_true h1] at h
  cases h
set_option maxHeartbeats 400000 in
theorem rDepth_none (A : Option Addr) (n cap : Nat) (l : List Nd) (w : World) (h : RdN w w.heap.size A n l) (hc : n ≤ cap) (hn : n ≤ 1048576) (hw : wholeB l = false) :
    Calls Tryz.prog 62 #[.slice A n cap] w (Ans (.int .i64 (0 : Nat)) w) := by
  by_cases h0 : 0 < n
  · have hs := not_whole hw (by rw [h.len]; exact h0)
    rw [h.len] at hs
    generalize hS : size l 0 = S at hs
    have HS := Lib.hid hS
    have hs' : ((S : Int) == (n : Int)) = false := beq_eq_false_iff_ne.2 (by omega)
    have hn0 : ((n : Int) == 0) = false := beq_eq_false_iff_ne.2 (by omega)
    clear hS hs hw
    go_enter Tryz.func62, Tryz.ntmps62
    go_wp2_with fail
    refine (rsize_any A n cap l 0 w h hc (by omega)).mono ?_
    rw [HS.out]
    rintro e w1 ⟨rfl, hb1⟩
    go_wp2_with fail
    all_goals
      go_ret
      exact Ans.mk rfl hb1
  · have hn0 : ((n : Int) == 0) = true := beq_iff_eq.2 (by omega)
    clear hw
    go_enter Tryz.func62, Tryz.ntmps62
    go_wp2_with fail
    go_ret
    exact Ans.mk rfl (Below.refl _ _)
set_option maxHeartbeats 400000 in
theorem rDepth_tree (A : Option Addr) (n cap : Nat) (l : List Nd) (x0 : Nd) (k0 : F) (w : World) (h : RdN w w.heap.size A n l) (hc : n ≤ cap) (hn : n ≤ 1048576) (hok : (F.cons x0 k0 .nil).ok) (hl : l = x0 :: k0.flat) :
    Calls Tryz.prog 62 #[.slice A n cap] w (Ans (.int .i64 (k0.dep + 1 : Nat)) w) := by
  have hw : wholeB l = true := by rw [hl]; exact tree_whole hok
  obtain ⟨h0, hs⟩ := whole_size hw
  rw [h.len] at h0 hs
  have HS := Lib.hid hs
  have hd : l.drop 0 = (F.cons x0 k0 .nil).flat ++ [] := by rw [hl]; simp [F.flat]
  have hR := fun w (h : RdN w w.heap.size A n l) => rdepth_any A n cap l hc (by omega) (k0.sz + 1) 0 x0 k0 .nil [] w (by omega) h hok hd
  have HR := Lib.hid hR
  have hn0 : ((n : Int) == 0) = false := beq_eq_false_iff_ne.2 (by omega)
  clear hs hw hR hd hl hok
  go_enter Tryz.func62, Tryz.ntmps62
  go_wp2_with fail
  refine (rsize_any A n cap l 0 w h hc (by omega)).mono ?_
  rw [HS.out]
  rintro e w1 ⟨rfl, hb1⟩
  go_wp2_with fail
  refine (HR.out w1 (h.on hb1)).mono ?_
  rintro e w2 ⟨rfl, hb2⟩
  go_wp2_with fail
  go_ret
  exact Ans.mk rfl (hb1.trans (hb2.mono hb1.size))
set_option maxHeartbeats 400000 in
theorem rLength_none (A : Option Addr) (n cap : Nat) (l : List Nd) (w : World) (h : RdN w w.heap.size A n l) (hc : n ≤ cap) (hn : n ≤ 1048576) (hw : wholeB l = false) :
    Calls Tryz.prog 63 #[.slice A n cap] w (Len 4097 w) := by
  have HW := Lib.hid hw
  clear hw
  go_enter Tryz.func63, Tryz.ntmps63
  go_wp2_with fail
  refine (rDepth_none A n cap l w h hc hn HW.out).mono ?_
  rintro e w1 ⟨rfl, hb1⟩
  go_wp2_with fail
  go_ret2
  exact Len.mk rfl rfl hb1
set_option maxHeartbeats 400000 in
theorem rLength_tree (A : Option Addr) (n cap : Nat) (l : List Nd) (x0 : Nd) (k0 : F) (w : World) (h : RdN w w.heap.size A n l) (hc : n ≤ cap) (hn : n ≤ 1048576) (hok : (F.cons x0 k0 .nil).ok) (hl : l = x0 :: k0.flat) :
    Calls Tryz.prog 63 #[.slice A n cap] w (Len (F.tick x0 k0.len) w) := by
  have hD := fun w (h : RdN w w.heap.size A n l) => rDepth_tree A n cap l x0 k0 w h hc hn hok hl
  have hd : l.drop 0 = (F.cons x0 k0 .nil).flat ++ [] := by rw [hl]; simp [F.flat]
  have hR := fun w (h : RdN w w.heap.size A n l) => rlength_any A n cap l hc (by omega) (k0.sz + 1) 0 x0 k0 .nil [] w (by omega) h hok hd
  have HD := Lib.hid hD
  have HR := Lib.hid hR
  clear hD hR hd hl hok
  have hd0 : (((k0.dep + 1 : Nat) : Int) == 0) = false := beq_eq_false_iff_ne.2 (by omega)
  generalize k0.dep + 1 = D at HD hd0
  generalize F.tick x0 k0.len = T at HR ⊢
  generalize hHd : hl4 T = H at HR
  have hh : H = min T 4097 := by rw [← hHd]; rfl
  clear hHd
  by_cases hT : T ≤ 4096
  · obtain rfl : H = T := by omega
    clear hh
    go_enter Tryz.func63, Tryz.ntmps63
    go_wp2_with fail
    refine (HD.out w h).mono ?_
    rintro e w1 ⟨rfl, hb1⟩
    go_wp2_with fail
    refine (HR.out w1 (h.on hb1)).mono ?_
    rintro e w2 ⟨rfl, hb2⟩
    go_wp2_with fail
    go_ret2
    exact Len.mk (by unfold lv; rw [if_pos hT]) (by unfold lb; exact decide_eq_true hT) (hb1.trans (hb2.mono hb1.size))
  · obtain rfl : H = 4097 := by omega
    clear hh
    go_enter Tryz.func63, Tryz.ntmps63
    go_wp2_with fail
    refine (HD.out w h).mono ?_
    rintro e w1 ⟨rfl, hb1⟩
    go_wp2_with fail
    refine (HR.out w1 (h.on hb1)).mono ?_
    rintro e w2 ⟨rfl, hb2⟩
    go_wp2_with fail
    go_ret2
    exact Len.mk (by unfold lv; rw [if_neg hT]) (by unfold lb; exact decide_eq_false hT) (hb1.trans (hb2.mono hb1.size))
/-- The refusal of a table of n nodes, so deep, with so many ticks. -/
def rt (n D T : Nat) : Int := if 128 < n then 3 else if 16 < D then 14 else if 4096 < T then 18 else 0
/-- Of what is none. -/
def rn (n : Nat) : Int := if 128 < n then 3 else 12
set_option maxHeartbeats 400000 in
theorem right_none (A : Option Addr) (n cap : Nat) (l : List Nd) (w : World) (h : RdN w w.heap.size A n l) (hc : n ≤ cap) (hn : n ≤ 1048576) (hw : wholeB l = false) :
    Calls Tryz.prog 69 #[.slice A n cap] w (Ans (.int .i64 (rn n)) w) := by
  have HW := Lib.hid hw
  clear hw
  by_cases h1 : 128 < n
  · have HE : Hid (rn n = 3) := Lib.hid (if_pos h1)
    have h1' : (128 : Int) < (n : Int) := by omega
    go_enter Tryz.func69, Tryz.ntmps69
    go_wp2_with fail
    go_ret
    exact Ans.mk (by rw [HE.out]; rfl) (Below.refl _ _)
  · have HE : Hid (rn n = 12) := Lib.hid (if_neg h1)
    have h1' : ¬ (128 : Int) < (n : Int) := by omega
    go_enter Tryz.func69, Tryz.ntmps69
    go_wp2_with fail
    refine (whole_any A n cap l w h hc (by omega)).mono ?_
    rw [HW.out]
    rintro e w1 ⟨rfl, hb1⟩
    go_wp2_with fail
    go_ret
    exact Ans.mk (by rw [HE.out]; rfl) hb1
set_option maxHeartbeats 400000 in
theorem rright_none (A : Option Addr) (n cap : Nat) (l : List Nd) (w : World) (h : RdN w w.heap.size A n l) (hc : n ≤ cap) (hn : n ≤ 1048576) (hw : wholeB l = false) :
    Calls Tryz.prog 47 #[.slice A n cap] w (Ans (.int .i64 (rn n)) w) := by
  have HW := Lib.hid hw
  clear hw
  by_cases h1 : 128 < n
  · have HE : Hid (rn n = 3) := Lib.hid (if_pos h1)
    have h1' : (128 : Int) < (n : Int) := by omega
    go_enter Tryz.func47, Tryz.ntmps47
    go_wp2_with fail
    go_ret
    exact Ans.mk (by rw [HE.out]; rfl) (Below.refl _ _)
  · have HE : Hid (rn n = 12) := Lib.hid (if_neg h1)
    have h1' : ¬ (128 : Int) < (n : Int) := by omega
    go_enter Tryz.func47, Tryz.ntmps47
    go_wp2_with fail
    refine (rDepth_none A n cap l w h hc hn HW.out).mono ?_
    rintro e w1 ⟨rfl, hb1⟩
    go_wp2_with fail
    go_ret
    exact Ans.mk (by rw [HE.out]; rfl) hb1
set_option maxHeartbeats 800000 in
theorem right_tree (A : Option Addr) (n cap : Nat) (l : List Nd) (x0 : Nd) (k0 : F) (w : World) (h : RdN w w.heap.size A n l) (hc : n ≤ cap) (hn : n ≤ 1048576) (hok : (F.cons x0 k0 .nil).ok) (hl : l = x0 :: k0.flat) :
    Calls Tryz.prog 69 #[.slice A n cap] w (Ans (.int .i64 (rt n (k0.dep + 1) (F.tick x0 k0.len))) w) := by
  have hwh : wholeB l = true := by rw [hl]; exact tree_whole hok
  have HWH := Lib.hid hwh
  have HD := Lib.hid fun w (h : RdN w w.heap.size A n l) => depth_tree A n cap l x0 k0 w h hc hn hok hl
  have HL := Lib.hid fun w (h : RdN w w.heap.size A n l) => length_tree A n cap l x0 k0 w h hc hn hok hl
  clear hwh hok hl
  generalize k0.dep + 1 = D at HD ⊢
  generalize F.tick x0 k0.len = T at HL ⊢
  by_cases h1 : 128 < n
  · have HE : Hid (rt n D T = 3) := Lib.hid (if_pos h1)
    have h1' : (128 : Int) < (n : Int) := by omega
    go_enter Tryz.func69, Tryz.ntmps69
    go_wp2_with fail
    go_ret
    exact Ans.mk (by rw [HE.out]; rfl) (Below.refl _ _)
  have h1' : ¬ (128 : Int) < (n : Int) := by omega
  by_cases h2 : 16 < D
  · have HE : Hid (rt n D T = 14) := Lib.hid (by unfold rt; rw [if_neg h1, if_pos h2])
    have h2' : (16 : Int) < (D : Int) := by omega
    go_enter Tryz.func69, Tryz.ntmps69
    go_wp2_with fail
    refine (whole_any A n cap l w h hc (by omega)).mono ?_
    rw [HWH.out]
    rintro e w1 ⟨rfl, hb1⟩
    go_wp2_with fail
    refine (HD.out w1 (h.on hb1)).mono ?_
    rintro e w2 ⟨rfl, hb2⟩
    have k2 := hb1.trans (hb2.mono hb1.size)
    go_wp2_with fail
    go_ret
    exact Ans.mk (by rw [HE.out]; rfl) k2
  have h2' : ¬ (16 : Int) < (D : Int) := by omega
  by_cases h3 : 4096 < T
  · have HE : Hid (rt n D T = 18) := Lib.hid (by unfold rt; rw [if_neg h1, if_neg h2, if_pos h3])
    have hB : lb T = false := by unfold lb; exact decide_eq_false (by omega)
    have HB := Lib.hid hB
    clear hB
    go_enter Tryz.func69, Tryz.ntmps69
    go_wp2_with fail
    refine (whole_any A n cap l w h hc (by omega)).mono ?_
    rw [HWH.out]
    rintro e w1 ⟨rfl, hb1⟩
    go_wp2_with fail
    refine (HD.out w1 (h.on hb1)).mono ?_
    rintro e w2 ⟨rfl, hb2⟩
    have k2 := hb1.trans (hb2.mono hb1.size)
    go_wp2_with fail
    refine (HL.out w2 (h.on k2)).mono ?_
    unfold Len
    rw [HB.out]
    rintro e w3 ⟨rfl, hb3⟩
    have k3 := k2.trans (hb3.mono k2.size)
    go_wp2_with fail
    go_ret
    exact Ans.mk (by rw [HE.out]; rfl) k3
  · have HE : Hid (rt n D T = 0) := Lib.hid (by unfold rt; rw [if_neg h1, if_neg h2, if_neg h3])
    have hB : lb T = true := by unfold lb; exact decide_eq_true (by omega)
    have HB := Lib.hid hB
    clear hB
    go_enter Tryz.func69, Tryz.ntmps69
    go_wp2_with fail
    refine (whole_any A n cap l w h hc (by omega)).mono ?_
    rw [HWH.out]
    rintro e w1 ⟨rfl, hb1⟩
    go_wp2_with fail
    refine (HD.out w1 (h.on hb1)).mono ?_
    rintro e w2 ⟨rfl, hb2⟩
    have k2 := hb1.trans (hb2.mono hb1.size)
    go_wp2_with fail
    refine (HL.out w2 (h.on k2)).mono ?_
    unfold Len
    rw [HB.out]
    rintro e w3 ⟨rfl, hb3⟩
    have k3 := k2.trans (hb3.mono k2.size)
    go_wp2_with fail
    go_ret
    exact Ans.mk (by rw [HE.out]; rfl) k3
set_option maxHeartbeats 800000 in
theorem rright_tree (A : Option Addr) (n cap : Nat) (l : List Nd) (x0 : Nd) (k0 : F) (w : World) (h : RdN w w.heap.size A n l) (hc : n ≤ cap) (hn : n ≤ 1048576) (hok : (F.cons x0 k0 .nil).ok) (hl : l = x0 :: k0.flat) :
    Calls Tryz.prog 47 #[.slice A n cap] w (Ans (.int .i64 (rt n (k0.dep + 1) (F.tick x0 k0.len))) w) := by
  have hwh : wholeB l = true := by rw [hl]; exact tree_whole hok
  have HWH := Lib.hid hwh
  have HD := Lib.hid fun w (h : RdN w w.heap.size A n l) => rDepth_tree A n cap l x0 k0 w h hc hn hok hl
  have HL := Lib.hid fun w (h : RdN w w.heap.size A n l) => rLength_tree A n cap l x0 k0 w h hc hn hok hl
  clear hwh hok hl
  have hd0 : (((k0.dep + 1 : Nat) : Int) == 0) = false := beq_eq_false_iff_ne.2 (by omega)
  generalize k0.dep + 1 = D at HD hd0 ⊢
  generalize F.tick x0 k0.len = T at HL ⊢
  by_cases h1 : 128 < n
  · have HE : Hid (rt n D T = 3) := Lib.hid (if_pos h1)
    have h1' : (128 : Int) < (n : Int) := by omega
    go_enter Tryz.func47, Tryz.ntmps47
    go_wp2_with fail
    go_ret
    exact Ans.mk (by rw [HE.out]; rfl) (Below.refl _ _)
  have h1' : ¬ (128 : Int) < (n : Int) := by omega
  by_cases h2 : 16 < D
  · have HE : Hid (rt n D T = 14) := Lib.hid (by unfold rt; rw [if_neg h1, if_pos h2])
    have h2' : (16 : Int) < (D : Int) := by omega
    go_enter Tryz.func47, Tryz.ntmps47
    go_wp2_with fail
    refine (HD.out w h).mono ?_
    rintro e w1 ⟨rfl, hb1⟩
    go_wp2_with fail
    refine (HD.out w1 (h.on hb1)).mono ?_
    rintro e w2 ⟨rfl, hb2⟩
    have k2 := hb1.trans (hb2.mono hb1.size)
    go_wp2_with fail
    go_ret
    exact Ans.mk (by rw [HE.out]; rfl) k2
  have h2' : ¬ (16 : Int) < (D : Int) := by omega
  by_cases h3 : 4096 < T
  · have HE : Hid (rt n D T = 18) := Lib.hid (by unfold rt; rw [if_neg h1, if_neg h2, if_pos h3])
    have hB : lb T = false := by unfold lb; exact decide_eq_false (by omega)
    have HB := Lib.hid hB
    clear hB
    go_enter Tryz.func47, Tryz.ntmps47
    go_wp2_with fail
    refine (HD.out w h).mono ?_
    rintro e w1 ⟨rfl, hb1⟩
    go_wp2_with fail
    refine (HD.out w1 (h.on hb1)).mono ?_
    rintro e w2 ⟨rfl, hb2⟩
    have k2 := hb1.trans (hb2.mono hb1.size)
    go_wp2_with fail
    refine (HL.out w2 (h.on k2)).mono ?_
    unfold Len
    rw [HB.out]
    rintro e w3 ⟨rfl, hb3⟩
    have k3 := k2.trans (hb3.mono k2.size)
    go_wp2_with fail
    go_ret
    exact Ans.mk (by rw [HE.out]; rfl) k3
  · have HE : Hid (rt n D T = 0) := Lib.hid (by unfold rt; rw [if_neg h1, if_neg h2, if_neg h3])
    have hB : lb T = true := by unfold lb; exact decide_eq_true (by omega)
    have HB := Lib.hid hB
    clear hB
    go_enter Tryz.func47, Tryz.ntmps47
    go_wp2_with fail
    refine (HD.out w h).mono ?_
    rintro e w1 ⟨rfl, hb1⟩
    go_wp2_with fail
    refine (HD.out w1 (h.on hb1)).mono ?_
    rintro e w2 ⟨rfl, hb2⟩
    have k2 := hb1.trans (hb2.mono hb1.size)
    go_wp2_with fail
    refine (HL.out w2 (h.on k2)).mono ?_
    unfold Len
    rw [HB.out]
    rintro e w3 ⟨rfl, hb3⟩
    have k3 := k2.trans (hb3.mono k2.size)
    go_wp2_with fail
    go_ret
    exact Ans.mk (by rw [HE.out]; rfl) k3
end Go.Proofs.YtebcfiifaclniaaGreat

/- A tape of numbers: the next one, held between. -/
namespace Go.Proofs.YtebcfiifaclniaaGreat
open Go.RowKit
set_option linter.unusedSimpArgs false
set_option linter.unusedVariables false

def wv (n : Int) (m : Nat) : Int := if 0 ≤ n ∧ n ≤ m then n else if n.tmod (m + 1) < 0 then n.tmod (m + 1) + m + 1 else n.tmod (m + 1)
theorem wv_bd (n : Int) (m : Nat) : 0 ≤ wv n m ∧ wv n m ≤ m := by
  unfold wv
  split
  · omega
  · by_cases h : 0 ≤ n
    · have e : n.tmod ((m : Int) + 1) = n % ((m : Int) + 1) := Int.tmod_eq_emod_of_nonneg h
      have h2 := Int.emod_nonneg n (b := (m : Int) + 1) (by omega)
      have h3 := Int.emod_lt_of_pos n (b := (m : Int) + 1) (by omega)
      rw [e, if_neg (by omega)]
      omega
    · obtain ⟨h2, h3⟩ := tmod_low n m (by omega)
      split <;> omega
set_option maxRecDepth 100000 in
set_option maxHeartbeats 400000 in
theorem within_eq (n : Int) (m : Nat) (w : World) (hm : m < 4611686018427387904) :
    Calls Tryz.prog 30 #[.int .i64 n, .int .i64 0, .int .i64 m] w fun e w' => e = .returned (.int .i64 (wv n m)) ∧ w' = w := by
  generalize hv : wv n m = v
  have HV := Lib.hid hv
  clear hv
  have hm0 : (0 : Int) ≤ (m : Int) := Int.natCast_nonneg _
  by_cases h0 : 0 ≤ n
  · by_cases h1 : n ≤ (m : Int)
    · go_enter Tryz.func30, Tryz.ntmps30
      go_wp2
      go_ret
      exact ⟨by rw [← HV.out, wv, if_pos ⟨h0, h1⟩]; rfl, rfl⟩
    · have h2 := Int.emod_nonneg n (b := (m : Int) + 1) (by omega)
      have h3 : n % ((m : Int) + 1) ≤ m := by have := Int.emod_lt_of_pos n (b := (m : Int) + 1) (by omega); omega
      go_enter Tryz.func30, Tryz.ntmps30
      go_wp2
      go_ret
      refine ⟨?_, rfl⟩
      have e : n.tmod ((m : Int) + 1) = n % ((m : Int) + 1) := Int.tmod_eq_emod_of_nonneg h0
      rw [← HV.out, wv, if_neg (by omega), e, if_neg (by omega)]
      simp
  · obtain ⟨h2, h3⟩ := tmod_low n m (by omega)
    by_cases h4 : n.tmod ((m : Int) + 1) < 0
    · go_enter Tryz.func30, Tryz.ntmps30
      go_wp2
      go_ret
      refine ⟨?_, rfl⟩
      rw [← HV.out, wv, if_neg (by omega), if_pos h4]
      simp
    · go_enter Tryz.func30, Tryz.ntmps30
      go_wp2
      go_ret
      refine ⟨?_, rfl⟩
      rw [← HV.out, wv, if_neg (by omega), if_neg (by omega)]
      simp
/-- A tape in block b: the numbers f lie below block B. -/
structure TapeW (w : World) (B b : Nat) (A : Option Addr) (m c : Nat) (f : Nat → Int) (at_ : Nat) : Prop where
  rd : RdC w B A m (fun j => .int .i64 (f j))
  low : B ≤ b
  c0 : w.cell? ⟨b, 0, none⟩ = some (.slice A m c)
  c1 : w.cell? ⟨b, 1, none⟩ = some (.int .i64 (at_ : Int))
  fr : w.frozen? ⟨b, 1, none⟩ = false
  le : at_ ≤ m
/-- The next number of the tape, below n; no block but the tape's has turned. -/
def Nexts (B b : Nat) (A : Option Addr) (m c : Nat) (f : Nat → Int) (n : Nat) (w : World) (e : Ending) (w' : World) : Prop :=
  ∃ k at_ : Nat, k < n ∧ e = .returned (.int .i64 (k : Int)) ∧ TapeW w' B b A m c f at_ ∧ w.grownBy w' (some b)
set_option maxRecDepth 100000 in
set_option maxHeartbeats 1600000 in
theorem next_any (B b : Nat) (A : Option Addr) (m c : Nat) (f : Nat → Int) (at_ n : Nat) (w : World) (h : TapeW w B b A m c f at_) (hn : 1 ≤ n) (hn2 : n ≤ 64) (hm : m ≤ 140737488351232) :
    Calls Tryz.prog 9 #[.pointer (some ⟨b, 0, none⟩), .int .i64 (n : Int)] w (Nexts B b A m c f n w) := by
  have H := Lib.hid h
  have c0 := h.c0
  have c1 := h.c1
  have hle := h.le
  clear h
  by_cases hlt : at_ < m
  · obtain ⟨ad, rfl, hab, hcell⟩ := H.out.rd.at_ hlt
    have hfr := H.out.fr
    have hlow := H.out.low
    have hF : ∀ q, TapeW ((w.drewN q).setCell ⟨b, 1, none⟩ (.int .i64 ((at_ : Int) + 1))) B b (some ad) m c f (at_ + 1) ∧ w.grownBy ((w.drewN q).setCell ⟨b, 1, none⟩ (.int .i64 ((at_ : Int) + 1))) (some b) := fun q => by
      have hbl := World.block_lt_of_cell? w _ c1
      refine ⟨⟨H.out.rd.keep fun p hp => ?_, hlow, ?_, ?_, ?_, by omega⟩, ⟨rfl, rfl, rfl, by simp [World.setCell], fun k hk hne => ?_⟩⟩
      · exact World.cell?_of_block (Below.heap_setCell (w.drewN q) ⟨b, 1, none⟩ _ p.block (fun e => by dsimp only at e; omega))
      · rw [World.cell?_setCell_other _ _ _ _ (by simp)]; exact c0
      · exact World.cell?_setCell_same _ _ _ (u := .int .i64 (at_ : Int)) c1
      · simp; exact hfr
      · exact Below.heap_setCell (w.drewN q) ⟨b, 1, none⟩ _ k (fun e => hne (by rw [e]))
    have F := Lib.hid hF
    clear hF
    have hmd : decide (m ≤ at_) = false := decide_eq_false (by omega)
    go_enter Tryz.func9, Tryz.ntmps9
    go_wp2_with fail
    go_quiet (fail)
    go_wp2_with fail
    obtain ⟨T1, G1⟩ := F.out nq
    generalize (w.drewN nq).setCell ⟨b, 1, none⟩ (.int .i64 ((at_ : Int) + 1)) = w1 at T1 G1 ⊢
    have d0 := T1.c0
    have d1 : w1.cell? ⟨b, 1, none⟩ = some (.int .i64 ((at_ : Int) + 1)) := T1.c1
    obtain ⟨ad', e, _, dcell⟩ := T1.rd.at_ hlt
    injection e with e
    subst e
    clear c0 c1 hcell hfr
    have hwr : IntKind.i64.wrap ((at_ : Int) + 1 - 1) = (at_ : Int) := by rw [IntWalk.i64_in _ (by omega)]; omega
    have hwb := wv_bd (f at_) 1073741824
    have hW := within_eq (f at_) 1073741824
    generalize wv (f at_) 1073741824 = z at hwb hW
    obtain ⟨Z, rfl⟩ := Int.eq_ofNat_of_zero_le hwb.1
    have hrem : ¬ n = 0 := by omega
    have HW := Lib.hid hW
    clear hW
    go_quiet ((go_at_call 30; exact Calls.quiet_of_same (HW.out _ (by decide))))
    go_wp2_with fail
    go_ret
    exact ⟨Z % n, at_ + 1, Nat.mod_lt _ (by omega), by rw [Int.natCast_emod]; rfl, ⟨T1.rd, T1.low, T1.c0, T1.c1, T1.fr, T1.le⟩, ⟨G1.os, G1.tape, G1.output, G1.size, G1.block⟩⟩
  · have hmd : decide (m ≤ at_) = true := decide_eq_true (by omega)
    have F : Hid (∀ q, TapeW (w.drewN q) B b A m c f at_ ∧ w.grownBy (w.drewN q) (some b)) := Lib.hid fun q => by
      have h := H.out
      exact ⟨⟨h.rd, h.low, h.c0, h.c1, h.fr, h.le⟩, ⟨rfl, rfl, rfl, Nat.le_refl _, fun _ _ _ => rfl⟩⟩
    go_enter Tryz.func9, Tryz.ntmps9
    go_wp2_with fail
    go_quiet (fail)
    go_wp2_with fail
    go_ret
    exact ⟨0, at_, by omega, rfl, (F.out _).1, (F.out _).2⟩
end Go.Proofs.YtebcfiifaclniaaGreat
