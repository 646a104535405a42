/- Numbers as they are read: the document's. -/
import Derived.Test.YtibhppjcochkgaaGet
import Derived.Test.YtibhppjcochkgaaInv
import Derived.IntWalk
namespace Go.Proofs.Ytibhppjcochkgaa
open Go.RowKit
set_option linter.unusedSimpArgs false
set_option linter.unusedVariables false

theorem str_toList (l : List UInt8) : (str l).toList = l := by
  rw [ByteArray.toList_eq]
  rfl
def rz (m : Bool) (u : Nat) : Int := if m then wrap64 (-wrap64 (u : Int)) else wrap64 (u : Int)
theorem rz_true (u : Nat) : rz true u = wrap64 (-wrap64 (u : Int)) := by unfold rz; exact if_pos rfl
theorem rz_false (u : Nat) : rz false u = wrap64 (u : Int) := by unfold rz; exact if_neg (by decide)
theorem rz_bd (m : Bool) (u : Nat) : -9223372036854775808 ≤ rz m u ∧ rz m u ≤ 9223372036854775807 := by
  unfold rz; split <;> simp only [wrap64_eq] <;> omega
theorem rz_ok (x : UInt8) (r : List UInt8) (u k : Nat) (m : Bool) (hu : u = Num.val (r.take k)) (hk : k = x.toNat % 128) (hm : m = decide (128 ≤ x.toNat)) (hk8 : k ≤ 8) (hkr : k ≤ r.length) (h : Num.enc (rz m u) = x :: r.take k) : Num.ok x r ∧ rz m u = Num.num x r := by
  have hb := rz_bd m u
  have hx : x.toNat < 256 := x.toBitVec.isLt
  have hw := Num.wid_int _ hb.1 hb.2
  unfold Num.enc at h
  injection h with h1 h2
  have e1 : (rz m u).natAbs = u := by have := congrArg Num.val h2; rw [Num.val_be] at this; omega
  have e2 : Num.wid u = k := by have := congrArg List.length h2; rw [e1, Num.take_len hkr] at this; exact this
  rw [e1, e2] at h1
  have e3 : Num.sgn (rz m u) + k = x.toNat := by
    rw [← h1]
    have : Num.sgn (rz m u) ≤ 128 := by unfold Num.sgn; split <;> omega
    simp; omega
  have e4 : rz m u = Num.num x r := by
    unfold Num.num
    rw [← hk, ← hu]
    unfold Num.sgn at e3
    split at e3 <;> split <;> omega
  refine ⟨?_, e4⟩
  unfold Num.ok
  rw [← e4, ← hk, ← hu]
  refine ⟨hk8, hkr, e2, hb.1, hb.2, fun h => ?_⟩
  unfold Num.sgn at e3
  split at e3 <;> omega
theorem rz_yes (x : UInt8) (r : List UInt8) (u k : Nat) (m : Bool) (hu : u = Num.val (r.take k)) (hk : k = x.toNat % 128) (hm : m = decide (128 ≤ x.toNat)) (h : Num.ok x r) : Num.enc (rz m u) = x :: r.take k := by
  have h2 := Num.ok_enc h
  obtain ⟨_, _, _, h4, h5, h6⟩ := h
  have : rz m u = Num.num x r := by
    unfold Num.num at *
    rw [← hk, ← hu] at *
    unfold rz
    rw [hm]
    by_cases hx : 128 ≤ x.toNat
    · rw [if_pos hx] at *
      rw [if_pos (decide_eq_true hx)]
      simp only [wrap64_eq]; omega
    · rw [if_neg hx] at *
      rw [if_neg (by simp [hx])]
      simp only [wrap64_eq]; omega
  rw [this, h2, hk]
theorem low127_fin : ∀ n : Fin 256, wrap64 (bits .and .u8 (n.val : Int) 127) = ((n.val % 128 : Nat) : Int) := by decide +kernel
theorem low127 (x : UInt8) : wrap64 (bits .and .u8 (x.toNat : Int) 127) = ((x.toNat % 128 : Nat) : Int) := low127_fin ⟨x.toNat, x.toBitVec.isLt⟩

/-- What each operation of the test yields. -/
def RgV (ad : Addr) (n cap k : Nat) (x : UInt8) (r : List UInt8) (z : Int) (q : Bool) (j : Nat) (v : Value) (w : World) : Prop :=
  match j with
  | 0 => v = .int .i64 z
  | 1 => ∃ A c, v = .slice A (0 + 1 + Num.wid z.natAbs) c ∧ Rd w w.heap.size A (0 + 1 + Num.wid z.natAbs) ([] ++ Num.enc z)
  | 2 => v = .string (str (Num.enc z))
  | 3 => v = .slice (some ad) n cap
  | 4 => v = .int .i64 (k : Int)
  | 5 => v = .int .i64 ((k : Int) + 1)
  | 6 => v = .slice (some ad) (k + 1) cap
  | 7 => v = .string (str (x :: r.take k))
  | 8 => v = .bool q
  | _ => True
theorem RgV.keep {ad : Addr} {n cap k : Nat} {x : UInt8} {r : List UInt8} {z : Int} {q : Bool} {w w' : World} (hb : Below w.heap.size w w') (j : Nat) (v : Value) (h : RgV ad n cap k x r z q j v w) : RgV ad n cap k x r z q j v w' := by
  unfold RgV at h ⊢
  split at h <;> first | exact h | skip
  all_goals
    obtain ⟨A, c, e, hr⟩ := h
    exact ⟨A, c, e, (hr.below hb).more hb.size⟩

set_option maxRecDepth 100000 in
set_option maxHeartbeats 2000000 in
theorem rget_cons (ad : Addr) (n cap : Nat) (x : UInt8) (r : List UInt8) (w : World) (h : Rd w w.heap.size (some ad) n (x :: r)) (hn : n ≤ 140737488355328) (hcap : n ≤ cap) :
    Calls Try.prog 19 #[.slice (some ad) n cap] w (Got (x :: r) w) := by
  have hl : n = r.length + 1 := by have := h.1; simpa using this.symm
  have HL := Lib.hid hl
  have hn0 : 0 < n := by omega
  obtain ⟨ad', x', e1, hbk, e2, hc⟩ := h.at_ (k := 0) hn0
  injection e1 with e1
  subst e1
  simp only [List.getElem?_cons_zero, Option.some.injEq] at e2
  subst e2
  have hc0 : w.cell? ad = some (.int .u8 (x.toNat : Int)) := by rwa [add0] at hc
  clear hc hl hbk
  obtain ⟨k, hk⟩ : ∃ k, k = x.toNat % 128 := ⟨_, rfl⟩
  have LOW : wrap64 (bits .and .u8 (x.toNat : Int) 127) = (k : Int) := by rw [hk]; exact low127 x
  have K := Lib.hid hk
  clear hk
  by_cases hk8 : k ≤ 8
  · by_cases hkn : k < n
    · obtain ⟨u, hu⟩ : ∃ u, u = Num.val (r.take k) := ⟨_, rfl⟩
      have U := Lib.hid hu
      clear hu
      go_enter Try.func19, Try.ntmps19
      go_wp2_with fail
      go_loop [5, 6] (fun t i => ∃ j : Nat, 1 ≤ j ∧ j ≤ k + 1 ∧ i = .int .i64 j ∧ t = .int .u64 (Num.val (r.take (j - 1)) : Int)) (fun _ i => k + 1 - (intOf i).toNat)
      case atStart => exact ⟨1, Nat.le_refl _, by omega, rfl, rfl⟩
      case round =>
        obtain ⟨j, hj1, hj, rfl, rfl⟩ := hrel
        by_cases hlt : j ≤ k
        · obtain ⟨ad2, y, e3, _, hy, hc⟩ := h.at_ (k := j) (by omega)
          injection e3 with e3
          subst e3
          have hy2 : r[j - 1]? = some y := by rw [← hy]; obtain ⟨i, rfl⟩ : ∃ i, j = i + 1 := ⟨j - 1, by omega⟩; simp
          have H := Lib.hid (show Num.val (r.take j) = Num.val (r.take (j - 1)) * 256 + y.toNat by have := Num.val_take r (j - 1) y hy2; rwa [Nat.sub_add_cancel hj1] at this)
          have hv := val_small r (j - 1) (by omega)
          have H2 := Lib.hid (or_byte (Num.val (r.take (j - 1))) y hv)
          clear hy hy2 hv
          have hjn : j < n := by omega
          go_wp2
          go_round
          case rel => exact ⟨j + 1, by omega, by omega, by go_num, by rw [Nat.add_sub_cancel, H.out]; exact u64_eq H2.out⟩
          case measure => simp [intOf]; omega
        · obtain rfl : j = k + 1 := by omega
          simp only [Nat.add_sub_cancel]
          rw [← U.out]
          have hu64 : u < 18446744073709551616 := by rw [U.out]; exact u64_of_val r k hk8
          by_cases hm : 128 ≤ x.toNat
          · obtain ⟨z, hz⟩ : ∃ z, z = rz true u := ⟨_, rfl⟩
            have ZW := Lib.hid hz
            have hz1 : -9223372036854775808 ≤ z := by rw [hz]; exact (rz_bd _ _).1
            have hz2 : z ≤ 9223372036854775807 := by rw [hz]; exact (rz_bd _ _).2
            have hze : wrap64 (-wrap64 (u : Int)) = z := by rw [hz, rz_true]
            clear hz
            have hf : Rd w w.heap.size (some ad) (k + 1) (x :: r.take k) := by have := h.front (k + 1) hkn; simpa using this
            obtain ⟨q, hq'⟩ : ∃ q, q = !(decide (Num.enc z = x :: r.take k)) := ⟨_, rfl⟩
            have hq : (!((str (Num.enc z)).toList == (str (x :: r.take k)).toList)) = q := by rw [hq', str_toList, str_toList, Bool.eq_iff_iff]; simp
            have QW := Lib.hid hq'
            clear hq'
            have hk0 : (0 : Int) ≤ (k : Int) + 1 := by omega
            have hk1 : ¬ ((cap : Int) < (k : Int) + 1) := by omega
            go_wp2
            have hwr : IntKind.i64.wrap ((k : Int) + 1) = (k : Int) + 1 := IntWalk.i64_in _ (by omega)
            refine Reg.region (by kernel_rfl) (by kernel_rfl) (RgV ad n cap k x r z q) (fun w' => Below w.heap.size w w') ((Below.refl _ _).drew) (Reg.steps_of ?_) ?_
            · refine ⟨?_, ?_, ?_, ?_, ?_, ?_, ?_, ?_, ?_, trivial⟩
              · intro a w1 E D hW
                have e7 : a.eval (.tmp 7) = .int .i64 z := E 7 rfl
                exact Reg.val rfl (Reg.wanted_free rfl) hW (.int .i64 z) (by have c := Reg.consts a; generalize a.eval = ρ at *; simp [go_sem, c.1, c.2, e7]) rfl
              · intro a w1 E D hW
                have d0 : a.eval (.tmp 46) = .int .i64 z := D 0 rfl
                refine Reg.call rfl (Reg.wanted_free rfl) 7 #[.slice none 0 0, .int .i64 z] (by have c := Reg.consts a; generalize a.eval = ρ at *; simp [go_sem, c.1, c.2, d0]) ?_
                refine (rput_any none 0 0 [] z w1 (rd_nil _ _) (by omega) hz1 hz2).mono ?_
                rintro e w2 ⟨Az, cz, rfl, hwz, hbz⟩
                exact ⟨_, rfl, ⟨Az, cz, rfl, hwz.rd⟩, hW.trans (hbz.mono hW.size), RgV.keep hbz⟩
              · intro a w1 E D hW
                obtain ⟨A1, c1, d1, r1⟩ : ∃ A c, a.eval (.tmp 47) = .slice A (0 + 1 + Num.wid z.natAbs) c ∧ Rd w1 w1.heap.size A (0 + 1 + Num.wid z.natAbs) ([] ++ Num.enc z) := D 1 rfl
                have qq := run_conv w1 _ _ _ c1 _ r1
                rw [List.nil_append] at qq
                exact Reg.val rfl (Reg.wanted_free rfl) hW (.string (str (Num.enc z))) (by have c := Reg.consts a; generalize a.eval = ρ at *; simp [go_sem, c.1, c.2, d1, qq]) rfl
              · intro a w1 E D hW
                have e0 : a.eval (.tmp 0) = .slice (some ad) n cap := E 0 rfl
                exact Reg.val rfl (Reg.wanted_free rfl) hW (.slice (some ad) n cap) (by have c := Reg.consts a; generalize a.eval = ρ at *; simp [go_sem, c.1, c.2, e0]) rfl
              · intro a w1 E D hW
                have e4 : a.eval (.tmp 4) = .int .i64 (k : Int) := E 4 rfl
                exact Reg.val rfl (Reg.wanted_free rfl) hW (.int .i64 (k : Int)) (by have c := Reg.consts a; generalize a.eval = ρ at *; simp [go_sem, c.1, c.2, e4]) rfl
              · intro a w1 E D hW
                have d4 : a.eval (.tmp 50) = .int .i64 (k : Int) := D 4 rfl
                exact Reg.val rfl (Reg.wanted_free rfl) hW (.int .i64 ((k : Int) + 1)) (by have c := Reg.consts a; generalize a.eval = ρ at *; simp [go_sem, c.1, c.2, d4, hwr]) rfl
              · intro a w1 E D hW
                have d3 : a.eval (.tmp 49) = .slice (some ad) n cap := D 3 rfl
                have d5 : a.eval (.tmp 51) = .int .i64 ((k : Int) + 1) := D 5 rfl
                exact Reg.val rfl (Reg.wanted_free rfl) hW (.slice (some ad) (k + 1) cap) (by have c := Reg.consts a; generalize a.eval = ρ at *; simp [go_sem, c.1, c.2, d3, d5, hk0, hk1]) rfl
              · intro a w1 E D hW
                have d6 : a.eval (.tmp 52) = .slice (some ad) (k + 1) cap := D 6 rfl
                have qq := run_conv w1 _ _ _ cap _ (hf.below hW)
                exact Reg.val rfl (Reg.wanted_free rfl) hW (.string (str (x :: r.take k))) (by have c := Reg.consts a; generalize a.eval = ρ at *; simp [go_sem, c.1, c.2, d6, qq]) rfl
              · intro a w1 E D hW
                have d2 : a.eval (.tmp 48) = .string (str (Num.enc z)) := D 2 rfl
                have d7 : a.eval (.tmp 53) = .string (str (x :: r.take k)) := D 7 rfl
                exact Reg.val rfl (Reg.wanted_free rfl) hW (.bool q) (by have c := Reg.consts a; generalize a.eval = ρ at *; simp [go_sem, c.1, c.2, d2, d7, hq]) rfl
            · intro a w1 hs hd E D hb
              have d8 : a.eval (.tmp 54) = .bool q := D 8 (by decide)
              have e7 : a.eval (.tmp 7) = .int .i64 z := E 7 rfl
              have e4 : a.eval (.tmp 4) = .int .i64 (k : Int) := E 4 rfl
              rw [Reg.act_lit a 58 hs, hd]
              simp only [List.range, List.range.loop, List.map, d8, e7, e4]
              clear E D d8 e7 e4 hq hze
              generalize a.eval = ρ
              clear a hs hd
              cases q with
              | true =>
                go_wp2
                go_ret2
                refine got_no _ _ _ (Num.dec_no fun h => ?_) hb
                have h1 := rz_yes x r u k true U.out K.out (by simp [hm]) h
                have h2 := QW.out
                rw [ZW.out] at h2
                simp [h1] at h2
              | false =>
                go_wp2
                go_ret2
                have h2 := QW.out
                rw [ZW.out] at h2
                have h1 := rz_ok x r u k true U.out K.out (by simp [hm]) hk8 (by have := HL.out; omega) (by simpa using h2.symm)
                exact got_yes x r w _ _ k h1.1 (by rw [ZW.out]; exact h1.2) K.out hb _ (by omega)
        
          · obtain ⟨z, hz⟩ : ∃ z, z = rz false u := ⟨_, rfl⟩
            have ZW := Lib.hid hz
            have hz1 : -9223372036854775808 ≤ z := by rw [hz]; exact (rz_bd _ _).1
            have hz2 : z ≤ 9223372036854775807 := by rw [hz]; exact (rz_bd _ _).2
            have hze : wrap64 (u : Int) = z := by rw [hz, rz_false]
            clear hz
            have hf : Rd w w.heap.size (some ad) (k + 1) (x :: r.take k) := by have := h.front (k + 1) hkn; simpa using this
            obtain ⟨q, hq'⟩ : ∃ q, q = !(decide (Num.enc z = x :: r.take k)) := ⟨_, rfl⟩
            have hq : (!((str (Num.enc z)).toList == (str (x :: r.take k)).toList)) = q := by rw [hq', str_toList, str_toList, Bool.eq_iff_iff]; simp
            have QW := Lib.hid hq'
            clear hq'
            have hk0 : (0 : Int) ≤ (k : Int) + 1 := by omega
            have hk1 : ¬ ((cap : Int) < (k : Int) + 1) := by omega
            go_wp2
            have hwr : IntKind.i64.wrap ((k : Int) + 1) = (k : Int) + 1 := IntWalk.i64_in _ (by omega)
            refine Reg.region (by kernel_rfl) (by kernel_rfl) (RgV ad n cap k x r z q) (fun w' => Below w.heap.size w w') ((Below.refl _ _).drew) (Reg.steps_of ?_) ?_
            · refine ⟨?_, ?_, ?_, ?_, ?_, ?_, ?_, ?_, ?_, trivial⟩
              · intro a w1 E D hW
                have e7 : a.eval (.tmp 7) = .int .i64 z := E 7 rfl
                exact Reg.val rfl (Reg.wanted_free rfl) hW (.int .i64 z) (by have c := Reg.consts a; generalize a.eval = ρ at *; simp [go_sem, c.1, c.2, e7]) rfl
              · intro a w1 E D hW
                have d0 : a.eval (.tmp 46) = .int .i64 z := D 0 rfl
                refine Reg.call rfl (Reg.wanted_free rfl) 7 #[.slice none 0 0, .int .i64 z] (by have c := Reg.consts a; generalize a.eval = ρ at *; simp [go_sem, c.1, c.2, d0]) ?_
                refine (rput_any none 0 0 [] z w1 (rd_nil _ _) (by omega) hz1 hz2).mono ?_
                rintro e w2 ⟨Az, cz, rfl, hwz, hbz⟩
                exact ⟨_, rfl, ⟨Az, cz, rfl, hwz.rd⟩, hW.trans (hbz.mono hW.size), RgV.keep hbz⟩
              · intro a w1 E D hW
                obtain ⟨A1, c1, d1, r1⟩ : ∃ A c, a.eval (.tmp 47) = .slice A (0 + 1 + Num.wid z.natAbs) c ∧ Rd w1 w1.heap.size A (0 + 1 + Num.wid z.natAbs) ([] ++ Num.enc z) := D 1 rfl
                have qq := run_conv w1 _ _ _ c1 _ r1
                rw [List.nil_append] at qq
                exact Reg.val rfl (Reg.wanted_free rfl) hW (.string (str (Num.enc z))) (by have c := Reg.consts a; generalize a.eval = ρ at *; simp [go_sem, c.1, c.2, d1, qq]) rfl
              · intro a w1 E D hW
                have e0 : a.eval (.tmp 0) = .slice (some ad) n cap := E 0 rfl
                exact Reg.val rfl (Reg.wanted_free rfl) hW (.slice (some ad) n cap) (by have c := Reg.consts a; generalize a.eval = ρ at *; simp [go_sem, c.1, c.2, e0]) rfl
              · intro a w1 E D hW
                have e4 : a.eval (.tmp 4) = .int .i64 (k : Int) := E 4 rfl
                exact Reg.val rfl (Reg.wanted_free rfl) hW (.int .i64 (k : Int)) (by have c := Reg.consts a; generalize a.eval = ρ at *; simp [go_sem, c.1, c.2, e4]) rfl
              · intro a w1 E D hW
                have d4 : a.eval (.tmp 50) = .int .i64 (k : Int) := D 4 rfl
                exact Reg.val rfl (Reg.wanted_free rfl) hW (.int .i64 ((k : Int) + 1)) (by have c := Reg.consts a; generalize a.eval = ρ at *; simp [go_sem, c.1, c.2, d4, hwr]) rfl
              · intro a w1 E D hW
                have d3 : a.eval (.tmp 49) = .slice (some ad) n cap := D 3 rfl
                have d5 : a.eval (.tmp 51) = .int .i64 ((k : Int) + 1) := D 5 rfl
                exact Reg.val rfl (Reg.wanted_free rfl) hW (.slice (some ad) (k + 1) cap) (by have c := Reg.consts a; generalize a.eval = ρ at *; simp [go_sem, c.1, c.2, d3, d5, hk0, hk1]) rfl
              · intro a w1 E D hW
                have d6 : a.eval (.tmp 52) = .slice (some ad) (k + 1) cap := D 6 rfl
                have qq := run_conv w1 _ _ _ cap _ (hf.below hW)
                exact Reg.val rfl (Reg.wanted_free rfl) hW (.string (str (x :: r.take k))) (by have c := Reg.consts a; generalize a.eval = ρ at *; simp [go_sem, c.1, c.2, d6, qq]) rfl
              · intro a w1 E D hW
                have d2 : a.eval (.tmp 48) = .string (str (Num.enc z)) := D 2 rfl
                have d7 : a.eval (.tmp 53) = .string (str (x :: r.take k)) := D 7 rfl
                exact Reg.val rfl (Reg.wanted_free rfl) hW (.bool q) (by have c := Reg.consts a; generalize a.eval = ρ at *; simp [go_sem, c.1, c.2, d2, d7, hq]) rfl
            · intro a w1 hs hd E D hb
              have d8 : a.eval (.tmp 54) = .bool q := D 8 (by decide)
              have e7 : a.eval (.tmp 7) = .int .i64 z := E 7 rfl
              have e4 : a.eval (.tmp 4) = .int .i64 (k : Int) := E 4 rfl
              rw [Reg.act_lit a 58 hs, hd]
              simp only [List.range, List.range.loop, List.map, d8, e7, e4]
              clear E D d8 e7 e4 hq hze
              generalize a.eval = ρ
              clear a hs hd
              cases q with
              | true =>
                go_wp2
                go_ret2
                refine got_no _ _ _ (Num.dec_no fun h => ?_) hb
                have h1 := rz_yes x r u k false U.out K.out (by simp [hm]) h
                have h2 := QW.out
                rw [ZW.out] at h2
                simp [h1] at h2
              | false =>
                go_wp2
                go_ret2
                have h2 := QW.out
                rw [ZW.out] at h2
                have h1 := rz_ok x r u k false U.out K.out (by simp [hm]) hk8 (by have := HL.out; omega) (by simpa using h2.symm)
                exact got_yes x r w _ _ k h1.1 (by rw [ZW.out]; exact h1.2) K.out hb _ (by omega)
        
    · have hno := Lib.hid (Num.dec_no (x := x) (r := r) fun h => by have := h.2.1; have := HL.out; have := K.out; omega)
      go_enter Try.func19, Try.ntmps19
      go_wp2
      go_ret2
      exact got_no _ _ _ hno.out (Below.refl _ _)
  · have hno := Lib.hid (Num.dec_no (x := x) (r := r) fun h => by have := h.1; have := K.out; omega)
    go_enter Try.func19, Try.ntmps19
    go_wp2
    go_ret2
    exact got_no _ _ _ hno.out (Below.refl _ _)
end Go.Proofs.Ytibhppjcochkgaa
