/- Ticks, Differ, Same, by the document's own answer. -/
import Derived.Test.YtcdgofdnafbacaaLow4
import Derived.Test.YtcdgofdnafbacaaLow2
namespace Go.Proofs.Ytcdgofdnafbacaa
open Go.RowKit Tab
set_option linter.unusedSimpArgs false
set_option linter.unusedVariables false

set_option maxRecDepth 100000 in
set_option maxHeartbeats 4000000 in
theorem xticks_any (A : Option Addr) (n cap : Nat) (L : List Rn) (p : Int) (w : World) (h : RdR w w.heap.size A n L) (hc : n ≤ cap) (hn : n ≤ 1048576) (ht : ticks L ≤ 1099511627776) :
    Calls Try.prog 23 #[.slice A n cap, .int .i64 p] w (Ans (.int .i64 (tkOf p L : Nat)) w) := by
  have htl := tkOf_le p L
  generalize hT : tkOf p L = T at htl
  have HT := Lib.hid hT
  clear hT
  go_enter Try.func23, Try.ntmps23
  go_wp2_with fail
  go_loopw [5, 7, 10] (fun q _ s wr => ∃ i k : Nat, i ≤ n ∧ s = .int .i64 i ∧ q = .int .i64 k ∧ k = tkOf p (L.take i) ∧ Below w.heap.size w wr) (fun _ _ s _ => n - (intOf s).toNat)
  case atStart => exact ⟨0, 0, by omega, rfl, rfl, by simp [tkOf], Below.refl _ _⟩
  case round =>
    obtain ⟨i, k, hi, rfl, rfl, hk, hb⟩ := hrel
    have HK := Lib.hid hk
    clear hk
    by_cases hlt : i < n
    · have hlti : (i : Int) < (n : Int) := by omega
      obtain ⟨ad, r, rfl, had, hr, c0, c1⟩ := (h.on hb).at_ hlt
      have hmo := tkOf_more (p := p) hr
      have hle : tkOf p (L.take (i + 1)) ≤ ticks L := Nat.le_trans (tkOf_le p _) (take_ticks L (i + 1))
      have hbl := bl1 wr (.cells #[.int .i64 r.p, .int .i64 (r.n : Int)] 31)
      have HB := Lib.hid (hb.trans (hbl.mono hb.size))
      have f0 : (wr.alloc (.cells #[.int .i64 r.p, .int .i64 (r.n : Int)] 31)).cell? ⟨wr.heap.size, 0, none⟩ = some (.int .i64 r.p) := World.cell?_alloc_mark _ _ _ _ _
      have f1 : (wr.alloc (.cells #[.int .i64 r.p, .int .i64 (r.n : Int)] 31)).cell? ⟨wr.heap.size, 1, none⟩ = some (.int .i64 (r.n : Int)) := World.cell?_alloc_mark _ _ _ _ _
      clear hr hb hbl
      go_upto_region 5 with fail
      generalize wr.alloc (.cells #[.int .i64 r.p, .int .i64 (r.n : Int)] 31) = W1 at HB f0 f1 ⊢
      generalize wr.heap.size = gx at f0 f1 ⊢
      clear c0 c1
      obtain ⟨rp, rn⟩ := r
      dsimp only at f0 f1 hmo
      by_cases hp : rp = p
      · have hp' : (rp == p) = true := beq_iff_eq.2 hp
        rw [if_pos hp] at hmo
        by_cases h0 : 0 < rn
        · have h0' : (0 : Int) < (rn : Int) := by omega
          have hkb : k + rn ≤ 1099511627776 := by rw [HK.out]; omega
          have HK2 : Hid (k + rn = tkOf p (L.take (i + 1))) := Lib.hid (by rw [hmo, HK.out])
          have HS := Lib.hid fun W => sum_any (k : Int) (rn : Int) (k : Int) (rn : Int) W (by omega) (by omega) (by omega) rfl rfl
          clear hmo hp hle
          go_wp2_with fail
          refine (HS.out _).mono ?_
          rintro e w5 ⟨rfl, rfl⟩
          go_wp2_with fail
          go_roundw
          case rel => exact ⟨i + 1, k + rn, by omega, by go_num, by go_num, HK2.out, HB.out⟩
          case measure => simp [intOf]; omega
        · have h0n : rn = 0 := by omega
          have h0' : ¬ (0 : Int) < (rn : Int) := by omega
          have HK2 : Hid (k = tkOf p (L.take (i + 1))) := Lib.hid (by rw [hmo, HK.out]; omega)
          clear hmo hp hle h0n
          go_wp2_with fail
          go_roundw
          case rel => exact ⟨i + 1, k, by omega, by go_num, rfl, HK2.out, HB.out⟩
          case measure => simp [intOf]; omega
      · have hp' : (rp == p) = false := beq_eq_false_iff_ne.2 hp
        rw [if_neg hp] at hmo
        have HK2 : Hid (k = tkOf p (L.take (i + 1))) := Lib.hid (by rw [hmo, HK.out]; rfl)
        clear hmo hp hle
        go_wp2_with fail
        go_roundw
        case rel => exact ⟨i + 1, k, by omega, by go_num, rfl, HK2.out, HB.out⟩
        case measure => simp [intOf]; omega
    · have hlti : ¬ (i : Int) < (n : Int) := by omega
      have e : L.take i = L := List.take_of_length_le (by rw [h.len]; omega)
      have hk := HK.out
      rw [e, HT.out] at hk
      subst hk
      clear e HK
      go_wp2_with fail
      go_ret
      exact Ans.mk rfl hb
/-- The first place from b on, of k. -/
def firstF (B : Nat → Bool) : Nat → Nat → Option Nat
  | _, 0 => none
  | b, k + 1 => if B b = true then some b else firstF B (b + 1) k
def rowsF (B : Nat → Nat → Bool) : Nat → Nat → Option (Nat × Nat)
  | _, 0 => none
  | a, k + 1 => match firstF (B a) a (k + 1) with
    | some b => some (a, b)
    | none => rowsF B (a + 1) k
/-- Do a and b, that depend, see unlike rows? -/
def badF (D : Int → Int → Bool) (x y : List Rn) (a b : Nat) : Bool := D a b && !(sameR (proj a b x) (proj a b y))
def diffF (D : Int → Int → Bool) (x y : List Rn) : Int × Int × Bool := match rowsF (badF D x y) 0 6 with
  | some (a, b) => ((a : Int), (b : Int), true)
  | none => (-1, -1, tkOf (-1) x != tkOf (-1) y)
theorem firstF_none {B : Nat → Bool} (k : Nat) : ∀ b, firstF B b k = none ↔ ∀ c, b ≤ c → c < b + k → B c = false := by
  induction k with
  | zero => intro b; exact ⟨fun _ c h1 h2 => by omega, fun _ => rfl⟩
  | succ k ih =>
    intro b
    unfold firstF
    cases h : B b with
    | true => simp only [if_true]; exact ⟨nofun, fun e => absurd (e b (Nat.le_refl _) (by omega)) (by rw [h]; decide)⟩
    | false =>
      rw [if_neg (by decide), ih]
      exact ⟨fun e c h1 h2 => by
        by_cases hc : c = b
        · rw [hc]; exact h
        · exact e c (by omega) (by omega), fun e c h1 h2 => e c (by omega) (by omega)⟩
theorem rowsF_none {B : Nat → Nat → Bool} (k : Nat) : ∀ a, rowsF B a k = none ↔ ∀ c d, a ≤ c → c ≤ d → d < a + k → B c d = false := by
  induction k with
  | zero => intro a; exact ⟨fun _ c d h1 h2 h3 => by omega, fun _ => rfl⟩
  | succ k ih =>
    intro a
    unfold rowsF
    cases h : firstF (B a) a (k + 1) with
    | some b =>
      simp only
      refine ⟨fun e => by (cases e), fun e => ?_⟩
      have : firstF (B a) a (k + 1) = none := (firstF_none (k + 1) a).2 fun c h1 h2 => e a c (Nat.le_refl _) h1 h2
      rw [h] at this
      cases this
    | none =>
      simp only
      rw [ih]
      have h0 := (firstF_none (k + 1) a).1 h
      exact ⟨fun e c d h1 h2 h3 => by
        by_cases hc : c = a
        · subst hc; exact h0 d h2 h3
        · exact e c d (by omega) h2 (by omega), fun e c d h1 h2 h3 => e c d (by omega) h2 (by omega)⟩
/-- Nothing differs: they are the same to all. -/
theorem diffF_same (D : Int → Int → Bool) (x y : List Rn) : (diffF D x y).2.2 = false ↔ SameW D x y := by
  unfold diffF
  have key : rowsF (badF D x y) 0 6 = none ↔ ∀ a b : Nat, a ≤ b → b < 6 → D a b = true → proj a b x = proj a b y := by
    rw [rowsF_none]
    refine ⟨fun h a b h1 h2 h3 => ?_, fun h a b _ h1 h2 => ?_⟩
    · have := h a b (Nat.zero_le _) h1 (by omega)
      unfold badF at this
      rw [h3] at this
      rw [← sameR_iff]
      simpa using this
    · unfold badF
      cases hd : D a b with
      | false => rfl
      | true =>
        rw [(sameR_iff _ _).2 (h a b h1 (by omega) hd)]
        rfl
  cases h : rowsF (badF D x y) 0 6 with
  | some q =>
    refine ⟨fun e => by (cases e), fun e => ?_⟩
    have := key.2 e.1
    rw [h] at this
    cases this
  | none =>
    show (tkOf (-1) x != tkOf (-1) y) = false ↔ _
    rw [bne_eq_false_iff_eq]
    exact ⟨fun e => ⟨key.1 h, e⟩, fun e => e.2⟩
theorem diffF_of {D : Int → Int → Bool} {x y : List Rn} (h : SameW D x y) : diffF D x y = (-1, -1, false) := by
  have h2 := (diffF_same D x y).2 h
  unfold diffF at h2 ⊢
  cases hr : rowsF (badF D x y) 0 6 with
  | some q => rw [hr] at h2; cases h2
  | none => rw [hr] at h2; simp only at h2 ⊢; rw [h2]
theorem firstF_step {B : Nat → Bool} {b : Nat} (hb : b < 6) : firstF B b (6 - b) = if B b = true then some b else firstF B (b + 1) (6 - (b + 1)) := by
  have e : 6 - b = (6 - (b + 1)) + 1 := by omega
  rw [e]
  rfl
theorem rowsF_step {B : Nat → Nat → Bool} {a : Nat} (ha : a < 6) : rowsF B a (6 - a) = match firstF (B a) a (6 - a) with
    | some b => some (a, b)
    | none => rowsF B (a + 1) (6 - (a + 1)) := by
  have e : 6 - a = (6 - (a + 1)) + 1 := by omega
  rw [e]
  rfl
/-- What Differ answers, of rows in memory. -/
def DifA (v : Int × Int × Bool) (w : World) (e : Ending) (w' : World) : Prop := e = .returned (.tuple #[.int .i64 v.1, .int .i64 v.2.1, .bool v.2.2]) ∧ Below w.heap.size w w'
set_option maxRecDepth 100000 in
set_option maxHeartbeats 4000000 in
theorem rdiffer_any (A1 A2 A3 : Option Addr) (n1 n2 n3 c1 c2 c3 : Nat) (X Y : List Rn) (m : Nat → Nat → Bool) (w : World) (hX : RdR w w.heap.size A1 n1 X) (hY : RdR w w.heap.size A2 n2 Y) (hM : RdM w w.heap.size A3 n3 (fun _ => n3) m)
    (q1 : n1 ≤ c1) (q2 : n2 ≤ c2) (b1 : n1 ≤ 1048576) (b2 : n2 ≤ 1048576) (b3 : n3 ≤ 1024) (t1 : ticks X ≤ 1099511627776) (t2 : ticks Y ≤ 1099511627776) :
    Calls Try.prog 25 #[.slice A1 n1 c1, .slice A2 n2 c2, .slice A3 n3 c3] w (DifA (diffF (depW n3 m) X Y) w) := by
  obtain ⟨v, hv⟩ : ∃ v, v = diffF (depW n3 m) X Y := ⟨_, rfl⟩
  rw [← hv]
  obtain ⟨B, hB⟩ : ∃ B, B = badF (depW n3 m) X Y := ⟨_, rfl⟩
  unfold diffF at hv
  rw [← hB] at hv
  have HV := Lib.hid hv
  have HB := Lib.hid hB
  have HX := Lib.hid hX
  have HY := Lib.hid hY
  have HM := Lib.hid hM
  clear hv hB hX hY hM
  go_enter Try.func25, Try.ntmps25
  go_wp2_with fail
  go_loopw [9, 10] (fun s _ wx => ∃ a : Nat, a ≤ 6 ∧ s = .int .i64 a ∧ rowsF B a (6 - a) = rowsF B 0 6 ∧ Below w.heap.size w wx) (fun s _ _ => 6 - (intOf s).toNat)
  case atStart => exact ⟨0, by omega, rfl, rfl, Below.refl _ _⟩
  case round =>
    obtain ⟨a, ha6, rfl, hrow, hb⟩ := hrel
    have HROW := Lib.hid hrow
    have HBa := Lib.hid hb
    clear hrow hb
    by_cases ha : a < 6
    · have hai : (a : Int) < 6 := by omega
      go_wp2_with fail
      go_loopw [10] (fun s wx => ∃ b : Nat, a ≤ b ∧ b ≤ 6 ∧ s = .int .i64 b ∧ firstF (B a) b (6 - b) = firstF (B a) a (6 - a) ∧ Below w.heap.size w wx) (fun s _ => 6 - (intOf s).toNat)
      case atStart => exact ⟨a, Nat.le_refl _, ha6, rfl, rfl, HBa.out⟩
      case round =>
        obtain ⟨b, hab, hb6, rfl, hfst, hb⟩ := hrel
        clear HBa
        have HF := Lib.hid hfst
        clear hfst
        by_cases hbl : b < 6
        · have hbi : (b : Int) < 6 := by omega
          have HBAD : Hid (B a b = (depW n3 m a b && !(sameR (proj a b X) (proj a b Y)))) := Lib.hid (by rw [HB.out]; rfl)
          have HNEXT : Hid (B a b = false → firstF (B a) (b + 1) (6 - (b + 1)) = firstF (B a) a (6 - a)) := Lib.hid fun e => by
            rw [← HF.out, firstF_step hbl, if_neg (by rw [e]; decide)]
          have HDONE : Hid (B a b = true → v = ((a : Int), (b : Int), true)) := Lib.hid fun e => by
            have h1 : firstF (B a) a (6 - a) = some b := by rw [← HF.out, firstF_step hbl, if_pos e]
            have h2 : rowsF B 0 6 = some (a, b) := by rw [← HROW.out, rowsF_step ha, h1]
            rw [HV.out, h2]
          have HD := Lib.hid (rdepw_any A3 n3 c3 m a b wr ((HM.out.on hb)) b3 (by omega) (by omega))
          obtain ⟨d, hd⟩ : ∃ d, d = depW n3 m a b := ⟨_, rfl⟩
          rw [← hd] at HD HBAD
          have HBb := Lib.hid hb
          clear hb hd
          go_wp2_with fail
          refine HD.out.mono ?_
          rintro e w4 ⟨rfl, hb4⟩
          have HB4 := Lib.hid (HBb.out.trans (hb4.mono HBb.out.size))
          clear hb4 HD
          cases d with
          | false =>
            have HN := Lib.hid (HNEXT.out (by rw [HBAD.out]; rfl))
            go_wp2_with fail
            go_roundw
            case rel => exact ⟨b + 1, by omega, by omega, by go_num, HN.out, HB4.out⟩
            case measure => simp [intOf]; omega
          | true =>
            have HP1 := Lib.hid (rproj_any A1 n1 c1 X a b w4 (HX.out.on HB4.out) q1 b1 t1)
            go_wp2_with fail
            refine HP1.out.mono ?_
            rintro e w5 ⟨A5, c5, rfl, hr5, hc5, hb5, _⟩
            have HB5 := Lib.hid (HB4.out.trans (hb5.mono HB4.out.size))
            have HR5 := Lib.hid hr5
            have HP2 := Lib.hid (rproj_any A2 n2 c2 Y a b w5 (HY.out.on HB5.out) q2 b2 t2)
            clear hb5 hr5 HP1
            go_wp2_with fail
            refine HP2.out.mono ?_
            rintro e w6 ⟨A6, c6, rfl, hr6, hc6, hb6, _⟩
            have HB6 := Lib.hid (HB5.out.trans (hb6.mono HB5.out.size))
            have hl5 : (proj a b X).length ≤ 1048576 := by
              have h1 := tidy_le (prj a b X)
              have h2 := prj_le a b X
              rw [HX.out.len] at h2
              unfold proj
              omega
            have HS := Lib.hid (xsame_any A5 A6 _ _ c5 c6 _ _ w6 (HR5.out.on hb6) hr6 hl5)
            generalize sameR (proj a b X) (proj a b Y) = s at HS HBAD
            generalize (proj a b X).length = l5 at HS HR5 hc5 ⊢
            generalize (proj a b Y).length = l6 at HS hc6 ⊢
            clear hr6 hb6 HP2 hl5 HR5
            go_wp2_with fail
            refine HS.out.mono ?_
            intro e w7 hq
            obtain ⟨rfl, hb7⟩ := hq.ans
            have HB7 := Lib.hid (HB6.out.trans (hb7.mono HB6.out.size))
            clear hq hb7 HS
            cases s with
            | true =>
              have HN := Lib.hid (HNEXT.out (by rw [HBAD.out]; rfl))
              go_wp2_with fail
              go_roundw
              case rel => exact ⟨b + 1, by omega, by omega, by go_num, HN.out, HB7.out⟩
              case measure => simp [intOf]; omega
            | false =>
              have HVV := Lib.hid (HDONE.out (by rw [HBAD.out]; rfl))
              go_wp2_with fail
              go_ret3
              exact ⟨by rw [HVV.out]; rfl, HB7.out⟩
        · have hbi : ¬ (b : Int) < 6 := by omega
          obtain rfl : b = 6 := by omega
          have HN : Hid (rowsF B (a + 1) (6 - (a + 1)) = rowsF B 0 6) := Lib.hid (by
            have h1 : firstF (B a) a (6 - a) = none := by rw [← HF.out]; rfl
            rw [← HROW.out, rowsF_step ha, h1])
          have HBb := Lib.hid hb
          clear hb
          go_wp2_with fail
          go_roundw
          case rel => exact ⟨a + 1, by omega, by go_num, HN.out, HBb.out⟩
          case measure => simp [intOf]; omega
    · have hai : ¬ (a : Int) < 6 := by omega
      obtain rfl : a = 6 := by omega
      have HVV : Hid (v = (-1, -1, tkOf (-1) X != tkOf (-1) Y)) := Lib.hid (by
        have h2 : rowsF B 0 6 = none := by rw [← HROW.out]; rfl
        rw [HV.out, h2])
      have HT1 := Lib.hid (xticks_any A1 n1 c1 X (-1) wr (HX.out.on HBa.out) q1 b1 t1)
      have HT2 := Lib.hid fun w' (hb : Below w.heap.size w w') => xticks_any A2 n2 c2 Y (-1) w' (HY.out.on hb) q2 b2 t2
      generalize tkOf (-1) X = u1 at HT1 HVV
      generalize tkOf (-1) Y = u2 at HT2 HVV
      obtain ⟨q, hq⟩ : ∃ q, q = (u1 != u2) := ⟨_, rfl⟩
      have hqi : ((u1 : Int) != (u2 : Int)) = q := by
        rw [hq]
        by_cases h : u1 = u2
        · subst h; simp
        · rw [bne_iff_ne.2 h]; exact bne_iff_ne.2 (by omega)
      rw [← hq] at HVV
      clear hq
      go_wp2_with fail
      refine HT1.out.mono ?_
      rintro e w5 ⟨rfl, hb5⟩
      have HB5 := Lib.hid (HBa.out.trans (hb5.mono HBa.out.size))
      clear hb5 HT1
      go_wp2_with fail
      refine (HT2.out w5 HB5.out).mono ?_
      rintro e w6 ⟨rfl, hb6⟩
      have HB6 := Lib.hid (HB5.out.trans (hb6.mono HB5.out.size))
      clear hb6 HT2
      go_wp2_with fail
      go_ret3
      exact ⟨by rw [HVV.out]; rfl, HB6.out⟩
set_option maxRecDepth 100000 in
set_option maxHeartbeats 1000000 in
theorem rsamew_any (A1 A2 A3 : Option Addr) (n1 n2 n3 c1 c2 c3 : Nat) (X Y : List Rn) (m : Nat → Nat → Bool) (w : World) (hX : RdR w w.heap.size A1 n1 X) (hY : RdR w w.heap.size A2 n2 Y) (hM : RdM w w.heap.size A3 n3 (fun _ => n3) m)
    (q1 : n1 ≤ c1) (q2 : n2 ≤ c2) (b1 : n1 ≤ 1048576) (b2 : n2 ≤ 1048576) (b3 : n3 ≤ 1024) (t1 : ticks X ≤ 1099511627776) (t2 : ticks Y ≤ 1099511627776) :
    Calls Try.prog 26 #[.slice A1 n1 c1, .slice A2 n2 c2, .slice A3 n3 c3] w (Ans (.bool (!(diffF (depW n3 m) X Y).2.2)) w) := by
  have H := Lib.hid (rdiffer_any A1 A2 A3 n1 n2 n3 c1 c2 c3 X Y m w hX hY hM q1 q2 b1 b2 b3 t1 t2)
  generalize diffF (depW n3 m) X Y = v at H ⊢
  obtain ⟨v0, v1, v2⟩ := v
  clear hX hY hM
  go_enter Try.func26, Try.ntmps26
  go_wp2_with fail
  refine H.out.mono ?_
  rintro e w5 ⟨rfl, hb5⟩
  dsimp only
  go_wp2_with fail
  go_ret
  exact Ans.mk rfl hb5
end Go.Proofs.Ytcdgofdnafbacaa
