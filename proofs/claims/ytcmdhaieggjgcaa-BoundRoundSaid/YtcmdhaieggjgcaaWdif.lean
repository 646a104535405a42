/- Ticks, Differ, Same, by the document's own answer. -/
import Derived.Test.YtcmdhaieggjgcaaWm
import Derived.Test.YtcmdhaieggjgcaaLow4
import Derived.Test.YtcmdhaieggjgcaaSamem
import Derived.Test.YtcmdhaieggjgcaaLow2
import Derived.Test.YtcmdhaieggjgcaaLow3
import Derived.Laws.StructEq
import Derived.BigQuiet
import Derived.Test.YtcmdhaieggjgcaaLow5
import Derived.Deep.Cut
namespace Go.Proofs.Ytcmdhaieggjgcaa
open Go.RowKit Tab
set_option linter.unusedSimpArgs false
set_option linter.unusedVariables false

set_option maxRecDepth 100000 in
set_option maxHeartbeats 4000000 in
theorem xticks_any (A : Option Addr) (n cap : Nat) (L : List Rn) (p : Int) (w : World) (h : RdR w w.heap.size A n L) (hc : n ≤ cap) (hn : n ≤ 1048576) (ht : ticks L ≤ 1099511627776) :
    Calls Try.prog 21 #[.slice A n cap, .int .i64 p] w (Ans (.int .i64 (tkOf p L : Nat)) w) := by
  have htl := tkOf_le p L
  generalize hT : tkOf p L = T at htl
  have HT := Lib.hid hT
  clear hT
  go_enter Try.func21, Try.ntmps21
  go_wp2_with fail
  go_loopw [5, 7, 10] (fun q _ s wr => ∃ i k : Nat, i ≤ n ∧ s = .int .i64 i ∧ q = .int .i64 k ∧ k = tkOf p (L.take i) ∧ Below w.heap.size w wr) (fun _ _ s _ => n - (intOf s).toNat)
  case atStart => exact ⟨0, 0, by omega, rfl, rfl, by simp [tkOf], Below.refl _ _⟩
  case round =>
    obtain ⟨i, k, hi, rfl, rfl, hk, hb⟩ := hrel
    have HK := Lib.hid hk
    clear hk
    by_cases hlt : i < n
    · have hlti : (i : Int) < (n : Int) := by omega
      obtain ⟨ad, r, rfl, had, hr, c0, c1⟩ := (h.on hb).at_ hlt
      have hmo := tkOf_more (p := p) hr
      have hle : tkOf p (L.take (i + 1)) ≤ ticks L := Nat.le_trans (tkOf_le p _) (take_ticks L (i + 1))
      have hbl := bl1 wr (.cells #[.int .i64 r.p, .int .i64 (r.n : Int)] 44)
      have HB := Lib.hid (hb.trans (hbl.mono hb.size))
      have f0 : (wr.alloc (.cells #[.int .i64 r.p, .int .i64 (r.n : Int)] 44)).cell? ⟨wr.heap.size, 0, none⟩ = some (.int .i64 r.p) := World.cell?_alloc_mark _ _ _ _ _
      have f1 : (wr.alloc (.cells #[.int .i64 r.p, .int .i64 (r.n : Int)] 44)).cell? ⟨wr.heap.size, 1, none⟩ = some (.int .i64 (r.n : Int)) := World.cell?_alloc_mark _ _ _ _ _
      clear hr hb hbl
      go_upto_region 5 with fail
      generalize wr.alloc (.cells #[.int .i64 r.p, .int .i64 (r.n : Int)] 44) = W1 at HB f0 f1 ⊢
      generalize wr.heap.size = gx at f0 f1 ⊢
      clear c0 c1
      obtain ⟨rp, rn⟩ := r
      dsimp only at f0 f1 hmo
      by_cases hp : rp = p
      · have hp' : (rp == p) = true := beq_iff_eq.2 hp
        rw [if_pos hp] at hmo
        by_cases h0 : 0 < rn
        · have h0' : (0 : Int) < (rn : Int) := by omega
          have hkb : k + rn ≤ 1099511627776 := by rw [HK.out]; omega
          have HK2 : Hid (k + rn = tkOf p (L.take (i + 1))) := Lib.hid (by rw [hmo, HK.out])
          have HS := Lib.hid fun W => sum_any (k : Int) (rn : Int) (k : Int) (rn : Int) W (by omega) (by omega) (by omega) rfl rfl
          clear hmo hp hle
          go_wp2_with fail
          refine (HS.out _).mono ?_
          rintro e w5 ⟨rfl, rfl⟩
          go_wp2_with fail
          go_roundw
          case rel => exact ⟨i + 1, k + rn, by omega, by go_num, by go_num, HK2.out, HB.out⟩
          case measure => simp [intOf]; omega
        · have h0n : rn = 0 := by omega
          have h0' : ¬ (0 : Int) < (rn : Int) := by omega
          have HK2 : Hid (k = tkOf p (L.take (i + 1))) := Lib.hid (by rw [hmo, HK.out]; omega)
          clear hmo hp hle h0n
          go_wp2_with fail
          go_roundw
          case rel => exact ⟨i + 1, k, by omega, by go_num, rfl, HK2.out, HB.out⟩
          case measure => simp [intOf]; omega
      · have hp' : (rp == p) = false := beq_eq_false_iff_ne.2 hp
        rw [if_neg hp] at hmo
        have HK2 : Hid (k = tkOf p (L.take (i + 1))) := Lib.hid (by rw [hmo, HK.out]; rfl)
        clear hmo hp hle
        go_wp2_with fail
        go_roundw
        case rel => exact ⟨i + 1, k, by omega, by go_num, rfl, HK2.out, HB.out⟩
        case measure => simp [intOf]; omega
    · have hlti : ¬ (i : Int) < (n : Int) := by omega
      have e : L.take i = L := List.take_of_length_le (by rw [h.len]; omega)
      have hk := HK.out
      rw [e, HT.out] at hk
      subst hk
      clear e HK
      go_wp2_with fail
      go_ret
      exact Ans.mk rfl hb
/-- The first place from b on, of k. -/
def firstF (B : Nat → Bool) : Nat → Nat → Option Nat
  | _, 0 => none
  | b, k + 1 => if B b = true then some b else firstF B (b + 1) k
def rowsF (B : Nat → Nat → Bool) : Nat → Nat → Option (Nat × Nat)
  | _, 0 => none
  | a, k + 1 => match firstF (B a) a (k + 1) with
    | some b => some (a, b)
    | none => rowsF B (a + 1) k
/-- Do a and b, that depend, see unlike rows? -/
def badF (D : Int → Int → Bool) (x y : List Rn) (a b : Nat) : Bool := D a b && !(sameR (proj a b x) (proj a b y))
def diffF (D : Int → Int → Bool) (x y : List Rn) : Int × Int × Bool := match rowsF (badF D x y) 0 6 with
  | some (a, b) => ((a : Int), (b : Int), true)
  | none => (-1, -1, tkOf (-1) x != tkOf (-1) y)
theorem firstF_none {B : Nat → Bool} (k : Nat) : ∀ b, firstF B b k = none ↔ ∀ c, b ≤ c → c < b + k → B c = false := by
  induction k with
  | zero => intro b; exact ⟨fun _ c h1 h2 => by omega, fun _ => rfl⟩
  | succ k ih =>
    intro b
    unfold firstF
    cases h : B b with
    | true => simp only [if_true]; exact ⟨nofun, fun e => absurd (e b (Nat.le_refl _) (by omega)) (by rw [h]; decide)⟩
    | false =>
      rw [if_neg (by decide), ih]
      exact ⟨fun e c h1 h2 => by
        by_cases hc : c = b
        · rw [hc]; exact h
        · exact e c (by omega) (by omega), fun e c h1 h2 => e c (by omega) (by omega)⟩
theorem rowsF_none {B : Nat → Nat → Bool} (k : Nat) : ∀ a, rowsF B a k = none ↔ ∀ c d, a ≤ c → c ≤ d → d < a + k → B c d = false := by
  induction k with
  | zero => intro a; exact ⟨fun _ c d h1 h2 h3 => by omega, fun _ => rfl⟩
  | succ k ih =>
    intro a
    unfold rowsF
    cases h : firstF (B a) a (k + 1) with
    | some b =>
      simp only
      refine ⟨fun e => by (cases e), fun e => ?_⟩
      have : firstF (B a) a (k + 1) = none := (firstF_none (k + 1) a).2 fun c h1 h2 => e a c (Nat.le_refl _) h1 h2
      rw [h] at this
      cases this
    | none =>
      simp only
      rw [ih]
      have h0 := (firstF_none (k + 1) a).1 h
      exact ⟨fun e c d h1 h2 h3 => by
        by_cases hc : c = a
        · subst hc; exact h0 d h2 h3
        · exact e c d (by omega) h2 (by omega), fun e c d h1 h2 h3 => e c d (by omega) h2 (by omega)⟩
/-- Nothing differs: they are the same to all. -/
theorem diffF_same (D : Int → Int → Bool) (x y : List Rn) : (diffF D x y).2.2 = false ↔ SameW D x y := by
  unfold diffF
  have key : rowsF (badF D x y) 0 6 = none ↔ ∀ a b : Nat, a ≤ b → b < 6 → D a b = true → proj a b x = proj a b y := by
    rw [rowsF_none]
    refine ⟨fun h a b h1 h2 h3 => ?_, fun h a b _ h1 h2 => ?_⟩
    · have := h a b (Nat.zero_le _) h1 (by omega)
      unfold badF at this
      rw [h3] at this
      rw [← sameR_iff]
      simpa using this
    · unfold badF
      cases hd : D a b with
      | false => rfl
      | true =>
        rw [(sameR_iff _ _).2 (h a b h1 (by omega) hd)]
        rfl
  cases h : rowsF (badF D x y) 0 6 with
  | some q =>
    refine ⟨fun e => by (cases e), fun e => ?_⟩
    have := key.2 e.1
    rw [h] at this
    cases this
  | none =>
    show (tkOf (-1) x != tkOf (-1) y) = false ↔ _
    rw [bne_eq_false_iff_eq]
    exact ⟨fun e => ⟨key.1 h, e⟩, fun e => e.2⟩
theorem diffF_of {D : Int → Int → Bool} {x y : List Rn} (h : SameW D x y) : diffF D x y = (-1, -1, false) := by
  have h2 := (diffF_same D x y).2 h
  unfold diffF at h2 ⊢
  cases hr : rowsF (badF D x y) 0 6 with
  | some q => rw [hr] at h2; cases h2
  | none => rw [hr] at h2; simp only at h2 ⊢; rw [h2]
theorem firstF_step {B : Nat → Bool} {b : Nat} (hb : b < 6) : firstF B b (6 - b) = if B b = true then some b else firstF B (b + 1) (6 - (b + 1)) := by
  have e : 6 - b = (6 - (b + 1)) + 1 := by omega
  rw [e]
  rfl
theorem rowsF_step {B : Nat → Nat → Bool} {a : Nat} (ha : a < 6) : rowsF B a (6 - a) = match firstF (B a) a (6 - a) with
    | some b => some (a, b)
    | none => rowsF B (a + 1) (6 - (a + 1)) := by
  have e : 6 - a = (6 - (a + 1)) + 1 := by omega
  rw [e]
  rfl
/-- What Differ answers, of rows in memory. -/
def DifA (v : Int × Int × Bool) (w : World) (e : Ending) (w' : World) : Prop := e = .returned (.tuple #[.int .i64 v.1, .int .i64 v.2.1, .bool v.2.2]) ∧ Below w.heap.size w w'
end Go.Proofs.Ytcmdhaieggjgcaa
