/- The period of a row of runs. -/
import Derived.Test.YtjbflndlfdekiaaLow4
import Derived.Deep.CutRange
namespace Go.Proofs.Ytjbflndlfdekiaa
open Go.RowKit Tab
set_option linter.unusedSimpArgs false
set_option linter.unusedVariables false

theorem rs_drop (l : List Rn) (k : Nat) : rs (l.drop k) = (rs l).drop (k * 2) := by
  induction k generalizing l with
  | zero => simp
  | succ k ih =>
    cases l with
    | nil => simp [rs]
    | cons x l => rw [List.drop_succ_cons, ih, show (k + 1) * 2 = k * 2 + 2 by omega]; simp [rs]
theorem rs_take (l : List Rn) (k : Nat) : rs (l.take k) = (rs l).take (k * 2) := by
  induction k generalizing l with
  | zero => simp [rs]
  | succ k ih =>
    cases l with
    | nil => simp [rs]
    | cons x l => rw [List.take_succ_cons, show (k + 1) * 2 = k * 2 + 2 by omega]; simp [rs, ih]
theorem RdR.back {w : World} {B n : Nat} {ad : Addr} {l : List Rn} (h : RdR w B (some ad) n l) (k : Nat) : RdR w B (some (ad.add (k * 2))) (n - k) (l.drop k) :=
  ⟨by rw [List.length_drop, h.len], by rw [rs_drop]; exact h.rd.back (k * 2)⟩
theorem RdR.front {w : World} {B n : Nat} {A : Option Addr} {l : List Rn} (h : RdR w B A n l) (k : Nat) (hk : k ≤ n) : RdR w B A k (l.take k) :=
  ⟨by rw [List.length_take, h.len]; omega, by rw [rs_take]; exact h.rd.front (k * 2)⟩
/-- Is p a period? -/
def perB (L : List Rn) (n p : Nat) : Bool := decide (n % p = 0) && sameR (L.drop p) (L.take (n - p))
def perF (L : List Rn) (n : Nat) : Nat → Nat → Nat
  | 0, _ => n
  | f + 1, p => if p < n then (if perB L n p = true then p else perF L n f (p + 1)) else n
def perI (L : List Rn) : Nat := perF L L.length L.length 1
theorem perB_iff (L : List Rn) (p : Nat) (hp : 1 ≤ p) (hn : p ≤ L.length) : perB L L.length p = true ↔ Per L p := by
  unfold perB Per
  simp only [Bool.and_eq_true, decide_eq_true_eq, sameR_iff]
  constructor
  · rintro ⟨h1, h2⟩
    refine ⟨hp, h1, fun i hi hl => ?_⟩
    have h3 : (L.drop p)[i - p]? = (L.take (L.length - p))[i - p]? := by rw [h2]
    rw [List.getElem?_drop, List.getElem?_take, if_pos (by omega), show p + (i - p) = i by omega] at h3
    exact h3
  · rintro ⟨_, h1, h2⟩
    refine ⟨h1, List.ext_getElem? fun i => ?_⟩
    rw [List.getElem?_drop, List.getElem?_take]
    split
    · have := h2 (p + i) (by omega) (by omega)
      rwa [show p + i - p = i by omega] at this
    · rw [List.getElem?_eq_none (by omega)]
theorem perF_spec (L : List Rn) (f p : Nat) (hp : 1 ≤ p) (hf : L.length ≤ p + f) (hl : 1 ≤ L.length) (h : ∀ q, Per L q → p ≤ q ∨ L.length ≤ q) : Per L (perF L L.length f p) ∧ ∀ q, Per L q → perF L L.length f p ≤ q := by
  induction f generalizing p with
  | zero =>
    refine ⟨per_self hl, fun q hq => ?_⟩
    show L.length ≤ q
    have := h q hq
    omega
  | succ f ih =>
    simp only [perF]
    split
    · rename_i hlt
      split
      · rename_i hb
        refine ⟨(perB_iff L p hp (by omega)).1 hb, fun q hq => ?_⟩
        have := h q hq
        omega
      · rename_i hb
        refine ih (p + 1) (by omega) (by omega) fun q hq => ?_
        rcases h q hq with h1 | h1
        · rcases Nat.lt_or_ge p q with h2 | h2
          · exact .inl h2
          · have : q = p := by omega
            subst this
            exact absurd ((perB_iff L q hp (by omega)).2 hq) hb
        · exact .inr h1
    · refine ⟨per_self hl, fun q hq => ?_⟩
      have := h q hq
      omega
theorem perI_spec (L : List Rn) (hl : 1 ≤ L.length) : Per L (perI L) ∧ ∀ q, Per L q → perI L ≤ q :=
  perF_spec L L.length 1 (Nat.le_refl _) (by omega) hl fun q hq => .inl hq.1
theorem perF_end {L : List Rn} {n f p : Nat} (h : ¬ p < n) : perF L n f p = n := by
  cases f with
  | zero => rfl
  | succ f => simp only [perF]; rw [if_neg h]
set_option maxRecDepth 100000 in
set_option maxHeartbeats 4000000 in
theorem period_any (A : Option Addr) (n cap : Nat) (L : List Rn) (w : World) (h : RdR w w.heap.size A n L) (hc : n ≤ cap) (hn : n ≤ 1048576) :
    Calls Try.prog 15 #[.slice A n cap] w (Qui (.int .i64 (perI L : Nat)) w) := by
  have hlen := h.len
  have hR0 : perI L = perF L n n 1 := by unfold perI; rw [hlen]
  rw [hR0]
  clear hR0 hlen
  generalize hR : perF L n n 1 = R
  have HR := Lib.hid hR
  clear hR
  go_enter Try.func15, Try.ntmps15
  go_wp2_with fail
  go_loopw [3] (fun s wr => ∃ p f q : Nat, 1 ≤ p ∧ p ≤ n + 1 ∧ s = .int .i64 p ∧ n ≤ p + f ∧ perF L n f p = R ∧ wr = w.drewN q) (fun s _ => n + 1 - (intOf s).toNat)
  case atStart => exact ⟨1, n, 0, by omega, by omega, rfl, by omega, HR.out, rfl⟩
  case round =>
    obtain ⟨p, f, q, hp1, hp2, rfl, hf, hs, rfl⟩ := hrel
    have HS := Lib.hid hs
    clear hs
    by_cases hlt : p < n
    · obtain ⟨f, rfl⟩ : ∃ f', f = f' + 1 := ⟨f - 1, by omega⟩
      obtain ⟨ad, rfl⟩ : ∃ ad, A = some ad := by
        obtain ⟨ad, _, e, _⟩ := h.at_ (show 0 < n by omega)
        exact ⟨ad, e⟩
      have hs := HS.out
      simp only [perF] at hs
      rw [if_pos hlt] at hs
      have HS2 := Lib.hid hs
      obtain ⟨b, hb⟩ : ∃ b, perB L n p = b := ⟨_, rfl⟩
      rw [hb] at hs
      have HB := Lib.hid hb
      have HS3 := Lib.hid hs
      clear hb hs HS HS2
      have hcp : ¬ cap = p := by omega
      have hpc : p ≤ cap := by omega
      have hpn : p ≤ n := by omega
      go_upto_region 4 with fail
      go_cut [3, 26] from 4 to 27 (fun s3 c wx => s3 = .int .i64 p ∧ c = .bool b ∧ ∃ q2, wx = w.drewN q2)
      case first =>
        by_cases hm : n % p = 0
        · have hz : (n : Int) % (p : Int) = 0 := by rw [← Int.natCast_emod, hm]; rfl
          have hzt : (n : Int).tmod (p : Int) = 0 := by rw [Int.tmod_eq_emod_of_nonneg (Int.natCast_nonneg _)]; exact hz
          have hzb : ((n : Int).tmod (p : Int) == 0) = true := beq_iff_eq.2 hzt
          obtain ⟨d, hd⟩ : ∃ d, d = n - p := ⟨_, rfl⟩
          have hsub : (n : Int) - (p : Int) = (d : Int) := by omega
          have hdw : IntKind.i64.wrap (d : Int) = (d : Int) := IntWalk.i64_in _ (by omega)
          have hdc : d ≤ cap := by omega
          have hdn : d ≤ n := by omega
          have hbk := h.back p
          have hfr := h.front d (by omega)
          have HNS := Lib.hid fun nn => rsame_any (some (ad.add (p * 2))) (some ad) (n - p) d (cap - p) cap (L.drop p) (L.take d) (w.drewN nn) (hbk.below (Below.drewN (Below.refl _ _) nn)) (hfr.below (Below.drewN (Below.refl _ _) nn)) (by omega)
          have hst := HB.out
          unfold perB at hst
          rw [decide_eq_true hm, Bool.true_and] at hst
          rw [← hd] at hst
          rw [hst] at HNS
          have hp0 : ¬ p = 0 := by omega
          clear hst hbk hfr hd
          go_quiet ((go_at_call 27; exact Qui.sum (HNS.out _)))
          go_wp2_with fail
          go_meet
          case rel => exact ⟨rfl, rfl, q + nq, World.drewN_drewN _ _ _⟩
        · have hst := HB.out
          unfold perB at hst
          rw [decide_eq_false hm, Bool.false_and] at hst
          subst hst
          have hz : ((n : Int) % (p : Int) == 0) = false := beq_eq_false_iff_ne.2 (by rw [← Int.natCast_emod]; omega)
          have hp0 : ¬ p = 0 := by omega
          go_quiet (fail)
          go_wp2_with fail
          go_meet
          case rel => exact ⟨rfl, rfl, q + nq, World.drewN_drewN _ _ _⟩
      case rest =>
        obtain ⟨rfl, rfl, q2, rfl⟩ := hcut
        cases b with
        | true =>
          have hs := HS3.out
          simp only [if_true] at hs
          subst hs
          go_wp2_with fail
          go_ret
          exact ⟨rfl, q2, rfl⟩
        | false =>
          have hs := HS3.out
          simp only [Bool.false_eq_true, if_false] at hs
          have HS4 := Lib.hid hs
          clear hs HS3
          go_wp2_with fail
          go_roundw
          case rel => exact ⟨p + 1, f, q2, by omega, by omega, by go_num, by omega, HS4.out, rfl⟩
          case measure => simp [intOf]; omega
    · have hs := HS.out
      rw [perF_end hlt] at hs
      subst hs
      go_wp2_with fail
      go_ret
      exact ⟨rfl, q, rfl⟩
end Go.Proofs.Ytjbflndlfdekiaa
