/- The fold that saves most, as the program finds it. -/
import Derived.Test.YtjbflndlfdekiaaStre
namespace Go.Proofs.Ytjbflndlfdekiaa
open Go.RowKit Tab
set_option linter.unusedSimpArgs false
set_option linter.unusedVariables false

/-- Nothing has turned but draws, and those through callees. -/
def Same' (w wr : World) : Prop := ∃ q, wr = w.drewN q
theorem pick_yes {I : Itr} {q place : Nat} {s : Bst} (h : s.most < savedI I q place ∨ (savedI I q place = s.most ∧ backI I q place < s.at_)) : pickI I q place s = ⟨savedI I q place, backI I q place, q, oftenI I q place⟩ := if_pos h
theorem pick_no {I : Itr} {q place : Nat} {s : Bst} (h : ¬ (s.most < savedI I q place ∨ (savedI I q place = s.most ∧ backI I q place < s.at_))) : pickI I q place s = s := if_neg h
theorem inner_go {I : Itr} {q f place : Nat} {s : Bst} (h : place + q < I.length) : innerI I q (f + 1) place s = innerI I q f (fwdI I q I.length place + q) (pickI I q place s) := by simp only [innerI]; rw [if_pos h]
theorem inner_end {I : Itr} {q f place : Nat} {s : Bst} (h : ¬ place + q < I.length) : innerI I q f place s = s := by
  cases f with
  | zero => rfl
  | succ f => simp only [innerI]; rw [if_neg h]
theorem outer_go {I : Itr} {q f : Nat} {s : Bst} (h : 2 * q ≤ I.length ∧ s.most < (szI I : Int) - q) : outerI I (f + 1) q s = outerI I f (q + 1) (innerI I q I.length (q - 1) s) := by simp only [outerI]; rw [if_pos h]
theorem outer_end {I : Itr} {q f : Nat} {s : Bst} (h : ¬ (2 * q ≤ I.length ∧ s.most < (szI I : Int) - q)) : outerI I f q s = s := by
  cases f with
  | zero => rfl
  | succ f => simp only [outerI]; rw [if_neg h]
/-- How great the best so far may be. -/
structure Small (s : Bst) : Prop where
  most : -8 ≤ s.most ∧ s.most ≤ 1099511627776
  at_ : s.at_ ≤ 1048576
  p : s.p ≤ 1048576
  n : s.n ≤ 2097152
theorem often_le (I : Itr) (q place : Nat) (hq : 1 ≤ q) (hp : place + q < I.length) : oftenI I q place ≤ I.length := by
  unfold oftenI
  have h1 := fwdI_le I q I.length place (by omega)
  have h2 := Nat.div_le_self (fwdI I q I.length place - backI I q place) q
  omega
theorem saved_le (I : Itr) (q place : Nat) (hq : 1 ≤ q) (hp : place + q < I.length) (hn : I.length ≤ 1048576) (hs : szI I ≤ 1048576) : -8 ≤ savedI I q place ∧ savedI I q place ≤ 1099511627776 := by
  unfold savedI savI
  have h1 := often_le I q place hq hp
  have h2 : szI ((I.drop (backI I q place)).take q) ≤ 1048576 := Nat.le_trans (szI_take _ _) (Nat.le_trans (szI_drop _ _) hs)
  have h3 : szI ((I.drop (backI I q place)).take q) * (oftenI I q place - 1) ≤ 1048576 * 1048576 := Nat.mul_le_mul h2 (by omega)
  split
  · omega
  · split <;> omega
theorem pick_small {I : Itr} {q place : Nat} {s : Bst} (h : Small s) (hq : 1 ≤ q) (hp : place + q < I.length) (hn : I.length ≤ 1048576) (hs : szI I ≤ 1048576) : Small (pickI I q place s) := by
  unfold pickI
  split
  · have h1 := often_le I q place hq hp
    have h2 := backI_le I q place
    exact ⟨saved_le I q place hq hp hn hs, by dsimp only; omega, by dsimp only; omega, by dsimp only; omega⟩
  · exact h
theorem often_wrap (T B q O : Nat) (h1 : B ≤ T) (h2 : T ≤ 1048576) (hq : 1 ≤ q) (hO : O = (T - B) / q + 1) : wrap64 (((T : Int) - (B : Int)) / (q : Int) + 1) = (O : Int) := by
  have h3 := Nat.div_le_self (T - B) q
  rw [← Int.natCast_sub h1, ← Int.natCast_ediv]
  have e3 : wrap64 ((((T - B) / q : Nat) : Int) + 1) = (((T - B) / q : Nat) : Int) + 1 := IntWalk.wrap64_in _ (by omega)
  rw [e3, hO]
  omega
set_option maxRecDepth 100000 in
set_option maxHeartbeats 8000000 in
theorem best_any (A : Option Addr) (n cap g : Nat) (I : Itr) (w : World) (h : RdL w w.heap.size g A n I) (hc : n ≤ cap) (hn : n ≤ 1048576) (hsz : szI I ≤ 1048576) :
    Calls Try.prog 21 #[.slice A n cap] w (Qui (.tuple #[.int .i64 ((bestI I).at_ : Nat), .int .i64 ((bestI I).p : Nat), .int .i64 ((bestI I).n : Nat)]) w) := by
  generalize hR : bestI I = R
  have HR := Lib.hid hR
  have HL := Lib.hid h.len
  have HSZ := Lib.hid (sizeI_any A n cap g I w h hc hn (by omega))
  obtain ⟨S, hS⟩ : ∃ S, szI I = S := ⟨_, rfl⟩
  have HS := Lib.hid hS
  rw [hS] at HSZ
  have hS2 : S ≤ 1048576 := by omega
  clear hR hS
  go_enter Try.func21, Try.ntmps21
  go_wp2_with fail
  refine HSZ.out.mono ?_
  rintro e w1 ⟨rfl, rfl⟩
  go_wp2_with fail
  go_loopw [2, 3, 4, 5, 7, 8, 9, 10, 11, 12] (fun s2 s3 s4 s5 s7 _ _ _ _ _ wr => ∃ (s : Bst) (q f d : Nat), s2 = .int .i64 s.at_ ∧ s3 = .int .i64 s.p ∧ s4 = .int .i64 s.n ∧ s5 = .int .i64 s.most ∧ s7 = .int .i64 q ∧ 1 ≤ q ∧ q ≤ n + 1 ∧ n < q + f ∧ Small s ∧ outerI I f q s = R ∧ wr = w1.drewN d) (fun _ _ _ _ s7 _ _ _ _ _ _ => n + 1 - (intOf s7).toNat)
  case atStart => exact ⟨⟨0, 0, 0, 0⟩, 1, n, 0, rfl, rfl, rfl, rfl, rfl, by omega, by omega, by omega, ⟨⟨by dsimp only; omega, by dsimp only; omega⟩, by simp, by simp, by simp⟩, by rw [← HR.out, bestI, HL.out], rfl⟩
  case round =>
    obtain ⟨s, q, f, d, rfl, rfl, rfl, rfl, rfl, hq1, hq2, hf, hsm, ho, rfl⟩ := hrel
    have HO := Lib.hid ho
    have HSM := Lib.hid hsm
    clear ho hsm
    have hend : ¬ (2 * q ≤ n ∧ s.most < (S : Int) - q) → s = R := fun hc => by
      have e := outer_end (f := f) (s := s) (q := q) (I := I) (by rw [HL.out, HS.out]; exact hc)
      rw [← e]
      exact HO.out
    have HE := Lib.hid hend
    clear hend
    by_cases hc1 : 2 * q ≤ n
    · by_cases hc2 : s.most < (S : Int) - (q : Int)
      · have hq0 : q + q ≤ n := by omega
        obtain ⟨f, rfl⟩ : ∃ f', f = f' + 1 := ⟨f - 1, by omega⟩
        have ho := HO.out
        rw [outer_go (by rw [HL.out, HS.out]; exact ⟨hc1, hc2⟩), HL.out] at ho
        obtain ⟨R2, hR2⟩ : ∃ R2, innerI I q n (q - 1) s = R2 := ⟨_, rfl⟩
        rw [hR2] at ho
        have HO2 := Lib.hid ho
        have HR2 := Lib.hid hR2
        clear ho hR2 HO HE
        have hq1' : (1 : Int) ≤ (q : Int) := by omega
        have hqi : (2 : Int) * (q : Int) ≤ (n : Int) := by omega
        have hbd := HSM.out.most
        go_wp2_with fail
        go_loopw [2, 3, 4, 5, 8, 9, 10, 11, 12] (fun s2 s3 s4 s5 s8 _ _ _ _ wr => ∃ (s : Bst) (pl f d : Nat), s2 = .int .i64 s.at_ ∧ s3 = .int .i64 s.p ∧ s4 = .int .i64 s.n ∧ s5 = .int .i64 s.most ∧ s8 = .int .i64 pl ∧ pl ≤ 2 * n ∧ n ≤ pl + f ∧ Small s ∧ innerI I q f pl s = R2 ∧ wr = w1.drewN d) (fun _ _ _ _ s8 _ _ _ _ _ => 2 * n + 1 - (intOf s8).toNat)
        case atStart => exact ⟨s, q - 1, n, d, rfl, rfl, rfl, rfl, by congr 1; omega, by omega, by omega, HSM.out, HR2.out, rfl⟩
        case round =>
          obtain ⟨s, pl, f2, d, rfl, rfl, rfl, rfl, rfl, hpl, hf2, hsm, hi, rfl⟩ := hrel
          have HI := Lib.hid hi
          have HSM := Lib.hid hsm
          clear hi hsm
          by_cases hlt : pl + q < n
          · obtain ⟨f2, rfl⟩ : ∃ f', f2 = f' + 1 := ⟨f2 - 1, by omega⟩
            have hi := HI.out
            rw [inner_go (by rw [HL.out]; exact hlt)] at hi
            have hrd : RdL (w1.drewN d) (w1.drewN d).heap.size g A n I := h.drewN d
            have HST := Lib.hid (stretch_any A n cap g q pl I (w1.drewN d) hrd hc hn hsz hlt)
            have hb1 := backI_le I q pl
            have hb2 := fwdI_ge I q I.length pl
            have hb3 := fwdI_le I q I.length pl (by rw [HL.out]; omega)
            have hV := saved_le I q pl hq1 (by rw [HL.out]; exact hlt) (by rw [HL.out]; exact hn) hsz
            have hON := often_le I q pl hq1 (by rw [HL.out]; exact hlt)
            rw [HL.out] at hON
            have HPS := Lib.hid (pick_small (place := pl) HSM.out hq1 (by rw [HL.out]; exact hlt) (by rw [HL.out]; exact hn) hsz)
            have HPY := Lib.hid (@pick_yes I q pl s)
            have HPN := Lib.hid (@pick_no I q pl s)
            obtain ⟨ad, rfl⟩ : ∃ ad, A = some ad := by
              obtain ⟨ad, _, _, _, e, _⟩ := h.at_ (show 0 < n by omega)
              exact ⟨ad, e⟩
            have HSV := Lib.hid fun d' => saves_any (some (ad.add (backI I q pl))) q (cap - backI I q pl) g (oftenI I q pl) ((I.drop (backI I q pl)).take q) (w1.drewN d') (((h.back (backI I q pl)).front q (by omega)).drewN d') (by omega) (by omega) (Nat.le_trans (szI_take _ _) (Nat.le_trans (szI_drop _ _) hsz)) (by omega)
            have hov : oftenI I q pl = (fwdI I q I.length pl - backI I q pl) / q + 1 := rfl
            have HI2 := Lib.hid hi
            clear hi HI hrd
            change Hid (∀ d', Calls Try.prog 34 _ (w1.drewN d') (Stil (.int .i64 (savedI I q pl)) (w1.drewN d'))) at HSV
            generalize pickI I q pl s = P at HI2 HPS HPY HPN
            generalize savedI I q pl = V at HSV hV HPY HPN
            generalize oftenI I q pl = O at HSV hON HPY hov
            generalize fwdI I q I.length pl = T at HI2 HST hb2 hb3 hov
            rw [HL.out] at hb3
            generalize backI I q pl = Bk at HST hb1 HSV HPY HPN hov
            have hlt' : (pl : Int) + (q : Int) < (n : Int) := by omega
            go_wp2_with fail
            refine HST.out.mono ?_
            rintro e w2 ⟨rfl, d2, rfl⟩
            go_wp2_with fail
            rw [often_wrap T Bk q O (by omega) (by omega) hq1 hov]
            refine (HSV.out _).mono ?_
            rintro e w3 ⟨rfl, rfl⟩
            have hsb := HSM.out.most
            have hsa := HSM.out.at_
            clear HST HSV hov
            by_cases h1 : s.most < V
            · have HP := Lib.hid (HPY.out (.inl h1))
              clear HPY HPN
              go_wp2_with fail
              go_roundw
              case rel => exact ⟨P, T + q, f2, d + d2, by rw [HP.out] <;> rfl, by rw [HP.out] <;> rfl, by rw [HP.out] <;> rfl, by rw [HP.out] <;> rfl, by go_num, by omega, by omega, HPS.out, HI2.out, rfl⟩
              case measure => simp [intOf]; omega
            · by_cases h2 : V = s.most
              · by_cases h3 : Bk < s.at_
                · have HP := Lib.hid (HPY.out (.inr ⟨h2, h3⟩))
                  clear HPY HPN
                  have h2' : (V == s.most) = true := beq_iff_eq.2 h2
                  go_wp2_with fail
                  go_roundw
                  case rel => exact ⟨P, T + q, f2, d + d2, by rw [HP.out] <;> rfl, by rw [HP.out] <;> rfl, by rw [HP.out] <;> rfl, by rw [HP.out]; exact congrArg _ h2.symm, by go_num, by omega, by omega, HPS.out, HI2.out, rfl⟩
                  case measure => simp [intOf]; omega
                · have HP := Lib.hid (HPN.out (fun hh => by omega))
                  clear HPY HPN
                  have h2' : (V == s.most) = true := beq_iff_eq.2 h2
                  go_wp2_with fail
                  go_roundw
                  case rel => exact ⟨P, T + q, f2, d + d2, by rw [HP.out] <;> rfl, by rw [HP.out] <;> rfl, by rw [HP.out] <;> rfl, by rw [HP.out] <;> rfl, by go_num, by omega, by omega, HPS.out, HI2.out, rfl⟩
                  case measure => simp [intOf]; omega
              · have HP := Lib.hid (HPN.out (fun hh => by omega))
                clear HPY HPN
                have h2' : (V == s.most) = false := beq_eq_false_iff_ne.2 h2
                go_wp2_with fail
                go_roundw
                case rel => exact ⟨P, T + q, f2, d + d2, by rw [HP.out] <;> rfl, by rw [HP.out] <;> rfl, by rw [HP.out] <;> rfl, by rw [HP.out] <;> rfl, by go_num, by omega, by omega, HPS.out, HI2.out, rfl⟩
                case measure => simp [intOf]; omega
          · have e := inner_end (I := I) (f := f2) (s := s) (by rw [HL.out]; exact hlt)
            have HE2 := Lib.hid (e.symm.trans HI.out)
            have hlt' : ¬ (pl : Int) + (q : Int) < (n : Int) := by omega
            clear e HI
            go_wp2_with fail
            go_roundw
            case rel => exact ⟨R2, q + 1, f, d, by rw [HE2.out] <;> rfl, by rw [HE2.out] <;> rfl, by rw [HE2.out] <;> rfl, by rw [HE2.out] <;> rfl, by go_num, by omega, by omega, by omega, by rw [← HE2.out]; exact HSM.out, HO2.out, rfl⟩
            case measure => simp [intOf]; omega
      · have e := HE.out (fun hh => hc2 hh.2)
        have HQ := Lib.hid e
        have hqi : (2 : Int) * (q : Int) ≤ (n : Int) := by omega
        clear e HE HO
        go_wp2_with fail
        go_ret3
        exact ⟨by rw [HQ.out]; rfl, d, rfl⟩
    · have e := HE.out (fun hh => hc1 hh.1)
      have HQ := Lib.hid e
      have hqi : ¬ (2 : Int) * (q : Int) ≤ (n : Int) := by omega
      clear e HE HO
      go_wp2_with fail
      go_ret3
      exact ⟨by rw [HQ.out]; rfl, d, rfl⟩
end Go.Proofs.Ytjbflndlfdekiaa
