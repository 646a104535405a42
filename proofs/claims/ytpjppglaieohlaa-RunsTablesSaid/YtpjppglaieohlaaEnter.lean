/- A cursor in memory: from a node down to its first leaf. -/
import Derived.Test.YtpjppglaieohlaaCurm
namespace Go.Proofs.Ytpjppglaieohlaa
open Go.RowKit Tab
set_option linter.unusedSimpArgs false
set_option linter.unusedVariables false

/-- The cursor's table, below its block. -/
structure Tb (w : World) (b : Nat) (A : Option Addr) (n cap : Nat) (l : List Nd) : Prop where
  rd : RdN w b A n l
  cap : n ≤ cap
  hn : n ≤ 128
theorem RdN.gb {w w' : World} {b n : Nat} {A : Option Addr} {l : List Nd} (h : RdN w b A n l) (hb : b ≤ w.heap.size) (hg : w.grownBy w' (some b)) : RdN w' b A n l :=
  ⟨h.len, h.rd.keep fun p hp => World.cell?_of_block (hg.block p.block (by omega) (fun e => by injection e with e; omega)), h.bd⟩
theorem Tb.gb {w w' : World} {b n cap : Nat} {A : Option Addr} {l : List Nd} (h : Tb w b A n cap l) (hb : b ≤ w.heap.size) (hg : w.grownBy w' (some b)) : Tb w' b A n cap l := ⟨h.rd.gb hb hg, h.cap, h.hn⟩
theorem Tb.drewN {w : World} {b n cap : Nat} {A : Option Addr} {l : List Nd} (h : Tb w b A n cap l) (q : Nat) : Tb (w.drewN q) b A n cap l := ⟨⟨h.rd.len, h.rd.rd, h.rd.bd⟩, h.cap, h.hn⟩
def atOf (w : World) (b : Nat) : Nat := match w.cell? ⟨b, 34, none⟩ with
  | some (.int _ z) => z.toNat
  | _ => 0
theorem atOf_eq {w : World} {b : Nat} {c : Nat → Value} {d : Nat} (h : Blk w b c) (e : c 34 = .int .i64 (d : Int)) : atOf w b = d := by
  unfold atOf
  rw [(h 34 (by omega)).1, e]
  simp
/-- What enter leaves. -/
def Entd (b : Nat) (A : Option Addr) (n cap : Nat) (l : List Nd) (c : Nat → Value) (td : List Rn) (w : World) (e : Ending) (w' : World) : Prop :=
  e = .returned (.tuple #[]) ∧ ∃ (c' : Nat → Value) (st : List (Nat × Nat)) (p : Nat), Blk w' b c' ∧ PathC c' st ∧ c' 34 = .int .i64 (p : Int) ∧ c' 0 = c 0 ∧ c' 35 = c 35 ∧ c' 36 = c 36 ∧ AtL l st p td ∧ w.grownBy w' (some b)
set_option maxRecDepth 100000 in
set_option maxHeartbeats 3200000 in
theorem enter_any (b : Nat) (A : Option Addr) (n cap : Nat) (l : List Nd) (c : Nat → Value) (st : List (Nat × Nat)) (p : Nat) (td : List Rn) (w : World) (h : Blk w b c) (hT : Tb w b A n cap l) (hP : PathC c st) (h0 : c 0 = .slice A n cap) (h34 : c 34 = .int .i64 (p : Int)) (hA : Ats l st p td) :
    Calls Try.prog 50 #[.pointer (some ⟨b, 0, none⟩)] w (Entd b A n cap l c td w) := by
  have H := Lib.hid h
  have HT := Lib.hid hT
  have HP := Lib.hid hP
  have H34 := Lib.hid h34
  have HA := Lib.hid hA
  have hlen := hT.rd.len
  have HLEN := Lib.hid hlen
  have hn := hT.hn
  have hcap := hT.cap
  clear h hT hP h34 hA hlen
  go_enter Try.func50, Try.ntmps50
  go_wp2_with fail
  go_loopw [] (fun wr => ∃ (c' : Nat → Value) (st' : List (Nat × Nat)) (p' : Nat), Blk wr b c' ∧ PathC c' st' ∧ c' 34 = .int .i64 (p' : Int) ∧ c' 0 = c 0 ∧ c' 35 = c 35 ∧ c' 36 = c 36 ∧ Ats l st' p' td ∧ w.grownBy wr (some b)) (fun wr => n - atOf wr b)
  case atStart => exact ⟨c, st, p, H.out, HP.out, H34.out, rfl, rfl, rfl, HA.out, gb_refl _ _⟩
  case round =>
    obtain ⟨c', st', p', hB, hP, e34, e0, e35, e36, hA, hG⟩ := hrel
    have c0 := (hB 0 (by omega)).1
    rw [e0, h0] at c0
    have c34 := (hB 34 (by omega)).1
    rw [e34] at c34
    have f34 := (hB 34 (by omega)).2
    have HB := Lib.hid hB
    have HPp := Lib.hid hP
    have HE := Lib.hid (And.intro e34 (And.intro e0 (And.intro e35 e36)))
    have HAA := Lib.hid hA
    have hle := hA.le
    rw [HLEN.out] at hle
    have hTr := HT.out.gb (Nat.le_of_lt H.out.lt) hG
    clear hB hP e34 e0 e35 e36 hA
    by_cases hlt : p' < n
    · obtain ⟨ad, x, rfl, hab, hx, hin, d0, d1, d2⟩ := hTr.rd.at_ hlt
      obtain ⟨xk, xp, xn⟩ := x
      have hlt0 : (p' : Int) < (n : Int) := by omega
      have hlt1 : 0 ≤ (p' : Int) := by omega
      have hfine := HAA.out.fine hx
      have hn1 : 1 ≤ xn := fine_one hfine
      have hn2 : xn ≤ 9223372036854775807 := hin.2.2.2
      have hshort := HAA.out.short (by rw [HLEN.out]; exact hlt)
      have HX := Lib.hid hx
      have hdec : decide (p' < n) = true := decide_eq_true hlt
      clear hfine hx hin
      go_wp2_with fail
      go_quiet (fail)
      go_wp2_with fail
      have hbl := HB.out.lt
      have hal : ad.block < wr.heap.size := by omega
      have hal2 : (ad.add (p' * 3)).block < wr.heap.size := by rw [add_block]; exact hal
      obtain ⟨W, hWe⟩ : ∃ W, W = wr.drewN nq := ⟨_, rfl⟩
      have E0 : W.cell? ⟨b, 0, none⟩ = some (.slice (some ad) n cap) := by rw [hWe]; exact c0
      have E34 : W.cell? ⟨b, 34, none⟩ = some (.int .i64 (p' : Int)) := by rw [hWe]; exact c34
      have F0 : W.cell? (ad.add (p' * 3)) = some (.int .i64 xk) := by rw [hWe]; exact d0
      have F1 : W.cell? ⟨(ad.add (p' * 3)).block, (ad.add (p' * 3)).off + 1, none⟩ = some (.int .i64 xp) := by rw [hWe]; exact d1
      have F2 : W.cell? ⟨(ad.add (p' * 3)).block, (ad.add (p' * 3)).off + 2, none⟩ = some (.int .i64 xn) := by rw [hWe]; exact d2
      have hbl' : b < W.heap.size := by rw [hWe]; exact hbl
      have hal' : (ad.add (p' * 3)).block < W.heap.size := by rw [hWe]; exact hal2
      rw [← hWe]
      have HWE := Lib.hid hWe
      clear c0 c34 d0 d1 d2 hWe
      go_region
      obtain ⟨W2, hW2⟩ : ∃ W2, W2 = (W.alloc (.cells #[.int .i64 xk, .int .i64 xp, .int .i64 xn] 44)).drew := ⟨_, rfl⟩
      have hGW : w.grownBy W (some b) := by rw [HWE.out]; exact gb_drewN hG nq
      have hB2 : Blk W2 b c' := by
        rw [hW2]
        have h1 : Blk W b c' := by rw [HWE.out]; exact HB.out.drewN nq
        exact Blk.keep h1 (Below.heap_alloc W _ b hbl')
      have hG2 : w.grownBy W2 (some b) := by rw [hW2]; exact gb_drew (gb_alloc hGW _)
      have n0 : W2.cell? ⟨W.heap.size, 0, none⟩ = some (.int .i64 xk) := by rw [hW2]; exact World.cell?_alloc_mark _ _ _ _ _
      have n1 : W2.cell? ⟨W.heap.size, 1, none⟩ = some (.int .i64 xp) := by rw [hW2]; exact World.cell?_alloc_mark _ _ _ _ _
      have n2 : W2.cell? ⟨W.heap.size, 2, none⟩ = some (.int .i64 xn) := by rw [hW2]; exact World.cell?_alloc_mark _ _ _ _ _
      rw [← hW2]
      clear hW2 E0 E34 F0 F1 F2 hal' hal2 hGW
      have hne : b ≠ W.heap.size := by omega
      generalize W.heap.size = g at n0 n1 n2 hne ⊢
      have k34 := (hB2 34 (by omega)).1
      rw [HE.out.1] at k34
      have fk34 := (hB2 34 (by omega)).2
      have hl2 := HPp.out.2.2
      generalize hdd : st'.length = d at hshort hl2
      have HDD := Lib.hid hdd
      have HB2 := Lib.hid hB2
      have HG2 := Lib.hid hG2
      clear hB2 hG2 hdd
      by_cases h3 : xk = 3
      · subst h3
        obtain ⟨N, rfl⟩ := Int.eq_ofNat_of_zero_le (show 0 ≤ xn by omega)
        go_wp2_with fail
        go_still_tail 6, (by kernel_rfl)
        change wpList _ _ _ _ _ W2.drew
        go_wp2_with fail
        refine (push_any b c' d (N : Int) 0 W2.drew HB2.out (by omega) (by rw [HPp.out.2.1, HDD.out])).mono ?_
        rintro e w3 ⟨rfl, hB3, hG3⟩
        have k34' := (hB3 34 (by omega)).1
        rw [pushC_other _ _ _ _ hshort (by omega), HE.out.1] at k34'
        have fk34' := (hB3 34 (by omega)).2
        clear n0 n1 n2 k34 fk34
        go_wp2_with fail
        go_roundw
        case rel =>
          have hp := HPp.out.push (by rw [HDD.out]; exact hshort) N 0
          rw [HDD.out] at hp
          refine ⟨upd (pushC c' d (N : Int) 0) 34 (.int .i64 ((p' : Int) + 1)), (N, 0) :: st', p' + 1, hB3.set (by omega) _, ⟨?_, ?_, hp.2.2⟩, by rw [upd_same]; rfl, ?_, ?_, ?_, ?_, gb_set (gb_trans (gb_drew HG2.out) hG3) _ _⟩
          · exact hp.1.put (by simp only [List.length_cons, HDD.out]; omega) _
          · rw [upd_other (by omega)]; exact hp.2.1
          · rw [upd_other (by omega), pushC_other _ _ _ _ hshort (by omega)]; exact HE.out.2.1
          · rw [upd_other (by omega), pushC_other _ _ _ _ hshort (by omega)]; exact HE.out.2.2.1
          · rw [upd_other (by omega), pushC_other _ _ _ _ hshort (by omega)]; exact HE.out.2.2.2
          · exact HAA.out.seq HX.out rfl
        case measure =>
          show n - atOf _ b < n - atOf _ b
          rw [atOf_eq (d := p' + 1) (hB3.set (i := 34) (by omega) (.int .i64 ((p' : Int) + 1))) (by rw [upd_same]; rfl), atOf_eq HB.out HE.out.1]
          omega
      · by_cases h4 : xk = 4
        · subst h4
          obtain ⟨N, rfl⟩ := Int.eq_ofNat_of_zero_le (show 0 ≤ xn by omega)
          go_wp2_with fail
          have hw1 : IntKind.i64.wrap ((p' : Int) + 1) = (p' : Int) + 1 := IntWalk.i64_in _ (by omega)
          go_still_tail 11, (by kernel_rfl)
          change wpList _ _ _ _ _ W2.drew
          go_wp2_with fail
          refine (push_any b c' d (N : Int) ((p' + 1 : Nat) : Int) W2.drew HB2.out (by omega) (by rw [HPp.out.2.1, HDD.out])).mono ?_
          rintro e w3 ⟨rfl, hB3, hG3⟩
          have k34' := (hB3 34 (by omega)).1
          rw [pushC_other _ _ _ _ hshort (by omega), HE.out.1] at k34'
          have fk34' := (hB3 34 (by omega)).2
          clear n0 n1 n2 k34 fk34
          go_wp2_with fail
          go_roundw
          case rel =>
            have hp := HPp.out.push (by rw [HDD.out]; exact hshort) N (p' + 1)
            rw [HDD.out] at hp
            refine ⟨upd (pushC c' d (N : Int) ((p' + 1 : Nat) : Int)) 34 (.int .i64 ((p' : Int) + 1)), (N, p' + 1) :: st', p' + 1, hB3.set (by omega) _, ⟨?_, ?_, hp.2.2⟩, by rw [upd_same]; rfl, ?_, ?_, ?_, ?_, gb_set (gb_trans (gb_drew HG2.out) hG3) _ _⟩
            · exact hp.1.put (by simp only [List.length_cons, HDD.out]; omega) _
            · rw [upd_other (by omega)]; exact hp.2.1
            · rw [upd_other (by omega), pushC_other _ _ _ _ hshort (by omega)]; exact HE.out.2.1
            · rw [upd_other (by omega), pushC_other _ _ _ _ hshort (by omega)]; exact HE.out.2.2.1
            · rw [upd_other (by omega), pushC_other _ _ _ _ hshort (by omega)]; exact HE.out.2.2.2
            · exact HAA.out.rep HX.out rfl hn2
          case measure =>
            show n - atOf _ b < n - atOf _ b
            rw [atOf_eq (d := p' + 1) (hB3.set (i := 34) (by omega) (.int .i64 ((p' : Int) + 1))) (by rw [upd_same]; rfl), atOf_eq HB.out HE.out.1]
            omega
        · have h3' : (xk == 3) = false := beq_eq_false_iff_ne.2 h3
          have h4' : (xk == 4) = false := beq_eq_false_iff_ne.2 h4
          have hL := HAA.out.leaf HX.out h3 h4
          have HL := Lib.hid hL
          clear h3 h4 hL
          go_wp2_with fail
          refine bodyPost_ret (results_none rfl _ _ _) rfl ?_
          exact ⟨rfl, c', st', p', HB2.out, HPp.out, HE.out.1, HE.out.2.1, HE.out.2.2.1, HE.out.2.2.2, HL.out, HG2.out⟩
    · have hge : n ≤ p' := by omega
      have hdec : decide (p' < n) = false := decide_eq_false hlt
      go_wp2_with fail
      go_quiet (fail)
      go_wp2_with fail
      go_end0
      exact ⟨rfl, c', st', p', HB.out.drewN _, HPp.out, HE.out.1, HE.out.2.1, HE.out.2.2.1, HE.out.2.2.2, HAA.out.out (by rw [HLEN.out]; exact hge), gb_drewN hG _⟩
end Go.Proofs.Ytpjppglaieohlaa
