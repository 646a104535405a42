/- Whose each tick of a row is; how many ticks: by the document's own answer. -/
import Derived.Test.YtknlhhbkahollaaLow5
import Derived.Test.YtknlhhbkahollaaLow1
import Derived.Test.YtknlhhbkahollaaLow2
namespace Go.Proofs.Ytknlhhbkahollaa
open Go.RowKit Tab
set_option linter.unusedSimpArgs false
set_option linter.unusedVariables false

/-- Whose each tick is. -/
def wordsL : List Rn → List Int
  | [] => []
  | r :: s => List.replicate r.n r.p ++ wordsL s
theorem wordsL_len (L : List Rn) : (wordsL L).length = ticks L := by
  induction L with
  | nil => rfl
  | cons r s ih => simp only [wordsL, List.length_append, List.length_replicate, ih, ticks]
theorem wordsL_append (a b : List Rn) : wordsL (a ++ b) = wordsL a ++ wordsL b := by
  induction a with
  | nil => rfl
  | cons r s ih => simp only [List.cons_append, wordsL, ih, List.append_assoc]
theorem wordsL_more {L : List Rn} {i : Nat} {r : Rn} (h : L[i]? = some r) : wordsL (L.take (i + 1)) = wordsL (L.take i) ++ List.replicate r.n r.p := by
  obtain ⟨hi, e⟩ := List.getElem?_eq_some_iff.1 h
  rw [List.take_succ_eq_append_getElem hi, wordsL_append, e]
  simp [wordsL]
/-- It answers a row of numbers, new. -/
def MadI (W : List Int) (w : World) (e : Ending) (w' : World) : Prop := ∃ A c, e = .returned (.slice A W.length c) ∧ RdI w' w'.heap.size A W.length W ∧ W.length ≤ c ∧ Below w.heap.size w w'
theorem OwnV.rdi {w : World} {B n c : Nat} {A : Option Addr} {L : List Int} (h : OwnV 3 1 w B A n c (is L)) : RdI w w.heap.size A n L := ⟨by have := h.len; rw [is_length] at this; omega, h.rd⟩
theorem rep_snoc (n : Nat) (p : Int) : List.replicate (n + 1) p = List.replicate n p ++ [p] := by rw [List.replicate_succ']
set_option maxRecDepth 100000 in
set_option maxHeartbeats 4000000 in
theorem words_any (A : Option Addr) (n cap : Nat) (L : List Rn) (w : World) (h : RdR w w.heap.size A n L) (hc : n ≤ cap) (hn : n ≤ 1048576) (ht : ticks L ≤ 8192) :
    Calls Try.prog 50 #[.slice A n cap] w (MadI (wordsL L) w) := by
  have HT := Lib.hid ht
  clear ht
  go_enter Try.func50, Try.ntmps50
  go_wp2_with fail
  go_loopw [3, 5, 6, 9] (fun q _ _ s wr => ∃ (i m c : Nat) (A' : Option Addr), i ≤ n ∧ s = .int .i64 i ∧ q = .slice A' m c ∧ OwnV 3 1 wr w.heap.size A' m c (is (wordsL (L.take i))) ∧ Below w.heap.size w wr) (fun _ _ _ s _ => n - (intOf s).toNat)
  case atStart => exact ⟨0, 0, 0, none, by omega, rfl, rfl, by simpa [wordsL, is] using OwnV.nil _ _ _ _, Below.refl _ _⟩
  case round =>
    obtain ⟨i, m, c, A', hi, rfl, rfl, how, hb⟩ := hrel
    by_cases hlt : i < n
    · obtain ⟨ad, r, rfl, had, hr, c0, c1⟩ := (h.on hb).at_ hlt
      have hbl := bl1 wr (.cells #[.int .i64 r.p, .int .i64 (r.n : Int)] 88)
      have hb1 := hb.trans (hbl.mono hb.size)
      have hmore := wordsL_more hr
      have htk := take_more hr
      have hle := take_ticks L (i + 1)
      have hT := HT.out
      have how1 := how.below rfl hbl
      have hm := how.len
      rw [is_length, wordsL_len, Nat.mul_one] at hm
      have hmt : m + r.n ≤ 8192 := by omega
      have HM := Lib.hid hmore
      have hwb := hb.size
      obtain ⟨rp, rn⟩ := r
      dsimp only at c0 c1 hmt how1 HM hb1
      have hobk : obk A' ≠ some wr.heap.size := fun e => by
        cases A' with
        | none => cases e
        | some a =>
          have hmp : 0 < m ∨ m = 0 := by omega
          rcases how.2 with ⟨hv, _⟩ | ⟨g', cap', cur, hv, _, hg', _⟩
          · cases hv
          · have h1 : some a = some ⟨g', 0, none⟩ := by injection hv
            injection h1 with h1
            subst h1
            have h2 := (Array.getElem?_eq_some_iff.1 hg').1
            injection e with e
            have e : g' = wr.heap.size := e
            omega
      clear hr hmore htk hle hT how hbl hb
      generalize hG : wr.alloc (.cells #[.int .i64 rp, .int .i64 (rn : Int)] 88) = W1 at how1 hb1
      have n0 : W1.cell? ⟨wr.heap.size, 0, none⟩ = some (.int .i64 rp) := by rw [← hG]; exact World.cell?_alloc_mark _ _ _ _ _
      have n1 : W1.cell? ⟨wr.heap.size, 1, none⟩ = some (.int .i64 (rn : Int)) := by rw [← hG]; exact World.cell?_alloc_mark _ _ _ _ _
      have hsz : wr.heap.size < W1.heap.size := by rw [← hG]; simp
      go_wp2_with fail
      generalize wr.heap.size = g at n0 n1 hsz hwb hobk ⊢
      clear hG c0 c1 had
      go_loopw [3, 6] (fun q s wx => ∃ (j k c2 : Nat) (A2 : Option Addr), j ≤ rn ∧ s = .int .i64 j ∧ q = .slice A2 k c2 ∧ k = m + j ∧ OwnV 3 1 wx w.heap.size A2 k c2 (is (wordsL (L.take i) ++ List.replicate j rp)) ∧ Below w.heap.size w wx ∧ wx.cell? ⟨g, 0, none⟩ = some (.int .i64 rp) ∧ wx.cell? ⟨g, 1, none⟩ = some (.int .i64 (rn : Int)) ∧ obk A2 ≠ some g) (fun _ s _ => rn - (intOf s).toNat)
      case atStart => exact ⟨0, m, c, A', by omega, rfl, rfl, rfl, by simpa using how1, hb1, n0, n1, hobk⟩
      case round =>
        obtain ⟨j, k, c2, A2, hj, rfl, rfl, hk, how2, hbx, n0, n1, hob⟩ := hrel
        by_cases hjn : j < rn
        · have hk8 : (k : Int) < 8192 := by omega
          have hk9 : k < 8192 := by omega
          have HKK := Lib.hid hk
          clear hk
          have hbl2 := bl1 wr (.cells #[.int .i64 rp] 3)
          have how3 := how2.below rfl hbl2
          have hrd := rdV_new wr #[.int .i64 rp] 3 (is [rp]) rfl
          have hb3 := hbx.trans (hbl2.mono hbx.size)
          have hgx : g < wr.heap.size := by
            have := World.block_lt_of_cell? wr _ n0
            exact this
          go_wp2_with (at_builtin; go_loud (refine wpList_appX elI rfl (.tmp 24) (.tmp 27) rfl rfl w.heap.size A2 k c2 _ rfl how3 _ 1 1 _ _ rfl hrd rfl Nat.one_pos (is_one _) (by omega) (by unfold maxLen; omega) hb3.size (k + 1) rfl (is (wordsL (L.take i) ++ List.replicate (j + 1) rp)) (by rw [rep_snoc, ← List.append_assoc]; exact (is_append _ _).symm) ?_; intro A4 c4 w4 hw4 hb4 hot))
          go_roundw
          case rel =>
            have hst : ∀ o v, wr.cell? ⟨g, o, none⟩ = some v → w4.cell? ⟨g, o, none⟩ = some v := fun o v hv => by
              have h1 : w4.cell? ⟨g, o, none⟩ = (wr.alloc (.cells #[.int .i64 rp] 3)).cell? ⟨g, o, none⟩ := World.cell?_of_block (hot.gb.block g (by simp; omega) (fun e => hob e.symm))
              rw [h1, World.cell?_alloc_lt _ _ _ hgx]
              exact hv
            refine ⟨j + 1, k + 1, c4, A4, by omega, by go_num, rfl, by have := HKK.out; omega, hw4, hb3.trans hb4, hst _ _ n0, hst _ _ n1, ?_⟩
            rcases hot.at_ with e | ⟨g4, e, hge⟩
            · rw [e]; exact hob
            · rw [e]
              intro e5
              injection e5 with e5
              simp at hge
              omega
          case measure => simp [intOf]; omega
        · obtain rfl : j = rn := by omega
          have how5 := how2
          rw [← HM.out] at how5
          have HOW5 := Lib.hid how5
          clear how5 how2 hk
          go_wp2_with fail
          go_roundw
          case rel => exact ⟨i + 1, k, c2, A2, by omega, by go_num, rfl, HOW5.out, hbx⟩
          case measure => simp [intOf]; omega
    · have hge : n ≤ i := by omega
      have e : L.take i = L := List.take_of_length_le (by rw [h.len]; exact hge)
      rw [e] at how
      have hm := how.len
      rw [is_length, Nat.mul_one] at hm
      go_wp2_with fail
      go_ret
      exact ⟨A', c, by rw [hm]; rfl, by rw [hm]; exact how.rdi, by rw [hm]; exact how.cap, hb⟩
end Go.Proofs.Ytknlhhbkahollaa
