/- Contracts and mathematics that the texts behind it stand on: Gone, Runl, Tidyw, Rtidyw, Words, Late, Budg, Hold, War. -/
import Derived.Test.YtebcfiifaclniaaGreatLow4
import Derived.Test.YtebcfiifaclniaaGreatLow2
import Derived.StillTailTactics
import Derived.Laws.OwnMore
import Derived.Test.YtebcfiifaclniaaGreatLow1
/- What is gone of a cursor's ticks. -/
namespace Go.Proofs.YtebcfiifaclniaaGreat
open Go.RowKit Tab
set_option linter.unusedSimpArgs false
set_option linter.unusedVariables false

def goneOf (w : World) (b : Nat) : Nat := match w.cell? ⟨b, 36, none⟩ with
  | some (.int _ z) => z.toNat
  | _ => 0
theorem goneOf_eq {w : World} {b : Nat} {A : Option Addr} {n cap : Nat} {l : List Nd} {td : List Rn} {tk gn : Nat} (h : Cur w b A n cap l td tk gn) : goneOf w b = gn := by
  obtain ⟨c, st, p, hB, _, _, _, _, e, _⟩ := h.ex
  unfold goneOf
  rw [(hB 36 (by omega)).1, e]
  simp
theorem below_gb {B b : Nat} {w w1 w2 : World} (h : Below B w w1) (hG : w1.grownBy w2 (some b)) (hB : B ≤ b) (hs : B ≤ w1.heap.size) : Below B w w2 :=
  ⟨hG.os.trans h.os, hG.tape.trans h.tape, hG.output.trans h.output, Nat.le_trans h.size hG.size, fun j hj => (hG.block j (by omega) (fun e => by injection e with e; omega)).trans (h.block j hj)⟩
end Go.Proofs.YtebcfiifaclniaaGreat

/- Rows of runs beside a cursor. -/
namespace Go.Proofs.YtebcfiifaclniaaGreat
open Go.RowKit Tab
set_option linter.unusedSimpArgs false
set_option linter.unusedVariables false

theorem RdR.at_gb {w w' : World} {b n : Nat} {A : Option Addr} {L : List Rn} (h : RdR w w.heap.size A n L) (hg : w.grownBy w' (some b)) (hf : ∀ ad, A = some ad → ad.block ≠ b) {i : Nat} (hi : i < n) : ∃ (ad : Addr) (r : Rn), A = some ad ∧ L[i]? = some r ∧
    w'.cell? (ad.add (i * 2)) = some (.int .i64 r.p) ∧ w'.cell? ⟨(ad.add (i * 2)).block, (ad.add (i * 2)).off + 1, none⟩ = some (.int .i64 (r.n : Int)) := by
  obtain ⟨ad, r, rfl, hlt, hr, c0, c1⟩ := h.at_ hi
  have hk : w'.heap[ad.block]? = w.heap[ad.block]? := hg.block _ hlt (fun e => by injection e with e; exact hf ad rfl e)
  exact ⟨ad, r, rfl, hr, (World.cell?_of_block (by rw [add_block]; exact hk)).trans c0, (World.cell?_of_block (a := ⟨(ad.add (i * 2)).block, (ad.add (i * 2)).off + 1, none⟩) (by rw [add_block]; exact hk)).trans c1⟩
theorem take_more {L : List Rn} {i : Nat} {r : Rn} (h : L[i]? = some r) : ticks (L.take (i + 1)) = ticks (L.take i) + r.n := by
  obtain ⟨hi, e⟩ := List.getElem?_eq_some_iff.1 h
  rw [List.take_succ_eq_append_getElem hi, ticks_append, e]
  simp [ticks]
theorem drop_more {L : List Rn} {i : Nat} {r : Rn} (h : L[i]? = some r) : L.drop i = r :: L.drop (i + 1) := by
  obtain ⟨hi, e⟩ := List.getElem?_eq_some_iff.1 h
  rw [List.drop_eq_getElem_cons hi, e]
theorem take_ticks (L : List Rn) (i : Nat) : ticks (L.take i) ≤ ticks L := by
  have := ticks_append (L.take i) (L.drop i)
  rw [List.take_append_drop] at this
  omega
end Go.Proofs.YtebcfiifaclniaaGreat

/- Tidying a row of runs in memory, by the program. -/
namespace Go.Proofs.YtebcfiifaclniaaGreat
open Go.RowKit Tab
set_option linter.unusedSimpArgs false
set_option linter.unusedVariables false

theorem tidy_take_ticks (L : List Rn) (i : Nat) : ticks (tidy (L.take i)) ≤ ticks L := by rw [ticks_tidy]; exact take_ticks L i
theorem tidy_one {L : List Rn} {i : Nat} {o : List Rn} {y r : Rn} (hr : L[i]? = some r) (ho : tidy (L.take i) = o ++ [y]) : y.n + r.n ≤ ticks L := by
  have h1 := tidy_take_ticks L (i + 1)
  rw [tidy_more hr, ho, ticks_push, ticks_append] at h1
  simp only [ticks] at h1
  omega
/-- The last run of a row of the call's own. -/
structure LastR (W : World) (B : Nat) (ad : Addr) (k c : Nat) (o : List Rn) (y : Rn) : Prop where
  g : ∃ g, ad = ⟨g, 0, none⟩ ∧ OwnV 95 2 W B (some ⟨g, 0, none⟩) (k + 1) c (rs (o ++ [y]))
  len : o.length = k
  c0 : W.cell? (ad.add (k * 2)) = some (.int .i64 y.p)
  c1 : W.cell? ⟨(ad.add (k * 2)).block, (ad.add (k * 2)).off + 1, none⟩ = some (.int .i64 (y.n : Int))
  f1 : W.frozen? ⟨(ad.add (k * 2)).block, (ad.add (k * 2)).off + 1, none⟩ = false
  lt : ad.block < W.heap.size
theorem add_two (g k : Nat) : (⟨((⟨g, 0, none⟩ : Addr).add (k * 2)).block, ((⟨g, 0, none⟩ : Addr).add (k * 2)).off + 1, none⟩ : Addr) = ⟨g, k * 2 + 1, none⟩ := by
  unfold Addr.add
  split
  · rename_i h
    rw [h]
  · simp
theorem add_one' (g k : Nat) : (⟨g, 0, none⟩ : Addr).add k = ⟨g, k, none⟩ := by
  unfold Addr.add
  split
  · rename_i h
    rw [h]
  · simp
theorem LastR.of {W : World} {B m c : Nat} {A : Option Addr} {o : List Rn} {y : Rn} (h : OwnV 95 2 W B A m c (rs (o ++ [y]))) : ∃ (ad : Addr) (k : Nat), A = some ad ∧ m = k + 1 ∧ LastR W B ad k c o y := by
  have hl := h.len
  rw [rs_length, List.length_append, List.length_singleton] at hl
  obtain ⟨k, hk⟩ : ∃ k, o.length = k := ⟨_, rfl⟩
  have hm : m = k + 1 := by omega
  subst hm
  obtain ⟨g, rfl, hg, hlt⟩ := h.block (by omega)
  have hget : (o ++ [y])[k]'(by simp; omega) = y := by
    simp [← hk]
  obtain ⟨e0, e1⟩ := rs_get (o ++ [y]) k (by simp; omega)
  rw [hget] at e0 e1
  refine ⟨_, k, rfl, rfl, ⟨g, rfl, h⟩, hk, ?_, ?_, ?_, hlt⟩
  · rw [add_one']
    exact (World.ownsRow.cellAt h (k * 2) (by omega)).trans e0
  · rw [add_two]
    exact (World.ownsRow.cellAt h (k * 2 + 1) (by omega)).trans e1
  · rw [add_two]
    exact World.ownsRow.frozenAt h _
/-- More ticks for the last one. -/
theorem LastR.stored {W : World} {B k c : Nat} {ad : Addr} {o : List Rn} {y : Rn} (h : LastR W B ad k c o y) (N : Nat) :
    OwnV 95 2 (W.setCell ⟨(ad.add (k * 2)).block, (ad.add (k * 2)).off + 1, none⟩ (.int .i64 (N : Int))) B (some ad) (k + 1) c (rs (o ++ [⟨y.p, N⟩])) ∧
      ∀ V, Below B V W → Below B V (W.setCell ⟨(ad.add (k * 2)).block, (ad.add (k * 2)).off + 1, none⟩ (.int .i64 (N : Int))) := by
  obtain ⟨g, rfl, hw⟩ := h.g
  rw [add_two]
  have h1 := (World.ownsRow.stored hw (k * 2 + 1) (.int .i64 (N : Int))).1
  have e : (rs (o ++ [y])).set (k * 2 + 1) (.int .i64 (N : Int)) = rs (o ++ [⟨y.p, N⟩]) := by
    rw [rs_append, rs_append, List.set_append_right _ _ (by rw [rs_length, h.len]; omega), rs_length, h.len]
    have : k * 2 + 1 - k * 2 = 1 := by omega
    rw [this]
    rfl
  rw [e] at h1
  refine ⟨h1, fun V hV => ?_⟩
  have hge : B ≤ g := by
    obtain ⟨g', e', hb, _⟩ := OwnV.block hw (by omega)
    injection e' with e'
    injection e' with e'
    omega
  exact hV.setCell (p := ⟨g, k * 2 + 1, none⟩) hge _
theorem LastR.drewN {W : World} {B k c : Nat} {ad : Addr} {o : List Rn} {y : Rn} (h : LastR W B ad k c o y) (q : Nat) : LastR (W.drewN q) B ad k c o y := ⟨h.g, h.len, h.c0, h.c1, h.f1, h.lt⟩
theorem LastR.drew {W : World} {B k c : Nat} {ad : Addr} {o : List Rn} {y : Rn} (h : LastR W B ad k c o y) : LastR W.drew B ad k c o y := ⟨h.g, h.len, h.c0, h.c1, h.f1, h.lt⟩

set_option maxRecDepth 100000 in
set_option maxHeartbeats 4000000 in
theorem tidy_any (A : Option Addr) (n cap : Nat) (L : List Rn) (w : World) (h : RdR w w.heap.size A n L) (hc : n ≤ cap) (hn : n ≤ 1048576) (ht : ticks L ≤ 1099511627776) :
    Calls Tryz.prog 70 #[.slice A n cap] w (MadeR (tidy L) w) := by
  go_enter Tryz.func70, Tryz.ntmps70
  go_wp2_with fail
  go_loopw [3, 9] (fun q s wr => ∃ (i m c' : Nat) (A' : Option Addr), i ≤ n ∧ s = .int .i64 i ∧ q = .slice A' m c' ∧ m ≤ i ∧ OwnV 95 2 wr w.heap.size A' m c' (rs (tidy (L.take i))) ∧ Below w.heap.size w wr) (fun _ s _ => n - (intOf s).toNat)
  case atStart => exact ⟨0, 0, 0, none, by omega, rfl, rfl, by omega, by simpa [tidy, tidyOn, rs] using OwnV.nil _ _ _ _, Below.refl _ _⟩
  case round =>
    obtain ⟨i, m, c', A', hi, rfl, rfl, hm, how, hb⟩ := hrel
    have HOW := Lib.hid how
    clear how
    by_cases hlt : i < n
    · obtain ⟨ad, r, rfl, had, hr, c0, c1⟩ := (h.on hb).at_ hlt
      have hmore := tidy_more hr
      have hcs := tpush_cases (tidy (L.take i)) r
      rw [← hmore] at hcs
      have hbl := bl1 wr (.cells #[.int .i64 r.p, .int .i64 (r.n : Int)] 95)
      have hb1 := hb.trans (hbl.mono hb.size)
      have hle := tidy_take_le L (i + 1)
      have how1 := HOW.out.below rfl hbl
      have hsum : ∀ o y, tidy (L.take i) = o ++ [y] → y.n + r.n ≤ ticks L := fun o y e => tidy_one hr e
      generalize tidy (L.take i) = T at HOW hcs how1 hsum
      generalize hT1 : tidy (L.take (i + 1)) = T1 at hcs hle
      have HT1 := Lib.hid hT1
      have HB1 := Lib.hid hb1
      clear hT1 hmore hr hbl hb1 HOW
      rcases hcs with ⟨h0, e⟩ | ⟨h0, e0, e⟩ | ⟨o, y, h0, e0, hp, e⟩ | ⟨o, y, h0, e0, hp, e⟩
      · have hr1 : (r.n : Int) < 1 := by omega
        subst e
        have HOW1 := Lib.hid how1
        clear how1 hsum h0
        go_wp2_with fail
        go_roundw
        case rel => exact ⟨i + 1, m, c', A', by omega, by go_num, rfl, by omega, by rw [HT1.out]; exact HOW1.out, HB1.out⟩
        case measure => simp [intOf]; omega
      · subst e0
        have hm0 : m = 0 := by have := how1.len; simp [rs] at this; omega
        subst hm0
        have hr1 : ¬ (r.n : Int) < 1 := by omega
        subst e
        clear hsum h0
        go_wp2_with fail
        go_quiet (fail)
        have hW0 : Below wr.heap.size wr ((wr.alloc (.cells #[.int .i64 r.p, .int .i64 (r.n : Int)] 95)).drewN nq) := Below.drewN (bl1 wr _) nq
        have hs0 : wr.heap.size < ((wr.alloc (.cells #[.int .i64 r.p, .int .i64 (r.n : Int)] 95)).drewN nq).heap.size := by simp
        have b0 : ((wr.alloc (.cells #[.int .i64 r.p, .int .i64 (r.n : Int)] 95)).drewN nq).cell? ⟨wr.heap.size, 0, none⟩ = some (.int .i64 r.p) := World.cell?_alloc_mark _ _ _ _ _
        have b1 : ((wr.alloc (.cells #[.int .i64 r.p, .int .i64 (r.n : Int)] 95)).drewN nq).cell? ⟨wr.heap.size, 1, none⟩ = some (.int .i64 (r.n : Int)) := World.cell?_alloc_mark _ _ _ _ _
        have how2 : OwnV 95 2 ((wr.alloc (.cells #[.int .i64 r.p, .int .i64 (r.n : Int)] 95)).drewN nq) w.heap.size A' 0 c' (rs []) := how1.keep fun _ _ _ => rfl
        generalize (wr.alloc (.cells #[.int .i64 r.p, .int .i64 (r.n : Int)] 95)).drewN nq = W at hW0 hs0 b0 b1 how2 ⊢
        have how3 := how2.below rfl (bl1 W (.cells #[.int .i64 r.p, .int .i64 (r.n : Int)] 95))
        have hrd := rdV_new W #[.int .i64 r.p, .int .i64 (r.n : Int)] 95 (rs [r]) rfl
        have hbW := (hb.trans (hW0.mono hb.size)).alloc (by have := hb.size; omega) (.cells #[.int .i64 r.p, .int .i64 (r.n : Int)] 95)
        have hn1 : 0 + 1 ≤ 1048577 := by omega
        clear how1 how2 c0 c1
        go_wp2_with (at_builtin; go_loud (refine wpList_appV elR rfl (.tmp 43) (.tmp 45) rfl rfl w.heap.size _ _ c' _ rfl how3 _ 1 1 _ _ rfl hrd rfl (rs_one _) (by omega) (by unfold maxLen; omega) hbW.size (0 + 1) rfl (rs ([] ++ [r])) (rs_append _ _).symm ?_; intro A2 c2 w2 hw2 hb2 _))
        go_roundw
        case rel => exact ⟨i + 1, _, c2, A2, by omega, by go_num, rfl, by omega, by rw [HT1.out]; exact hw2, hbW.trans hb2⟩
        case measure => simp [intOf]; omega
      · subst e0
        have hr1 : ¬ (r.n : Int) < 1 := by omega
        have hs1 := hsum o y rfl
        obtain ⟨ad', k, rfl, rfl, hL⟩ := LastR.of how1
        obtain ⟨yp, yn⟩ := y
        obtain ⟨rp, rn⟩ := r
        dsimp only at hp hr1 hs1 c0 c1 e h0 ⊢
        subst hp
        have HL := Lib.hid hL
        have d0 := hL.c0
        have d1 := hL.c1
        have d2 := hL.f1
        have d3 := hL.lt
        dsimp only at d0 d1 d2 d3
        clear hsum h0 hL how1
        go_wp2_with fail
        go_quiet (fail)
        go_wp2_with fail
        have hbW := hb.trans ((Below.drewN (bl1 wr (.cells #[.int .i64 yp, .int .i64 (rn : Int)] 95)) nq).mono hb.size)
        have b1 : ((wr.alloc (.cells #[.int .i64 yp, .int .i64 (rn : Int)] 95)).drewN nq).cell? ⟨wr.heap.size, 1, none⟩ = some (.int .i64 (rn : Int)) := World.cell?_alloc_mark _ _ _ _ _
        have HL2 := Lib.hid (HL.out.drewN nq)
        have d1 := HL2.out.c1
        have d2 := HL2.out.f1
        have d3 := HL2.out.lt
        dsimp only at d1 d2 d3
        have HB2 := Lib.hid hbW
        clear HL d0 c0 c1 hbW HB1
        generalize (wr.alloc (.cells #[.int .i64 yp, .int .i64 (rn : Int)] 95)).drewN nq = W at b1 HL2 d1 d2 d3 HB2 ⊢
        generalize wr.heap.size = gx at b1 ⊢
        have hmr := more_any (yn : Int) (rn : Int) _ _ W.drew (by omega) (by omega) (by omega) rfl rfl
        have hkk : (k : Int) < (k : Int) + 1 := by omega
        go_still_tail 12, (by kernel_rfl)
        still_call hmr
        repeat still_step
        refine wpStill_nil ?_
        change wpList _ _ _ _ _ W.drew
        go_wp2_with fail
        obtain ⟨hw5, hb5⟩ := (HL2.out.drew).stored (yn + rn)
        rw [Int.natCast_add] at hw5 hb5
        rw [← e] at hw5
        go_roundw
        case rel => exact ⟨i + 1, _, c', some ad', by omega, by go_num, rfl, by omega, by rw [HT1.out]; exact hw5, hb5 _ HB2.out.drew⟩
        case measure => simp [intOf]; omega
      · subst e0
        have hr1 : ¬ (r.n : Int) < 1 := by omega
        obtain ⟨ad', k, rfl, rfl, hL⟩ := LastR.of how1
        have hpb : (y.p == r.p) = false := beq_eq_false_iff_ne.2 hp
        have d0 := hL.c0
        have d3 := hL.lt
        subst e
        clear hsum h0 hL hp
        go_wp2_with fail
        go_quiet (fail)
        have hW0 : Below wr.heap.size wr ((wr.alloc (.cells #[.int .i64 r.p, .int .i64 (r.n : Int)] 95)).drewN nq) := Below.drewN (bl1 wr _) nq
        have hs0 : wr.heap.size < ((wr.alloc (.cells #[.int .i64 r.p, .int .i64 (r.n : Int)] 95)).drewN nq).heap.size := by simp
        have b0 : ((wr.alloc (.cells #[.int .i64 r.p, .int .i64 (r.n : Int)] 95)).drewN nq).cell? ⟨wr.heap.size, 0, none⟩ = some (.int .i64 r.p) := World.cell?_alloc_mark _ _ _ _ _
        have b1 : ((wr.alloc (.cells #[.int .i64 r.p, .int .i64 (r.n : Int)] 95)).drewN nq).cell? ⟨wr.heap.size, 1, none⟩ = some (.int .i64 (r.n : Int)) := World.cell?_alloc_mark _ _ _ _ _
        have how2 : OwnV 95 2 ((wr.alloc (.cells #[.int .i64 r.p, .int .i64 (r.n : Int)] 95)).drewN nq) w.heap.size (some ad') (k + 1) c' (rs (o ++ [y])) := how1.keep fun _ _ _ => rfl
        generalize (wr.alloc (.cells #[.int .i64 r.p, .int .i64 (r.n : Int)] 95)).drewN nq = W at hW0 hs0 b0 b1 how2 ⊢
        have how3 := how2.below rfl (bl1 W (.cells #[.int .i64 r.p, .int .i64 (r.n : Int)] 95))
        have hrd := rdV_new W #[.int .i64 r.p, .int .i64 (r.n : Int)] 95 (rs [r]) rfl
        have hbW := (hb.trans (hW0.mono hb.size)).alloc (by have := hb.size; omega) (.cells #[.int .i64 r.p, .int .i64 (r.n : Int)] 95)
        have hn1 : (k + 1) + 1 ≤ 1048577 := by omega
        clear how1 how2 c0 c1
        go_wp2_with (at_builtin; go_loud (refine wpList_appV elR rfl (.tmp 43) (.tmp 45) rfl rfl w.heap.size _ _ c' _ rfl how3 _ 1 1 _ _ rfl hrd rfl (rs_one _) (by omega) (by unfold maxLen; omega) hbW.size ((k + 1) + 1) rfl (rs ((o ++ [y]) ++ [r])) (rs_append _ _).symm ?_; intro A2 c2 w2 hw2 hb2 _))
        go_roundw
        case rel => exact ⟨i + 1, _, c2, A2, by omega, by go_num, rfl, by omega, by rw [HT1.out]; exact hw2, hbW.trans hb2⟩
        case measure => simp [intOf]; omega
    · have hge : n ≤ i := by omega
      have e : L.take i = L := List.take_of_length_le (by rw [h.len]; exact hge)
      have how2 := HOW.out
      rw [e] at how2
      have HOW2 := Lib.hid how2
      clear e how2 HOW
      go_wp2_with fail
      go_ret
      have hl := HOW2.out.len
      rw [rs_length] at hl
      have hl2 : m = (tidy L).length := by omega
      subst hl2
      exact ⟨A', c', rfl, HOW2.out.rdr, HOW2.out.cap, hb, HOW2.out.newer⟩
end Go.Proofs.YtebcfiifaclniaaGreat

/- Tidying a row of runs in memory, by the document's own answer. -/
namespace Go.Proofs.YtebcfiifaclniaaGreat
open Go.RowKit Tab
set_option linter.unusedSimpArgs false
set_option linter.unusedVariables false

set_option maxRecDepth 100000 in
set_option maxHeartbeats 4000000 in
theorem rtidy_any (A : Option Addr) (n cap : Nat) (L : List Rn) (w : World) (h : RdR w w.heap.size A n L) (hc : n ≤ cap) (hn : n ≤ 1048576) (ht : ticks L ≤ 1099511627776) :
    Calls Tryz.prog 48 #[.slice A n cap] w (MadeR (tidy L) w) := by
  go_enter Tryz.func48, Tryz.ntmps48
  go_wp2_with fail
  go_loopw [3, 9] (fun q s wr => ∃ (i m c' : Nat) (A' : Option Addr), i ≤ n ∧ s = .int .i64 i ∧ q = .slice A' m c' ∧ m ≤ i ∧ OwnV 95 2 wr w.heap.size A' m c' (rs (tidy (L.take i))) ∧ Below w.heap.size w wr) (fun _ s _ => n - (intOf s).toNat)
  case atStart => exact ⟨0, 0, 0, none, by omega, rfl, rfl, by omega, by simpa [tidy, tidyOn, rs] using OwnV.nil _ _ _ _, Below.refl _ _⟩
  case round =>
    obtain ⟨i, m, c', A', hi, rfl, rfl, hm, how, hb⟩ := hrel
    have HOW := Lib.hid how
    clear how
    by_cases hlt : i < n
    · obtain ⟨ad, r, rfl, had, hr, c0, c1⟩ := (h.on hb).at_ hlt
      have hmore := tidy_more hr
      have hcs := tpush_cases (tidy (L.take i)) r
      rw [← hmore] at hcs
      have hbl := bl1 wr (.cells #[.int .i64 r.p, .int .i64 (r.n : Int)] 95)
      have hb1 := hb.trans (hbl.mono hb.size)
      have hle := tidy_take_le L (i + 1)
      have how1 := HOW.out.below rfl hbl
      have hsum : ∀ o y, tidy (L.take i) = o ++ [y] → y.n + r.n ≤ ticks L := fun o y e => tidy_one hr e
      generalize tidy (L.take i) = T at HOW hcs how1 hsum
      generalize hT1 : tidy (L.take (i + 1)) = T1 at hcs hle
      have HT1 := Lib.hid hT1
      have HB1 := Lib.hid hb1
      clear hT1 hmore hr hbl hb1 HOW
      rcases hcs with ⟨h0, e⟩ | ⟨h0, e0, e⟩ | ⟨o, y, h0, e0, hp, e⟩ | ⟨o, y, h0, e0, hp, e⟩
      · have hr1 : (r.n : Int) < 1 := by omega
        subst e
        have HOW1 := Lib.hid how1
        clear how1 hsum h0
        go_wp2_with fail
        go_roundw
        case rel => exact ⟨i + 1, m, c', A', by omega, by go_num, rfl, by omega, by rw [HT1.out]; exact HOW1.out, HB1.out⟩
        case measure => simp [intOf]; omega
      · subst e0
        have hm0 : m = 0 := by have := how1.len; simp [rs] at this; omega
        subst hm0
        have hr1 : ¬ (r.n : Int) < 1 := by omega
        subst e
        clear hsum h0
        go_wp2_with fail
        go_quiet (fail)
        have hW0 : Below wr.heap.size wr ((wr.alloc (.cells #[.int .i64 r.p, .int .i64 (r.n : Int)] 95)).drewN nq) := Below.drewN (bl1 wr _) nq
        have hs0 : wr.heap.size < ((wr.alloc (.cells #[.int .i64 r.p, .int .i64 (r.n : Int)] 95)).drewN nq).heap.size := by simp
        have b0 : ((wr.alloc (.cells #[.int .i64 r.p, .int .i64 (r.n : Int)] 95)).drewN nq).cell? ⟨wr.heap.size, 0, none⟩ = some (.int .i64 r.p) := World.cell?_alloc_mark _ _ _ _ _
        have b1 : ((wr.alloc (.cells #[.int .i64 r.p, .int .i64 (r.n : Int)] 95)).drewN nq).cell? ⟨wr.heap.size, 1, none⟩ = some (.int .i64 (r.n : Int)) := World.cell?_alloc_mark _ _ _ _ _
        have how2 : OwnV 95 2 ((wr.alloc (.cells #[.int .i64 r.p, .int .i64 (r.n : Int)] 95)).drewN nq) w.heap.size A' 0 c' (rs []) := how1.keep fun _ _ _ => rfl
        generalize (wr.alloc (.cells #[.int .i64 r.p, .int .i64 (r.n : Int)] 95)).drewN nq = W at hW0 hs0 b0 b1 how2 ⊢
        have how3 := how2.below rfl (bl1 W (.cells #[.int .i64 r.p, .int .i64 (r.n : Int)] 95))
        have hrd := rdV_new W #[.int .i64 r.p, .int .i64 (r.n : Int)] 95 (rs [r]) rfl
        have hbW := (hb.trans (hW0.mono hb.size)).alloc (by have := hb.size; omega) (.cells #[.int .i64 r.p, .int .i64 (r.n : Int)] 95)
        have hn1 : 0 + 1 ≤ 1048577 := by omega
        clear how1 how2 c0 c1
        go_wp2_with (at_builtin; go_loud (refine wpList_appV elR rfl (.tmp 45) (.tmp 47) rfl rfl w.heap.size _ _ c' _ rfl how3 _ 1 1 _ _ rfl hrd rfl (rs_one _) (by omega) (by unfold maxLen; omega) hbW.size (0 + 1) rfl (rs ([] ++ [r])) (rs_append _ _).symm ?_; intro A2 c2 w2 hw2 hb2 _))
        go_roundw
        case rel => exact ⟨i + 1, _, c2, A2, by omega, by go_num, rfl, by omega, by rw [HT1.out]; exact hw2, hbW.trans hb2⟩
        case measure => simp [intOf]; omega
      · subst e0
        have hr1 : ¬ (r.n : Int) < 1 := by omega
        have hs1 := hsum o y rfl
        obtain ⟨ad', k, rfl, rfl, hL⟩ := LastR.of how1
        obtain ⟨yp, yn⟩ := y
        obtain ⟨rp, rn⟩ := r
        dsimp only at hp hr1 hs1 c0 c1 e h0 ⊢
        subst hp
        have HL := Lib.hid hL
        have d0 := hL.c0
        have d1 := hL.c1
        have d2 := hL.f1
        have d3 := hL.lt
        dsimp only at d0 d1 d2 d3
        clear hsum h0 hL how1
        go_wp2_with fail
        go_quiet (fail)
        go_wp2_with fail
        have hbW := hb.trans ((Below.drewN (bl1 wr (.cells #[.int .i64 yp, .int .i64 (rn : Int)] 95)) nq).mono hb.size)
        have b1 : ((wr.alloc (.cells #[.int .i64 yp, .int .i64 (rn : Int)] 95)).drewN nq).cell? ⟨wr.heap.size, 1, none⟩ = some (.int .i64 (rn : Int)) := World.cell?_alloc_mark _ _ _ _ _
        have HL2 := Lib.hid (HL.out.drewN nq)
        have d1 := HL2.out.c1
        have d2 := HL2.out.f1
        have d3 := HL2.out.lt
        dsimp only at d1 d2 d3
        have HB2 := Lib.hid hbW
        clear HL d0 c0 c1 hbW HB1
        generalize (wr.alloc (.cells #[.int .i64 yp, .int .i64 (rn : Int)] 95)).drewN nq = W at b1 HL2 d1 d2 d3 HB2 ⊢
        generalize wr.heap.size = gx at b1 ⊢
        have hmr := sum_any (yn : Int) (rn : Int) _ _ W.drew (by omega) (by omega) (by omega) rfl rfl
        have hkk : (k : Int) < (k : Int) + 1 := by omega
        have hkw : IntKind.i64.wrap (k : Int) = (k : Int) := IntWalk.i64_in _ (by omega)
        go_still_tail 14, (by kernel_rfl)
        still_call hmr
        repeat still_step
        refine wpStill_nil ?_
        clear hkw
        change wpList _ _ _ _ _ W.drew
        go_wp2_with fail
        obtain ⟨hw5, hb5⟩ := (HL2.out.drew).stored (yn + rn)
        rw [Int.natCast_add] at hw5 hb5
        rw [← e] at hw5
        go_roundw
        case rel => exact ⟨i + 1, _, c', some ad', by omega, by go_num, rfl, by omega, by rw [HT1.out]; exact hw5, hb5 _ HB2.out.drew⟩
        case measure => simp [intOf]; omega
      · subst e0
        have hr1 : ¬ (r.n : Int) < 1 := by omega
        obtain ⟨ad', k, rfl, rfl, hL⟩ := LastR.of how1
        have hpb : (y.p == r.p) = false := beq_eq_false_iff_ne.2 hp
        have d0 := hL.c0
        have d3 := hL.lt
        subst e
        clear hsum h0 hL hp
        go_wp2_with fail
        go_quiet (fail)
        have hW0 : Below wr.heap.size wr ((wr.alloc (.cells #[.int .i64 r.p, .int .i64 (r.n : Int)] 95)).drewN nq) := Below.drewN (bl1 wr _) nq
        have hs0 : wr.heap.size < ((wr.alloc (.cells #[.int .i64 r.p, .int .i64 (r.n : Int)] 95)).drewN nq).heap.size := by simp
        have b0 : ((wr.alloc (.cells #[.int .i64 r.p, .int .i64 (r.n : Int)] 95)).drewN nq).cell? ⟨wr.heap.size, 0, none⟩ = some (.int .i64 r.p) := World.cell?_alloc_mark _ _ _ _ _
        have b1 : ((wr.alloc (.cells #[.int .i64 r.p, .int .i64 (r.n : Int)] 95)).drewN nq).cell? ⟨wr.heap.size, 1, none⟩ = some (.int .i64 (r.n : Int)) := World.cell?_alloc_mark _ _ _ _ _
        have how2 : OwnV 95 2 ((wr.alloc (.cells #[.int .i64 r.p, .int .i64 (r.n : Int)] 95)).drewN nq) w.heap.size (some ad') (k + 1) c' (rs (o ++ [y])) := how1.keep fun _ _ _ => rfl
        generalize (wr.alloc (.cells #[.int .i64 r.p, .int .i64 (r.n : Int)] 95)).drewN nq = W at hW0 hs0 b0 b1 how2 ⊢
        have how3 := how2.below rfl (bl1 W (.cells #[.int .i64 r.p, .int .i64 (r.n : Int)] 95))
        have hrd := rdV_new W #[.int .i64 r.p, .int .i64 (r.n : Int)] 95 (rs [r]) rfl
        have hbW := (hb.trans (hW0.mono hb.size)).alloc (by have := hb.size; omega) (.cells #[.int .i64 r.p, .int .i64 (r.n : Int)] 95)
        have hn1 : (k + 1) + 1 ≤ 1048577 := by omega
        clear how1 how2 c0 c1
        go_wp2_with (at_builtin; go_loud (refine wpList_appV elR rfl (.tmp 45) (.tmp 47) rfl rfl w.heap.size _ _ c' _ rfl how3 _ 1 1 _ _ rfl hrd rfl (rs_one _) (by omega) (by unfold maxLen; omega) hbW.size ((k + 1) + 1) rfl (rs ((o ++ [y]) ++ [r])) (rs_append _ _).symm ?_; intro A2 c2 w2 hw2 hb2 _))
        go_roundw
        case rel => exact ⟨i + 1, _, c2, A2, by omega, by go_num, rfl, by omega, by rw [HT1.out]; exact hw2, hbW.trans hb2⟩
        case measure => simp [intOf]; omega
    · have hge : n ≤ i := by omega
      have e : L.take i = L := List.take_of_length_le (by rw [h.len]; exact hge)
      have how2 := HOW.out
      rw [e] at how2
      have HOW2 := Lib.hid how2
      clear e how2 HOW
      go_wp2_with fail
      go_ret
      have hl := HOW2.out.len
      rw [rs_length] at hl
      have hl2 : m = (tidy L).length := by omega
      subst hl2
      exact ⟨A', c', rfl, HOW2.out.rdr, HOW2.out.cap, hb, HOW2.out.newer⟩
end Go.Proofs.YtebcfiifaclniaaGreat

/- Whose each tick of a row is; how many ticks: by the document's own answer. -/
namespace Go.Proofs.YtebcfiifaclniaaGreat
open Go.RowKit Tab
set_option linter.unusedSimpArgs false
set_option linter.unusedVariables false

/-- Whose each tick is. -/
def wordsL : List Rn → List Int
  | [] => []
  | r :: s => List.replicate r.n r.p ++ wordsL s
theorem wordsL_len (L : List Rn) : (wordsL L).length = ticks L := by
  induction L with
  | nil => rfl
  | cons r s ih => simp only [wordsL, List.length_append, List.length_replicate, ih, ticks]
theorem wordsL_append (a b : List Rn) : wordsL (a ++ b) = wordsL a ++ wordsL b := by
  induction a with
  | nil => rfl
  | cons r s ih => simp only [List.cons_append, wordsL, ih, List.append_assoc]
theorem wordsL_more {L : List Rn} {i : Nat} {r : Rn} (h : L[i]? = some r) : wordsL (L.take (i + 1)) = wordsL (L.take i) ++ List.replicate r.n r.p := by
  obtain ⟨hi, e⟩ := List.getElem?_eq_some_iff.1 h
  rw [List.take_succ_eq_append_getElem hi, wordsL_append, e]
  simp [wordsL]
/-- It answers a row of numbers, new. -/
def MadI (W : List Int) (w : World) (e : Ending) (w' : World) : Prop := ∃ A c, e = .returned (.slice A W.length c) ∧ RdI w' w'.heap.size A W.length W ∧ W.length ≤ c ∧ Below w.heap.size w w'
theorem OwnV.rdi {w : World} {B n c : Nat} {A : Option Addr} {L : List Int} (h : OwnV 3 1 w B A n c (is L)) : RdI w w.heap.size A n L := ⟨by have := h.len; rw [is_length] at this; omega, h.rd⟩
theorem rep_snoc (n : Nat) (p : Int) : List.replicate (n + 1) p = List.replicate n p ++ [p] := by rw [List.replicate_succ']
set_option maxRecDepth 100000 in
set_option maxHeartbeats 4000000 in
theorem words_any (A : Option Addr) (n cap : Nat) (L : List Rn) (w : World) (h : RdR w w.heap.size A n L) (hc : n ≤ cap) (hn : n ≤ 1048576) (ht : ticks L ≤ 8192) :
    Calls Tryz.prog 51 #[.slice A n cap] w (MadI (wordsL L) w) := by
  have HT := Lib.hid ht
  clear ht
  go_enter Tryz.func51, Tryz.ntmps51
  go_wp2_with fail
  go_loopw [3, 5, 6, 9] (fun q _ _ s wr => ∃ (i m c : Nat) (A' : Option Addr), i ≤ n ∧ s = .int .i64 i ∧ q = .slice A' m c ∧ OwnV 3 1 wr w.heap.size A' m c (is (wordsL (L.take i))) ∧ Below w.heap.size w wr) (fun _ _ _ s _ => n - (intOf s).toNat)
  case atStart => exact ⟨0, 0, 0, none, by omega, rfl, rfl, by simpa [wordsL, is] using OwnV.nil _ _ _ _, Below.refl _ _⟩
  case round =>
    obtain ⟨i, m, c, A', hi, rfl, rfl, how, hb⟩ := hrel
    by_cases hlt : i < n
    · obtain ⟨ad, r, rfl, had, hr, c0, c1⟩ := (h.on hb).at_ hlt
      have hbl := bl1 wr (.cells #[.int .i64 r.p, .int .i64 (r.n : Int)] 95)
      have hb1 := hb.trans (hbl.mono hb.size)
      have hmore := wordsL_more hr
      have htk := take_more hr
      have hle := take_ticks L (i + 1)
      have hT := HT.out
      have how1 := how.below rfl hbl
      have hm := how.len
      rw [is_length, wordsL_len, Nat.mul_one] at hm
      have hmt : m + r.n ≤ 8192 := by omega
      have HM := Lib.hid hmore
      have hwb := hb.size
      obtain ⟨rp, rn⟩ := r
      dsimp only at c0 c1 hmt how1 HM hb1
      have hobk : obk A' ≠ some wr.heap.size := fun e => by
        cases A' with
        | none => cases e
        | some a =>
          have hmp : 0 < m ∨ m = 0 := by omega
          rcases how.2 with ⟨hv, _⟩ | ⟨g', cap', cur, hv, _, hg', _⟩
          · cases hv
          · have h1 : some a = some ⟨g', 0, none⟩ := by injection hv
            injection h1 with h1
            subst h1
            have h2 := (Array.getElem?_eq_some_iff.1 hg').1
            injection e with e
            have e : g' = wr.heap.size := e
            omega
      clear hr hmore htk hle hT how hbl hb
      generalize hG : wr.alloc (.cells #[.int .i64 rp, .int .i64 (rn : Int)] 95) = W1 at how1 hb1
      have n0 : W1.cell? ⟨wr.heap.size, 0, none⟩ = some (.int .i64 rp) := by rw [← hG]; exact World.cell?_alloc_mark _ _ _ _ _
      have n1 : W1.cell? ⟨wr.heap.size, 1, none⟩ = some (.int .i64 (rn : Int)) := by rw [← hG]; exact World.cell?_alloc_mark _ _ _ _ _
      have hsz : wr.heap.size < W1.heap.size := by rw [← hG]; simp
      go_wp2_with fail
      generalize wr.heap.size = g at n0 n1 hsz hwb hobk ⊢
      clear hG c0 c1 had
      go_loopw [3, 6] (fun q s wx => ∃ (j k c2 : Nat) (A2 : Option Addr), j ≤ rn ∧ s = .int .i64 j ∧ q = .slice A2 k c2 ∧ k = m + j ∧ OwnV 3 1 wx w.heap.size A2 k c2 (is (wordsL (L.take i) ++ List.replicate j rp)) ∧ Below w.heap.size w wx ∧ wx.cell? ⟨g, 0, none⟩ = some (.int .i64 rp) ∧ wx.cell? ⟨g, 1, none⟩ = some (.int .i64 (rn : Int)) ∧ obk A2 ≠ some g) (fun _ s _ => rn - (intOf s).toNat)
      case atStart => exact ⟨0, m, c, A', by omega, rfl, rfl, rfl, by simpa using how1, hb1, n0, n1, hobk⟩
      case round =>
        obtain ⟨j, k, c2, A2, hj, rfl, rfl, hk, how2, hbx, n0, n1, hob⟩ := hrel
        by_cases hjn : j < rn
        · have hk8 : (k : Int) < 8192 := by omega
          have hk9 : k < 8192 := by omega
          have HKK := Lib.hid hk
          clear hk
          have hbl2 := bl1 wr (.cells #[.int .i64 rp] 3)
          have how3 := how2.below rfl hbl2
          have hrd := rdV_new wr #[.int .i64 rp] 3 (is [rp]) rfl
          have hb3 := hbx.trans (hbl2.mono hbx.size)
          have hgx : g < wr.heap.size := by
            have := World.block_lt_of_cell? wr _ n0
            exact this
          go_wp2_with (at_builtin; go_loud (refine wpList_appX elI rfl (.tmp 24) (.tmp 27) rfl rfl w.heap.size A2 k c2 _ rfl how3 _ 1 1 _ _ rfl hrd rfl Nat.one_pos (is_one _) (by omega) (by unfold maxLen; omega) hb3.size (k + 1) rfl (is (wordsL (L.take i) ++ List.replicate (j + 1) rp)) (by rw [rep_snoc, ← List.append_assoc]; exact (is_append _ _).symm) ?_; intro A4 c4 w4 hw4 hb4 hot))
          go_roundw
          case rel =>
            have hst : ∀ o v, wr.cell? ⟨g, o, none⟩ = some v → w4.cell? ⟨g, o, none⟩ = some v := fun o v hv => by
              have h1 : w4.cell? ⟨g, o, none⟩ = (wr.alloc (.cells #[.int .i64 rp] 3)).cell? ⟨g, o, none⟩ := World.cell?_of_block (hot.gb.block g (by simp; omega) (fun e => hob e.symm))
              rw [h1, World.cell?_alloc_lt _ _ _ hgx]
              exact hv
            refine ⟨j + 1, k + 1, c4, A4, by omega, by go_num, rfl, by have := HKK.out; omega, hw4, hb3.trans hb4, hst _ _ n0, hst _ _ n1, ?_⟩
            rcases hot.at_ with e | ⟨g4, e, hge⟩
            · rw [e]; exact hob
            · rw [e]
              intro e5
              injection e5 with e5
              simp at hge
              omega
          case measure => simp [intOf]; omega
        · obtain rfl : j = rn := by omega
          have how5 := how2
          rw [← HM.out] at how5
          have HOW5 := Lib.hid how5
          clear how5 how2 hk
          go_wp2_with fail
          go_roundw
          case rel => exact ⟨i + 1, k, c2, A2, by omega, by go_num, rfl, HOW5.out, hbx⟩
          case measure => simp [intOf]; omega
    · have hge : n ≤ i := by omega
      have e : L.take i = L := List.take_of_length_le (by rw [h.len]; exact hge)
      rw [e] at how
      have hm := how.len
      rw [is_length, Nat.mul_one] at hm
      go_wp2_with fail
      go_ret
      exact ⟨A', c, by rw [hm]; rfl, by rw [hm]; exact how.rdi, by rw [hm]; exact how.cap, hb⟩
end Go.Proofs.YtebcfiifaclniaaGreat

/- When the next one runs: how late, at worst, by the document's own answer. -/
namespace Go.Proofs.YtebcfiifaclniaaGreat
open Go.RowKit Tab
set_option linter.unusedSimpArgs false
set_option linter.unusedVariables false

/-- From the tick t on, round, the first one behind it that is of q. -/
def distF (W : List Int) (q : Int) (t : Nat) : Nat → Nat → Nat
  | 0, d => d
  | f + 1, d => if W[(t + d) % W.length]? = some q then d else distF W q t f (d + 1)
def dist (W : List Int) (q : Int) (t : Nat) : Nat := distF W q t W.length 1
/-- The worst of the first k ticks of p. -/
def lateW (W : List Int) (p q : Int) : Nat → Nat
  | 0 => 0
  | k + 1 => if W[k]? = some p then max (lateW W p q k) (dist W q k) else lateW W p q k
def hasL (q : Int) : List Int → Bool
  | [] => false
  | x :: l => decide (x = q) || hasL q l
def lateL (W : List Int) (p q : Int) : Int := if hasL p W = false then 0 else if hasL q W = false then -1 else (lateW W p q W.length : Int)
theorem hasL_append (q : Int) (a b : List Int) : hasL q (a ++ b) = (hasL q a || hasL q b) := by
  induction a with
  | nil => rfl
  | cons x a ih => simp only [List.cons_append, hasL, ih, Bool.or_assoc]
theorem hasL_more {W : List Int} {i : Nat} {x : Int} (q : Int) (h : W[i]? = some x) : hasL q (W.take (i + 1)) = (hasL q (W.take i) || decide (x = q)) := by
  obtain ⟨hi, e⟩ := List.getElem?_eq_some_iff.1 h
  rw [List.take_succ_eq_append_getElem hi, hasL_append, e]
  simp [hasL]
theorem hasL_get {W : List Int} {q : Int} (h : hasL q W = true) : ∃ i, i < W.length ∧ W[i]? = some q := by
  induction W with
  | nil => cases h
  | cons x W ih =>
    simp only [hasL, Bool.or_eq_true, decide_eq_true_eq] at h
    rcases h with rfl | h
    · exact ⟨0, by simp, rfl⟩
    · obtain ⟨i, hi, e⟩ := ih h
      exact ⟨i + 1, by simp only [List.length_cons]; omega, by simpa using e⟩
/-- Within a round there is one. -/
theorem dist_ex {W : List Int} {q : Int} (h : hasL q W = true) (t : Nat) : ∃ e, 1 ≤ e ∧ e ≤ W.length ∧ W[(t + e) % W.length]? = some q := by
  obtain ⟨i, hi, e⟩ := hasL_get h
  have hn : 0 < W.length := by omega
  have h1 := Nat.mod_lt t hn
  have h2 := Nat.div_add_mod t W.length
  by_cases hlt : t % W.length < i
  · refine ⟨i - t % W.length, by omega, by omega, ?_⟩
    have h3 : (t + (i - t % W.length)) % W.length = i := by
      have h4 : t + (i - t % W.length) = i + W.length * (t / W.length) := by omega
      rw [h4, Nat.add_mul_mod_self_left, Nat.mod_eq_of_lt hi]
    rw [h3]
    exact e
  · refine ⟨W.length + i - t % W.length, by omega, by omega, ?_⟩
    have h3 : (t + (W.length + i - t % W.length)) % W.length = i := by
      have h4 : t + (W.length + i - t % W.length) = i + W.length * (t / W.length + 1) := by
        rw [Nat.mul_add, Nat.mul_one]
        omega
      rw [h4, Nat.add_mul_mod_self_left, Nat.mod_eq_of_lt hi]
    rw [h3]
    exact e
theorem distF_yes {W : List Int} {q : Int} {t f d : Nat} (h : W[(t + d) % W.length]? = some q) : distF W q t f d = d := by
  cases f with
  | zero => rfl
  | succ f => simp only [distF]; rw [if_pos h]
theorem distF_no {W : List Int} {q : Int} {t f d : Nat} (h : ¬ W[(t + d) % W.length]? = some q) : distF W q t (f + 1) d = distF W q t f (d + 1) := by simp only [distF]; rw [if_neg h]
set_option maxRecDepth 100000 in
set_option maxHeartbeats 4000000 in
theorem late_any (A : Option Addr) (n cap : Nat) (L : List Rn) (p q : Int) (w : World) (h : RdR w w.heap.size A n L) (hc : n ≤ cap) (hn : n ≤ 1048576) (ht : ticks L ≤ 8192) :
    Calls Tryz.prog 34 #[.slice A n cap, .int .i64 p, .int .i64 q] w (Ans (.int .i64 (lateL (wordsL L) p q)) w) := by
  have hW := words_any A n cap L w h hc hn ht
  have hl := wordsL_len L
  unfold MadI at hW
  generalize wordsL L = W at hW hl ⊢
  have hm : W.length ≤ 8192 := by omega
  have hlate0 : hasL p W = false → lateL W p q = 0 := fun e => if_pos e
  have hlate1 : hasL p W = true → hasL q W = false → lateL W p q = -1 := fun e e2 => by unfold lateL; rw [if_neg (by rw [e]; simp), if_pos e2]
  have hlate2 : hasL p W = true → hasL q W = true → lateL W p q = (lateW W p q W.length : Int) := fun e e2 => by unfold lateL; rw [if_neg (by rw [e]; simp), if_neg (by rw [e2]; simp)]
  generalize lateL W p q = R at hlate0 hlate1 hlate2 ⊢
  generalize hM : W.length = m at hW hm hlate2
  have HM := Lib.hid hM
  have HW := Lib.hid hW
  have HL0 := Lib.hid hlate0
  have HL1 := Lib.hid hlate1
  have HL2 := Lib.hid hlate2
  clear hW hlate0 hlate1 hlate2 hM h hl
  go_enter Tryz.func34, Tryz.ntmps34
  go_wp2_with fail
  refine HW.out.mono ?_
  rintro e w1 ⟨A1, c1, rfl, hr1, hc1, hb1⟩
  go_wp2_with fail
  go_loopw [9, 10, 12, 20] (fun s9 s10 _ s wr => ∃ i : Nat, i ≤ m ∧ s = .int .i64 i ∧ s9 = .bool (hasL q (W.take i)) ∧ s10 = .bool (hasL p (W.take i)) ∧ wr = w1) (fun _ _ _ s _ => m - (intOf s).toNat)
  case atStart => exact ⟨0, by omega, rfl, rfl, rfl, rfl⟩
  case round =>
    obtain ⟨i, hi, rfl, rfl, rfl, hw⟩ := hrel
    have hw' := hw.symm
    clear hw
    subst hw'
    by_cases hlt : i < m
    · obtain ⟨ad, x, rfl, had, hx, c0⟩ := hr1.at_ hlt
      have e1 := hasL_more q hx
      have e2 := hasL_more p hx
      have E1 := Lib.hid e1
      have E2 := Lib.hid e2
      clear e1 e2 hx
      generalize hasL q (W.take i) = b1 at E1 ⊢
      generalize hasL p (W.take i) = b2 at E2 ⊢
      have f1 : (x == q) = decide (x = q) := rfl
      have f2 : (x == p) = decide (x = p) := rfl
      cases b1 <;> cases b2 <;>
        (go_wp2_with fail
         go_roundw
         case rel => exact ⟨i + 1, by omega, by go_num, by rw [E1.out]; simp, by rw [E2.out]; simp, trivial⟩
         case measure => simp [intOf]; omega)
    · have hge : m ≤ i := by omega
      have e : W.take i = W := List.take_of_length_le (by rw [HM.out]; exact hge)
      rw [e]
      clear e
      cases hp : hasL p W with
      | false =>
        have e := HL0.out hp
        subst e
        go_wp2_with fail
        go_ret
        exact ⟨rfl, hb1⟩
      | true =>
        cases hq : hasL q W with
        | false =>
          have e := HL1.out hp hq
          subst e
          go_wp2_with fail
          go_ret
          exact ⟨rfl, hb1⟩
        | true =>
          have e := HL2.out hp hq
          have HE := Lib.hid e
          have HEX := Lib.hid fun t => dist_ex hq t
          clear e hp hq HL0 HL1 HL2
          go_wp2_with fail
          go_loopw [8, 13, 14, 15, 43] (fun s8 _ _ _ s wr => ∃ t k : Nat, t ≤ m ∧ s = .int .i64 t ∧ s8 = .int .i64 k ∧ k = lateW W p q t ∧ k ≤ m ∧ wr = w1) (fun _ _ _ _ s _ => m - (intOf s).toNat)
          case atStart => exact ⟨0, 0, by omega, rfl, rfl, rfl, by omega, rfl⟩
          case round =>
            obtain ⟨t, k, ht, rfl, rfl, hk, hkm, hw⟩ := hrel
            have hw' := hw.symm
            clear hw
            subst hw'
            have HK := Lib.hid hk
            clear hk
            by_cases hlt : t < m
            · obtain ⟨ad, x, rfl, had, hx, c0⟩ := hr1.at_ hlt
              have HX := Lib.hid hx
              clear hx
              by_cases hxp : x = p
              · subst hxp
                have hne : (x != x) = false := by simp
                go_wp2_with fail
                go_loopw [15] (fun s wr => ∃ d f : Nat, 1 ≤ d ∧ d + f = m + 1 ∧ s = .int .i64 d ∧ distF W q t f d = dist W q t ∧ (∃ e, d ≤ e ∧ e ≤ m ∧ W[(t + e) % m]? = some q) ∧ wr = w1) (fun s _ => m + 1 - (intOf s).toNat)
                case atStart =>
                  obtain ⟨e, h1, h2, h3⟩ := HEX.out t
                  rw [HM.out] at h2 h3
                  exact ⟨1, m, by omega, by omega, rfl, by unfold dist; rw [HM.out], ⟨e, h1, h2, h3⟩, rfl⟩
                case round =>
                  obtain ⟨d, f, hd1, hdf, rfl, hdist, hex, hw⟩ := hrel
                  have hw' := hw.symm
                  clear hw
                  subst hw'
                  have hdm : d ≤ m := by obtain ⟨e, h1, h2, _⟩ := hex; omega
                  obtain ⟨r, hr⟩ : ∃ r, r = (t + d) % m := ⟨_, rfl⟩
                  have hrm : r < m := by rw [hr]; exact Nat.mod_lt _ (by omega)
                  obtain ⟨ad2, y, e2, _, hy, d0⟩ := hr1.at_ hrm
                  injection e2 with e2
                  subst e2
                  have hr2 : ((t : Int) + (d : Int)) % (m : Int) = (r : Int) := by rw [hr, Int.natCast_emod]; rfl
                  have hr3 : ((t : Int) + (d : Int)).tmod (m : Int) = (r : Int) := by rw [Int.tmod_eq_emod_of_nonneg (by omega)]; exact hr2
                  have HD := Lib.hid hdist
                  have HX2 := Lib.hid hex
                  have HY := Lib.hid hy
                  have HRR := Lib.hid hr
                  have hm0 : ¬ m = 0 := by omega
                  clear hdist hex hy hr
                  by_cases hyq : y = q
                  · subst hyq
                    have hne2 : (y != y) = false := by simp
                    have hdd : distF W y t f d = d := distF_yes (by rw [HM.out, ← HRR.out]; exact HY.out)
                    have hD := HD.out
                    rw [hdd] at hD
                    have HD2 := Lib.hid hD
                    have hx1 : max (k : Int) (d : Int) = ((max k d : Nat) : Int) := by omega
                    have HLW : Hid (max k d = lateW W x y (t + 1)) := Lib.hid (by simp only [lateW]; rw [if_pos HX.out, HK.out, hD])
                    have hmx : max k d ≤ m := by omega
                    clear hD hdd HD
                    go_wp2_with fail
                    go_roundw
                    case rel => exact ⟨t + 1, max k d, by omega, by go_num, by congr 1; first | omega | (split <;> omega), HLW.out, hmx, trivial⟩
                    case measure => simp [intOf]; omega
                  · have hne2 : (y != q) = true := bne_iff_ne.2 hyq
                    have hno : ¬ W[(t + d) % W.length]? = some q := by
                      rw [HM.out, ← HRR.out, HY.out]
                      intro e
                      injection e with e
                      exact hyq e
                    have hx2 : ∃ e, d + 1 ≤ e ∧ e ≤ m ∧ W[(t + e) % m]? = some q := by
                      obtain ⟨e, h1, h2, h3⟩ := HX2.out
                      refine ⟨e, ?_, h2, h3⟩
                      rcases Nat.lt_or_ge d e with h4 | h4
                      · exact h4
                      · have : e = d := by omega
                        subst this
                        rw [HM.out] at hno
                        exact absurd h3 hno
                    obtain ⟨f', rfl⟩ : ∃ f', f = f' + 1 := ⟨f - 1, by obtain ⟨e, h1, h2, _⟩ := hx2; omega⟩
                    have hD := HD.out
                    rw [distF_no hno] at hD
                    have HD2 := Lib.hid hD
                    have HX3 := Lib.hid hx2
                    clear hD HD hno hx2 HX2
                    go_wp2_with fail
                    go_roundw
                    case rel => exact ⟨d + 1, f', by omega, by omega, by go_num, HD2.out, HX3.out, trivial⟩
                    case measure => simp [intOf]; omega
              · have hne : (x != p) = true := bne_iff_ne.2 hxp
                have HLW : Hid (k = lateW W p q (t + 1)) := Lib.hid (by
                  simp only [lateW]
                  rw [if_neg (by rw [HX.out]; intro e; injection e with e; exact hxp e)]
                  exact HK.out)
                go_wp2_with fail
                go_roundw
                case rel => exact ⟨t + 1, k, by omega, by go_num, rfl, HLW.out, hkm, trivial⟩
                case measure => simp [intOf]; omega
            · obtain rfl : t = m := by omega
              have hR : R = (k : Int) := by rw [HE.out, HK.out]
              have HR := Lib.hid hR
              clear hR
              go_wp2_with fail
              go_ret
              exact ⟨by rw [HR.out]; rfl, hb1⟩
end Go.Proofs.YtebcfiifaclniaaGreat

/- How many ticks in each period, at least; how many in all: by the document's own answer. -/
namespace Go.Proofs.YtebcfiifaclniaaGreat
open Go.RowKit Tab
set_option linter.unusedSimpArgs false
set_option linter.unusedVariables false

set_option maxRecDepth 100000 in
set_option maxHeartbeats 1600000 in
theorem total_any (A : Option Addr) (n cap : Nat) (L : List Rn) (w : World) (h : RdR w w.heap.size A n L) (hc : n ≤ cap) (hn : n ≤ 1048576) (ht : ticks L ≤ 1099511627776) :
    Calls Tryz.prog 33 #[.slice A n cap] w (Ans (.int .i64 (ticks L : Nat)) w) := by
  generalize hT : ticks L = T at ht
  have HT := Lib.hid hT
  clear hT
  go_enter Tryz.func33, Tryz.ntmps33
  go_wp2_with fail
  go_loopw [3, 5, 8] (fun q _ s wr => ∃ i k : Nat, i ≤ n ∧ s = .int .i64 i ∧ q = .int .i64 k ∧ k = ticks (L.take i) ∧ Below w.heap.size w wr) (fun _ _ s _ => n - (intOf s).toNat)
  case atStart => exact ⟨0, 0, by omega, rfl, rfl, by simp [ticks], Below.refl _ _⟩
  case round =>
    obtain ⟨i, k, hi, rfl, rfl, hk, hb⟩ := hrel
    have HK := Lib.hid hk
    clear hk
    by_cases hlt : i < n
    · obtain ⟨ad, r, rfl, had, hr, c0, c1⟩ := (h.on hb).at_ hlt
      have htk := take_more hr
      have hle := take_ticks L (i + 1)
      rw [HT.out] at hle
      have hk2 : k + r.n = ticks (L.take (i + 1)) := by rw [htk, HK.out]
      have hkb : k + r.n ≤ 1099511627776 := by omega
      have HK2 := Lib.hid hk2
      have hbl := bl1 wr (.cells #[.int .i64 r.p, .int .i64 (r.n : Int)] 95)
      have HB := Lib.hid (hb.trans (hbl.mono hb.size))
      obtain ⟨rp, rn⟩ := r
      dsimp only at c0 c1 hkb HK2 HB
      have HS := Lib.hid fun W => sum_any (k : Int) (rn : Int) (k : Int) (rn : Int) W (by omega) (by omega) (by omega) rfl rfl
      clear hr htk hle hk2 hbl
      go_wp2_with fail
      refine (HS.out _).mono ?_
      rintro e w5 ⟨rfl, rfl⟩
      go_wp2_with fail
      go_roundw
      case rel => exact ⟨i + 1, k + rn, by omega, by go_num, by go_num, HK2.out, HB.out⟩
      case measure => simp [intOf]; omega
    · have hge : n ≤ i := by omega
      have e : L.take i = L := List.take_of_length_le (by rw [h.len]; exact hge)
      have hk := HK.out
      rw [e, HT.out] at hk
      subst hk
      clear e HK
      go_wp2_with fail
      go_ret
      exact Ans.mk rfl hb
/-- How many are p. -/
def cntF (p : Int) : List Int → Nat
  | [] => 0
  | x :: l => (if x = p then 1 else 0) + cntF p l
theorem cntF_append (p : Int) (a b : List Int) : cntF p (a ++ b) = cntF p a + cntF p b := by
  induction a with
  | nil => simp [cntF]
  | cons x a ih => simp only [List.cons_append, cntF, ih]; omega
theorem cntF_le (p : Int) (a : List Int) : cntF p a ≤ a.length := by
  induction a with
  | nil => simp [cntF]
  | cons x a ih => simp only [cntF, List.length_cons]; split <;> omega
theorem cntF_more {W : List Int} {i : Nat} {x : Int} (p : Int) (h : W[i]? = some x) : cntF p (W.take (i + 1)) = cntF p (W.take i) + if x = p then 1 else 0 := by
  obtain ⟨hi, e⟩ := List.getElem?_eq_some_iff.1 h
  rw [List.take_succ_eq_append_getElem hi, cntF_append, e]
  simp [cntF]
/-- The least of the first k periods. -/
def budW (W : List Int) (p : Int) (P : Nat) : Nat → Nat
  | 0 => P + 1
  | k + 1 => min (budW W p P k) (cntF p ((W.drop (k * P)).take P))
def budL (W : List Int) (p z : Int) : Int := if z < 1 then -1 else if W.length = 0 then -1 else if W.length % z.toNat ≠ 0 then -1 else (budW W p z.toNat (W.length / z.toNat) : Int)
theorem budW_le (W : List Int) (p : Int) (P k : Nat) : budW W p P k ≤ P + 1 := by
  induction k with
  | zero => exact Nat.le_refl _
  | succ k ih => simp only [budW]; omega
set_option maxRecDepth 100000 in
set_option maxHeartbeats 4000000 in
theorem budget_any (A : Option Addr) (n cap : Nat) (L : List Rn) (p z : Int) (w : World) (h : RdR w w.heap.size A n L) (hc : n ≤ cap) (hn : n ≤ 1048576) (ht : ticks L ≤ 8192) (hz : In64 z) :
    Calls Tryz.prog 35 #[.slice A n cap, .int .i64 p, .int .i64 z] w (Ans (.int .i64 (budL (wordsL L) p z)) w) := by
  have hW := words_any A n cap L w h hc hn ht
  have hl := wordsL_len L
  unfold MadI at hW
  generalize wordsL L = W at hW hl ⊢
  have hm : W.length ≤ 8192 := by omega
  have hb0 : z < 1 → budL W p z = -1 := fun e => if_pos e
  have hb1' : ¬ z < 1 → W.length = 0 → budL W p z = -1 := fun e e2 => by unfold budL; rw [if_neg e, if_pos e2]
  have hb2' : ¬ z < 1 → ¬ W.length = 0 → W.length % z.toNat ≠ 0 → budL W p z = -1 := fun e e2 e3 => by unfold budL; rw [if_neg e, if_neg e2, if_pos e3]
  have hb3' : ¬ z < 1 → ¬ W.length = 0 → W.length % z.toNat = 0 → budL W p z = (budW W p z.toNat (W.length / z.toNat) : Int) := fun e e2 e3 => by unfold budL; rw [if_neg e, if_neg e2, if_neg (by simpa using e3)]
  generalize budL W p z = R at hb0 hb1' hb2' hb3' ⊢
  generalize hM : W.length = m at hW hm hb1' hb2' hb3'
  have HM := Lib.hid hM
  have HW := Lib.hid hW
  have H0 := Lib.hid hb0
  have H1 := Lib.hid hb1'
  have H2 := Lib.hid hb2'
  have H3 := Lib.hid hb3'
  unfold In64 at hz
  clear hW hb0 hb1' hb2' hb3' hM h hl
  go_enter Tryz.func35, Tryz.ntmps35
  go_wp2_with fail
  refine HW.out.mono ?_
  rintro e w1 ⟨A1, c1, rfl, hr1, hc1, hb1⟩
  by_cases hz1 : z < 1
  · have e := H0.out hz1
    subst e
    go_wp2_with fail
    go_ret
    exact ⟨rfl, hb1⟩
  · obtain ⟨P, rfl⟩ := Int.eq_ofNat_of_zero_le (show 0 ≤ z by omega)
    have hP1 : 1 ≤ P := by omega
    by_cases hm0 : m = 0
    · have e := H1.out (by omega) hm0
      have hmb : ((m : Int) == 0) = true := beq_iff_eq.2 (by omega)
      subst e
      subst hm0
      go_wp2_with fail
      go_ret
      exact ⟨rfl, hb1⟩
    · have hmb : ((m : Int) == 0) = false := beq_eq_false_iff_ne.2 (by omega)
      have hP0 : ¬ P = 0 := by omega
      by_cases hmp : m % P = 0
      · have e := H3.out (by omega) hm0 hmp
        rw [Int.toNat_natCast] at e
        have h1 : (m : Int) % (P : Int) = 0 := by rw [← Int.natCast_emod, hmp]; rfl
        have h2 : (m : Int).tmod (P : Int) = 0 := by rw [Int.tmod_eq_emod_of_nonneg (Int.natCast_nonneg _)]; exact h1
        have h3 : ((m : Int).tmod (P : Int) != 0) = false := by rw [h2]; rfl
        have h4 : ((m : Int) % (P : Int) != 0) = false := by rw [h1]; rfl
        obtain ⟨K, hK⟩ : ∃ K, K = m / P := ⟨_, rfl⟩
        have hKP : K * P = m := by rw [hK]; exact Nat.div_mul_cancel (Nat.dvd_of_mod_eq_zero hmp)
        rw [← hK] at e
        have HE := Lib.hid e
        have HKP := Lib.hid hKP
        have hPm : P ≤ m := by
          rcases Nat.eq_zero_or_pos K with h0 | h0
          · rw [h0] at hKP; omega
          · have := Nat.le_mul_of_pos_left P h0
            omega
        clear e hKP hK hmp H0 H1 H2 H3
        go_wp2_with fail
        go_loopw [8, 9, 10, 12] (fun s8 s9 _ _ wr => ∃ k t l : Nat, k ≤ K ∧ t = k * P ∧ l = budW W p P k ∧ s9 = .int .i64 t ∧ s8 = .int .i64 l ∧ t ≤ m ∧ l ≤ 8193 ∧ wr = w1) (fun _ s9 _ _ _ => m - (intOf s9).toNat)
        case atStart => exact ⟨0, 0, P + 1, by omega, by omega, rfl, rfl, by go_num, by omega, by omega, rfl⟩
        case round =>
          obtain ⟨k, t, l, hk, ht', hl', rfl, rfl, htm, hl8, hw⟩ := hrel
          have hw' := hw.symm
          clear hw
          subst hw'
          have HTK := Lib.hid ht'
          have HLK := Lib.hid hl'
          clear ht' hl'
          by_cases hlt : t < m
          · have hkK : k < K := by
              rcases Nat.lt_or_ge k K with h5 | h5
              · exact h5
              · have := Nat.mul_le_mul_right P h5
                rw [HKP.out, ← HTK.out] at this
                omega
            have htP : t + P ≤ m := by
              have := Nat.mul_le_mul_right P (show k + 1 ≤ K from hkK)
              rw [HKP.out, Nat.succ_mul, ← HTK.out] at this
              exact this
            obtain ⟨ad, x0, rfl, _⟩ := hr1.at_ hlt
            have hct : ¬ c1 = t := by omega
            go_wp2_with fail
            go_loopw [10, 12, 45] (fun s10 _ s wr => ∃ j q : Nat, j ≤ P ∧ s = .int .i64 j ∧ s10 = .int .i64 q ∧ q = cntF p (((W.drop t).take P).take j) ∧ q ≤ j ∧ wr = w1) (fun _ _ s _ => P - (intOf s).toNat)
            case atStart => exact ⟨0, 0, by omega, rfl, rfl, by simp [cntF], by omega, rfl⟩
            case round =>
              obtain ⟨j, q, hj, rfl, rfl, hq, hqj, hw⟩ := hrel
              have hw' := hw.symm
              clear hw
              subst hw'
              have HQ := Lib.hid hq
              clear hq
              by_cases hjP : j < P
              · obtain ⟨ad2, x, e2, _, hx, d0⟩ := hr1.at_ (i := t + j) (by omega)
                injection e2 with e2
                subst e2
                rw [← add_add] at d0
                have hvx : ((W.drop t).take P)[j]? = some x := by rw [List.getElem?_take, if_pos hjP, List.getElem?_drop]; exact hx
                have hcm := cntF_more p hvx
                rw [← HQ.out] at hcm
                have HCM := Lib.hid hcm
                clear hcm hvx hx
                by_cases hxp : x = p
                · subst hxp
                  have hne : (x == x) = true := by simp
                  have hc2 := HCM.out
                  rw [if_pos rfl] at hc2
                  have HC2 := Lib.hid hc2
                  clear hc2 HCM
                  go_wp2_with fail
                  go_roundw
                  case rel => exact ⟨j + 1, q + 1, by omega, by go_num, by go_num, HC2.out.symm, by omega, trivial⟩
                  case measure => simp [intOf]; omega
                · have hne : (x == p) = false := beq_eq_false_iff_ne.2 hxp
                  have hc2 := HCM.out
                  rw [if_neg hxp] at hc2
                  have HC2 := Lib.hid hc2
                  clear hc2 HCM
                  go_wp2_with fail
                  go_roundw
                  case rel => exact ⟨j + 1, q, by omega, by go_num, by go_num, HC2.out.symm, by omega, trivial⟩
                  case measure => simp [intOf]; omega
              · have e : ((W.drop t).take P).take j = (W.drop t).take P := List.take_of_length_le (by rw [List.length_take]; omega)
                have hq := HQ.out
                rw [e] at hq
                have HLN : Hid (min l q = budW W p P (k + 1)) := Lib.hid (by simp only [budW]; rw [← HLK.out, ← HTK.out, ← hq])
                have HTN : Hid (t + P = (k + 1) * P) := Lib.hid (by rw [Nat.succ_mul, ← HTK.out])
                have hml : min l q ≤ 8193 := by omega
                clear hq e HQ
                go_wp2_with fail
                go_roundw
                case rel => exact ⟨k + 1, t + P, min l q, by omega, HTN.out, HLN.out, by go_num, by congr 1; first | omega | (split <;> omega), htP, hml, trivial⟩
                case measure => simp [intOf]; omega
          · have hkK : k = K := by
              rcases Nat.lt_or_ge k K with h5 | h5
              · have := Nat.mul_le_mul_right P (show k + 1 ≤ K from h5)
                rw [HKP.out, Nat.succ_mul, ← HTK.out] at this
                omega
              · omega
            have hR : R = (l : Int) := by rw [HE.out, HLK.out, hkK]
            have HR := Lib.hid hR
            have htm' : ¬ (t : Int) < (m : Int) := by omega
            clear hR hkK
            go_wp2_with fail
            go_ret
            exact ⟨by rw [HR.out]; rfl, hb1⟩
      · have e := H2.out (by omega) hm0 (by rw [Int.toNat_natCast]; exact hmp)
        have h1 : ¬ (m : Int) % (P : Int) = 0 := by rw [← Int.natCast_emod]; omega
        have h2 : ¬ (m : Int).tmod (P : Int) = 0 := by rw [Int.tmod_eq_emod_of_nonneg (Int.natCast_nonneg _)]; exact h1
        have h3 : ((m : Int).tmod (P : Int) != 0) = true := bne_iff_ne.2 h2
        have h4 : ((m : Int) % (P : Int) != 0) = true := bne_iff_ne.2 h1
        subst e
        go_wp2_with fail
        go_ret
        exact ⟨rfl, hb1⟩
end Go.Proofs.YtebcfiifaclniaaGreat

/- Rows of partitions, of channels in memory; whether a row of runs holds what is asked, by the document's own answer (that it answers). -/
namespace Go.Proofs.YtebcfiifaclniaaGreat
open Go.RowKit Tab
set_option linter.unusedSimpArgs false
set_option linter.unusedVariables false

section
variable {α : Type} {f : α → List Value} {s : Nat}
theorem flat_get (hf : ∀ x, (f x).length = s) (l : List α) (i k : Nat) (x : α) (hx : l[i]? = some x) (hk : k < s) : (l.flatMap f)[i * s + k]? = (f x)[k]? := by
  induction l generalizing i with
  | nil => simp at hx
  | cons y l ih =>
    rw [List.flatMap_cons]
    cases i with
    | zero =>
      simp at hx
      subst hx
      rw [Nat.zero_mul, Nat.zero_add, List.getElem?_append_left (by rw [hf]; exact hk)]
    | succ i =>
      rw [List.getElem?_append_right (by rw [hf, Nat.succ_mul]; omega), hf]
      have := ih i (by simpa using hx)
      rw [← this]
      congr 1
      rw [Nat.succ_mul]
      omega
end
/-- A slice at A, n long, of structs, each in s cells, holds l. -/
structure RdB {α : Type} (f : α → List Value) (w : World) (B : Nat) (A : Option Addr) (n : Nat) (l : List α) : Prop where
  len : l.length = n
  rd : RdV w B A (l.flatMap f)
section
variable {α : Type} {f : α → List Value} {s : Nat} {w w' : World} {B n : Nat} {A : Option Addr} {l : List α}
theorem RdB.on (h : RdB f w w.heap.size A n l) (hb : Below w.heap.size w w') : RdB f w' w'.heap.size A n l := ⟨h.len, (h.rd.below hb).more hb.size⟩
theorem RdB.at_ (h : RdB f w B A n l) (hf : ∀ x, (f x).length = s) (hs : 0 < s) {i : Nat} (hi : i < n) : ∃ (ad : Addr) (x : α), A = some ad ∧ ad.block < B ∧ l[i]? = some x ∧ (∀ v, (f x)[0]? = some v → w.cell? (ad.add (i * s)) = some v) ∧
    ∀ k v, 0 < k → (f x)[k]? = some v → w.cell? ⟨(ad.add (i * s)).block, (ad.add (i * s)).off + k, none⟩ = some v := by
  have hl : i < l.length := by rw [h.len]; exact hi
  have hx : l[i]? = some l[i] := List.getElem?_eq_getElem hl
  have hpos : 0 < (l.flatMap f).length := by
    cases l with
    | nil => simp at hl
    | cons y l => rw [List.flatMap_cons, List.length_append, hf]; omega
  obtain ⟨ad, e, hb, hc⟩ := h.rd hpos
  refine ⟨ad, l[i], e, hb, hx, fun v hv => ?_, fun k v hk hv => ?_⟩
  · have := flat_get hf l i 0 _ hx hs
    rw [Nat.add_zero] at this
    exact hc _ v (this.trans hv)
  · have hks : k < s := by rw [← hf l[i]]; exact (List.getElem?_eq_some_iff.1 hv).1
    have := flat_get hf l i k _ hx hks
    have e1 : (⟨(ad.add (i * s)).block, (ad.add (i * s)).off + k, none⟩ : Addr) = ad.add (i * s + k) := by
      rw [← add_add]
      generalize ad.add (i * s) = p
      unfold Addr.add
      rw [if_neg (by omega)]
    rw [e1]
    exact hc _ v (this.trans hv)
end
def cc (x : ChV) : List Value := [.int .i64 x.from_, .int .i64 x.to_, .bool x.queue, .int .i64 x.cap, .int .u32 x.max, .int .i64 x.late]
def pcl (x : PtV) : List Value := [.string x.name, .int .i64 x.bud, .int .i64 x.per, .bool x.sched, .bool x.stop, .slice x.pa x.pn x.pc, .int .i64 x.h0, .int .i64 x.h1, .int .i64 x.h2, .int .i64 x.h3, .int .i64 x.h4]
theorem cc_len (x : ChV) : (cc x).length = 6 := rfl
theorem pcl_len (x : PtV) : (pcl x).length = 11 := rfl
/-- It answers a number, and leaves what was there. -/
def SomI (w : World) (e : Ending) (w' : World) : Prop := ∃ z, e = .returned (.int .i64 z) ∧ Below w.heap.size w w'
set_option maxRecDepth 100000 in
set_option maxHeartbeats 4000000 in
theorem holds_any (A1 A2 A3 A4 : Option Addr) (n1 n2 n3 n4 c1 c2 c3 c4 : Nat) (P : List PtV) (C : List ChV) (L : List Rn) (w : World) (hP : RdB pcl w w.heap.size A1 n1 P) (hC : RdB cc w w.heap.size A2 n2 C) (hL : RdR w w.heap.size A4 n4 L)
    (q1 : n1 ≤ 1048576) (q2 : n2 ≤ 1048576) (q4 : n4 ≤ c4) (q5 : n4 ≤ 1048576) (ht : ticks L ≤ 8192) (hz : ∀ x ∈ P, In64 x.per) :
    Calls Tryz.prog 68 #[.agg #[.slice A1 n1 c1, .slice A2 n2 c2, .slice A3 n3 c3], .slice A4 n4 c4] w (SomI w) := by
  have hb0 := bl1 w (.cells #[.slice A1 n1 c1, .slice A2 n2 c2, .slice A3 n3 c3] 27)
  have hP0 := hP.on hb0
  have hC0 := hC.on hb0
  have hL0 := hL.on hb0
  have m0 : (w.alloc (.cells #[.slice A1 n1 c1, .slice A2 n2 c2, .slice A3 n3 c3] 27)).cell? ⟨w.heap.size, 0, none⟩ = some (.slice A1 n1 c1) := World.cell?_alloc_mark _ _ _ _ _
  have hgs : w.heap.size < (w.alloc (.cells #[.slice A1 n1 c1, .slice A2 n2 c2, .slice A3 n3 c3] 27)).heap.size := by simp
  have HZ := Lib.hid hz
  clear hP hC hL hz
  go_enter Tryz.func68, Tryz.ntmps68
  go_wp2_with fail
  generalize w.alloc (.cells #[.slice A1 n1 c1, .slice A2 n2 c2, .slice A3 n3 c3] 27) = W at hb0 hP0 hC0 hL0 m0 hgs ⊢
  obtain ⟨g, hg⟩ : ∃ g, g = w.heap.size := ⟨_, rfl⟩
  rw [← hg] at m0 hgs ⊢
  have HG := Lib.hid hg
  have HM0 := Lib.hid m0
  clear hg m0
  go_loopw [6, 7, 13] (fun _ _ s wr => ∃ i : Nat, i ≤ n2 ∧ s = .int .i64 i ∧ Below W.heap.size W wr) (fun _ _ s _ => n2 - (intOf s).toNat)
  case atStart => exact ⟨0, by omega, rfl, Below.refl _ _⟩
  case round =>
    obtain ⟨i, hi, rfl, hb⟩ := hrel
    by_cases hlt : i < n2
    · obtain ⟨ad, x, rfl, had, hx, c0, ck⟩ := (hC0.on hb).at_ cc_len (by omega) hlt
      have d0 := c0 _ rfl
      have d1 := ck 1 _ (by omega) rfl
      have d2 := ck 2 _ (by omega) rfl
      have d3 := ck 3 _ (by omega) rfl
      have d4 := ck 4 _ (by omega) rfl
      have d5 := ck 5 _ (by omega) rfl
      obtain ⟨xf, xt, xq, xc, xm, xl⟩ := x
      dsimp only at d0 d1 d2 d3 d4 d5
      have hbx := bl1 wr (.cells #[.int .i64 xf, .int .i64 xt, .bool xq, .int .i64 xc, .int .u32 xm, .int .i64 xl] 47)
      have hb1 := hb.trans (hbx.mono hb.size)
      have HLT := Lib.hid (late_any A4 n4 c4 L xf xt _ (hL0.on hb1) q4 q5 ht)
      have HB1 := Lib.hid hb1
      clear c0 ck hx hbx hb1
      go_wp2_with fail
      refine HLT.out.mono ?_
      rintro e w5 ⟨rfl, hb5⟩
      have e5 : w5.cell? ⟨wr.heap.size, 5, none⟩ = some (.int .i64 xl) := (hb5.cell (p := ⟨wr.heap.size, 5, none⟩) (by simp)).trans (World.cell?_alloc_mark _ _ _ _ _)
      have HB5 := Lib.hid (HB1.out.trans (hb5.mono HB1.out.size))
      clear hb5 HLT HB1 d0 d1 d2 d3 d4 d5
      generalize lateL (wordsL L) xf xt = z
      generalize wr.heap.size = gx at e5 ⊢
      go_wp2_with fail
      all_goals
        first
        | (go_ret; exact ⟨_, rfl, hb0.trans (HB5.out.mono hb0.size)⟩)
        | (go_roundw
           case rel => exact ⟨i + 1, by omega, by go_num, HB5.out⟩
           case measure => simp [intOf]; omega)
    · have hge : n2 ≤ i := by omega
      have m0 := (hb.cell (p := ⟨g, 0, none⟩) hgs).trans HM0.out
      go_wp2_with fail
      go_loopw [8, 9, 40] (fun _ _ s wx => ∃ j : Nat, j ≤ n1 ∧ s = .int .i64 j ∧ Below W.heap.size W wx) (fun _ _ s _ => n1 - (intOf s).toNat)
      case atStart => exact ⟨0, by omega, rfl, hb⟩
      case round =>
        obtain ⟨j, hj, rfl, hb⟩ := hrel
        by_cases hlt : j < n1
        · obtain ⟨ad, x, rfl, had, hx, c0, ck⟩ := (hP0.on hb).at_ pcl_len (by omega) hlt
          have d0 := c0 _ rfl
          have d1 := ck 1 _ (by omega) rfl
          have d2 := ck 2 _ (by omega) rfl
          have d3 := ck 3 _ (by omega) rfl
          have d4 := ck 4 _ (by omega) rfl
          have d5 := ck 5 _ (by omega) rfl
          have d6 := ck 6 _ (by omega) rfl
          have d7 := ck 7 _ (by omega) rfl
          have d8 := ck 8 _ (by omega) rfl
          have d9 := ck 9 _ (by omega) rfl
          have d10 := ck 10 _ (by omega) rfl
          have hzx := HZ.out x (List.mem_of_getElem? hx)
          obtain ⟨nm, bu, pe, sc, st, pa, pn, pc, h0, h1, h2, h3, h4⟩ := x
          dsimp only at d0 d1 d2 d3 d4 d5 d6 d7 d8 d9 d10 hzx
          have hbx := bl1 wr (.cells #[.string nm, .int .i64 bu, .int .i64 pe, .bool sc, .bool st, .slice pa pn pc, .int .i64 h0, .int .i64 h1, .int .i64 h2, .int .i64 h3, .int .i64 h4] 39)
          have hb1 := hb.trans (hbx.mono hb.size)
          have f1 : (wr.alloc (.cells #[.string nm, .int .i64 bu, .int .i64 pe, .bool sc, .bool st, .slice pa pn pc, .int .i64 h0, .int .i64 h1, .int .i64 h2, .int .i64 h3, .int .i64 h4] 39)).cell? ⟨wr.heap.size, 1, none⟩ = some (.int .i64 bu) := World.cell?_alloc_mark _ _ _ _ _
          have f2 : (wr.alloc (.cells #[.string nm, .int .i64 bu, .int .i64 pe, .bool sc, .bool st, .slice pa pn pc, .int .i64 h0, .int .i64 h1, .int .i64 h2, .int .i64 h3, .int .i64 h4] 39)).cell? ⟨wr.heap.size, 2, none⟩ = some (.int .i64 pe) := World.cell?_alloc_mark _ _ _ _ _
          have hgx : wr.heap.size < (wr.alloc (.cells #[.string nm, .int .i64 bu, .int .i64 pe, .bool sc, .bool st, .slice pa pn pc, .int .i64 h0, .int .i64 h1, .int .i64 h2, .int .i64 h3, .int .i64 h4] 39)).heap.size := by simp
          clear c0 ck hx hbx
          go_wp2_with fail
          generalize wr.alloc (.cells #[.string nm, .int .i64 bu, .int .i64 pe, .bool sc, .bool st, .slice pa pn pc, .int .i64 h0, .int .i64 h1, .int .i64 h2, .int .i64 h3, .int .i64 h4] 39) = W2 at hb1 f1 f2 hgx ⊢
          generalize wr.heap.size = gx at f1 f2 hgx ⊢
          have HB1 := Lib.hid hb1
          clear d0 d1 d2 d3 d4 d5 d6 d7 d8 d9 d10 hb1 had
          by_cases hbu : 0 < bu
          · have hbd : decide (0 < bu) = true := decide_eq_true hbu
            have HBG : Hid (Calls Tryz.prog 35 #[.slice A4 n4 c4, .int .i64 (j : Int), .int .i64 pe] W2.drew fun e w5 => e = .returned (.int .i64 (budL (wordsL L) (j : Int) pe)) ∧ Below W2.heap.size W2 w5 ∧ w5.cell? ⟨gx, 1, none⟩ = some (.int .i64 bu) ∧ w5.cell? ⟨gx, 2, none⟩ = some (.int .i64 pe)) := Lib.hid (by
              refine (budget_any A4 n4 c4 L (j : Int) pe W2.drew ((hL0.on HB1.out).below (Below.refl _ _).drew) q4 q5 ht hzx).mono ?_
              rintro e w5 ⟨rfl, hb5⟩
              have hb6 : Below W2.heap.size W2 w5 := ⟨hb5.os, hb5.tape, hb5.output, hb5.size, hb5.block⟩
              exact ⟨rfl, hb6, (hb6.cell (p := ⟨gx, 1, none⟩) hgx).trans f1, (hb6.cell (p := ⟨gx, 2, none⟩) hgx).trans f2⟩)
            generalize budL (wordsL L) (j : Int) pe = z at HBG
            go_region_with (go_at_call 35; refine HBG.out.mono ?_; rintro e w5 ⟨rfl, hb5, g1, g2⟩)
            go_wp2_with fail
            all_goals
              first
              | (go_ret; exact ⟨_, rfl, hb0.trans ((HB1.out.trans (hb5.mono HB1.out.size)).mono hb0.size)⟩)
              | (go_roundw
                 case rel => exact ⟨j + 1, by omega, by go_num, HB1.out.trans (hb5.mono HB1.out.size)⟩
                 case measure => simp [intOf]; omega)
          · have hbd : decide (0 < bu) = false := decide_eq_false hbu
            go_quiet (fail)
            go_wp2_with fail
            go_roundw
            case rel => exact ⟨j + 1, by omega, by go_num, Below.drewN HB1.out nq⟩
            case measure => simp [intOf]; omega
        · have hge : n1 ≤ j := by omega
          go_wp2_with fail
          go_ret
          exact ⟨_, rfl, hb0.trans (hb.mono hb0.size)⟩
end Go.Proofs.YtebcfiifaclniaaGreat

/- Closing a matrix: Warshall's recurrence, what it is (the least that is closed), what grows with it; who depends on whom, who sways whom, out of partitions and channels: plain mathematics. -/
namespace Go.Proofs.YtebcfiifaclniaaGreat
namespace Tab

/-- What is reached by ways through those below k. -/
def War (m : Nat → Nat → Bool) : Nat → Nat → Nat → Bool
  | 0, a, b => m a b
  | k + 1, a, b => War m k a b || (War m k a k && War m k k b)
theorem war_ge (m : Nat → Nat → Bool) (k a b : Nat) (h : War m k a b = true) : War m (k + 1) a b = true := by
  simp only [War, h, Bool.true_or]
theorem war_up (m : Nat → Nat → Bool) (k d a b : Nat) (h : War m k a b = true) : War m (k + d) a b = true := by
  induction d with
  | zero => exact h
  | succ d ih => exact war_ge m (k + d) a b ih
theorem war_from (m : Nat → Nat → Bool) (n a b : Nat) (h : m a b = true) : War m n a b = true := by
  have := war_up m 0 n a b h
  rwa [Nat.zero_add] at this
/-- Row and column k stay in step k: so it may be done in place. -/
theorem war_col (m : Nat → Nat → Bool) (k a : Nat) : War m (k + 1) a k = War m k a k := by
  simp only [War]
  cases War m k a k <;> simp
theorem war_row (m : Nat → Nat → Bool) (k b : Nat) : War m (k + 1) k b = War m k k b := by
  simp only [War]
  cases War m k k k <;> cases War m k k b <;> simp
theorem war_step {m : Nat → Nat → Bool} {k a b : Nat} : War m (k + 1) a b = true ↔ War m k a b = true ∨ (War m k a k = true ∧ War m k k b = true) := by
  simp only [War, Bool.or_eq_true, Bool.and_eq_true]
theorem war_trans (m : Nat → Nat → Bool) (k : Nat) : ∀ a b c, c < k → War m k a c = true → War m k c b = true → War m k a b = true := by
  induction k with
  | zero => intro a b c h; omega
  | succ k ih =>
    intro a b c hc h1 h2
    by_cases hk : c = k
    · subst hk
      rw [war_col] at h1
      rw [war_row] at h2
      exact war_step.2 (.inr ⟨h1, h2⟩)
    · have hlt : c < k := by omega
      rw [war_step] at h1 h2 ⊢
      rcases h1 with h1 | ⟨h1, h1'⟩ <;> rcases h2 with h2 | ⟨h2, h2'⟩
      · exact .inl (ih a b c hlt h1 h2)
      · exact .inr ⟨ih a k c hlt h1 h2, h2'⟩
      · exact .inr ⟨h1, ih k b c hlt h1' h2⟩
      · exact .inr ⟨h1, h2'⟩
/-- Closed below n. -/
def Shut (n : Nat) (M : Nat → Nat → Bool) : Prop := ∀ a b c, a < n → b < n → c < n → M a c = true → M c b = true → M a b = true
theorem war_shut (m : Nat → Nat → Bool) (n : Nat) : Shut n (War m n) := fun a b c _ _ hc h1 h2 => war_trans m n a b c hc h1 h2
/-- No closed one that has m has less. -/
theorem war_least {m M : Nat → Nat → Bool} {n : Nat} (hM : Shut n M) (hm : ∀ a b, a < n → b < n → m a b = true → M a b = true) (k : Nat) (hk : k ≤ n) : ∀ a b, a < n → b < n → War m k a b = true → M a b = true := by
  induction k with
  | zero => intro a b ha hb h; exact hm a b ha hb h
  | succ k ih =>
    intro a b ha hb h
    rcases war_step.1 h with h | ⟨h1, h2⟩
    · exact ih (by omega) a b ha hb h
    · exact hM a b k ha hb (by omega) (ih (by omega) a k ha (by omega) h1) (ih (by omega) k b (by omega) hb h2)
/-- What is closed stays. -/
theorem war_stays {M : Nat → Nat → Bool} {n : Nat} (hM : Shut n M) (a b : Nat) (ha : a < n) (hb : b < n) : War M n a b = M a b := by
  rw [Bool.eq_iff_iff]
  exact ⟨war_least hM (fun _ _ _ _ h => h) n (Nat.le_refl _) a b ha hb, war_from M n a b⟩
/-- Whatever closes m to the least is this. -/
theorem war_is {m M : Nat → Nat → Bool} {n : Nat} (hM : Shut n M) (hm : ∀ a b, a < n → b < n → m a b = true → M a b = true) (hl : ∀ a b, a < n → b < n → M a b = true → War m n a b = true) (a b : Nat) (ha : a < n) (hb : b < n) : M a b = War m n a b := by
  rw [Bool.eq_iff_iff]
  exact ⟨hl a b ha hb, war_least hM hm n (Nat.le_refl _) a b ha hb⟩
/-- More is reached by more. -/
theorem war_more {m M : Nat → Nat → Bool} {n : Nat} (hm : ∀ a b, a < n → b < n → m a b = true → M a b = true) : ∀ a b, a < n → b < n → War m n a b = true → War M n a b = true :=
  war_least (war_shut M n) (fun a b ha hb h => war_from M n a b (hm a b ha hb h)) n (Nat.le_refl _)
/-- It hangs on what is below n alone. -/
theorem war_congr {m M : Nat → Nat → Bool} {n : Nat} (h : ∀ a b, a < n → b < n → m a b = M a b) (k : Nat) (hk : k ≤ n) : ∀ a b, a < n → b < n → War m k a b = War M k a b := by
  induction k with
  | zero => intro a b ha hb; exact h a b ha hb
  | succ k ih =>
    intro a b ha hb
    simp only [War]
    rw [ih (by omega) a b ha hb, ih (by omega) a k ha (by omega), ih (by omega) k b (by omega) hb]

/-- A partition: may it change the schedule, stop all. -/
structure Pt where
  sched : Bool
  stop : Bool
/-- A channel: from whom, to whom, is it a queue. -/
structure Ch where
  from_ : Int
  to_ : Int
  queue : Bool
def inP (n : Nat) (p : Int) : Bool := decide (0 ≤ p) && decide (p < n)
def schedOf (P : List Pt) (a : Nat) : Bool := (P[a]?.map (·.sched)).getD false
def stopOf (P : List Pt) (a : Nat) : Bool := (P[a]?.map (·.stop)).getD false
/-- Does a channel join a and b, this way? -/
def joins (n : Nat) (x : Ch) (a b : Nat) : Bool := inP n x.from_ && inP n x.to_ && decide (x.from_ = a) && decide (x.to_ = b)
def depF (P : List Pt) (C : List Ch) (a b : Nat) : Bool := decide (a = b) || (schedOf P a && schedOf P b) || C.any fun x => joins P.length x a b || joins P.length x b a
def swayF (P : List Pt) (C : List Ch) (a b : Nat) : Bool := decide (a = b) || schedOf P a || stopOf P a || C.any fun x => joins P.length x a b || (x.queue && joins P.length x b a)
theorem depF_sym (P : List Pt) (C : List Ch) (a b : Nat) : depF P C a b = depF P C b a := by
  unfold depF
  congr 1
  · congr 1
    · exact decide_eq_decide.2 eq_comm
    · exact Bool.and_comm _ _
  · congr 1
    funext x
    exact Bool.or_comm _ _
theorem depF_self (P : List Pt) (C : List Ch) (a : Nat) : depF P C a a = true := by simp [depF]
theorem swayF_self (P : List Pt) (C : List Ch) (a : Nat) : swayF P C a a = true := by simp [swayF]
theorem depF_chan {P : List Pt} {C : List Ch} {x : Ch} {a b : Nat} (hx : x ∈ C) (h : joins P.length x a b = true) : depF P C a b = true ∧ depF P C b a = true := by
  have h1 : depF P C a b = true := by
    unfold depF
    simp only [Bool.or_eq_true, List.any_eq_true]
    exact .inr ⟨x, hx, .inl h⟩
  exact ⟨h1, by rw [depF_sym]; exact h1⟩
theorem swayF_chan {P : List Pt} {C : List Ch} {x : Ch} {a b : Nat} (hx : x ∈ C) (h : joins P.length x a b = true) : swayF P C a b = true ∧ (x.queue = true → swayF P C b a = true) := by
  unfold swayF
  simp only [Bool.or_eq_true, List.any_eq_true, Bool.and_eq_true]
  exact ⟨.inr ⟨x, hx, .inl h⟩, fun hq => .inr ⟨x, hx, .inr ⟨hq, h⟩⟩⟩
/-- With a channel more nobody sways fewer. -/
theorem swayF_more (P : List Pt) (C D : List Ch) (a b : Nat) (h : swayF P C a b = true) : swayF P (C ++ D) a b = true := by
  unfold swayF at h ⊢
  rw [List.any_append]
  revert h
  cases decide (a = b) <;> cases schedOf P a <;> cases stopOf P a <;> cases (C.any fun x => joins P.length x a b || (x.queue && joins P.length x b a)) <;> simp
/-- The channels one by one, from the first on: what a loop over them has done. -/
theorem depF_snoc (P : List Pt) (C : List Ch) (x : Ch) (a b : Nat) : depF P (C ++ [x]) a b = (depF P C a b || (joins P.length x a b || joins P.length x b a)) := by
  unfold depF
  rw [List.any_append, List.any_cons, List.any_nil, Bool.or_false, Bool.or_assoc _ _ (joins P.length x a b || joins P.length x b a)]
theorem swayF_snoc (P : List Pt) (C : List Ch) (x : Ch) (a b : Nat) : swayF P (C ++ [x]) a b = (swayF P C a b || (joins P.length x a b || (x.queue && joins P.length x b a))) := by
  unfold swayF
  rw [List.any_append, List.any_cons, List.any_nil, Bool.or_false, Bool.or_assoc _ _ (joins P.length x a b || (x.queue && joins P.length x b a))]
/-- Who reaches p, rising. -/
def reachL (P : List Pt) (C : List Ch) (p : Nat) : List Nat := (List.range P.length).filter fun a => War (swayF P C) P.length a p
theorem reachL_self (P : List Pt) (C : List Ch) (p : Nat) (h : p < P.length) : p ∈ reachL P C p := by
  unfold reachL
  rw [List.mem_filter, List.mem_range]
  exact ⟨h, war_from _ _ _ _ (swayF_self P C p)⟩
theorem filter_sub {q r : Nat → Bool} (l : List Nat) (h : ∀ a ∈ l, q a = true → r a = true) : (l.filter q).Sublist (l.filter r) := by
  induction l with
  | nil => exact List.Sublist.refl _
  | cons x l ih =>
    have h1 := ih fun a ha => h a (by simp [ha])
    cases hq : q x with
    | true => rw [List.filter_cons_of_pos hq, List.filter_cons_of_pos (h x (by simp) hq)]; exact h1.cons_cons x
    | false =>
      rw [List.filter_cons_of_neg (by simp [hq])]
      cases hr : r x with
      | true => rw [List.filter_cons_of_pos hr]; exact h1.cons x
      | false => rw [List.filter_cons_of_neg (by simp [hr])]; exact h1
/-- With channels more it is reached by those, and others between them. -/
theorem reachL_more (P : List Pt) (C D : List Ch) (p : Nat) (hp : p < P.length) : (reachL P C p).Sublist (reachL P (C ++ D) p) := by
  unfold reachL
  refine filter_sub _ fun a ha h => ?_
  rw [List.mem_range] at ha
  exact war_more (fun x y _ _ h => swayF_more P C D x y h) a p ha hp h
end Tab
end Go.Proofs.YtebcfiifaclniaaGreat
