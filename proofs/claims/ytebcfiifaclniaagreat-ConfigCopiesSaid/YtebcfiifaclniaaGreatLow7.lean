/- Contracts and mathematics that the texts behind it stand on: Rtc, Trow, Of, Rof, Ofg, Wher, Frm, Ask, Cfgs. -/
import Derived.Test.YtebcfiifaclniaaGreatLow3
import Derived.Test.YtebcfiifaclniaaGreatLow4
import Derived.Test.YtebcfiifaclniaaGreatLow2
import Derived.Test.YtebcfiifaclniaaGreatLow6
import Derived.Test.YtebcfiifaclniaaGreatLow5
/- Tables that may be, and others. -/
namespace Go.Proofs.YtebcfiifaclniaaGreat
open Go.RowKit Tab
set_option linter.unusedSimpArgs false
set_option linter.unusedVariables false

theorem rt_cases (n D T : Nat) : (rt n D T = 0 ∧ n ≤ 128 ∧ D ≤ 16 ∧ T ≤ 4096) ∨ ¬ rt n D T = 0 := by
  unfold rt
  by_cases h1 : 128 < n
  · rw [if_pos h1]; exact .inr (by omega)
  · by_cases h2 : 16 < D
    · rw [if_neg h1, if_pos h2]; exact .inr (by omega)
    · by_cases h3 : 4096 < T
      · rw [if_neg h1, if_neg h2, if_pos h3]; exact .inr (by omega)
      · rw [if_neg h1, if_neg h2, if_neg h3]; exact .inl ⟨rfl, by omega, by omega, by omega⟩
set_option maxHeartbeats 400000 in
theorem right_long (A : Option Addr) (n cap : Nat) (w : World) (h1 : 128 < n) (hn : n ≤ 140737488351232) : Calls Tryz.prog 69 #[.slice A n cap] w (Ans (.int .i64 3) w) := by
  have h1' : (128 : Int) < (n : Int) := by omega
  go_enter Tryz.func69, Tryz.ntmps69
  go_wp2_with fail
  go_ret
  exact ⟨rfl, Below.refl _ _⟩
set_option maxHeartbeats 400000 in
theorem rright_long (A : Option Addr) (n cap : Nat) (w : World) (h1 : 128 < n) (hn : n ≤ 140737488351232) : Calls Tryz.prog 47 #[.slice A n cap] w (Ans (.int .i64 3) w) := by
  have h1' : (128 : Int) < (n : Int) := by omega
  go_enter Tryz.func47, Tryz.ntmps47
  go_wp2_with fail
  go_ret
  exact ⟨rfl, Below.refl _ _⟩
end Go.Proofs.YtebcfiifaclniaaGreat

/- A row of runs that is made of a tape of numbers. -/
namespace Go.Proofs.YtebcfiifaclniaaGreat
open Go.RowKit Tab
set_option linter.unusedSimpArgs false
set_option linter.unusedVariables false

/-- A run of the kind that a tape makes. -/
def Fair (parts : Nat) (r : Rn) : Prop := 1 ≤ r.n ∧ r.n ≤ 4 ∧ -1 ≤ r.p ∧ r.p < parts
theorem fair_ticks {parts : Nat} {L : List Rn} (h : ∀ r ∈ L, Fair parts r) : ticks L ≤ 4 * L.length := by
  induction L with
  | nil => simp [ticks]
  | cons x L ih =>
    have h1 := h x (by simp)
    have h2 := ih fun r hr => h r (by simp [hr])
    unfold Fair at h1
    simp only [ticks, List.length_cons]
    omega
/-- A row of runs, new; of what was there the tape alone has turned. -/
def RowT (B b : Nat) (A : Option Addr) (m c : Nat) (f : Nat → Int) (parts most : Nat) (w : World) (e : Ending) (w' : World) : Prop :=
  ∃ (L : List Rn) (A' : Option Addr) (n' c' at' : Nat), e = .returned (.slice A' n' c') ∧ (∀ r ∈ L, Fair parts r) ∧ OwnV 95 2 w' w.heap.size A' n' c' (rs L) ∧ 1 ≤ n' ∧ n' ≤ most ∧ TapeW w' B b A m c f at' ∧ w.grownBy w' (some b)
theorem OwnV.gb {E s : Nat} {w w' : World} {B n c b : Nat} {A : Option Addr} {l : List Value} (h : OwnV E s w B A n c l) (hg : w.grownBy w' (some b)) (hb : b < B) : OwnV E s w' B A n c l :=
  h.keep fun k hk hlt => hg.block k hlt (fun e => by injection e with e; omega)
/-- A row of runs, new; what was there is as it was. -/
def RowB (parts most : Nat) (w : World) (e : Ending) (w' : World) : Prop :=
  ∃ (L : List Rn) (A' : Option Addr) (n' c' : Nat), e = .returned (.slice A' n' c') ∧ (∀ r ∈ L, Fair parts r) ∧ RdR w' w'.heap.size A' n' L ∧ n' ≤ c' ∧ 1 ≤ n' ∧ n' ≤ most ∧ Below w.heap.size w w'
end Go.Proofs.YtebcfiifaclniaaGreat

/- The runs of a table, by the program. -/
namespace Go.Proofs.YtebcfiifaclniaaGreat
open Go.RowKit Tab
set_option linter.unusedSimpArgs false
set_option linter.unusedVariables false

theorem Cur.belowB {w w' : World} {b B : Nat} {A : Option Addr} {n cap : Nat} {l : List Nd} {td : List Rn} {tk gn : Nat} (h : Cur w b A n cap l td tk gn) (hb : Below B w w') (hlt : b < B) : Cur w' b A n cap l td tk gn := by
  obtain ⟨c, st, p, hB, r⟩ := h.ex
  exact ⟨⟨⟨h.tb.rd.len, h.tb.rd.rd.keep fun q hq => World.cell?_of_block (hb.block q.block (by omega)), h.tb.rd.bd⟩, h.tb.cap, h.tb.hn⟩, ⟨c, st, p, hB.keep (hb.block b hlt), r⟩, h.low, h.low0, h.sum, h.pos⟩
set_option maxRecDepth 100000 in
set_option maxHeartbeats 4000000 in
theorem pleaves_any (A : Option Addr) (n cap : Nat) (x : Nd) (k : F) (w : World) (h : RdN w w.heap.size A n (x :: k.flat)) (hc : n ≤ cap) (hok : (F.cons x k .nil).ok) (hn : n ≤ 128) (hd : k.dep + 1 ≤ 16) (hl : F.tick x k.len ≤ 4096) :
    Calls Tryz.prog 71 #[.slice A n cap] w (MadeR (one x k.lvs) w) := by
  have hN := new_right A n cap x k w h hc hok hn hd hl
  have hpos : ∀ r ∈ one x k.lvs, 1 ≤ r.n := fun r hr => lvs_pos hok r (by simpa [F.lvs] using hr)
  have hlen := length_le_ticks hpos
  rw [one_ticks, lvs_ticks] at hlen
  unfold Born at hN
  generalize x :: k.flat = l at hN h
  generalize one x k.lvs = L at hN hlen ⊢
  have hLen : L.length ≤ 4096 := by omega
  have HN := Lib.hid hN
  clear hN hpos hlen hok h
  go_enter Tryz.func71, Tryz.ntmps71
  go_wp2_with fail
  refine HN.out.mono ?_
  rintro e w1 ⟨b, A2, n2, c2, rfl, hC, hbb, hb1⟩
  have HC := Lib.hid hC
  have hblt := hC.lt
  clear hC HN
  go_wp2_with fail
  go_loopw [3] (fun q wr => ∃ (i c' gn : Nat) (A' : Option Addr), i ≤ L.length ∧ q = .slice A' i c' ∧ OwnV 95 2 wr w1.heap.size A' i c' (rs (L.take i)) ∧ Cur wr b A2 n2 c2 l (L.drop i) 0 gn ∧ Below w.heap.size w wr ∧ w1.heap.size ≤ wr.heap.size) (fun q _ => L.length - lenOf q)
  case atStart => exact ⟨0, 0, 0, none, by omega, rfl, by simpa [rs] using OwnV.nil _ _ _ _, by simpa using HC.out, hb1, Nat.le_refl _⟩
  case round =>
    obtain ⟨i, c', gn, A', hi, rfl, how, hC, hb, hsz⟩ := hrel
    have HOW := Lib.hid how
    have HCC := Lib.hid hC
    clear how hC HC
    by_cases hlt : i < L.length
    · obtain ⟨r, hr⟩ : ∃ r, L[i]? = some r := ⟨_, List.getElem?_eq_getElem hlt⟩
      have hC := HCC.out
      rw [drop_more hr] at hC
      have hnx := next_some b A2 n2 c2 l r _ 0 gn wr hC
      rw [Nat.sub_zero] at hnx
      have htk : rs (L.take (i + 1)) = rs (L.take i) ++ rs [r] := by
        obtain ⟨hi', e⟩ := List.getElem?_eq_some_iff.1 hr
        rw [List.take_succ_eq_append_getElem hi', rs_append, e]
      have HNX := Lib.hid hnx
      have HTK := Lib.hid htk
      clear hC hnx htk hr HCC
      generalize hrp : r.p = rp at HNX
      generalize hrn : r.n = rn at HNX
      have hrs : rs [r] = [.int .i64 rp, .int .i64 (rn : Int)] := by rw [← hrp, ← hrn]; rfl
      have HRS := Lib.hid hrs
      clear hrs hrp hrn
      go_wp2_with fail
      refine HNX.out.mono ?_
      rintro e w4 ⟨rfl, hC4, hG4⟩
      have how4 := HOW.out.gb hG4 hblt
      have k4 := below_gb hb hG4 hbb hb.size
      have HCC := Lib.hid hC4
      have hs4 := hG4.size
      clear hC4 hG4 HOW HNX
      have hl4 := bl1 w4 (.cells #[.int .i64 rp, .int .i64 (rn : Int)] 95)
      have how5 := how4.below rfl hl4
      have k5 := k4.trans (hl4.mono k4.size)
      have hC5 := HCC.out.below hl4
      have hs5 := hl4.size
      have b0 : (w4.alloc (.cells #[.int .i64 rp, .int .i64 (rn : Int)] 95)).cell? ⟨w4.heap.size, 0, none⟩ = some (.int .i64 rp) := World.cell?_alloc_mark _ _ _ _ _
      have b1 : (w4.alloc (.cells #[.int .i64 rp, .int .i64 (rn : Int)] 95)).cell? ⟨w4.heap.size, 1, none⟩ = some (.int .i64 (rn : Int)) := World.cell?_alloc_mark _ _ _ _ _
      have HC5 := Lib.hid hC5
      have HO5 := Lib.hid how5
      have HK5 := Lib.hid k5
      clear hC5 how5 k5 how4 k4 hl4 HCC
      have hlit := fun W : World => bl1 W (.cells #[.int .i64 rp, .int .i64 (rn : Int)] 95)
      have HLIT := Lib.hid hlit
      have hrd := rdV_new (w4.alloc (.cells #[.int .i64 rp, .int .i64 (rn : Int)] 95)) #[.int .i64 rp, .int .i64 (rn : Int)] 95 (rs [r]) HRS.out.symm
      have how6 := HO5.out.below rfl (HLIT.out (w4.alloc (.cells #[.int .i64 rp, .int .i64 (rn : Int)] 95)))
      have hB6 := (HLIT.out (w4.alloc (.cells #[.int .i64 rp, .int .i64 (rn : Int)] 95))).size
      rw [show (w4.alloc (.cells #[.int .i64 rp, .int .i64 (rn : Int)] 95)).heap.size = w4.heap.size + 1 by simp] at hrd
      clear hlit
      go_wp2_with (at_builtin; go_loud (refine wpList_appV elR rfl (.tmp 17) (.tmp 19) rfl rfl w1.heap.size A' i c' _ rfl how6 _ 1 1 _ _ rfl hrd rfl (rs_one _) (by omega) (by unfold maxLen; omega) (by omega) (i + 1) rfl (rs (L.take (i + 1))) HTK.out.symm ?_; intro A2 c2 w2 hw2 hb2 _))
      go_roundw
      case rel =>
        have k6 := HK5.out.trans ((HLIT.out _).mono HK5.out.size)
        exact ⟨i + 1, c2, _, A2, by omega, rfl, hw2, ((HC5.out.below (HLIT.out _)).belowB hb2 hblt), k6.trans (hb2.mono hb1.size), by have := hb2.size; omega⟩
      case measure => simp [lenOf]; omega
    · have e : L.drop i = [] := List.drop_eq_nil_of_le (by omega)
      have e2 : L.take i = L := List.take_of_length_le (by omega)
      have hC := HCC.out
      rw [e] at hC
      have how := HOW.out
      rw [e2] at how
      have HOW2 := Lib.hid how
      have hi2 : i = L.length := by omega
      have hnx := next_end b A2 n2 c2 l 0 gn wr hC
      have HNX := Lib.hid hnx
      clear e e2 hC how HOW HCC hnx
      subst hi2
      generalize hq : L.length = q at *
      have HQ := Lib.hid hq
      clear hq
      go_wp2_with fail
      refine HNX.out.mono ?_
      rintro e w4 ⟨rfl, hb4⟩
      go_wp2_with fail
      go_ret
      have hl4 := bl1 w4 (.cells #[.int .i64 0, .int .i64 0] 95)
      have hb5 := hb4.trans (hl4.mono hb4.size)
      have how5 := HOW2.out.below rfl hb5
      exact ⟨A', c', by rw [HQ.out]; rfl, by rw [HQ.out]; exact how5.rdr, by rw [HQ.out]; exact how5.cap, hb.trans (hb5.mono hb.size), (how5.weak hb1.size).newer⟩
/-- It answers a row of runs, new, and no refusal; if it is too long, that. -/
def OfR (T : List Rn) (w : World) (e : Ending) (w' : World) : Prop :=
  if 96 < T.length then Ans (.tuple #[.slice none 0 0, .int .i64 3]) w e w' else
    ∃ A c, e = .returned (.tuple #[.slice A T.length c, .int .i64 0]) ∧ RdR w' w'.heap.size A T.length T ∧ T.length ≤ c ∧ Below w.heap.size w w' ∧ ∀ ad, A = some ad → w.heap.size ≤ ad.block
set_option maxHeartbeats 800000 in
theorem of_wrong (A : Option Addr) (n cap : Nat) (w : World) (R : Int) (hR : Calls Tryz.prog 69 #[.slice A n cap] w (Ans (.int .i64 R) w)) (h : ¬ R = 0) :
    Calls Tryz.prog 60 #[.slice A n cap] w (Ans (.tuple #[.slice none 0 0, .int .i64 R]) w) := by
  have HR := Lib.hid hR
  have hne : (R != 0) = true := bne_iff_ne.2 h
  have hne2 : (R == 0) = false := beq_eq_false_iff_ne.2 h
  clear hR
  go_enter Tryz.func60, Tryz.ntmps60
  go_wp2_with fail
  refine HR.out.mono ?_
  rintro e w1 ⟨rfl, hb1⟩
  go_wp2_with fail
  go_ret2
  exact ⟨rfl, hb1⟩
set_option maxRecDepth 100000 in
set_option maxHeartbeats 1600000 in
theorem of_tree (A : Option Addr) (n cap : Nat) (x : Nd) (k : F) (w : World) (h : RdN w w.heap.size A n (x :: k.flat)) (hc : n ≤ cap) (hok : (F.cons x k .nil).ok) (hn : n ≤ 128) (hd : k.dep + 1 ≤ 16) (hl : F.tick x k.len ≤ 4096)
    (hR : Calls Tryz.prog 69 #[.slice A n cap] w (Ans (.int .i64 0) w)) :
    Calls Tryz.prog 60 #[.slice A n cap] w (OfR (tidy (one x k.lvs)) w) := by
  have hpos : ∀ r ∈ one x k.lvs, 1 ≤ r.n := fun r hr => lvs_pos hok r (by simpa [F.lvs] using hr)
  have hlen := length_le_ticks hpos
  have htk : ticks (one x k.lvs) ≤ 4096 := by rw [one_ticks, lvs_ticks]; exact hl
  have HL := Lib.hid fun w' (h' : RdN w' w'.heap.size A n (x :: k.flat)) => pleaves_any A n cap x k w' h' hc hok hn hd hl
  generalize one x k.lvs = L at HL hlen htk ⊢
  have HT := Lib.hid fun A2 c2 w2 (hr2 : RdR w2 w2.heap.size A2 L.length L) (hc2 : L.length ≤ c2) => tidy_any A2 L.length c2 L w2 hr2 hc2 (by omega) (by omega)
  generalize tidy L = T at HT ⊢
  generalize x :: k.flat = l at h HL
  unfold MadeR at HL HT
  have HR := Lib.hid hR
  clear hR hpos hok
  go_enter Tryz.func60, Tryz.ntmps60
  go_wp2_with fail
  refine HR.out.mono ?_
  rintro e w1 ⟨rfl, hb1⟩
  go_wp2_with fail
  refine (HL.out w1 (h.on hb1)).mono ?_
  rintro e w2 ⟨A2, c2, rfl, hr2, hc2, hb2, _⟩
  have k2 := hb1.trans (hb2.mono hb1.size)
  have HT2 := Lib.hid (HT.out A2 c2 w2 hr2 hc2)
  clear HT hr2 HL HR hb1 hb2
  generalize L.length = q at hc2 HT2 ⊢
  go_wp2_with fail
  refine HT2.out.mono ?_
  rintro e w3 ⟨A3, c3, rfl, hr3, hc3, hb3, hnw⟩
  have k3 := k2.trans (hb3.mono k2.size)
  have HW := Lib.hid fun ad e => Nat.le_trans k2.size (hnw ad e)
  clear hnw
  by_cases h96 : 96 < T.length
  · have H96 := Lib.hid h96
    have h96' : (96 : Int) < (T.length : Int) := by omega
    generalize T.length = m at h96' hc3 hr3 ⊢
    clear HT2 h96
    go_wp2_with fail
    go_ret2
    unfold OfR
    rw [if_pos H96.out]
    exact ⟨rfl, k3⟩
  · have H96 := Lib.hid h96
    have h96' : ¬ (96 : Int) < (T.length : Int) := by omega
    have HR3 := Lib.hid hr3
    clear hr3 HT2 h96
    generalize hm : T.length = m at h96' hc3 HR3 ⊢
    have HM := Lib.hid hm
    clear hm
    go_wp2_with fail
    go_ret2
    unfold OfR
    rw [if_neg H96.out]
    exact ⟨A3, c3, by rw [HM.out]; rfl, by rw [HM.out]; exact HR3.out, by rw [HM.out]; exact hc3, k3, HW.out⟩
end Go.Proofs.YtebcfiifaclniaaGreat

/- The runs of a table, by the document's own answer. -/
namespace Go.Proofs.YtebcfiifaclniaaGreat
open Go.RowKit Tab
set_option linter.unusedSimpArgs false
set_option linter.unusedVariables false

set_option maxHeartbeats 800000 in
theorem rof_wrong (A : Option Addr) (n cap : Nat) (w : World) (R : Int) (hR : Calls Tryz.prog 47 #[.slice A n cap] w (Ans (.int .i64 R) w)) (h : ¬ R = 0) :
    Calls Tryz.prog 32 #[.slice A n cap] w (Ans (.tuple #[.slice none 0 0, .int .i64 R]) w) := by
  have HR := Lib.hid hR
  have hne : (R != 0) = true := bne_iff_ne.2 h
  have hne2 : (R == 0) = false := beq_eq_false_iff_ne.2 h
  clear hR
  go_enter Tryz.func32, Tryz.ntmps32
  go_wp2_with fail
  refine HR.out.mono ?_
  rintro e w1 ⟨rfl, hb1⟩
  go_wp2_with fail
  go_ret2
  exact ⟨rfl, hb1⟩
set_option maxRecDepth 100000 in
set_option maxHeartbeats 1600000 in
theorem rof_tree (A : Option Addr) (n cap : Nat) (x : Nd) (k : F) (w : World) (h : RdN w w.heap.size A n (x :: k.flat)) (hc : n ≤ cap) (hok : (F.cons x k .nil).ok) (hn : n ≤ 128) (hd : k.dep + 1 ≤ 16) (hl : F.tick x k.len ≤ 4096)
    (hR : Calls Tryz.prog 47 #[.slice A n cap] w (Ans (.int .i64 0) w)) :
    Calls Tryz.prog 32 #[.slice A n cap] w (OfR (tidy (one x k.lvs)) w) := by
  have hpos : ∀ r ∈ one x k.lvs, 1 ≤ r.n := fun r hr => lvs_pos hok r (by simpa [F.lvs] using hr)
  have hlen := length_le_ticks hpos
  have htk : ticks (one x k.lvs) ≤ 4096 := by rw [one_ticks, lvs_ticks]; exact hl
  have HL := Lib.hid fun w' (h' : RdN w' w'.heap.size A n (x :: k.flat)) => rLeaves_right A n cap x k w' h' hc hok hn hl
  generalize one x k.lvs = L at HL hlen htk ⊢
  have HT := Lib.hid fun A2 c2 w2 (hr2 : RdR w2 w2.heap.size A2 L.length L) (hc2 : L.length ≤ c2) => rtidy_any A2 L.length c2 L w2 hr2 hc2 (by omega) (by omega)
  generalize tidy L = T at HT ⊢
  generalize x :: k.flat = l at h HL
  unfold MadeR at HL HT
  have HR := Lib.hid hR
  clear hR hpos hok
  go_enter Tryz.func32, Tryz.ntmps32
  go_wp2_with fail
  refine HR.out.mono ?_
  rintro e w1 ⟨rfl, hb1⟩
  go_wp2_with fail
  refine (HL.out w1 (h.on hb1)).mono ?_
  rintro e w2 ⟨A2, c2, rfl, hr2, hc2, hb2, _⟩
  have k2 := hb1.trans (hb2.mono hb1.size)
  have HT2 := Lib.hid (HT.out A2 c2 w2 hr2 hc2)
  clear HT hr2 HL HR hb1 hb2
  generalize L.length = q at hc2 HT2 ⊢
  go_wp2_with fail
  refine HT2.out.mono ?_
  rintro e w3 ⟨A3, c3, rfl, hr3, hc3, hb3, hnw⟩
  have k3 := k2.trans (hb3.mono k2.size)
  have HW := Lib.hid fun ad e => Nat.le_trans k2.size (hnw ad e)
  clear hnw
  by_cases h96 : 96 < T.length
  · have H96 := Lib.hid h96
    have h96' : (96 : Int) < (T.length : Int) := by omega
    generalize T.length = m at h96' hc3 hr3 ⊢
    clear HT2 h96
    go_wp2_with fail
    go_ret2
    unfold OfR
    rw [if_pos H96.out]
    exact ⟨rfl, k3⟩
  · have H96 := Lib.hid h96
    have h96' : ¬ (96 : Int) < (T.length : Int) := by omega
    have HR3 := Lib.hid hr3
    clear hr3 HT2 h96
    generalize hm : T.length = m at h96' hc3 HR3 ⊢
    have HM := Lib.hid hm
    clear hm
    go_wp2_with fail
    go_ret2
    unfold OfR
    rw [if_neg H96.out]
    exact ⟨A3, c3, by rw [HM.out]; rfl, by rw [HM.out]; exact HR3.out, by rw [HM.out]; exact hc3, k3, HW.out⟩
end Go.Proofs.YtebcfiifaclniaaGreat

/- Of, of any table: by the program and by the document's own answer. -/
namespace Go.Proofs.YtebcfiifaclniaaGreat
open Go.RowKit Tab
set_option linter.unusedSimpArgs false
set_option linter.unusedVariables false

/-- Why a table of n nodes, so deep, of these leaves, has no runs; 0 if it has. -/
def ofz (n D : Nat) (L : List Rn) : Int := if rt n D (ticks L) = 0 then (if 96 < (tidy L).length then 3 else 0) else rt n D (ticks L)
theorem ofz_ok {n D : Nat} {L : List Rn} (h : ofz n D L = 0) : n ≤ 128 ∧ D ≤ 16 ∧ ticks L ≤ 4096 ∧ (tidy L).length ≤ 96 := by
  unfold ofz at h
  rcases rt_cases n D (ticks L) with ⟨h0, h1, h2, h3⟩ | h0
  · rw [if_pos h0] at h
    split at h
    · omega
    · exact ⟨h1, h2, h3, by omega⟩
  · rw [if_neg h0] at h
    exact absurd h h0
theorem ofz_rep {n D m : Nat} {L : List Rn} (h : ofz n D L = 0) (hD : D ≤ 15) (h2 : ¬ ofz (1 + n) (D + 1) (reps m L) = 0) : 4096 < ticks L * m ∨ 96 < (tidy L).length * m ∨ 128 ≤ n := by
  obtain ⟨k1, k2, k3, k4⟩ := ofz_ok h
  by_cases h1 : 128 ≤ n
  · exact .inr (.inr h1)
  · by_cases h3 : 4096 < ticks L * m
    · exact .inl h3
    · have e : rt (1 + n) (D + 1) (ticks (reps m L)) = 0 := by
        unfold rt
        rw [ticks_reps, Nat.mul_comm, if_neg (by omega), if_neg (by omega), if_neg (by omega)]
      unfold ofz at h2
      rw [if_pos e] at h2
      have := tidy_reps_le m L
      split at h2
      · exact .inr (.inl (by omega))
      · exact absurd rfl h2
/-- It answers so much, and where it is 0 a row of runs, new. -/
def OfG (z : Int) (T : List Rn) (w : World) (e : Ending) (w' : World) : Prop :=
  ∃ (A : Option Addr) (m c : Nat), e = .returned (.tuple #[.slice A m c, .int .i64 z]) ∧ m ≤ c ∧ (z = 0 → RdR w' w'.heap.size A m T) ∧ Below w.heap.size w w'
theorem ofg_of {n D : Nat} {L : List Rn} {w w' : World} {e : Ending} (h0 : rt n D (ticks L) = 0) (h : OfR (tidy L) w e w') : OfG (ofz n D L) (tidy L) w e w' := by
  unfold OfR at h
  unfold OfG ofz
  rw [if_pos h0]
  split at h
  · rename_i h1
    rw [if_pos h1]
    exact ⟨none, 0, 0, h.1, Nat.le_refl _, fun h => by omega, h.2⟩
  · rename_i h1
    rw [if_neg h1]
    obtain ⟨A, c, rfl, hr, hc, hb, _⟩ := h
    exact ⟨A, _, c, rfl, hc, fun _ => hr, hb⟩
theorem ofg_wrong {n D : Nat} {L : List Rn} {w w' : World} {e : Ending} (h0 : ¬ rt n D (ticks L) = 0) (h : Ans (.tuple #[.slice none 0 0, .int .i64 (rt n D (ticks L))]) w e w') : OfG (ofz n D L) (tidy L) w e w' := by
  unfold OfG ofz
  rw [if_neg h0]
  exact ⟨none, 0, 0, h.1, Nat.le_refl _, fun h => absurd h h0, h.2⟩
theorem of_any (A : Option Addr) (n cap : Nat) (x : Nd) (k : F) (w : World) (h : RdN w w.heap.size A n (x :: k.flat)) (hc : n ≤ cap) (hok : (F.cons x k .nil).ok) (hn : n ≤ 1048576) :
    Calls Tryz.prog 60 #[.slice A n cap] w (OfG (ofz n (k.dep + 1) (one x k.lvs)) (tidy (one x k.lvs)) w) := by
  have hR := right_tree A n cap _ x k w h hc hn hok rfl
  have e : F.tick x k.len = ticks (one x k.lvs) := by rw [one_ticks, lvs_ticks]
  rcases rt_cases n (k.dep + 1) (F.tick x k.len) with ⟨h0, h1, h2, h3⟩ | h0
  · rw [h0] at hR
    rw [e] at h0
    exact (of_tree A n cap x k w h hc hok h1 h2 h3 hR).mono fun _ _ h => ofg_of h0 h
  · rw [e] at h0 hR
    exact (of_wrong A n cap w _ hR h0).mono fun _ _ h => ofg_wrong h0 h
theorem rof_any (A : Option Addr) (n cap : Nat) (x : Nd) (k : F) (w : World) (h : RdN w w.heap.size A n (x :: k.flat)) (hc : n ≤ cap) (hok : (F.cons x k .nil).ok) (hn : n ≤ 1048576) :
    Calls Tryz.prog 32 #[.slice A n cap] w (OfG (ofz n (k.dep + 1) (one x k.lvs)) (tidy (one x k.lvs)) w) := by
  have hR := rright_tree A n cap _ x k w h hc hn hok rfl
  have e : F.tick x k.len = ticks (one x k.lvs) := by rw [one_ticks, lvs_ticks]
  rcases rt_cases n (k.dep + 1) (F.tick x k.len) with ⟨h0, h1, h2, h3⟩ | h0
  · rw [h0] at hR
    rw [e] at h0
    exact (rof_tree A n cap x k w h hc hok h1 h2 h3 hR).mono fun _ _ h => ofg_of h0 h
  · rw [e] at h0 hR
    exact (rof_wrong A n cap w _ hR h0).mono fun _ _ h => ofg_wrong h0 h
/-- What the runs of a table that may be are. -/
theorem ofz_runs {x : Nd} {k : F} (hok : (F.cons x k .nil).ok) : 0 < (tidy (one x k.lvs)).length ∧ ∀ r ∈ tidy (one x k.lvs), 1 ≤ r.n ∧ -1 ≤ r.p ∧ r.p ≤ 5 := by
  constructor
  · have h1 := F.len_pos hok (by simp [F.cnt])
    have h2 : ticks (tidy (one x k.lvs)) = F.tick x k.len := by rw [ticks_tidy, one_ticks, lvs_ticks]
    rcases Nat.eq_zero_or_pos (tidy (one x k.lvs)).length with h | h
    · have e := List.eq_nil_of_length_eq_zero h
      rw [e] at h2
      simp only [ticks, F.len] at h1 h2
      omega
    · exact h
  · intro r hr
    refine ⟨(tidy_apart _).pos r hr, ?_⟩
    obtain ⟨q, hq, e⟩ := tidy_part hr
    have := lvs_parts hok q (by simpa [F.lvs] using hq)
    rw [e] at this
    exact this
end Go.Proofs.YtebcfiifaclniaaGreat

/- Whether a configuration may be, by the document's own answer (that it answers). -/
namespace Go.Proofs.YtebcfiifaclniaaGreat
open Go.RowKit Tab
set_option linter.unusedSimpArgs false
set_option linter.unusedVariables false

/-- A table in memory, with what it reads as. -/
structure TbV where
  A : Option Addr
  n : Nat
  c : Nat
  x : Nd
  k : F
def tcl (t : TbV) : List Value := [.slice t.A t.n t.c]
theorem tcl_len (t : TbV) : (tcl t).length = 1 := rfl
structure TbAt (w : World) (B : Nat) (t : TbV) : Prop where
  rd : RdN w B t.A t.n (t.x :: t.k.flat)
  cap : t.n ≤ t.c
  ok : (F.cons t.x t.k .nil).ok
  few : t.n ≤ 1048576
theorem TbAt.on {w w' : World} {t : TbV} (h : TbAt w w.heap.size t) (hb : Below w.heap.size w w') : TbAt w' w'.heap.size t := ⟨h.rd.on hb, h.cap, h.ok, h.few⟩
structure PtAt (w : World) (B : Nat) (x : PtV) : Prop where
  per : In64 x.per
  name : x.name.size ≤ 1048576
  few : x.pn ≤ 1048576
  procs : ProcsAt w B x.pa x.pn
theorem PtAt.on {w w' : World} {x : PtV} (h : PtAt w w.heap.size x) (hb : Below w.heap.size w w') : PtAt w' w'.heap.size x := ⟨h.per, h.name, h.few, h.procs.on hb⟩
/-- It answers an error and a place, and leaves what was there. -/
def SomE (w : World) (e : Ending) (w' : World) : Prop := ∃ z i, e = .returned (.tuple #[.int .i64 z, .int .i64 i]) ∧ Below w.heap.size w w'
set_option maxRecDepth 100000 in
set_option maxHeartbeats 4000000 in
theorem where_any (A1 A2 A3 : Option Addr) (n1 n2 n3 c1 c2 c3 : Nat) (P : List PtV) (C : List ChV) (T : List TbV) (w : World) (hP : RdB pcl w w.heap.size A1 n1 P) (hC : RdB cc w w.heap.size A2 n2 C) (hT : RdB tcl w w.heap.size A3 n3 T)
    (hp : ∀ x ∈ P, PtAt w w.heap.size x) (ht : ∀ t ∈ T, TbAt w w.heap.size t) :
    Calls Tryz.prog 52 #[.agg #[.slice A1 n1 c1, .slice A2 n2 c2, .slice A3 n3 c3]] w (SomE w) := by
  have hb0 := bl1 w (.cells #[.slice A1 n1 c1, .slice A2 n2 c2, .slice A3 n3 c3] 27)
  have HP := Lib.hid hP
  have HC := Lib.hid hC
  have HT := Lib.hid hT
  have HPT := Lib.hid hp
  have HTT := Lib.hid ht
  have m0 : (w.alloc (.cells #[.slice A1 n1 c1, .slice A2 n2 c2, .slice A3 n3 c3] 27)).cell? ⟨w.heap.size, 0, none⟩ = some (.slice A1 n1 c1) := World.cell?_alloc_mark _ _ _ _ _
  have m1 : (w.alloc (.cells #[.slice A1 n1 c1, .slice A2 n2 c2, .slice A3 n3 c3] 27)).cell? ⟨w.heap.size, 1, none⟩ = some (.slice A2 n2 c2) := World.cell?_alloc_mark _ _ _ _ _
  have m2 : (w.alloc (.cells #[.slice A1 n1 c1, .slice A2 n2 c2, .slice A3 n3 c3] 27)).cell? ⟨w.heap.size, 2, none⟩ = some (.slice A3 n3 c3) := World.cell?_alloc_mark _ _ _ _ _
  have hgs : w.heap.size < (w.alloc (.cells #[.slice A1 n1 c1, .slice A2 n2 c2, .slice A3 n3 c3] 27)).heap.size := by simp
  clear hP hC hT hp ht
  go_enter Tryz.func52, Tryz.ntmps52
  by_cases q1 : (n1 : Int) < 1
  · have d1 := decide_eq_true q1
    go_wp2_with fail
    go_ret2
    exact ⟨_, _, rfl, bl1 _ _⟩
  have d1 := decide_eq_false q1
  by_cases q2 : (6 : Int) < (n1 : Int)
  · have d2 := decide_eq_true q2
    go_wp2_with fail
    go_ret2
    exact ⟨_, _, rfl, bl1 _ _⟩
  have d2 := decide_eq_false q2
  by_cases q3 : (8 : Int) < (n2 : Int)
  · have d3 := decide_eq_true q3
    go_wp2_with fail
    go_ret2
    exact ⟨_, _, rfl, bl1 _ _⟩
  have d3 := decide_eq_false q3
  by_cases q4 : (n3 : Int) < 1
  · have d4 := decide_eq_true q4
    go_wp2_with fail
    go_ret2
    exact ⟨_, _, rfl, bl1 _ _⟩
  have d4 := decide_eq_false q4
  by_cases q5 : (3 : Int) < (n3 : Int)
  · have d5 := decide_eq_true q5
    go_wp2_with fail
    go_ret2
    exact ⟨_, _, rfl, bl1 _ _⟩
  have d5 := decide_eq_false q5
  go_wp2_with fail
  have r1 : n1 ≤ 6 := by omega
  have r2 : n2 ≤ 8 := by omega
  have r3 : n3 ≤ 3 := by omega
  clear q1 q2 q3 q4 q5 d1 d2 d3 d4 d5
  generalize w.alloc (.cells #[.slice A1 n1 c1, .slice A2 n2 c2, .slice A3 n3 c3] 27) = W at hb0 m0 m1 m2 hgs ⊢
  obtain ⟨g, hg⟩ : ∃ g, g = w.heap.size := ⟨_, rfl⟩
  rw [← hg] at m0 m1 m2 hgs ⊢
  have HG := Lib.hid hg
  have HB0 := Lib.hid hb0
  have HM := Lib.hid fun (W' : World) (hb : Below W.heap.size W W') (o : Nat) (v : Value) (hv : W.cell? ⟨g, o, none⟩ = some v) => (hb.cell (p := ⟨g, o, none⟩) hgs).trans hv
  have HW := Lib.hid fun (W' : World) (hb : Below W.heap.size W W') => hb0.trans (hb.mono hb0.size)
  have M0 := Lib.hid m0
  have M1 := Lib.hid m1
  have M2 := Lib.hid m2
  clear hg m0 m1 m2 hb0
  go_loopw [4, 5, 6, 47] (fun _ _ _ s wr => ∃ i : Nat, i ≤ n1 ∧ s = .int .i64 i ∧ Below W.heap.size W wr) (fun _ _ _ s _ => n1 - (intOf s).toNat)
  case atStart => exact ⟨0, by omega, rfl, Below.refl _ _⟩
  case round =>
    obtain ⟨i, hi, rfl, hb⟩ := hrel
    by_cases hlt : i < n1
    · obtain ⟨ad, x, rfl, had, hx, c0, ck⟩ := (HP.out.on (HW.out _ hb)).at_ pcl_len (by omega) hlt
      have hPA := (HPT.out x (List.mem_of_getElem? hx)).on (HW.out _ hb)
      have d0 := c0 _ rfl
      have d1 := ck 1 _ (by omega) rfl
      have d2 := ck 2 _ (by omega) rfl
      have d3 := ck 3 _ (by omega) rfl
      have d4 := ck 4 _ (by omega) rfl
      have d5 := ck 5 _ (by omega) rfl
      have d6 := ck 6 _ (by omega) rfl
      have d7 := ck 7 _ (by omega) rfl
      have d8 := ck 8 _ (by omega) rfl
      have d9 := ck 9 _ (by omega) rfl
      have d10 := ck 10 _ (by omega) rfl
      obtain ⟨nm, bu, pe, sc, st, pa, pn, pc, h0, h1, h2, h3, h4⟩ := x
      dsimp only at d0 d1 d2 d3 d4 d5 d6 d7 d8 d9 d10
      have hbx := bl1 wr (.cells #[.string nm, .int .i64 bu, .int .i64 pe, .bool sc, .bool st, .slice pa pn pc, .int .i64 h0, .int .i64 h1, .int .i64 h2, .int .i64 h3, .int .i64 h4] 39)
      have hb1 := hb.trans (hbx.mono hb.size)
      have hPA1 := Lib.hid (hPA.on hbx)
      have f : ∀ o v, (#[Value.string nm, .int .i64 bu, .int .i64 pe, .bool sc, .bool st, .slice pa pn pc, .int .i64 h0, .int .i64 h1, .int .i64 h2, .int .i64 h3, .int .i64 h4] : Array Value)[o]? = some v → (wr.alloc (.cells #[.string nm, .int .i64 bu, .int .i64 pe, .bool sc, .bool st, .slice pa pn pc, .int .i64 h0, .int .i64 h1, .int .i64 h2, .int .i64 h3, .int .i64 h4] 39)).cell? ⟨wr.heap.size, o, none⟩ = some v := fun o v hv => (World.cell?_alloc_mark _ _ _ _ _).trans hv
      have hgx : wr.heap.size < (wr.alloc (.cells #[.string nm, .int .i64 bu, .int .i64 pe, .bool sc, .bool st, .slice pa pn pc, .int .i64 h0, .int .i64 h1, .int .i64 h2, .int .i64 h3, .int .i64 h4] 39)).heap.size := by simp
      have HF := Lib.hid f
      have m0 := HM.out wr hb 0 _ M0.out
      clear c0 ck hx hbx hPA f
      have f0 := HF.out 0 _ rfl
      have HNM := Lib.hid (name_any nm (wr.alloc (.cells #[.string nm, .int .i64 bu, .int .i64 pe, .bool sc, .bool st, .slice pa pn pc, .int .i64 h0, .int .i64 h1, .int .i64 h2, .int .i64 h3, .int .i64 h4] 39)) hPA1.out.name)
      go_wp2_with fail
      refine HNM.out.mono ?_
      rintro e w5 ⟨b, rfl, hb5⟩
      generalize wr.alloc (.cells #[.string nm, .int .i64 bu, .int .i64 pe, .bool sc, .bool st, .slice pa pn pc, .int .i64 h0, .int .i64 h1, .int .i64 h2, .int .i64 h3, .int .i64 h4] 39) = W2 at hb1 HF hPA1 hgx HNM hb5 f0
      generalize wr.heap.size = gx at HF hgx f0 ⊢
      have HB5 := Lib.hid (hb1.trans (hb5.mono hb1.size))
      have hPA5 := Lib.hid (hPA1.out.on hb5)
      have HF5 := Lib.hid fun (W' : World) (hb : Below w5.heap.size w5 W') (o : Nat) v hv => ((hb5.trans (hb.mono hb5.size)).cell (p := ⟨gx, o, none⟩) hgx).trans (HF.out o v hv)
      clear hb5 HNM HF hPA1 hb1 hgx f0 d0 d1 d2 d3 d4 d5 d6 d7 d8 d9 d10 had hb m0
      cases b
      · go_wp2_with fail
        go_ret2
        exact ⟨_, _, rfl, HW.out _ HB5.out⟩
      · go_wp2_with fail
        go_loopw [6] (fun s wx => ∃ j : Nat, j ≤ i ∧ s = .int .i64 j ∧ Below w5.heap.size w5 wx) (fun s _ => i - (intOf s).toNat)
        case atStart => exact ⟨0, by omega, rfl, Below.refl _ _⟩
        case round =>
          obtain ⟨j, hj, rfl, hb⟩ := hrel
          have HBX := Lib.hid (HB5.out.trans (hb.mono HB5.out.size))
          by_cases hji : j < i
          · obtain ⟨ad2, y, hA2, had2, hy, c0, ck⟩ := (HP.out.on (HW.out _ HBX.out)).at_ pcl_len (by omega) (show j < n1 by omega)
            obtain rfl : ad = ad2 := by injection hA2
            have d0 := c0 _ rfl
            have f0 := HF5.out _ hb 0 _ rfl
            have m0 := HM.out _ HBX.out 0 _ M0.out
            obtain ⟨nm2, bu2, pe2, sc2, st2, pa2, pn2, pc2, k0, k1, k2, k3, k4⟩ := y
            dsimp only at d0
            have hji' : (j : Int) < (i : Int) := by omega
            have HBI := Lib.hid hb
            clear c0 ck hy hA2 had2 hb
            go_wp2_with fail
            go_quiet (fail)
            go_wp2_with fail
            all_goals
              first
              | (go_ret2; exact ⟨_, _, rfl, HW.out _ (Below.drewN HBX.out nq)⟩)
              | (go_roundw
                 case rel => exact ⟨j + 1, by omega, by go_num, Below.drewN HBI.out nq⟩
                 case measure => simp [intOf]; omega)
          · have hji' : ¬ (j : Int) < (i : Int) := by omega
            have f0 := HF5.out _ hb 0 _ rfl
            have f1 := HF5.out _ hb 1 _ rfl
            have f2 := HF5.out _ hb 2 _ rfl
            have f3 := HF5.out _ hb 3 _ rfl
            have f4 := HF5.out _ hb 4 _ rfl
            have f5 := HF5.out _ hb 5 _ rfl
            have f6 := HF5.out _ hb 6 _ rfl
            have f7 := HF5.out _ hb 7 _ rfl
            have f8 := HF5.out _ hb 8 _ rfl
            have f9 := HF5.out _ hb 9 _ rfl
            have f10 := HF5.out _ hb 10 _ rfl
            have HPX := hPA5.out.on hb
            have HPR := Lib.hid (partRight_any ⟨nm, bu, pe, sc, st, pa, pn, pc, h0, h1, h2, h3, h4⟩ wr HPX.procs HPX.few)
            clear HPX hb
            go_wp2_with fail
            refine HPR.out.mono ?_
            rintro e w6 ⟨b, rfl, hb6⟩
            have HB6 := Lib.hid (HBX.out.trans (hb6.mono HBX.out.size))
            clear hb6 f0 f1 f2 f3 f4 f5 f6 f7 f8 f9 f10
            cases b <;> go_wp2_with fail
            all_goals
              first
              | (go_ret2; exact ⟨_, _, rfl, HW.out _ HB6.out⟩)
              | (go_roundw
                 case rel => exact ⟨i + 1, by omega, by go_num, HB6.out⟩
                 case measure => simp [intOf]; omega)
    · have hge : n1 ≤ i := by omega
      have m1 := HM.out wr hb 1 _ M1.out
      go_wp2_with fail
      go_loopw [7, 8, 80] (fun _ _ s wx => ∃ j : Nat, j ≤ n2 ∧ s = .int .i64 j ∧ Below W.heap.size W wx) (fun _ _ s _ => n2 - (intOf s).toNat)
      case atStart => exact ⟨0, by omega, rfl, hb⟩
      case round =>
        obtain ⟨j, hj, rfl, hb⟩ := hrel
        by_cases hlt : j < n2
        · obtain ⟨ad, x, rfl, had, hx, c0, ck⟩ := (HC.out.on (HW.out _ hb)).at_ cc_len (by omega) hlt
          have d0 := c0 _ rfl
          have d1 := ck 1 _ (by omega) rfl
          have d2 := ck 2 _ (by omega) rfl
          have d3 := ck 3 _ (by omega) rfl
          have d4 := ck 4 _ (by omega) rfl
          have d5 := ck 5 _ (by omega) rfl
          obtain ⟨xf, xt, xq, xc, xm, xl⟩ := x
          dsimp only at d0 d1 d2 d3 d4 d5
          have hbx := bl1 wr (.cells #[.int .i64 xf, .int .i64 xt, .bool xq, .int .i64 xc, .int .u32 xm, .int .i64 xl] 47)
          have HB1 := Lib.hid (hb.trans (hbx.mono hb.size))
          have m0 := HM.out _ HB1.out 0 _ M0.out
          have HCR := Lib.hid (chanRight_any ⟨xf, xt, xq, xc, xm, xl⟩ (n1 : Int))
          clear c0 ck hx hbx
          go_wp2_with fail
          refine (HCR.out _).mono ?_
          rintro e w5 ⟨b, rfl, hb5⟩
          have HB5 := Lib.hid (HB1.out.trans (hb5.mono HB1.out.size))
          clear hb5 d0 d1 d2 d3 d4 d5 m0
          cases b <;> go_wp2_with fail
          all_goals
            first
            | (go_ret2; exact ⟨_, _, rfl, HW.out _ HB5.out⟩)
            | (go_roundw
               case rel => exact ⟨j + 1, by omega, by go_num, HB5.out⟩
               case measure => simp [intOf]; omega)
        · have hge : n2 ≤ j := by omega
          have m2 := HM.out wr hb 2 _ M2.out
          go_wp2_with fail
          go_loopw [9, 10, 11, 12, 14, 15, 96] (fun _ _ _ _ _ _ s wx => ∃ j : Nat, j ≤ n3 ∧ s = .int .i64 j ∧ Below W.heap.size W wx) (fun _ _ _ _ _ _ s _ => n3 - (intOf s).toNat)
          case atStart => exact ⟨0, by omega, rfl, hb⟩
          case round =>
            obtain ⟨j, hj, rfl, hb⟩ := hrel
            by_cases hlt : j < n3
            · obtain ⟨ad, t, rfl, had, hx, c0, ck⟩ := (HT.out.on (HW.out _ hb)).at_ tcl_len (by omega) hlt
              have d0 := c0 _ rfl
              rw [Nat.mul_one] at d0
              have hTA := (HTT.out t (List.mem_of_getElem? hx)).on (HW.out _ hb)
              obtain ⟨A, n, c, x, k⟩ := t
              have HOF := Lib.hid (rof_any A n c x k wr hTA.rd hTA.cap hTA.ok hTA.few)
              dsimp only at d0
              have hz4 : ofz n (k.dep + 1) (one x k.lvs) = 0 → ticks (tidy (one x k.lvs)) ≤ 4096 := fun e => by rw [ticks_tidy]; exact (ofz_ok e).2.2.1
              have hz5 : ofz n (k.dep + 1) (one x k.lvs) = 0 → (tidy (one x k.lvs)).length ≤ 96 := fun e => (ofz_ok e).2.2.2
              generalize ofz n (k.dep + 1) (one x k.lvs) = z at HOF hz4 hz5
              generalize tidy (one x k.lvs) = L at HOF hz4 hz5
              have HZ4 := Lib.hid hz4
              have HZ5 := Lib.hid hz5
              clear c0 ck hx hTA hz4 hz5
              go_wp2_with fail
              refine HOF.out.mono ?_
              rintro e w5 ⟨A4, n4, c4, rfl, hc4, hr4, hb5⟩
              have hb6 := hb.trans (hb5.mono hb.size)
              clear hb5 d0
              by_cases hz : z = 0
              · have hzd : (z != 0) = false := by rw [hz]; rfl
                have hr := hr4 hz
                have h4 := HZ4.out hz
                have h5 := HZ5.out hz
                have HR := Lib.hid hr
                have hn4 : n4 ≤ 96 := by rw [← hr.len]; exact h5
                clear hr4 hr
                subst hz
                go_wp2_with fail
                go_loopw [14, 112] (fun _ s wx => ∃ i : Nat, i ≤ n4 ∧ s = .int .i64 i ∧ Below w5.heap.size w5 wx) (fun _ s _ => n4 - (intOf s).toNat)
                case atStart => exact ⟨0, by omega, rfl, Below.refl _ _⟩
                case round =>
                  obtain ⟨i, hi4, rfl, hb⟩ := hrel
                  have HBX := Lib.hid (hb6.trans (hb.mono hb6.size))
                  by_cases hlt4 : i < n4
                  · obtain ⟨ad4, r, rfl, had4, hx4, e0, e1⟩ := (HR.out.on hb).at_ hlt4
                    have hbx := bl1 wr (.cells #[.int .i64 r.p, .int .i64 r.n] 95)
                    have HB1 := Lib.hid (hb.trans (hbx.mono hb.size))
                    have HB2 := Lib.hid (HBX.out.trans (hbx.mono HBX.out.size))
                    have m0 := HM.out _ HB2.out 0 _ M0.out
                    clear hbx hx4 had4 hb
                    go_wp2_with fail
                    all_goals
                      first
                      | (go_ret2; exact ⟨_, _, rfl, HW.out _ HB2.out⟩)
                      | (go_roundw
                         case rel => exact ⟨i + 1, by omega, by go_num, HB1.out⟩
                         case measure => simp [intOf]; omega)
                  · have hge4 : n4 ≤ i := by omega
                    have m0 := HM.out _ HBX.out 0 _ M0.out
                    have m1 := HM.out _ HBX.out 1 _ M1.out
                    have m2 := HM.out _ HBX.out 2 _ M2.out
                    have HHO := Lib.hid (holds_any A1 A2 (some ad) A4 n1 n2 n3 n4 c1 c2 c3 c4 P C L wr (HP.out.on (HW.out _ HBX.out)) (HC.out.on (HW.out _ HBX.out)) (HR.out.on hb) (by omega) (by omega) hc4 (by omega) (by omega) (fun x hx => (HPT.out x hx).per))
                    clear hb
                    go_wp2_with fail
                    refine HHO.out.mono ?_
                    rintro e w7 ⟨z, rfl, hb7⟩
                    have HB7 := Lib.hid (HBX.out.trans (hb7.mono HBX.out.size))
                    clear hb7 m0 m1 m2 HHO
                    by_cases hz : z = 0
                    · have hzd : (z != 0) = false := by rw [hz]; rfl
                      subst hz
                      go_wp2_with fail
                      go_roundw
                      case rel => exact ⟨j + 1, by omega, by go_num, HB7.out⟩
                      case measure => simp [intOf]; omega
                    · have hzd : (z != 0) = true := bne_iff_ne.2 hz
                      go_wp2_with fail
                      go_ret2
                      exact ⟨_, _, rfl, HW.out _ HB7.out⟩
              · have hzd : (z != 0) = true := bne_iff_ne.2 hz
                go_wp2_with fail
                go_ret2
                exact ⟨_, _, rfl, HW.out _ hb6⟩
            · have hge : n3 ≤ j := by omega
              go_wp2_with fail
              go_ret2
              exact ⟨_, _, rfl, HW.out _ hb⟩
set_option maxRecDepth 100000 in
theorem cright_any (A1 A2 A3 : Option Addr) (n1 n2 n3 c1 c2 c3 : Nat) (P : List PtV) (C : List ChV) (T : List TbV) (w : World) (hP : RdB pcl w w.heap.size A1 n1 P) (hC : RdB cc w w.heap.size A2 n2 C) (hT : RdB tcl w w.heap.size A3 n3 T)
    (hp : ∀ x ∈ P, PtAt w w.heap.size x) (ht : ∀ t ∈ T, TbAt w w.heap.size t) :
    Calls Tryz.prog 36 #[.agg #[.slice A1 n1 c1, .slice A2 n2 c2, .slice A3 n3 c3]] w (SomI w) := by
  have hb0 := bl1 w (.cells #[.slice A1 n1 c1, .slice A2 n2 c2, .slice A3 n3 c3] 27)
  have HW := Lib.hid (where_any A1 A2 A3 n1 n2 n3 c1 c2 c3 P C T _ (hP.on hb0) (hC.on hb0) (hT.on hb0) (fun x hx => (hp x hx).on hb0) (fun t ht' => (ht t ht').on hb0))
  clear hP hC hT hp ht
  go_enter Tryz.func36, Tryz.ntmps36
  go_wp2_with fail
  refine HW.out.mono ?_
  rintro e w5 ⟨z, i, rfl, hb5⟩
  go_wp2_with fail
  go_ret
  exact ⟨_, rfl, hb0.trans (hb5.mono hb0.size)⟩
end Go.Proofs.YtebcfiifaclniaaGreat

/- A frame that is made of a tape: a table that is right, of few runs, not too long. -/
namespace Go.Proofs.YtebcfiifaclniaaGreat
open Go.RowKit Tab
set_option linter.unusedSimpArgs false
set_option linter.unusedVariables false

/-- A table, new, that is right, of few runs, not too long; of what was there the tape alone has turned. -/
def FrmT (B b : Nat) (A : Option Addr) (m c : Nat) (f : Nat → Int) (w : World) (e : Ending) (w' : World) : Prop :=
  ∃ (x : Nd) (k : F) (A' : Option Addr) (n' c' at' : Nat), e = .returned (.slice A' n' c') ∧ (F.cons x k .nil).ok ∧ OwnN w' w.heap.size A' n' c' (x :: k.flat) ∧ ofz n' (k.dep + 1) (one x k.lvs) = 0 ∧ ticks (one x k.lvs) ≤ 90 ∧ (tidy (one x k.lvs)).length ≤ 24 ∧ TapeW w' B b A m c f at' ∧ w.grownBy w' (some b)
/-- And its windows are of so many partitions. -/
def FrmTP (B b : Nat) (A : Option Addr) (m c : Nat) (f : Nat → Int) (Q : Nat) (w : World) (e : Ending) (w' : World) : Prop :=
  ∃ (x : Nd) (k : F) (A' : Option Addr) (n' c' at' : Nat), e = .returned (.slice A' n' c') ∧ (F.cons x k .nil).ok ∧ OwnN w' w.heap.size A' n' c' (x :: k.flat) ∧ ofz n' (k.dep + 1) (one x k.lvs) = 0 ∧ ticks (one x k.lvs) ≤ 90 ∧ (tidy (one x k.lvs)).length ≤ 24 ∧ (∀ y ∈ x :: k.flat, 0 ≤ y.p ∧ y.p < (Q : Int)) ∧ TapeW w' B b A m c f at' ∧ w.grownBy w' (some b)
theorem TapeW.lowlt {w : World} {B b : Nat} {A : Option Addr} {m c : Nat} {f : Nat → Int} {at_ : Nat} (h : TapeW w B b A m c f at_) : b < w.heap.size := h.lt
theorem ofz_nought {n D : Nat} {L : List Rn} (h1 : n ≤ 128) (h2 : D ≤ 16) (h3 : ticks L ≤ 4096) (h4 : (tidy L).length ≤ 96) : ofz n D L = 0 := by
  have e : rt n D (ticks L) = 0 := by
    unfold rt
    rw [if_neg (by omega), if_neg (by omega), if_neg (by omega)]
  unfold ofz
  rw [if_pos e, if_neg (by omega)]
/-- The frame where the table does not serve. -/
theorem frm_default {B b : Nat} {A : Option Addr} {m c : Nat} {f : Nat → Int} {w w6 : World} {at6 p Q : Nat} (hp : p < 6) (hpq : p < Q) (T6 : TapeW w6 B b A m c f at6) (G6 : w.grownBy w6 (some b)) :
    FrmTP B b A m c f Q w (.returned (.slice (some ⟨w6.heap.size, 0, none⟩) 3 3)) (w6.alloc (.cells #[.int .i64 3, .int .i64 0, .int .i64 2, .int .i64 1, .int .i64 (p : Int), .int .i64 3, .int .i64 2, .int .i64 0, .int .i64 2] 43)) := by
  have e1 : one ⟨3, 0, 2⟩ (F.cons ⟨1, (p : Int), 3⟩ .nil (.cons ⟨2, 0, 2⟩ .nil .nil)).lvs = [⟨(p : Int), 3⟩, ⟨-1, 2⟩] := rfl
  have ht : ticks [(⟨(p : Int), 3⟩ : Rn), ⟨-1, 2⟩] = 5 := rfl
  have hl := tidy_le [(⟨(p : Int), 3⟩ : Rn), ⟨-1, 2⟩]
  simp only [List.length_cons, List.length_nil] at hl
  refine ⟨⟨3, 0, 2⟩, .cons ⟨1, (p : Int), 3⟩ .nil (.cons ⟨2, 0, 2⟩ .nil .nil), _, 3, 3, at6, rfl, ⟨by decide, by simp [F.cnt, kn], ⟨(fine_iff _ _ _).2 (by omega), by simp [F.cnt, kn], trivial, by decide, by simp [F.cnt, kn], trivial, trivial⟩, trivial⟩, ?_, ?_, by rw [e1, ht]; omega, by rw [e1]; omega, (by intro y hy; simp [F.flat] at hy; rcases hy with rfl | rfl | rfl <;> (dsimp only; omega)), T6.below (bl1 _ _) T6.lt, gb_alloc G6 _⟩
  · refine OwnN.lit w6 w.heap.size _ _ 3 rfl rfl G6.size (by omega) fun y hy => ?_
    simp [F.flat] at hy
    rcases hy with rfl | rfl | rfl <;> exact ndIn_mk (by omega) (by omega) (by omega)
  · rw [e1]
    exact ofz_nought (by omega) (by simp [F.dep]) (by rw [ht]; omega) (by omega)
set_option maxRecDepth 100000 in
set_option maxHeartbeats 4000000 in
theorem frame_anyp (B b : Nat) (A : Option Addr) (m c : Nat) (f : Nat → Int) (hm : m ≤ 140737488351232) (parts : Nat) (hp1 : 1 ≤ parts) (hp2 : parts ≤ 6) (at_ : Nat) (w : World) (T : TapeW w B b A m c f at_) :
    Calls Tryz.prog 10 #[.pointer (some ⟨b, 0, none⟩), .int .i64 (parts : Int)] w (FrmTP B b A m c f parts w) := by
  have hblt := T.lt
  have HTB := Lib.hid (table_anyp B b A m c f hm parts hp1 hp2 4 at_ w (by omega) T)
  have hdflt : ∀ (w1 : World) (at1 : Nat), TapeW w1 B b A m c f at1 → w.grownBy w1 (some b) → True := fun _ _ _ _ => trivial
  clear T hdflt
  go_enter Tryz.func10, Tryz.ntmps10
  go_wp2_with fail
  refine HTB.out.mono ?_
  rintro e w1 ⟨x, k, A1, n1, c1, at1, rfl, hok, ho1, hsz, hdp, hqq, T1, G1⟩
  have h5 : 5 ^ (4 + 1) = 3125 := rfl
  rw [h5] at hsz
  have hn1 := ho1.len
  rw [List.length_cons, F.flat_length] at hn1
  have HOF := Lib.hid (rof_any A1 n1 c1 x k w1 ho1.rdn ho1.cap hok (by omega))
  obtain ⟨z, hz⟩ : ∃ z, z = ofz n1 (k.dep + 1) (one x k.lvs) := ⟨_, rfl⟩
  rw [← hz] at HOF
  have hTt : ticks (tidy (one x k.lvs)) = ticks (one x k.lvs) := ticks_tidy _
  obtain ⟨R, hR⟩ : ∃ R, R = tidy (one x k.lvs) := ⟨_, rfl⟩
  rw [← hR] at HOF hTt
  have HOK := Lib.hid hok
  have HQQ := Lib.hid hqq
  have HO1 := Lib.hid ho1
  have HZ := Lib.hid hz
  have HR := Lib.hid hR
  have HTT := Lib.hid hTt
  have HT1 := Lib.hid T1
  have HG1 := Lib.hid G1
  have HZO : Hid (z = 0 → ticks R ≤ 4096) := Lib.hid fun h0 => by
    rw [HTT.out]
    rw [HZ.out] at h0
    exact (ofz_ok h0).2.2.1
  have hbl1 : b < w1.heap.size := T1.lt
  clear ho1 hok hz hR hTt T1 G1 HTB hsz hdp hn1 h5 hqq
  go_wp2_with fail
  refine HOF.out.mono ?_
  rintro e w2 ⟨A2, m2, c2, rfl, hmc2, hr2, hb2⟩
  have HR2 := Lib.hid hr2
  have T2 := HT1.out.below hb2 hbl1
  have HT2 := Lib.hid T2
  have HG2 := Lib.hid (gb_below HG1.out hb2 HG1.out.size)
  have HO2 := Lib.hid (OwnN.keep HO1.out (w' := w2) fun k _ hlt => hb2.block k hlt)
  clear hr2 T2 HOF HT1 HG1 HO1
  have HDF : Hid (∀ (w5 : World) (at5 : Nat), TapeW w5 B b A m c f at5 → w.grownBy w5 (some b) → Calls Tryz.prog 9 #[.pointer (some ⟨b, 0, none⟩), .int .i64 (parts : Int)] w5 (Nexts B b A m c f parts w5)) := Lib.hid fun w5 at5 T5 G5 => next_any B b A m c f at5 parts w5 T5 hp1 (by omega) hm
  by_cases h0 : z = 0
  · have hr := HR2.out h0
    have htk := HZO.out h0
    by_cases h24 : 24 < m2
    · have h24' : (24 : Int) < (m2 : Int) := by omega
      have hz0 : (z != 0) = false := by rw [h0]; rfl
      subst h0
      clear hr htk
      go_wp2_with fail
      refine (HDF.out w2 _ HT2.out HG2.out).mono ?_
      rintro e w6 ⟨p, at6, hp, rfl, T6, G6⟩
      have F6 := Lib.hid (frm_default (w := w) (p := p) (Q := parts) (by omega) hp T6 (gb_trans HG2.out G6))
      clear T6 G6
      go_wp2_with fail
      go_ret
      exact F6.out
    · have h24' : ¬ (24 : Int) < (m2 : Int) := by omega
      have HTO := Lib.hid (total_any A2 m2 c2 R w2 hr hmc2 (by omega) (by omega))
      have hlr := hr.len
      have hz0 : (z != 0) = false := by rw [h0]; rfl
      obtain ⟨t, ht⟩ : ∃ t, t = ticks R := ⟨_, rfl⟩
      rw [← ht] at HTO htk
      have HTE := Lib.hid ht
      have H00 := Lib.hid h0
      clear ht hr
      subst h0
      go_wp2_with fail
      refine HTO.out.mono ?_
      rintro e w3 ⟨rfl, hb3⟩
      have hbl2 : b < w2.heap.size := HT2.out.lt
      have T3 := HT2.out.below hb3 hbl2
      have G3 := gb_below HG2.out hb3 HG2.out.size
      have HO3 := Lib.hid (OwnN.keep HO2.out (w' := w3) fun k _ hlt => hb3.block k hlt)
      have HT3 := Lib.hid T3
      have HG3 := Lib.hid G3
      clear T3 G3 HO2
      by_cases h90 : 90 < t
      · have h90' : (90 : Int) < (t : Int) := by omega
        go_wp2_with fail
        refine (HDF.out w3 _ HT3.out HG3.out).mono ?_
        rintro e w6 ⟨p, at6, hp, rfl, T6, G6⟩
        have F6 := Lib.hid (frm_default (w := w) (p := p) (Q := parts) (by omega) hp T6 (gb_trans HG3.out G6))
        clear T6 G6
        go_wp2_with fail
        go_ret
        exact F6.out
      · have h90' : ¬ (90 : Int) < (t : Int) := by omega
        go_wp2_with fail
        go_ret
        refine ⟨x, k, A1, n1, c1, at1, rfl, HOK.out, HO3.out, HZ.out.symm, ?_, ?_, HQQ.out, HT3.out, HG3.out⟩
        · rw [← HTT.out, ← HTE.out]; omega
        · rw [← HR.out, hlr]; omega
  · have hz0 : (z != 0) = true := bne_iff_ne.2 h0
    go_wp2_with fail
    refine (HDF.out w2 _ HT2.out HG2.out).mono ?_
    rintro e w6 ⟨p, at6, hp, rfl, T6, G6⟩
    have F6 := Lib.hid (frm_default (w := w) (p := p) (Q := parts) (by omega) hp T6 (gb_trans HG2.out G6))
    clear T6 G6
    go_wp2_with fail
    go_ret
    exact F6.out
theorem frame_any (B b : Nat) (A : Option Addr) (m c : Nat) (f : Nat → Int) (hm : m ≤ 140737488351232) (parts : Nat) (hp1 : 1 ≤ parts) (hp2 : parts ≤ 6) (at_ : Nat) (w : World) (T : TapeW w B b A m c f at_) :
    Calls Tryz.prog 10 #[.pointer (some ⟨b, 0, none⟩), .int .i64 (parts : Int)] w (FrmT B b A m c f w) :=
  (frame_anyp B b A m c f hm parts hp1 hp2 at_ w T).mono fun e w1 ⟨x, k, A', n', c', at', h1, h2, h3, h4, h5, h6, _, h7, h8⟩ => ⟨x, k, A', n', c', at', h1, h2, h3, h4, h5, h6, h7, h8⟩
/-- The runs of a table are of its windows' partitions. -/
theorem one_parts {Q : Int} (hQ : 0 ≤ Q) {x : Nd} {s : List Rn} (hx : x.p < Q) (hs : ∀ r ∈ s, r.p < Q) : ∀ r ∈ one x s, r.p < Q := fun r hr => by
  unfold one at hr
  split at hr
  · exact hs r hr
  · split at hr
    · exact hs r (reps_mem hr)
    · simp at hr
      subst hr
      show whose x < Q
      unfold whose
      split <;> omega
theorem lvs_parts {Q : Int} (hQ : 0 ≤ Q) (k : F) (h : ∀ y ∈ k.flat, y.p < Q) : ∀ r ∈ k.lvs, r.p < Q := by
  induction k with
  | nil => intro r hr; simp [F.lvs] at hr
  | cons x k r hk hr =>
    intro q hq
    have e : (F.cons x k r).flat = x :: (k.flat ++ r.flat) := by simp [F.flat]
    rw [e] at h
    rcases List.mem_append.1 hq with hq | hq
    · exact one_parts hQ (h x (by simp)) (hk fun y hy => h y (by simp [hy])) q hq
    · exact hr (fun y hy => h y (by simp [hy])) q hq
end Go.Proofs.YtebcfiifaclniaaGreat

/- What is asked of a configuration, by the tables that it has: that it answers, and what it leaves. -/
namespace Go.Proofs.YtebcfiifaclniaaGreat
open Go.RowKit Tab
set_option linter.unusedSimpArgs false
set_option linter.unusedVariables false

/-- No block has turned but those of p. -/
structure Only (p : Nat → Prop) (w w' : World) : Prop where
  os : w'.os = w.os
  tape : w'.tape = w.tape
  output : w'.output = w.output
  size : w.heap.size ≤ w'.heap.size
  block : ∀ k, k < w.heap.size → ¬ p k → w'.heap[k]? = w.heap[k]?
section
variable {p : Nat → Prop} {w w' w2 : World}
theorem Only.refl (p : Nat → Prop) (w : World) : Only p w w := ⟨rfl, rfl, rfl, Nat.le_refl _, fun _ _ _ => rfl⟩
theorem Only.trans (h : Only p w w') (k : Only p w' w2) : Only p w w2 :=
  ⟨k.os.trans h.os, k.tape.trans h.tape, k.output.trans h.output, Nat.le_trans h.size k.size, fun i hi hn => (k.block i (Nat.lt_of_lt_of_le hi h.size) hn).trans (h.block i hi hn)⟩
theorem Only.bel (h : Below w.heap.size w w') : Only p w w' := ⟨h.os, h.tape, h.output, h.size, fun k hk _ => h.block k hk⟩
theorem Only.gb {b : Nat} (h : w.grownBy w' (some b)) (hb : p b) : Only p w w' := ⟨h.os, h.tape, h.output, h.size, fun k hk hn => h.block k hk fun e => by injection e with e; subst e; exact hn hb⟩
theorem Only.set (w : World) (a : Addr) (v : Value) (hb : p a.block) : Only p w (w.setCell a v) :=
  ⟨rfl, rfl, rfl, by simp, fun k hk hn => Below.heap_setCell w a v k fun e => by subst e; exact hn hb⟩
theorem Only.drewN (h : Only p w w') (q : Nat) : Only p w (w'.drewN q) := ⟨h.os, h.tape, h.output, h.size, h.block⟩
theorem Only.rdv {B : Nat} {A : Option Addr} {l : List Value} (h : Only p w w') (hr : RdV w w.heap.size A l) (hA : ∀ b, obk A = some b → ¬ p b) : RdV w' w'.heap.size A l := fun hl => by
  obtain ⟨ad, e, hb, hc⟩ := hr hl
  refine ⟨ad, e, Nat.lt_of_lt_of_le hb h.size, fun j v hj => ?_⟩
  rw [World.cell?_of_block (h.block (ad.add j).block (by rw [add_block]; exact hb) (by rw [add_block]; exact hA _ (by rw [e]; rfl)))]
  exact hc j v hj
end
theorem elRR : Elt 79 75 1 24 (.slice none 0 0) := ⟨Tryz.underlying79, by kernel_rfl, rfl, by omega⟩
/-- A row of runs in memory. -/
structure Rw where
  a : Option Addr
  n : Nat
  c : Nat
  l : List Rn
def Rw.v (r : Rw) : Value := .slice r.a r.n r.c
theorem rwv_one (T : List Rw) : ∀ u ∈ T.map Rw.v, u.oneCell' = true := by
  intro u hu
  obtain ⟨s, _, rfl⟩ := List.mem_map.1 hu
  rfl
structure RwAt (w : World) (r : Rw) : Prop where
  rd : RdR w w.heap.size r.a r.n r.l
  cap : r.n ≤ r.c
  few : r.n ≤ 96
  tk : ticks r.l ≤ 90
theorem RwAt.on {w w' : World} {r : Rw} (h : RwAt w r) (hb : Below w.heap.size w w') : RwAt w' r := ⟨h.rd.on hb, h.cap, h.few, h.tk⟩
theorem RwAt.only {p : Nat → Prop} {w w' : World} {r : Rw} (h : RwAt w r) (ho : Only p w w') (hA : ∀ b, obk r.a = some b → ¬ p b) : RwAt w' r := ⟨⟨h.rd.len, ho.rdv (B := 0) h.rd.rd hA⟩, h.cap, h.few, h.tk⟩
/-- A table that serves as a frame. -/
def Frame (t : TbV) : Prop := ofz t.n (t.k.dep + 1) (one t.x t.k.lvs) = 0 ∧ ticks (one t.x t.k.lvs) ≤ 90
/-- A table's runs. -/
def rowF (t : TbV) : List Rn := tidy (one t.x t.k.lvs)
theorem rof_new (t : TbV) (w : World) (h : TbAt w w.heap.size t) (hf : Frame t) :
    Calls Tryz.prog 32 #[.slice t.A t.n t.c] w fun e w' => ∃ r : Rw, e = .returned (.tuple #[r.v, .int .i64 0]) ∧ RwAt w' r ∧ Below w.heap.size w w' ∧ (∀ b, obk r.a = some b → w.heap.size ≤ b ∧ b < w'.heap.size) ∧ r.l = rowF t := by
  obtain ⟨hz, ht⟩ := hf
  have hk := ofz_ok hz
  have hR := rright_tree t.A t.n t.c _ t.x t.k w h.rd h.cap h.few h.ok rfl
  have e : F.tick t.x t.k.len = ticks (one t.x t.k.lvs) := by rw [one_ticks, lvs_ticks]
  have h0 : rt t.n (t.k.dep + 1) (F.tick t.x t.k.len) = 0 := by
    rw [e]
    unfold rt
    rw [if_neg (by omega), if_neg (by omega), if_neg (by omega)]
  rw [h0] at hR
  refine (rof_tree t.A t.n t.c t.x t.k w h.rd h.cap h.ok hk.1 hk.2.1 (by rw [e]; exact hk.2.2.1) hR).mono fun e w' ho => ?_
  unfold OfR at ho
  rw [if_neg (by omega)] at ho
  obtain ⟨A, c, rfl, hr, hc, hb, hn⟩ := ho
  refine ⟨⟨A, _, c, tidy (one t.x t.k.lvs)⟩, rfl, ⟨hr, hc, hk.2.2.2, by rw [ticks_tidy]; exact ht⟩, hb, fun b hb => ?_, rfl⟩
  cases A with
  | none => cases hb
  | some ad =>
    injection hb with hb
    have hb : ad.block = b := hb
    have h1 := hn ad rfl
    obtain ⟨ad', _, e1, h2, _⟩ := hr.at_ (i := 0) (ofz_runs h.ok).1
    injection e1 with e1
    subst e1
    omega
/-- Partitions, channels, tables in memory, and what may be written of them: those of p. -/
structure Asked (p : Nat → Prop) (w : World) (A3 : Option Addr) (n3 : Nat) (P : List PtV) (T : List TbV) : Prop where
  t : RdB tcl w w.heap.size A3 n3 T
  tt : ∀ t ∈ T, TbAt w w.heap.size t ∧ Frame t
  pt : ∀ x ∈ P, PtAt w w.heap.size x
  s3 : ∀ b, obk A3 = some b → ¬ p b
  st : ∀ t ∈ T, ∀ b, obk t.A = some b → ¬ p b
  sp : ∀ x ∈ P, ∀ b, obk x.pa = some b → ¬ p b
theorem ProcsAt.only {p : Nat → Prop} {w w' : World} {A : Option Addr} {n : Nat} (h : ProcsAt w w.heap.size A n) (ho : Only p w w') (hA : ∀ b, obk A = some b → ¬ p b) : ProcsAt w' w'.heap.size A n := fun i hi => by
  obtain ⟨ad, e, q, h1, hB, h2, h3, h4⟩ := h i hi
  have hk := ho.block ad.block hB (hA _ (by rw [h1]; rfl))
  refine ⟨ad, e, q, h1, Nat.lt_of_lt_of_le hB ho.size, ?_, ?_, h4⟩
  · exact (World.cell?_of_block (w := w) (w' := w') (a := ad.add (i * 2)) (by rw [add_block]; exact hk)).trans h2
  · exact (World.cell?_of_block (w := w) (w' := w') (a := ⟨(ad.add (i * 2)).block, (ad.add (i * 2)).off + 1, none⟩) (by show w'.heap[(ad.add (i * 2)).block]? = w.heap[(ad.add (i * 2)).block]?; rw [add_block]; exact hk)).trans h3
theorem Asked.only {p : Nat → Prop} {w w' : World} {A3 : Option Addr} {n3 : Nat} {P : List PtV} {T : List TbV} (h : Asked p w A3 n3 P T) (ho : Only p w w') : Asked p w' A3 n3 P T :=
  ⟨⟨h.t.len, ho.rdv (B := 0) h.t.rd h.s3⟩, fun t ht => ⟨⟨⟨(h.tt t ht).1.rd.len, ho.rdv (B := 0) (h.tt t ht).1.rd.rd (h.st t ht), (h.tt t ht).1.rd.bd⟩, (h.tt t ht).1.cap, (h.tt t ht).1.ok, (h.tt t ht).1.few⟩, (h.tt t ht).2⟩,
    fun x hx => ⟨(h.pt x hx).per, (h.pt x hx).name, (h.pt x hx).few, (h.pt x hx).procs.only ho (h.sp x hx)⟩, h.s3, h.st, h.sp⟩
/-- A struct's field, as a walk spells its place. -/
theorem OwnB.cell {α : Type} {E s : Nat} {f : α → List Value} {w : World} {B g n c : Nat} {l : List α} (h : OwnB E s f w B (some ⟨g, 0, none⟩) n c l) (hf : ∀ x, (f x).length = s) {i k : Nat} {x : α} {v : Value} (hx : l[i]? = some x) (hk : k < s) (hv : (f x)[k]? = some v) : w.cell? ⟨g, i * s + k, none⟩ = some v ∧ w.frozen? ⟨g, i * s + k, none⟩ = false := by
  have hi : i < l.length := (List.getElem?_eq_some_iff.1 hx).1
  have h1 : (i + 1) * s ≤ l.length * s := Nat.mul_le_mul_right _ hi
  rw [Nat.succ_mul] at h1
  refine ⟨?_, World.ownsRow.frozenAt h.own _⟩
  rw [World.ownsRow.cellAt h.own (i * s + k) (by rw [← h.len]; omega), flat_get hf l i k x hx hk]
  exact hv
theorem OwnB.put {α : Type} {E s : Nat} {f : α → List Value} {w : World} {B g n c : Nat} {l : List α} (h : OwnB E s f w B (some ⟨g, 0, none⟩) n c l) (hf : ∀ x, (f x).length = s) {i k : Nat} {x y : α} {v : Value} (hx : l[i]? = some x) (hk : k < s) (hy : f y = (f x).set k v) :
    OwnB E s f (w.setCell ⟨g, i * s + k, none⟩ v) B (some ⟨g, 0, none⟩) n c (l.set i y) := by
  have hi : i < l.length := (List.getElem?_eq_some_iff.1 hx).1
  have h1 : (i + 1) * s ≤ l.length * s := Nat.mul_le_mul_right _ hi
  rw [Nat.succ_mul] at h1
  refine ⟨by rw [List.length_set]; exact h.len, ?_⟩
  rw [flat_set hf l i k x y v hx hk hy]
  refine h.own.set (i * s + k) v ?_
  rw [flat_len hf]
  omega
theorem OwnB.gb {α : Type} {E s : Nat} {f : α → List Value} {w w' : World} {B b n c : Nat} {A : Option Addr} {l : List α} (h : OwnB E s f w B A n c l) (hg : w.grownBy w' (some b)) (hb : b < B) : OwnB E s f w' B A n c l := ⟨h.len, h.own.gb hg hb⟩
/-- All of a partition but what is asked for it; all of a channel but its Late. -/
def coreP (x : PtV) : PtV := { x with bud := 0, per := 0 }
def coreC (x : ChV) : ChV := { x with late := 0 }
/-- What stays while asks is about its loops. -/
structure AskS (p : Nat → Prop) (B b : Nat) (A : Option Addr) (m c : Nat) (f : Nat → Int) (A1 A2 : Option Addr) (n1 n2 c1 c2 B1 : Nat) (P0 : List PtV) (C0 : List ChV) (W w : World) (P : List PtV) (C : List ChV) : Prop where
  pp : OwnB 39 11 pcl w B1 A1 n1 c1 P
  ch : OwnB 47 6 cc w B1 A2 n2 c2 C
  pm : P.map coreP = P0.map coreP
  cm : C.map coreC = C0.map coreC
  tp : ∃ at_, TapeW w B b A m c f at_
  on : Only p W w
section
variable {p : Nat → Prop} {B b : Nat} {A : Option Addr} {m c : Nat} {f : Nat → Int} {A1 A2 : Option Addr} {n1 n2 c1 c2 B1 : Nat} {P0 : List PtV} {C0 : List ChV} {W w w' : World} {P : List PtV} {C : List ChV}
theorem AskS.bel (h : AskS p B b A m c f A1 A2 n1 n2 c1 c2 B1 P0 C0 W w P C) (hb : Below w.heap.size w w') : AskS p B b A m c f A1 A2 n1 n2 c1 c2 B1 P0 C0 W w' P C := by
  obtain ⟨at_, T⟩ := h.tp
  exact ⟨h.pp.below hb, h.ch.below hb, h.pm, h.cm, ⟨at_, T.below hb T.lt⟩, h.on.trans (Only.bel hb)⟩
theorem AskS.next (h : AskS p B b A m c f A1 A2 n1 n2 c1 c2 B1 P0 C0 W w P C) {at_ : Nat} (T : TapeW w' B b A m c f at_) (hg : w.grownBy w' (some b)) (hb : b < B1) (hp : p b) : AskS p B b A m c f A1 A2 n1 n2 c1 c2 B1 P0 C0 W w' P C :=
  ⟨h.pp.gb hg hb, h.ch.gb hg hb, h.pm, h.cm, ⟨at_, T⟩, h.on.trans (Only.gb hg hp)⟩
/-- A store into another block than the tape's leaves it. -/
theorem TapeW.other {at_ : Nat} (h : TapeW w B b A m c f at_) (q : Addr) (v : Value) (hq : B1 ≤ q.block) (hb : b < B1) : TapeW (w.setCell q v) B b A m c f at_ :=
  h.below (Bs := B1) ((Below.refl _ _).setCell hq v) hb
theorem map_set_same {α β : Type} {f : α → β} {l : List α} {i : Nat} {x y : α} (hx : l[i]? = some x) (h : f y = f x) : (l.set i y).map f = l.map f := by
  obtain ⟨hi, e⟩ := List.getElem?_eq_some_iff.1 hx
  apply List.ext_getElem?
  intro j
  rw [List.getElem?_map, List.getElem?_map, List.getElem?_set]
  by_cases hj : i = j
  · subst hj
    rw [if_pos rfl, if_pos hi, hx]
    simp [h]
  · rw [if_neg hj]
theorem AskS.late {g : Nat} (h : AskS p B b A m c f A1 (some ⟨g, 0, none⟩) n1 n2 c1 c2 B1 P0 C0 W w P C) {i : Nat} {x : ChV} (hx : C[i]? = some x) (z : Int) (hb : b < B1) (hp : p g) (h12 : obk A1 ≠ some g) :
    AskS p B b A m c f A1 (some ⟨g, 0, none⟩) n1 n2 c1 c2 B1 P0 C0 W (w.setCell ⟨g, i * 6 + 5, none⟩ (.int .i64 z)) P (C.set i { x with late := z }) := by
  obtain ⟨at_, T⟩ := h.tp
  have hBg : B1 ≤ g := (h.ch.own.obk_ge rfl).1
  exact ⟨h.pp.other _ _ fun g' e => fun e2 => h12 (by rw [e]; exact congrArg some e2), h.ch.put cc_len hx (by omega) (cc_late x z), h.pm, (map_set_same hx (show coreC { x with late := z } = coreC x from rfl)).trans h.cm, ⟨at_, T.other ⟨g, i * 6 + 5, none⟩ _ hBg hb⟩, h.on.trans (Only.set _ _ _ hp)⟩
theorem AskS.ask {g : Nat} (h : AskS p B b A m c f (some ⟨g, 0, none⟩) A2 n1 n2 c1 c2 B1 P0 C0 W w P C) {i : Nat} {x : PtV} (hx : P[i]? = some x) (y z : Int) (hb : b < B1) (hp : p g) (h12 : obk A2 ≠ some g) :
    AskS p B b A m c f (some ⟨g, 0, none⟩) A2 n1 n2 c1 c2 B1 P0 C0 W ((w.setCell ⟨g, i * 11 + 1, none⟩ (.int .i64 y)).setCell ⟨g, i * 11 + 2, none⟩ (.int .i64 z)) (P.set i { x with bud := y, per := z }) C := by
  obtain ⟨at_, T⟩ := h.tp
  have hBg : B1 ≤ g := (h.pp.own.obk_ge rfl).1
  have h1 := h.pp.put pcl_len hx (by omega) (pcl_bud x y)
  have hx1 : (P.set i { x with bud := y })[i]? = some { x with bud := y } := List.getElem?_set_self (List.getElem?_eq_some_iff.1 hx).1
  have h2 := h1.put pcl_len hx1 (by omega) (pcl_per { x with bud := y } z)
  rw [List.set_set] at h2
  exact ⟨h2, (h.ch.other _ _ fun g' e => fun e2 => h12 (by rw [e]; exact congrArg some e2)).other _ _ fun g' e => fun e2 => h12 (by rw [e]; exact congrArg some e2), (map_set_same hx (show coreP { x with bud := y, per := z } = coreP x from rfl)).trans h.pm, h.cm,
    ⟨at_, (T.other ⟨g, i * 11 + 1, none⟩ _ hBg hb).other ⟨g, i * 11 + 2, none⟩ _ hBg hb⟩, (h.on.trans (Only.set _ _ _ hp)).trans (Only.set _ _ _ hp)⟩
end
theorem loadVar_runC {w : World} {g : Nat} {v0 v1 v2 : Value} (h0 : w.cell? ⟨g, 0, none⟩ = some v0) (h1 : w.cell? ⟨g, 1, none⟩ = some v1) (h2 : w.cell? ⟨g, 2, none⟩ = some v2) : (loadVar 27 ⟨g, 0, none⟩).run Tryz.prog w = .ok (.agg #[v0, v1, v2]) w := by
  have e : (isAgg 27).run Tryz.prog w = .ok true w := by go_simp
  have e2 : (sizeOf 27).run Tryz.prog w = .ok 3 w := by go_simp
  unfold loadVar
  rw [Sem.run_bind, e, Result.andThen_ok]
  simp only [if_true]
  rw [Sem.run_bind, e2, Result.andThen_ok, Sem.run_bind]
  have := run_loadCells_list (P := Tryz.prog) (w := w) ⟨g, 0, none⟩ [v0, v1, v2] (fun j v hj => by
    match j with
    | 0 => simp at hj; subst hj; simpa [Addr.add] using h0
    | 1 => simp at hj; subst hj; simpa [Addr.add] using h1
    | 2 => simp at hj; subst hj; simpa [Addr.add] using h2
    | j + 3 => simp at hj)
  simp only [List.length_cons, List.length_nil] at this
  rw [this, Result.andThen_ok]
  rfl
theorem results_runC {fn : Func} {p : Tmp} (h : fn.results = #[.cell p 27]) {tmps : Array Value} {w : World} {g : Nat} {v0 v1 v2 : Value} (hp : tmps.getD p undef = .pointer (some ⟨g, 0, none⟩)) (h0 : w.cell? ⟨g, 0, none⟩ = some v0) (h1 : w.cell? ⟨g, 1, none⟩ = some v1) (h2 : w.cell? ⟨g, 2, none⟩ = some v2) :
    (results fn tmps).run Tryz.prog w = .ok (.agg #[v0, v1, v2]) w := by
  have e : (asAddr (.pointer (some ⟨g, 0, none⟩))).run Tryz.prog w = .ok ⟨g, 0, none⟩ w := rfl
  rw [results_cell1 h, hp, e, Result.andThen_ok, loadVar_runC h0 h1 h2]
theorem Only.new {p : Nat → Prop} {w w' : World} (h : Only p w w') (a : Addr) (v : Value) (ha : w.heap.size ≤ a.block) : Only p w (w'.setCell a v) :=
  ⟨h.os, h.tape, h.output, by have := h.size; simpa using this, fun k hk hn => (Below.heap_setCell w' a v k (by omega)).trans (h.block k hk hn)⟩
/-- Three stores into a block. -/
def set3 (w : World) (g : Nat) (v0 v1 v2 : Value) : World := ((w.setCell ⟨g, 0, none⟩ v0).setCell ⟨g, 1, none⟩ v1).setCell ⟨g, 2, none⟩ v2
theorem set3_cells {w : World} {g : Nat} {f : Nat → Value} (h : Vec w g 3 f) (v0 v1 v2 : Value) : (set3 w g v0 v1 v2).cell? ⟨g, 0, none⟩ = some v0 ∧ (set3 w g v0 v1 v2).cell? ⟨g, 1, none⟩ = some v1 ∧ (set3 w g v0 v1 v2).cell? ⟨g, 2, none⟩ = some v2 := by
  have h3 := ((h.set 0 v0).set 1 v1).set 2 v2
  refine ⟨(h3.cell 0 (by omega)).trans ?_, (h3.cell 1 (by omega)).trans ?_, (h3.cell 2 (by omega)).trans ?_⟩ <;> rfl
theorem AskS.res {p : Nat → Prop} {B b : Nat} {A : Option Addr} {m c : Nat} {f : Nat → Int} {A1 A2 : Option Addr} {n1 n2 c1 c2 B1 : Nat} {P0 : List PtV} {C0 : List ChV} {w0 W w : World} {P : List PtV} {C : List ChV}
    (h : AskS p B b A m c f A1 A2 n1 n2 c1 c2 B1 P0 C0 W w P C) (h0 : Only p w0 W) (g : Nat) (v0 v1 v2 : Value) (hg : w0.heap.size ≤ g) (hp : ∀ k, p k → k < w0.heap.size) (hb : p b) (h1 : ∀ k, obk A1 = some k → p k) (h2 : ∀ k, obk A2 = some k → p k) :
    RdB pcl (set3 w g v0 v1 v2) (set3 w g v0 v1 v2).heap.size A1 n1 P ∧ RdB cc (set3 w g v0 v1 v2) (set3 w g v0 v1 v2).heap.size A2 n2 C ∧ (∃ at_, TapeW (set3 w g v0 v1 v2) B b A m c f at_) ∧ Only p w0 (set3 w g v0 v1 v2) ∧ OwnB 39 11 pcl (set3 w g v0 v1 v2) B1 A1 n1 c1 P ∧ OwnB 47 6 cc (set3 w g v0 v1 v2) B1 A2 n2 c2 C := by
  have hs : (set3 w g v0 v1 v2).heap.size = w.heap.size := by simp [set3]
  have n1' : ∀ k, obk A1 = some k → k ≠ g := fun k e => by have := hp k (h1 k e); omega
  have n2' : ∀ k, obk A2 = some k → k ≠ g := fun k e => by have := hp k (h2 k e); omega
  obtain ⟨at_, T⟩ := h.tp
  have hbl : Below w0.heap.size w (set3 w g v0 v1 v2) := (((Below.refl _ _).setCell (p := ⟨g, 0, none⟩) hg v0).setCell (p := ⟨g, 1, none⟩) hg v1).setCell (p := ⟨g, 2, none⟩) hg v2
  refine ⟨?_, ?_, ⟨at_, T.below hbl (hp b hb)⟩, (((h0.trans h.on).new ⟨g, 0, none⟩ v0 hg).new ⟨g, 1, none⟩ v1 hg).new ⟨g, 2, none⟩ v2 hg, ?_, ?_⟩
  · rw [hs]
    exact ((h.pp.rdb.other ⟨g, 0, none⟩ v0 n1').other ⟨g, 1, none⟩ v1 n1').other ⟨g, 2, none⟩ v2 n1'
  · rw [hs]
    exact ((h.ch.rdb.other ⟨g, 0, none⟩ v0 n2').other ⟨g, 1, none⟩ v1 n2').other ⟨g, 2, none⟩ v2 n2'
  · have k1 : ∀ g' : Nat, A1 = some ⟨g', 0, none⟩ → g' ≠ g := fun g' e => n1' g' (by rw [e]; rfl)
    exact ((h.pp.other ⟨g, 0, none⟩ v0 k1).other ⟨g, 1, none⟩ v1 k1).other ⟨g, 2, none⟩ v2 k1
  · have k2 : ∀ g' : Nat, A2 = some ⟨g', 0, none⟩ → g' ≠ g := fun g' e => n2' g' (by rw [e]; rfl)
    exact ((h.ch.other ⟨g, 0, none⟩ v0 k2).other ⟨g, 1, none⟩ v1 k2).other ⟨g, 2, none⟩ v2 k2
end Go.Proofs.YtebcfiifaclniaaGreat

/- A configuration under way, out of a tape: what stays while it is made. -/
namespace Go.Proofs.YtebcfiifaclniaaGreat
open Go.RowKit Tab
set_option linter.unusedSimpArgs false
set_option linter.unusedVariables false

def box3 (v0 v1 v2 : Value) (j : Nat) : Value := if j = 0 then v0 else if j = 1 then v1 else v2
/-- The tape at b, the configuration's cells at gc; its rows lie at BB or behind it, each apart. -/
structure CfgS (B b : Nat) (A : Option Addr) (m c : Nat) (f : Nat → Int) (w : World) (gr gc BB : Nat) (A1 A2 A3 : Option Addr) (n1 n2 n3 c1 c2 c3 : Nat) (P : List PtV) (C : List ChV) (T : List TbV) (wr : World) : Prop where
  tp : ∃ at_, TapeW wr B b A m c f at_
  gb : w.grownBy wr (some b)
  cf : Vec wr gc 3 (box3 (.slice A1 n1 c1) (.slice A2 n2 c2) (.slice A3 n3 c3))
  rs : Vec wr gr 3 (box3 (.slice none 0 0) (.slice none 0 0) (.slice none 0 0))
  pp : OwnB 39 11 pcl wr BB A1 n1 c1 P
  ch : OwnB 47 6 cc wr BB A2 n2 c2 C
  tb : OwnB 44 1 tcl wr BB A3 n3 c3 T
  pt : ∀ x ∈ P, PtAt wr wr.heap.size x ∧ ∀ k, obk x.pa = some k → BB ≤ k ∧ k < wr.heap.size ∧ obk A1 ≠ some k ∧ obk A2 ≠ some k ∧ obk A3 ≠ some k
  tt : ∀ t ∈ T, (TbAt wr wr.heap.size t ∧ Frame t) ∧ ∀ k, obk t.A = some k → BB ≤ k ∧ k < wr.heap.size ∧ obk A1 ≠ some k ∧ obk A2 ≠ some k ∧ obk A3 ≠ some k
  d12 : ∀ k, obk A1 = some k → obk A2 ≠ some k
  d13 : ∀ k, obk A1 = some k → obk A3 ≠ some k
  d23 : ∀ k, obk A2 = some k → obk A3 ≠ some k
/-- What lies apart of the tape, the configuration's cells. -/
structure CfgB (b : Nat) (w : World) (gr gc BB : Nat) : Prop where
  br : b < gr
  wr : gr = w.heap.size
  rc : gc = gr + 1
  cB : BB = gc + 1
section
variable {B b : Nat} {A : Option Addr} {m c : Nat} {f : Nat → Int} {w : World} {gr gc BB : Nat} {A1 A2 A3 : Option Addr} {n1 n2 n3 c1 c2 c3 : Nat} {P : List PtV} {C : List ChV} {T : List TbV} {wr w' : World}
theorem PtAt.only {p : Nat → Prop} {x : PtV} (h : PtAt wr wr.heap.size x) (ho : Only p wr w') (hA : ∀ b, obk x.pa = some b → ¬ p b) : PtAt w' w'.heap.size x := ⟨h.per, h.name, h.few, h.procs.only ho hA⟩
theorem TbAt.only {p : Nat → Prop} {t : TbV} (h : TbAt wr wr.heap.size t) (ho : Only p wr w') (hA : ∀ b, obk t.A = some b → ¬ p b) : TbAt w' w'.heap.size t := ⟨⟨h.rd.len, ho.rdv (B := 0) h.rd.rd hA, h.rd.bd⟩, h.cap, h.ok, h.few⟩
/-- Whatever turns no block of its own but the tape's leaves it. -/
theorem CfgS.only (h : CfgS B b A m c f w gr gc BB A1 A2 A3 n1 n2 n3 c1 c2 c3 P C T wr) (hB : CfgB b w gr gc BB) (ho : Only (fun k => k = b) wr w') (ht : ∃ at_, TapeW w' B b A m c f at_) : CfgS B b A m c f w gr gc BB A1 A2 A3 n1 n2 n3 c1 c2 c3 P C T w' := by
  have h1 := hB.br
  have h2 := hB.wr
  have h3 := hB.rc
  have h4 := hB.cB
  have hs := h.gb.size
  refine ⟨ht, ⟨ho.os.trans h.gb.os, ho.tape.trans h.gb.tape, ho.output.trans h.gb.output, Nat.le_trans h.gb.size ho.size, fun k hk hne => (ho.block k (by omega) fun e => hne (by rw [e])).trans (h.gb.block k hk hne)⟩,
    h.cf.keep (ho.block gc h.cf.lt (by omega)) ho.size, h.rs.keep (ho.block gr h.rs.lt (by omega)) ho.size, ⟨h.pp.len, h.pp.own.keep fun k hk hl => ho.block k hl (by omega)⟩, ⟨h.ch.len, h.ch.own.keep fun k hk hl => ho.block k hl (by omega)⟩, ⟨h.tb.len, h.tb.own.keep fun k hk hl => ho.block k hl (by omega)⟩, fun x hx => ?_, fun t ht => ?_, h.d12, h.d13, h.d23⟩
  · obtain ⟨p1, p2⟩ := h.pt x hx
    exact ⟨p1.only ho fun k hk e => by have := (p2 k hk).1; omega, fun k hk => ⟨(p2 k hk).1, Nat.lt_of_lt_of_le (p2 k hk).2.1 ho.size, (p2 k hk).2.2⟩⟩
  · obtain ⟨p1, p2⟩ := h.tt t ht
    exact ⟨⟨p1.1.only ho fun k hk e => by have := (p2 k hk).1; omega, p1.2⟩, fun k hk => ⟨(p2 k hk).1, Nat.lt_of_lt_of_le (p2 k hk).2.1 ho.size, (p2 k hk).2.2⟩⟩
theorem CfgS.bel (h : CfgS B b A m c f w gr gc BB A1 A2 A3 n1 n2 n3 c1 c2 c3 P C T wr) (hB : CfgB b w gr gc BB) (hb : Below wr.heap.size wr w') : CfgS B b A m c f w gr gc BB A1 A2 A3 n1 n2 n3 c1 c2 c3 P C T w' := by
  obtain ⟨at_, ht⟩ := h.tp
  exact h.only hB (Only.bel hb) ⟨at_, ht.below hb ht.lt⟩
theorem CfgS.next (h : CfgS B b A m c f w gr gc BB A1 A2 A3 n1 n2 n3 c1 c2 c3 P C T wr) (hB : CfgB b w gr gc BB) {at_ : Nat} (ht : TapeW w' B b A m c f at_) (hg : wr.grownBy w' (some b)) : CfgS B b A m c f w gr gc BB A1 A2 A3 n1 n2 n3 c1 c2 c3 P C T w' :=
  h.only hB (Only.gb hg rfl) ⟨at_, ht⟩
theorem Grew.keep {A0 A' : Option Addr} {k : Nat} (hg : Grew A0 A' wr w') (hk : k < wr.heap.size) (hn : obk A0 ≠ some k) : w'.heap[k]? = wr.heap[k]? := hg.gb.block k hk fun e => hn e.symm
theorem Grew.apart {A0 A' : Option Addr} {k : Nat} (hg : Grew A0 A' wr w') (hk : k < wr.heap.size) (hn : obk A0 ≠ some k) : obk A' ≠ some k := by
  rcases hg.at_ with e | ⟨g, e, h⟩
  · rw [e]; exact hn
  · rw [e]; intro e2; injection e2 with e2; omega
theorem Grew.apart' {A0 A' D : Option Addr} (hg : Grew A0 A' wr w') (hD : ∀ k, obk D = some k → k < wr.heap.size) (hn : ∀ k, obk A0 = some k → obk D ≠ some k) : ∀ k, obk A' = some k → obk D ≠ some k := fun k e e2 => by
  rcases hg.at_ with e3 | ⟨g, e3, h⟩
  · exact hn k (by rw [← e3]; exact e) e2
  · have := hD k e2
    rw [e3] at e
    injection e with e
    omega
/-- One more in a row. -/
theorem CfgS.part (h : CfgS B b A m c f w gr gc BB A1 A2 A3 n1 n2 n3 c1 c2 c3 P C T wr) (hB : CfgB b w gr gc BB) {A' : Option Addr} {c' : Nat} {x : PtV} (hg : Grew A1 A' wr w') (ho : OwnV 39 11 w' BB A' (n1 + 1) c' ((P ++ [x]).flatMap pcl)) (hx : PtAt wr wr.heap.size x ∧ ∀ k, obk x.pa = some k → BB ≤ k ∧ k < wr.heap.size ∧ obk A1 ≠ some k ∧ obk A2 ≠ some k ∧ obk A3 ≠ some k) :
    CfgS B b A m c f w gr gc BB A' A2 A3 (n1 + 1) n2 n3 c' c2 c3 (P ++ [x]) C T (w'.setCell ⟨gc, 0, none⟩ (.slice A' (n1 + 1) c')) := by
  have h1 := hB.br
  have h2 := hB.wr
  have h3 := hB.rc
  have h4 := hB.cB
  have hs := h.gb.size
  have hgc : obk A1 ≠ some gc := fun e => by have := (h.pp.own.obk_ge e).1; omega
  have hgc' : obk A' ≠ some gc := hg.apart h.cf.lt hgc
  have hlo : ∀ k, k < BB → k < wr.heap.size → w'.heap[k]? = wr.heap[k]? := fun k hk hl => hg.keep hl fun e => by have := (h.pp.own.obk_ge e).1; omega
  have hset : ∀ k v, k ≠ gc → (w'.setCell ⟨gc, 0, none⟩ v).heap[k]? = w'.heap[k]? := fun k v hk => Below.heap_setCell _ _ _ _ hk
  have hss : ∀ v, (w'.setCell ⟨gc, 0, none⟩ v).heap.size = w'.heap.size := fun v => by simp
  have hon : ∀ v, Only (fun k => obk A1 = some k ∨ k = gc) wr (w'.setCell ⟨gc, 0, none⟩ v) := fun v => ⟨hg.gb.os, hg.gb.tape, hg.gb.output, by rw [hss]; exact hg.gb.size, fun k hk hn => (hset k v fun e => hn (.inr e)).trans (hg.keep hk fun e => hn (.inl e))⟩
  have hkeep : ∀ v k, k < wr.heap.size → obk A1 ≠ some k → k ≠ gc → (w'.setCell ⟨gc, 0, none⟩ v).heap[k]? = wr.heap[k]? := fun v k hk h1 h2 => (hset k v h2).trans (hg.keep hk h1)
  obtain ⟨at_, ht⟩ := h.tp
  refine ⟨⟨at_, ht.below (Bs := gc) ⟨hg.gb.os, hg.gb.tape, hg.gb.output, by rw [hss]; exact hg.gb.size, fun k hk => (hset k _ (by omega)).trans (hlo k (by omega) (by have := h.cf.lt; omega))⟩ (by omega)⟩, ⟨hg.gb.os.trans h.gb.os, hg.gb.tape.trans h.gb.tape, hg.gb.output.trans h.gb.output, by rw [hss]; exact Nat.le_trans h.gb.size hg.gb.size, fun k hk hne => ((hset k _ (by omega)).trans (hlo k (by omega) (by omega))).trans (h.gb.block k hk hne)⟩,
    ((h.cf.keep (hg.keep h.cf.lt hgc) hg.gb.size).set 0 _).congr fun j hj => ?_, h.rs.keep (hkeep _ gr h.rs.lt (fun e => by have := (h.pp.own.obk_ge e).1; omega) (by omega)) (by rw [hss]; exact hg.gb.size), ⟨by rw [List.length_append, h.pp.len]; rfl, ho.other ⟨gc, 0, none⟩ _ fun g e e2 => hgc' (by rw [e]; exact congrArg some e2)⟩, ⟨h.ch.len, h.ch.own.keep' fun k hk => hkeep _ k (h.ch.own.obk_ge hk).2 (fun e => h.d12 k e hk) (by have := (h.ch.own.obk_ge hk).1; omega)⟩, ⟨h.tb.len, h.tb.own.keep' fun k hk => hkeep _ k (h.tb.own.obk_ge hk).2 (fun e => h.d13 k e hk) (by have := (h.tb.own.obk_ge hk).1; omega)⟩, fun y hy => ?_, fun y hy => ?_, hg.apart' (fun k hk => (h.ch.own.obk_ge hk).2) h.d12, hg.apart' (fun k hk => (h.tb.own.obk_ge hk).2) h.d13, h.d23⟩
  · unfold put1 box3
    rcases (by omega : j = 0 ∨ j = 1 ∨ j = 2) with rfl | rfl | rfl <;> rfl
  · rcases List.mem_append.1 hy with hy | hy
    · obtain ⟨p1, p2⟩ := h.pt y hy
      exact ⟨p1.only (hon _) (fun k hk e => by
          rcases e with e | e
          · exact (p2 k hk).2.2.1 e
          · have := (p2 k hk).1; omega), fun k hk => ⟨(p2 k hk).1, by rw [hss]; exact Nat.lt_of_lt_of_le (p2 k hk).2.1 hg.gb.size, hg.apart (p2 k hk).2.1 (p2 k hk).2.2.1, (p2 k hk).2.2.2.1, (p2 k hk).2.2.2.2⟩⟩
    · simp at hy
      subst hy
      obtain ⟨p1, p2⟩ := hx
      exact ⟨p1.only (hon _) (fun k hk e => by
          rcases e with e | e
          · exact (p2 k hk).2.2.1 e
          · have := (p2 k hk).1; omega), fun k hk => ⟨(p2 k hk).1, by rw [hss]; exact Nat.lt_of_lt_of_le (p2 k hk).2.1 hg.gb.size, hg.apart (p2 k hk).2.1 (p2 k hk).2.2.1, (p2 k hk).2.2.2.1, (p2 k hk).2.2.2.2⟩⟩
  · obtain ⟨p1, p2⟩ := h.tt y hy
    exact ⟨⟨p1.1.only (hon _) (fun k hk e => by
        rcases e with e | e
        · exact (p2 k hk).2.2.1 e
        · have := (p2 k hk).1; omega), p1.2⟩, fun k hk => ⟨(p2 k hk).1, by rw [hss]; exact Nat.lt_of_lt_of_le (p2 k hk).2.1 hg.gb.size, hg.apart (p2 k hk).2.1 (p2 k hk).2.2.1, (p2 k hk).2.2.2.1, (p2 k hk).2.2.2.2⟩⟩
/-- One more in a row. -/
theorem CfgS.chan (h : CfgS B b A m c f w gr gc BB A1 A2 A3 n1 n2 n3 c1 c2 c3 P C T wr) (hB : CfgB b w gr gc BB) {A' : Option Addr} {c' : Nat} {x : ChV} (hg : Grew A2 A' wr w') (ho : OwnV 47 6 w' BB A' (n2 + 1) c' ((C ++ [x]).flatMap cc)) :
    CfgS B b A m c f w gr gc BB A1 A' A3 n1 (n2 + 1) n3 c1 c' c3 P (C ++ [x]) T (w'.setCell ⟨gc, 1, none⟩ (.slice A' (n2 + 1) c')) := by
  have h1 := hB.br
  have h2 := hB.wr
  have h3 := hB.rc
  have h4 := hB.cB
  have hs := h.gb.size
  have hgc : obk A2 ≠ some gc := fun e => by have := (h.ch.own.obk_ge e).1; omega
  have hgc' : obk A' ≠ some gc := hg.apart h.cf.lt hgc
  have hlo : ∀ k, k < BB → k < wr.heap.size → w'.heap[k]? = wr.heap[k]? := fun k hk hl => hg.keep hl fun e => by have := (h.ch.own.obk_ge e).1; omega
  have hset : ∀ k v, k ≠ gc → (w'.setCell ⟨gc, 1, none⟩ v).heap[k]? = w'.heap[k]? := fun k v hk => Below.heap_setCell _ _ _ _ hk
  have hss : ∀ v, (w'.setCell ⟨gc, 1, none⟩ v).heap.size = w'.heap.size := fun v => by simp
  have hon : ∀ v, Only (fun k => obk A2 = some k ∨ k = gc) wr (w'.setCell ⟨gc, 1, none⟩ v) := fun v => ⟨hg.gb.os, hg.gb.tape, hg.gb.output, by rw [hss]; exact hg.gb.size, fun k hk hn => (hset k v fun e => hn (.inr e)).trans (hg.keep hk fun e => hn (.inl e))⟩
  have hkeep : ∀ v k, k < wr.heap.size → obk A2 ≠ some k → k ≠ gc → (w'.setCell ⟨gc, 1, none⟩ v).heap[k]? = wr.heap[k]? := fun v k hk h1 h2 => (hset k v h2).trans (hg.keep hk h1)
  obtain ⟨at_, ht⟩ := h.tp
  refine ⟨⟨at_, ht.below (Bs := gc) ⟨hg.gb.os, hg.gb.tape, hg.gb.output, by rw [hss]; exact hg.gb.size, fun k hk => (hset k _ (by omega)).trans (hlo k (by omega) (by have := h.cf.lt; omega))⟩ (by omega)⟩, ⟨hg.gb.os.trans h.gb.os, hg.gb.tape.trans h.gb.tape, hg.gb.output.trans h.gb.output, by rw [hss]; exact Nat.le_trans h.gb.size hg.gb.size, fun k hk hne => ((hset k _ (by omega)).trans (hlo k (by omega) (by omega))).trans (h.gb.block k hk hne)⟩,
    ((h.cf.keep (hg.keep h.cf.lt hgc) hg.gb.size).set 1 _).congr fun j hj => ?_, h.rs.keep (hkeep _ gr h.rs.lt (fun e => by have := (h.ch.own.obk_ge e).1; omega) (by omega)) (by rw [hss]; exact hg.gb.size), ⟨h.pp.len, h.pp.own.keep' fun k hk => hkeep _ k (h.pp.own.obk_ge hk).2 (fun e => h.d12 k hk e) (by have := (h.pp.own.obk_ge hk).1; omega)⟩, ⟨by rw [List.length_append, h.ch.len]; rfl, ho.other ⟨gc, 1, none⟩ _ fun g e e2 => hgc' (by rw [e]; exact congrArg some e2)⟩, ⟨h.tb.len, h.tb.own.keep' fun k hk => hkeep _ k (h.tb.own.obk_ge hk).2 (fun e => h.d23 k e hk) (by have := (h.tb.own.obk_ge hk).1; omega)⟩, fun y hy => ?_, fun y hy => ?_, fun k hk e => hg.apart' (D := A1) (fun k hk => (h.pp.own.obk_ge hk).2) (fun k e e2 => h.d12 k e2 e) k e hk, h.d13, hg.apart' (fun k hk => (h.tb.own.obk_ge hk).2) h.d23⟩
  · unfold put1 box3
    rcases (by omega : j = 0 ∨ j = 1 ∨ j = 2) with rfl | rfl | rfl <;> rfl
  · obtain ⟨p1, p2⟩ := h.pt y hy
    exact ⟨p1.only (hon _) (fun k hk e => by
        rcases e with e | e
        · exact (p2 k hk).2.2.2.1 e
        · have := (p2 k hk).1; omega), fun k hk => ⟨(p2 k hk).1, by rw [hss]; exact Nat.lt_of_lt_of_le (p2 k hk).2.1 hg.gb.size, (p2 k hk).2.2.1, hg.apart (p2 k hk).2.1 (p2 k hk).2.2.2.1, (p2 k hk).2.2.2.2⟩⟩
  · obtain ⟨p1, p2⟩ := h.tt y hy
    exact ⟨⟨p1.1.only (hon _) (fun k hk e => by
        rcases e with e | e
        · exact (p2 k hk).2.2.2.1 e
        · have := (p2 k hk).1; omega), p1.2⟩, fun k hk => ⟨(p2 k hk).1, by rw [hss]; exact Nat.lt_of_lt_of_le (p2 k hk).2.1 hg.gb.size, (p2 k hk).2.2.1, hg.apart (p2 k hk).2.1 (p2 k hk).2.2.2.1, (p2 k hk).2.2.2.2⟩⟩
/-- One more in a row. -/
theorem CfgS.tabl (h : CfgS B b A m c f w gr gc BB A1 A2 A3 n1 n2 n3 c1 c2 c3 P C T wr) (hB : CfgB b w gr gc BB) {A' : Option Addr} {c' : Nat} {x : TbV} (hg : Grew A3 A' wr w') (ho : OwnV 44 1 w' BB A' (n3 + 1) c' ((T ++ [x]).flatMap tcl)) (hx : (TbAt wr wr.heap.size x ∧ Frame x) ∧ ∀ k, obk x.A = some k → BB ≤ k ∧ k < wr.heap.size ∧ obk A1 ≠ some k ∧ obk A2 ≠ some k ∧ obk A3 ≠ some k) :
    CfgS B b A m c f w gr gc BB A1 A2 A' n1 n2 (n3 + 1) c1 c2 c' P C (T ++ [x]) (w'.setCell ⟨gc, 2, none⟩ (.slice A' (n3 + 1) c')) := by
  have h1 := hB.br
  have h2 := hB.wr
  have h3 := hB.rc
  have h4 := hB.cB
  have hs := h.gb.size
  have hgc : obk A3 ≠ some gc := fun e => by have := (h.tb.own.obk_ge e).1; omega
  have hgc' : obk A' ≠ some gc := hg.apart h.cf.lt hgc
  have hlo : ∀ k, k < BB → k < wr.heap.size → w'.heap[k]? = wr.heap[k]? := fun k hk hl => hg.keep hl fun e => by have := (h.tb.own.obk_ge e).1; omega
  have hset : ∀ k v, k ≠ gc → (w'.setCell ⟨gc, 2, none⟩ v).heap[k]? = w'.heap[k]? := fun k v hk => Below.heap_setCell _ _ _ _ hk
  have hss : ∀ v, (w'.setCell ⟨gc, 2, none⟩ v).heap.size = w'.heap.size := fun v => by simp
  have hon : ∀ v, Only (fun k => obk A3 = some k ∨ k = gc) wr (w'.setCell ⟨gc, 2, none⟩ v) := fun v => ⟨hg.gb.os, hg.gb.tape, hg.gb.output, by rw [hss]; exact hg.gb.size, fun k hk hn => (hset k v fun e => hn (.inr e)).trans (hg.keep hk fun e => hn (.inl e))⟩
  have hkeep : ∀ v k, k < wr.heap.size → obk A3 ≠ some k → k ≠ gc → (w'.setCell ⟨gc, 2, none⟩ v).heap[k]? = wr.heap[k]? := fun v k hk h1 h2 => (hset k v h2).trans (hg.keep hk h1)
  obtain ⟨at_, ht⟩ := h.tp
  refine ⟨⟨at_, ht.below (Bs := gc) ⟨hg.gb.os, hg.gb.tape, hg.gb.output, by rw [hss]; exact hg.gb.size, fun k hk => (hset k _ (by omega)).trans (hlo k (by omega) (by have := h.cf.lt; omega))⟩ (by omega)⟩, ⟨hg.gb.os.trans h.gb.os, hg.gb.tape.trans h.gb.tape, hg.gb.output.trans h.gb.output, by rw [hss]; exact Nat.le_trans h.gb.size hg.gb.size, fun k hk hne => ((hset k _ (by omega)).trans (hlo k (by omega) (by omega))).trans (h.gb.block k hk hne)⟩,
    ((h.cf.keep (hg.keep h.cf.lt hgc) hg.gb.size).set 2 _).congr fun j hj => ?_, h.rs.keep (hkeep _ gr h.rs.lt (fun e => by have := (h.tb.own.obk_ge e).1; omega) (by omega)) (by rw [hss]; exact hg.gb.size), ⟨h.pp.len, h.pp.own.keep' fun k hk => hkeep _ k (h.pp.own.obk_ge hk).2 (fun e => h.d13 k hk e) (by have := (h.pp.own.obk_ge hk).1; omega)⟩, ⟨h.ch.len, h.ch.own.keep' fun k hk => hkeep _ k (h.ch.own.obk_ge hk).2 (fun e => h.d23 k hk e) (by have := (h.ch.own.obk_ge hk).1; omega)⟩, ⟨by rw [List.length_append, h.tb.len]; rfl, ho.other ⟨gc, 2, none⟩ _ fun g e e2 => hgc' (by rw [e]; exact congrArg some e2)⟩, fun y hy => ?_, fun y hy => ?_, h.d12, fun k hk e => hg.apart' (D := A1) (fun k hk => (h.pp.own.obk_ge hk).2) (fun k e e2 => h.d13 k e2 e) k e hk, fun k hk e => hg.apart' (D := A2) (fun k hk => (h.ch.own.obk_ge hk).2) (fun k e e2 => h.d23 k e2 e) k e hk⟩
  · unfold put1 box3
    rcases (by omega : j = 0 ∨ j = 1 ∨ j = 2) with rfl | rfl | rfl <;> rfl
  · obtain ⟨p1, p2⟩ := h.pt y hy
    exact ⟨p1.only (hon _) (fun k hk e => by
        rcases e with e | e
        · exact (p2 k hk).2.2.2.2 e
        · have := (p2 k hk).1; omega), fun k hk => ⟨(p2 k hk).1, by rw [hss]; exact Nat.lt_of_lt_of_le (p2 k hk).2.1 hg.gb.size, (p2 k hk).2.2.1, (p2 k hk).2.2.2.1, hg.apart (p2 k hk).2.1 (p2 k hk).2.2.2.2⟩⟩
  · rcases List.mem_append.1 hy with hy | hy
    · obtain ⟨p1, p2⟩ := h.tt y hy
      exact ⟨⟨p1.1.only (hon _) (fun k hk e => by
          rcases e with e | e
          · exact (p2 k hk).2.2.2.2 e
          · have := (p2 k hk).1; omega), p1.2⟩, fun k hk => ⟨(p2 k hk).1, by rw [hss]; exact Nat.lt_of_lt_of_le (p2 k hk).2.1 hg.gb.size, (p2 k hk).2.2.1, (p2 k hk).2.2.2.1, hg.apart (p2 k hk).2.1 (p2 k hk).2.2.2.2⟩⟩
    · simp at hy
      subst hy
      obtain ⟨p1, p2⟩ := hx
      exact ⟨⟨p1.1.only (hon _) (fun k hk e => by
          rcases e with e | e
          · exact (p2 k hk).2.2.2.2 e
          · have := (p2 k hk).1; omega), p1.2⟩, fun k hk => ⟨(p2 k hk).1, by rw [hss]; exact Nat.lt_of_lt_of_le (p2 k hk).2.1 hg.gb.size, (p2 k hk).2.2.1, (p2 k hk).2.2.2.1, hg.apart (p2 k hk).2.1 (p2 k hk).2.2.2.2⟩⟩
end
end Go.Proofs.YtebcfiifaclniaaGreat
