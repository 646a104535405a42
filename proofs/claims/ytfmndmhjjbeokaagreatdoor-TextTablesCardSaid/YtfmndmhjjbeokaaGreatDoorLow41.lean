import Derived.Test.YtfmndmhjjbeokaaGreatDoorLow39
import Derived.Test.YtfmndmhjjbeokaaGreatDoorLow40
import Derived.Test.YtfmndmhjjbeokaaGreatDoorLow24
namespace Go.Proofs.YtfmndmhjjbeokaaGreatDoor
namespace Txt
open Tab
set_option linter.unusedSimpArgs false
set_option linter.unusedVariables false
def s4 : Nat → Nat
  | 0 => 0
  | d + 1 => 1 + 4 * s4 d
theorem s4_mono {a b : Nat} (h : a ≤ b) : s4 a ≤ s4 b := by
  induction b generalizing a with
  | zero => obtain rfl : a = 0 := by omega
            exact Nat.le_refl _
  | succ b ih =>
    cases a with
    | zero => exact Nat.zero_le _
    | succ a => have := ih (a := a) (by omega); simp only [s4]; omega
theorem few_sz : ∀ (f : F), f.ok → (∀ y ∈ f.flat, y.n ≤ 4) → f.sz ≤ f.cnt * s4 f.dep
  | .nil, _, _ => by simp [F.sz]
  | .cons x k r, h, hn => by
    have i1 := few_sz k h.2.2.1 fun y hy => hn y (by simp [F.flat, hy])
    have i2 := few_sz r h.2.2.2 fun y hy => hn y (by simp [F.flat, hy])
    have hx := hn x (by simp [F.flat])
    have hc : k.cnt ≤ 4 := by
      rw [h.2.1]
      unfold kn
      split
      · omega
      · split <;> omega
    have m1 : s4 k.dep ≤ s4 (max (k.dep + 1) r.dep - 1) := s4_mono (by omega)
    have m2 : s4 r.dep ≤ s4 (max (k.dep + 1) r.dep) := s4_mono (by omega)
    simp only [F.sz, F.cnt, F.dep]
    obtain ⟨D, hD⟩ : ∃ D, max (k.dep + 1) r.dep = D + 1 := ⟨max (k.dep + 1) r.dep - 1, by omega⟩
    rw [hD] at m1 m2 ⊢
    rw [Nat.add_sub_cancel] at m1
    have j1 : k.cnt * s4 k.dep ≤ 4 * s4 D := Nat.mul_le_mul hc m1
    have j2 : r.cnt * s4 r.dep ≤ r.cnt * s4 (D + 1) := Nat.mul_le_mul_left _ m2
    have j3 : s4 (D + 1) = 1 + 4 * s4 D := rfl
    rw [Nat.add_mul, Nat.one_mul]
    omega
theorem few_len : ∀ (f : F), f.ok → (∀ y ∈ f.flat, y.n ≤ 4) → f.len ≤ f.cnt * 4 ^ f.dep
  | .nil, _, _ => by simp [F.len]
  | .cons x k r, h, hn => by
    have i1 := few_len k h.2.2.1 fun y hy => hn y (by simp [F.flat, hy])
    have i2 := few_len r h.2.2.2 fun y hy => hn y (by simp [F.flat, hy])
    have hx := hn x (by simp [F.flat])
    have hx4 : x.n.toNat ≤ 4 := by omega
    simp only [F.len, F.cnt, F.dep]
    obtain ⟨D, hD⟩ : ∃ D, max (k.dep + 1) r.dep = D + 1 := ⟨max (k.dep + 1) r.dep - 1, by omega⟩
    rw [hD]
    have m1 : 4 ^ k.dep ≤ 4 ^ D := Nat.pow_le_pow_right (by omega) (by omega)
    have m2 : 4 ^ r.dep ≤ 4 ^ (D + 1) := Nat.pow_le_pow_right (by omega) (by omega)
    have m0 : 1 ≤ 4 ^ D := Nat.pow_pos (by omega)
    have j2 : r.cnt * 4 ^ r.dep ≤ r.cnt * 4 ^ (D + 1) := Nat.mul_le_mul_left _ m2
    have j3 : 4 ^ (D + 1) = 4 ^ D * 4 := Nat.pow_succ 4 D
    have j4 : F.tick x k.len ≤ 4 ^ D * 4 := by
      have hk := h.2.1
      unfold kn at hk
      unfold F.tick
      split
      · rename_i h3
        rw [if_pos h3] at hk
        have : k.cnt * 4 ^ k.dep ≤ 4 * 4 ^ D := Nat.mul_le_mul (by omega) m1
        omega
      · rename_i h3
        rw [if_neg h3] at hk
        split
        · rename_i h4
          rw [if_pos h4] at hk
          rw [hk, Nat.one_mul] at i1
          exact Nat.mul_le_mul (Nat.le_trans i1 m1) hx4
        · omega
    rw [Nat.add_mul, Nat.one_mul]
    omega
theorem few_right {x : Nd} {k : F} (hok : (F.cons x k .nil).ok) (hn : ∀ y ∈ x :: k.flat, y.n ≤ 4) (hd : k.dep ≤ 2) : k.sz + 1 ≤ 21 ∧ F.tick x k.len ≤ 64 := by
  have hn' : ∀ y ∈ (F.cons x k .nil).flat, y.n ≤ 4 := fun y hy => hn y (by simpa [F.flat] using hy)
  have h1 := few_sz _ hok hn'
  have h2 := few_len _ hok hn'
  have hdd : (F.cons x k .nil).dep = k.dep + 1 := by simp [F.dep]
  have m1 : s4 (k.dep + 1) ≤ s4 3 := s4_mono (by omega)
  have m2 : 4 ^ (k.dep + 1) ≤ 4 ^ 3 := Nat.pow_le_pow_right (by omega) (by omega)
  rw [hdd] at h1 h2
  simp only [F.cnt, F.sz, F.len] at h1 h2
  have e1 : s4 3 = 21 := by decide
  have e2 : (4 : Nat) ^ 3 = 64 := by decide
  omega
theorem few_rt {x : Nd} {k : F} {n : Nat} (hok : (F.cons x k .nil).ok) (hn : ∀ y ∈ x :: k.flat, y.n ≤ 4) (hd : k.dep ≤ 2) (hl : k.sz + 1 = n) : rt n (k.dep + 1) (F.tick x k.len) = 0 := by
  have := few_right hok hn hd
  unfold rt
  rw [if_neg (by omega), if_neg (by omega), if_neg (by omega)]
def look6 (s : List UInt8) : Int := if (valF lim40 s).2 = true then ((valF lim40 s).1 : Int) else -1
theorem look6_ok (s : List UInt8) (h : 0 ≤ look6 s) : (valF lim40 s).2 = true ∧ look6 s = ((valF lim40 s).1 : Int) := by
  unfold look6 at h ⊢
  by_cases e : (valF lim40 s).2 = true
  · rw [if_pos e]; exact ⟨e, rfl⟩
  · rw [if_neg e] at h; omega
theorem nm6 {p : Int} (h : 0 ≤ p) (h6 : p < 6) : nmP num6 p = [dg p.toNat] ∧ look6 (nmP num6 p) = p ∧ ∀ c ∈ nmP num6 p, st4 c = false := by
  obtain ⟨i, rfl⟩ := Int.eq_ofNat_of_zero_le h
  have hi : i < 6 := by omega
  have e : nmP num6 (i : Int) = numB i := by
    unfold nmP
    rw [if_pos h, Int.toNat_natCast, List.getD_eq_getElem?_getD, num6_get hi]
    rfl
  rw [e]
  refine ⟨by rw [Int.toNat_natCast]; exact numB_low (by omega), ?_, ?_⟩
  · unfold look6
    rw [valF_num (m := lim40) (n := i) (by unfold lim40; omega)]
    rfl
  · rw [numB_low (by omega)]
    intro c hc
    obtain rfl := List.mem_singleton.1 hc
    have : ∀ j : Fin 6, st4 (dg j.1) = false := by decide
    exact this ⟨i, hi⟩
theorem say6 {y : Nd} (hf : fine y = true) (hn : y.n.toNat ≤ lim40) : Say (nmP num6) look6 y := by
  refine ⟨hn, fun hk => ?_⟩
  unfold fine at hf
  rw [if_pos hk] at hf
  simp only [Bool.and_eq_true, decide_eq_true_eq] at hf
  exact (nm6 hf.2.1 hf.2.2).2
theorem tabD_tx {x : Nd} {k : F} (hok : (F.cons x k .nil).ok) (hn : ∀ y ∈ x :: k.flat, y.n.toNat ≤ lim40) (hd : k.dep + 1 ≤ 16) (hz : k.sz + 1 ≤ 128) : tabD (nodeT x k) = some (x :: k.flat) := by
  have hfl : (F.cons x k .nil).flat = x :: k.flat := by simp [F.flat]
  have h := tableR_tx (nm := nmP num6) (look := look6) hok (fun y hy => say6 (fine_mem _ hok y hy) (hn y (by rw [hfl] at hy; exact hy))) (by simp only [F.dep]; omega) (by simp only [F.sz]; omega)
  rw [txX_one, hfl] at h
  have h2 := tableR_S (look_num look6 look6_ok) h
  unfold tabD nodeT
  rw [h2]
def putX (x y : Nd) (k l : F) (m : Nat) : F := .cons x k (.cons ⟨4, 0, 1 + (m : Int)⟩ (.cons y l .nil) .nil)
theorem put_text (x y : Nd) (k l : F) (m : Nat) : nodeT ⟨3, 0, 2⟩ (putX x y k l m) = [115, 40] ++ (nodeT x k ++ ([44, 114] ++ (numB (1 + m) ++ ([40] ++ (nodeT y l ++ [41, 41]))))) := by
  unfold nodeT putX
  have e : (1 + (m : Int)).toNat = 1 + m := by omega
  simp [txN, txX, e]
theorem put_tree {x y : Nd} {k l : F} {m : Nat} (hx : (F.cons x k .nil).ok) (hy : (F.cons y l .nil).ok) (nx : ∀ z ∈ x :: k.flat, z.n ≤ 4) (ny : ∀ z ∈ y :: l.flat, z.n ≤ 4) (dx : k.dep ≤ 2) (dy : l.dep ≤ 2) (hm : m ≤ 3) :
    tabD (nodeT ⟨3, 0, 2⟩ (putX x y k l m)) = some (⟨3, 0, 2⟩ :: ((x :: k.flat) ++ (⟨4, 0, 1 + (m : Int)⟩ :: (y :: l.flat)))) := by
  have r1 := few_right hx nx dx
  have r2 := few_right hy ny dy
  have hfl : (putX x y k l m).flat = (x :: k.flat) ++ (⟨4, 0, 1 + (m : Int)⟩ :: (y :: l.flat)) := by simp [putX, F.flat]
  have h := tabD_tx (x := ⟨3, 0, 2⟩) (k := putX x y k l m) ⟨by decide, by simp [putX, F.cnt, kn], ⟨hx.1, hx.2.1, hx.2.2.1, (fine_iff _ _ _).2 (by omega), by simp [F.cnt, kn], hy, trivial⟩, trivial⟩
    (by
      rw [hfl]
      intro z hz
      unfold lim40
      rcases List.mem_cons.1 hz with rfl | hz
      · show (2 : Int).toNat ≤ _; omega
      rcases List.mem_append.1 hz with hz | hz
      · have := nx z hz; omega
      rcases List.mem_cons.1 hz with rfl | hz
      · dsimp only; omega
      · have := ny z hz; omega)
    (by simp only [putX, F.dep]; omega) (by simp only [putX, F.sz]; omega)
  rw [h, hfl]
theorem nodeT_ne (x : Nd) (k : F) : nodeT x k ≠ [] := by
  unfold nodeT txN
  split
  · simp
  · split
    · simp
    · split <;> simp
theorem nodeT_len {x : Nd} {k : F} (hok : (F.cons x k .nil).ok) (hn : ∀ y ∈ x :: k.flat, y.n ≤ 4) (hd : k.dep ≤ 2) : (nodeT x k).length ≤ 2100 := by
  have r := few_right hok hn hd
  have h1 := fine_mem _ hok
  have hfl : (F.cons x k .nil).flat = x :: k.flat := by simp [F.flat]
  have h := tx_len (nm := nmP num6) (fun p => by
    unfold nmP
    split
    · rw [List.getD_eq_getElem?_getD]
      cases hg : num6[p.toNat]? with
      | none => exact Nat.zero_le _
      | some s => exact num6_len s (List.mem_of_getElem? hg)
    · exact Nat.zero_le _) (F.cons x k .nil) (fun y hy => by
      have h2 := fine_one (h1 y hy)
      have h3 := hn y (by rw [hfl] at hy; exact hy)
      exact ⟨by omega, by omega⟩) false
  rw [txX_one] at h
  simp only [F.sz] at h
  unfold nodeT
  omega
end Txt
end Go.Proofs.YtfmndmhjjbeokaaGreatDoor
namespace Go.Proofs.YtfmndmhjjbeokaaGreatDoor
set_option maxRecDepth 100000
open Go.RowKit Tab Txt
set_option linter.unusedSimpArgs false
set_option linter.unusedVariables false
set_option maxHeartbeats 1000000 in
theorem tline1_any {B g b2 b3 gc : Nat} {st : Option (List UInt8)} {w : World} (h : RdrS B g st w) (hl : (st.getD []).length ≤ 1048576) (A : Option Addr) (n c : Nat) (P : List Pq) (hP : ∀ W, w.grownBy W (some g) → RdB pcq W W.heap.size A n P) (hn : n ≤ 1048576)
    (c2 : w.cell? ⟨b2, 0, none⟩ = some (.pointer (some ⟨g, 0, none⟩))) (c3 : w.cell? ⟨b3, 0, none⟩ = some (.pointer (some ⟨gc, 0, none⟩))) (c4 : w.cell? ⟨gc, 0, none⟩ = some (.slice A n c)) :
    Calls Tryz.prog 76 #[.pointer (some ⟨b2, 0, none⟩), .pointer (some ⟨b3, 0, none⟩)] w (IntX B g (st.bind (knownS (namesP P) 58)) w) := by
  have hr : RdrS B g st w.drew := OwnV.below h rfl (Below.refl _ _).drew
  have HK := Lib.hid (tknown_any hr hl 58 58 rfl A n c P (fun W hW => hP W ⟨hW.os, hW.tape, hW.output, hW.size, hW.block⟩) hn)
  generalize st.bind (knownS (namesP P) 58) = R at HK ⊢
  clear h hr hl hP hn
  go_enter Tryz.func76, Tryz.ntmps76
  go_wp2_with fail
  go_region_with (go_at_call 77; refine HK.out.mono ?_; rintro e w1 ⟨v, s1, rfl, q1, hg, h1⟩)
  all_goals
    have HG := Lib.hid hg
    have HV := Lib.hid q1
    have H1 := Lib.hid h1
    clear hg q1 h1 HK
    go_wp2_with fail
    go_ret
    exact ⟨v, s1, rfl, HV.out, HG.out, ⟨H1.out.rd, H1.out.gb.os, H1.out.gb.tape, H1.out.gb.output, H1.out.gb.size, H1.out.gb.block⟩⟩
end Go.Proofs.YtfmndmhjjbeokaaGreatDoor
namespace Go.Proofs.YtfmndmhjjbeokaaGreatDoor
open Go.RowKit Tab
set_option linter.unusedSimpArgs false
set_option linter.unusedVariables false
theorem wordsL_push (out : List Rn) (x : Rn) : wordsL (tpush out x) = wordsL out ++ List.replicate x.n x.p := by
  rcases tpush_cases out x with ⟨h, e⟩ | ⟨h, rfl, e⟩ | ⟨o, y, h, rfl, hp, e⟩ | ⟨o, y, h, rfl, hp, e⟩
  · rw [e, h]; simp
  · rw [e]; simp [wordsL]
  · rw [e, wordsL_append, wordsL_append]
    simp only [wordsL, hp, List.append_nil, List.append_assoc]
    rw [List.replicate_append_replicate]
  · rw [e, wordsL_append]; simp [wordsL]
theorem wordsL_tidyOn (l : List Rn) : ∀ out, wordsL (tidyOn out l) = wordsL out ++ wordsL l := by
  induction l with
  | nil => intro out; simp [tidyOn, wordsL]
  | cons x l ih =>
    intro out
    have := ih (tpush out x)
    unfold tidyOn at this ⊢
    rw [List.foldl_cons, this, wordsL_push]
    simp only [wordsL, List.append_assoc]
theorem wordsL_tidy (l : List Rn) : wordsL (tidy l) = wordsL l := by
  unfold tidy
  rw [wordsL_tidyOn]
  rfl
def fi (q : Int) : List Int → Nat
  | [] => 0
  | x :: l => if x = q then 0 else fi q l + 1
theorem fi_get {q : Int} {Z : List Int} (h : hasL q Z = true) : Z[fi q Z]? = some q := by
  induction Z with
  | nil => cases h
  | cons x Z ih =>
    simp only [hasL, Bool.or_eq_true, decide_eq_true_eq] at h
    by_cases hx : x = q
    · simp [fi, hx]
    · simp only [fi, if_neg hx, List.getElem?_cons_succ]
      exact ih (h.resolve_left hx)
theorem fi_no {q : Int} {Z : List Int} : ∀ {i : Nat}, i < fi q Z → ¬ Z[i]? = some q := by
  induction Z with
  | nil => intro i h; simp [fi] at h
  | cons x Z ih =>
    intro i h
    by_cases hx : x = q
    · simp [fi, hx] at h
    · simp only [fi, if_neg hx] at h
      cases i with
      | zero => simpa using hx
      | succ i => simpa using ih (by omega)
theorem fi_lt {q : Int} {Z : List Int} (h : hasL q Z = true) : fi q Z < Z.length := (List.getElem?_eq_some_iff.1 (fi_get h)).1
theorem fi_rep_ne {x q : Int} (h : x ≠ q) (k : Nat) (Z : List Int) : fi q (List.replicate k x ++ Z) = k + fi q Z := by
  induction k with
  | zero => simp
  | succ k ih =>
    simp only [List.replicate_succ, List.cons_append, fi, if_neg h, ih]
    omega
theorem fi_rep_eq (q : Int) (k : Nat) (Z : List Int) (h : 1 ≤ k) : fi q (List.replicate k q ++ Z) = 0 := by
  obtain ⟨k, rfl⟩ : ∃ j, k = j + 1 := ⟨k - 1, by omega⟩
  simp [List.replicate_succ, fi]
def wc (q : Int) : List Rn → Nat → Nat
  | [], n => n
  | r :: s, n => if r.p = q then 0 else wc q s n + r.n
theorem wc_fi {q : Int} {S : List Rn} (h : ∀ r ∈ S, 1 ≤ r.n) (Y : List Int) : wc q S (fi q Y) = fi q (wordsL S ++ Y) := by
  induction S with
  | nil => rfl
  | cons r s ih =>
    have ih := ih fun x hx => h x (by simp [hx])
    have h1 := h r (by simp)
    simp only [wc, wordsL, List.append_assoc]
    by_cases hp : r.p = q
    · rw [if_pos hp, hp, fi_rep_eq q _ _ h1]
    · rw [if_neg hp, fi_rep_ne hp, ih]
      omega
theorem wc_le (q : Int) (S : List Rn) (n : Nat) : wc q S n ≤ ticks S + n := by
  induction S with
  | nil => simp [wc, ticks]
  | cons r s ih =>
    simp only [wc, ticks]
    split <;> omega
theorem wc_at {q : Int} {L : List Rn} {i : Nat} {r : Rn} (h : L[i]? = some r) (n : Nat) : wc q (L.drop i) n = if r.p = q then 0 else wc q (L.drop (i + 1)) n + r.n := by
  obtain ⟨hi, e⟩ := List.getElem?_eq_some_iff.1 h
  rw [List.drop_eq_getElem_cons hi, e]
  rfl
def wt (q : Int) (L : List Rn) (i : Nat) : Nat := wc q (L.drop (i + 1)) (wc q L 0)
theorem ticks_drop_le (L : List Rn) (i : Nat) : ticks (L.drop i) ≤ ticks L := by
  have h : ticks (L.take i ++ L.drop i) = ticks L := by rw [List.take_append_drop]
  rw [ticks_append] at h
  omega
theorem wc0_le (q : Int) (L : List Rn) : wc q L 0 ≤ ticks L := by
  have := wc_le q L 0
  omega
theorem wt_le (q : Int) (L : List Rn) (i : Nat) : wt q L i ≤ 2 * ticks L := by
  have h1 := wc_le q (L.drop (i + 1)) (wc q L 0)
  have h2 := wc0_le q L
  have h3 := ticks_drop_le L (i + 1)
  unfold wt
  omega
theorem wt_fi {q : Int} {L : List Rn} (h : ∀ r ∈ L, 1 ≤ r.n) (i : Nat) : wt q L i = fi q (wordsL (L.drop (i + 1)) ++ wordsL L) := by
  unfold wt
  have e : wc q L 0 = fi q (wordsL L) := by
    have := wc_fi (q := q) h []
    rw [List.append_nil] at this
    exact this
  rw [e, wc_fi fun r hr => h r (List.mem_of_mem_drop hr)]
theorem rnd_split {X Y W : List Int} {x : Int} (hW : W = X ++ x :: Y) {m : Nat} (hm : m < (Y ++ W).length) : rnd W (X.length + (1 + m)) = (Y ++ W)[m]? := by
  have hl : W.length = X.length + 1 + Y.length := by rw [hW, List.length_append, List.length_cons]; omega
  rw [List.length_append] at hm
  by_cases h : m < Y.length
  · rw [rnd_lt (by omega), List.getElem?_append_left h, hW, List.getElem?_append_right (by omega)]
    rw [show X.length + (1 + m) - X.length = m + 1 by omega, List.getElem?_cons_succ]
  · rw [List.getElem?_append_right (by omega)]
    have e : X.length + (1 + m) = (m - Y.length) + W.length * 1 := by omega
    rw [e, rnd_add, rnd_lt (by omega)]
theorem dist_split {X Y W : List Int} {x q : Int} (hW : W = X ++ x :: Y) (h : hasL q W = true) : dist W q X.length = 1 + fi q (Y ++ W) := by
  have hZ : hasL q (Y ++ W) = true := by rw [hasL_append, h, Bool.or_true]
  have hlt := fi_lt hZ
  refine (dist_dst h X.length).eq ⟨by omega, ?_, fun e h1 h2 => ?_⟩
  · rw [rnd_split hW hlt]
    exact fi_get hZ
  · obtain ⟨m, rfl⟩ : ∃ m, e = 1 + m := ⟨e - 1, by omega⟩
    rw [rnd_split hW (by omega)]
    exact fi_no (by omega)
theorem run_at {L : List Rn} {i : Nat} {r : Rn} (hr : L[i]? = some r) : wordsL L = wordsL (L.take i) ++ (List.replicate r.n r.p ++ wordsL (L.drop (i + 1))) := by
  have h := congrArg wordsL (List.take_append_drop (i + 1) L)
  rw [wordsL_append, wordsL_more hr, List.append_assoc] at h
  exact h.symm
theorem dist_run {L : List Rn} {i j : Nat} {r : Rn} {q : Int} (hr : L[i]? = some r) (h : hasL q (wordsL L) = true) (hj : j < r.n) :
    dist (wordsL L) q ((wordsL (L.take i)).length + j) = 1 + fi q (List.replicate (r.n - 1 - j) r.p ++ (wordsL (L.drop (i + 1)) ++ wordsL L)) := by
  have e : wordsL L = (wordsL (L.take i) ++ List.replicate j r.p) ++ r.p :: (List.replicate (r.n - 1 - j) r.p ++ wordsL (L.drop (i + 1))) := by
    refine (run_at hr).trans ?_
    have e2 : List.replicate r.n r.p = List.replicate j r.p ++ r.p :: List.replicate (r.n - 1 - j) r.p := by
      rw [← List.replicate_succ, List.replicate_append_replicate]
      congr 1
      omega
    rw [e2]
    simp only [List.append_assoc, List.cons_append]
  have k := dist_split e h
  rw [List.length_append, List.length_replicate, List.append_assoc] at k
  exact k
theorem get_run : ∀ (L : List Rn) (t : Nat), t < (wordsL L).length → ∃ i r j, L[i]? = some r ∧ j < r.n ∧ t = (wordsL (L.take i)).length + j ∧ (wordsL L)[t]? = some r.p := by
  intro L
  induction L with
  | nil => intro t h; simp [wordsL] at h
  | cons x L ih =>
    intro t h
    by_cases hx : t < x.n
    · refine ⟨0, x, t, rfl, hx, by simp [wordsL], ?_⟩
      simp only [wordsL]
      rw [List.getElem?_append_left (by simpa using hx), List.getElem?_replicate, if_pos hx]
    · simp only [wordsL, List.length_append, List.length_replicate] at h
      obtain ⟨i, r, j, h1, h2, h3, h4⟩ := ih (t - x.n) (by omega)
      refine ⟨i + 1, r, j, h1, h2, ?_, ?_⟩
      · simp only [List.take_succ_cons, wordsL, List.length_append, List.length_replicate]
        omega
      · simp only [wordsL]
        rw [List.getElem?_append_right (by simp; omega), List.length_replicate]
        exact h4
theorem run_get {L : List Rn} {i j : Nat} {r : Rn} (hr : L[i]? = some r) (hj : j < r.n) : (wordsL L)[(wordsL (L.take i)).length + j]? = some r.p ∧ (wordsL (L.take i)).length + j < (wordsL L).length := by
  have e := run_at hr
  have h1 : (wordsL L)[(wordsL (L.take i)).length + j]? = some r.p := by
    rw [e, List.getElem?_append_right (by omega), Nat.add_sub_cancel_left, List.getElem?_append_left (by simpa using hj), List.getElem?_replicate, if_pos hj]
  exact ⟨h1, (List.getElem?_eq_some_iff.1 h1).1⟩
def mo (p : Int) (g : Nat → Nat → Nat) (L : List Rn) : Nat → Nat
  | 0 => 0
  | k + 1 => match L[k]? with
    | some r => if r.p = p then max (mo p g L k) (g k r.n) else mo p g L k
    | none => mo p g L k
theorem mo_yes {p : Int} {g : Nat → Nat → Nat} {L : List Rn} {k : Nat} {r : Rn} (h : L[k]? = some r) (hp : r.p = p) : mo p g L (k + 1) = max (mo p g L k) (g k r.n) := by simp only [mo, h, if_pos hp]
theorem mo_no {p : Int} {g : Nat → Nat → Nat} {L : List Rn} {k : Nat} {r : Rn} (h : L[k]? = some r) (hp : r.p ≠ p) : mo p g L (k + 1) = mo p g L k := by simp only [mo, h, if_neg hp]
theorem mo_le {p : Int} {g : Nat → Nat → Nat} {L : List Rn} {M : Nat} : ∀ k, mo p g L k ≤ M ↔ ∀ i r, i < k → L[i]? = some r → r.p = p → g i r.n ≤ M := by
  intro k
  induction k with
  | zero => exact ⟨fun _ i r h => by omega, fun _ => Nat.zero_le _⟩
  | succ k ih =>
    have low : (∀ i r, i < k + 1 → L[i]? = some r → r.p = p → g i r.n ≤ M) ↔ mo p g L k ≤ M ∧ ∀ r, L[k]? = some r → r.p = p → g k r.n ≤ M := by
      constructor
      · exact fun h => ⟨ih.2 fun i r hi => h i r (by omega), fun r => h k r (by omega)⟩
      · rintro ⟨h1, h2⟩ i r hi hr hp
        by_cases e : i = k
        · subst e; exact h2 r hr hp
        · exact ih.1 h1 i r (by omega) hr hp
    rw [low]
    cases hk : L[k]? with
    | none => simp [mo, hk]
    | some x =>
      by_cases hp : x.p = p
      · rw [mo_yes hk hp]
        constructor
        · intro h
          exact ⟨by omega, fun r hr _ => by injection hr with hr; subst hr; omega⟩
        · rintro ⟨h1, h2⟩
          have := h2 x rfl hp
          omega
      · rw [mo_no hk hp]
        exact ⟨fun h => ⟨h, fun r hr hrp => by injection hr with hr; subst hr; exact absurd hrp hp⟩, fun h => h.1⟩
theorem lateW_run {L : List Rn} {p q : Int} {M : Nat} : lateW (wordsL L) p q (wordsL L).length ≤ M ↔ ∀ i r j, L[i]? = some r → r.p = p → j < r.n → dist (wordsL L) q ((wordsL (L.take i)).length + j) ≤ M := by
  rw [lateW_le]
  constructor
  · intro h i r j hr hp hj
    obtain ⟨h1, h2⟩ := run_get hr hj
    exact h _ h2 (by rw [h1, hp])
  · intro h t ht hp
    obtain ⟨i, r, j, hr, hj, rfl, e⟩ := get_run L t ht
    rw [e] at hp
    injection hp with hp
    exact h i r j hr hp hj
theorem late_mo {L : List Rn} {p q : Int} (h : ∀ r ∈ L, 1 ≤ r.n) (hq : hasL q (wordsL L) = true) (hne : p ≠ q) : lateW (wordsL L) p q (wordsL L).length = mo p (fun i n => wt q L i + n) L L.length := by
  refine nat_eq_of_le fun M => ?_
  rw [lateW_run, mo_le]
  constructor
  · intro H i r _ hr hp
    have h1 := h r (List.mem_of_getElem? hr)
    have k := H i r 0 hr hp (by omega)
    rw [dist_run hr hq (by omega), fi_rep_ne (by rw [hp]; exact hne), ← wt_fi h] at k
    omega
  · intro H i r j hr hp hj
    have k := H i r (List.getElem?_eq_some_iff.1 hr).1 hr hp
    rw [dist_run hr hq hj, fi_rep_ne (by rw [hp]; exact hne), ← wt_fi h]
    omega
theorem gap_mo {L : List Rn} {p : Int} (h : ∀ r ∈ L, 1 ≤ r.n) (hp : hasL p (wordsL L) = true) : lateW (wordsL L) p p (wordsL L).length = mo p (fun i _ => wt p L i) L L.length + 1 := by
  have h1 : 1 ≤ lateW (wordsL L) p p (wordsL L).length := by
    obtain ⟨t, ht, e⟩ := hasL_get hp
    have k := (lateW_le (W := wordsL L) (p := p) (q := p) (wordsL L).length).1 (Nat.le_refl _) t ht e
    have := (dist_dst hp t).1
    omega
  have key : lateW (wordsL L) p p (wordsL L).length - 1 = mo p (fun i _ => wt p L i) L L.length := by
    refine nat_eq_of_le fun M => ?_
    rw [show (lateW (wordsL L) p p (wordsL L).length - 1 ≤ M) ↔ lateW (wordsL L) p p (wordsL L).length ≤ M + 1 by omega, lateW_run, mo_le]
    constructor
    · intro H i r _ hr hrp
      have h1 := h r (List.mem_of_getElem? hr)
      have k := H i r (r.n - 1) hr hrp (by omega)
      rw [dist_run hr hp (by omega), show r.n - 1 - (r.n - 1) = 0 by omega, List.replicate_zero, List.nil_append, ← wt_fi h] at k
      omega
    · intro H i r j hr hrp hj
      have k := H i r (List.getElem?_eq_some_iff.1 hr).1 hr hrp
      rw [dist_run hr hp hj]
      by_cases hl : r.n - 1 - j = 0
      · rw [hl, List.replicate_zero, List.nil_append, ← wt_fi h]
        omega
      · rw [hrp, fi_rep_eq p _ _ (by omega)]
        omega
  omega
theorem has_tk {L : List Rn} {p : Int} : hasL p (wordsL L) = true ↔ 0 < tkOf p L := by rw [← cnt_has, cnt_words]
theorem has_tk0 {L : List Rn} {p : Int} : hasL p (wordsL L) = false ↔ tkOf p L = 0 := by
  have h := has_tk (L := L) (p := p)
  cases hh : hasL p (wordsL L) with
  | true =>
    rw [hh] at h
    have := h.1 rfl
    exact ⟨fun e => (by cases e), fun e => by omega⟩
  | false =>
    have h2 : ¬ 0 < tkOf p L := fun k => by
      have := h.2 k
      rw [hh] at this
      cases this
    exact ⟨fun _ => by omega, fun _ => rfl⟩
structure BstB where
  a : Nat
  l : Nat
  m : Nat
def stp (p : Int) (P : Nat) (s : BstB) (x : Int) : BstB := if s.l = 1 then ⟨min s.a (s.m + if x = p then 1 else 0), P, 0⟩ else ⟨s.a, s.l - 1, s.m + if x = p then 1 else 0⟩
theorem stp_one {p x : Int} {P a m : Nat} : stp p P ⟨a, 1, m⟩ x = ⟨min a (m + if x = p then 1 else 0), P, 0⟩ := rfl
theorem stp_many {p x : Int} {P a l m : Nat} (h : ¬ l = 1) : stp p P ⟨a, l, m⟩ x = ⟨a, l - 1, m + if x = p then 1 else 0⟩ := if_neg h
def stpL (p : Int) (P : Nat) (s : BstB) (X : List Int) : BstB := X.foldl (stp p P) s
theorem stpL_append (p : Int) (P : Nat) (s : BstB) (X Y : List Int) : stpL p P s (X ++ Y) = stpL p P (stpL p P s X) Y := List.foldl_append
theorem stpL_lt {p : Int} {P : Nat} : ∀ (X : List Int) (a l m : Nat), X.length < l → stpL p P ⟨a, l, m⟩ X = ⟨a, l - X.length, m + cntF p X⟩ := by
  intro X
  induction X with
  | nil => intro a l m _; rfl
  | cons x X ih =>
    intro a l m h
    rw [List.length_cons] at h
    have e : stpL p P ⟨a, l, m⟩ (x :: X) = stpL p P (stp p P ⟨a, l, m⟩ x) X := rfl
    rw [e, stp_many (by omega), ih _ _ _ (by omega)]
    simp only [List.length_cons, cntF]
    congr 1 <;> omega
theorem stpL_eq {p : Int} {P : Nat} : ∀ (X : List Int) (a l m : Nat), X.length = l → 1 ≤ l → stpL p P ⟨a, l, m⟩ X = ⟨min a (m + cntF p X), P, 0⟩ := by
  intro X
  induction X with
  | nil => intro a l m h h1; simp at h; omega
  | cons x X ih =>
    intro a l m h h1
    rw [List.length_cons] at h
    have e : stpL p P ⟨a, l, m⟩ (x :: X) = stpL p P (stp p P ⟨a, l, m⟩ x) X := rfl
    rw [e]
    by_cases hl : l = 1
    · have hX : X = [] := List.length_eq_zero_iff.1 (by omega)
      subst hX
      subst hl
      rw [stp_one]
      rfl
    · rw [stp_many hl, ih _ _ _ (by omega) (by omega)]
      simp only [cntF]
      congr 2
      omega
theorem stp_part {p x : Int} {P a l m n : Nat} (h : n < l) : stpL p P ⟨a, l, m⟩ (List.replicate n x) = ⟨a, l - n, m + if x = p then n else 0⟩ := by
  rw [stpL_lt _ _ _ _ (by simpa using h), List.length_replicate, cnt_rep]
theorem stp_full {p x : Int} {P a l m n : Nat} (h : l ≤ n) (h1 : 1 ≤ l) : stpL p P ⟨a, l, m⟩ (List.replicate n x) = stpL p P ⟨min a (m + if x = p then l else 0), P, 0⟩ (List.replicate (n - l) x) := by
  obtain ⟨k, rfl⟩ : ∃ k, n = l + k := ⟨n - l, by omega⟩
  rw [← List.replicate_append_replicate, stpL_append, stpL_eq _ _ _ _ (by simp) h1, cnt_rep, Nat.add_sub_cancel_left]
theorem stp_jump {p x : Int} {P : Nat} (hP : 1 ≤ P) (r : Nat) : ∀ (k a : Nat), stpL p P ⟨a, P, 0⟩ (List.replicate (P * (k + 1) + r) x) = stpL p P ⟨a, P, 0⟩ (List.replicate (P + r) x) := by
  intro k
  induction k with
  | zero => intro a; rw [Nat.zero_add, Nat.mul_one]
  | succ k ih =>
    intro a
    rw [stp_full (by rw [Nat.mul_add]; omega) hP, show P * (k + 1 + 1) + r - P = P * (k + 1) + r by rw [Nat.mul_add P (k + 1) 1]; omega, ih,
      stp_full (n := P + r) (a := a) (by omega) hP, stp_full (n := P + r) (by omega) hP]
    congr 2
    simp only [Nat.zero_add]
    omega
theorem stp_mod {p x : Int} {P a n : Nat} (hP : 1 ≤ P) (h : 1 < n / P) : stpL p P ⟨a, P, 0⟩ (List.replicate n x) = stpL p P ⟨a, P, 0⟩ (List.replicate (P + n % P) x) := by
  obtain ⟨k, hk⟩ : ∃ k, n / P = k + 1 := ⟨n / P - 1, by omega⟩
  have e := Nat.div_add_mod n P
  rw [hk] at e
  rw [← stp_jump hP (n % P) k a, e]
theorem stp_bud {p : Int} {P : Nat} {W : List Int} (hP : 1 ≤ P) : ∀ k, P * k ≤ W.length → stpL p P ⟨P, P, 0⟩ (W.take (P * k)) = ⟨min P (budW W p P k), P, 0⟩ := by
  intro k
  induction k with
  | zero =>
    intro _
    rw [Nat.mul_zero, List.take_zero]
    show (⟨P, P, 0⟩ : BstB) = _
    congr 1
    simp only [budW]
    omega
  | succ k ih =>
    intro h
    rw [Nat.mul_add, Nat.mul_one] at h ⊢
    rw [List.take_add, stpL_append, ih (by omega), stpL_eq _ _ _ _ (by rw [List.length_take, List.length_drop]; omega) hP]
    simp only [budW, Nat.zero_add, Nat.mul_comm k P]
    congr 1
    omega
theorem stp_all {p : Int} {P : Nat} {W : List Int} (hP : 1 ≤ P) (hW : 1 ≤ W.length) (hm : W.length % P = 0) : (stpL p P ⟨P, P, 0⟩ W).a = budW W p P (W.length / P) := by
  have e := Nat.div_add_mod W.length P
  rw [hm, Nat.add_zero] at e
  have h := stp_bud (p := p) (W := W) hP (W.length / P) (by omega)
  rw [e, List.take_length] at h
  rw [h]
  show min P (budW W p P (W.length / P)) = _
  have hd : W.length / P ≠ 0 := fun h0 => by
    rw [h0, Nat.mul_zero] at e
    omega
  obtain ⟨k, hk⟩ : ∃ k, W.length / P = k + 1 := Nat.exists_eq_succ_of_ne_zero hd
  rw [hk]
  simp only [budW]
  have h1 := cntF_le p ((W.drop (k * P)).take P)
  have h2 : ((W.drop (k * P)).take P).length ≤ P := by rw [List.length_take]; omega
  omega
def BOk (P : Nat) (s : BstB) : Prop := s.a ≤ P ∧ 1 ≤ s.l ∧ s.l ≤ P ∧ s.m + s.l ≤ P
theorem bok_step {p : Int} {P : Nat} {s : BstB} (hP : 1 ≤ P) (h : BOk P s) (x : Int) : BOk P (stp p P s x) := by
  obtain ⟨h1, h2, h3, h4⟩ := h
  unfold stp
  by_cases hl : s.l = 1
  · rw [if_pos hl]
    exact ⟨by show min _ _ ≤ P; omega, hP, Nat.le_refl _, by show 0 + P ≤ P; omega⟩
  · rw [if_neg hl]
    refine ⟨h1, by show 1 ≤ s.l - 1; omega, by show s.l - 1 ≤ P; omega, ?_⟩
    show s.m + _ + (s.l - 1) ≤ P
    split <;> omega
theorem bok_all {p : Int} {P : Nat} (hP : 1 ≤ P) : ∀ (X : List Int) (s : BstB), BOk P s → BOk P (stpL p P s X) := by
  intro X
  induction X with
  | nil => intro s h; exact h
  | cons x X ih => intro s h; exact ih _ (bok_step hP h x)
theorem bok_start {P : Nat} (hP : 1 ≤ P) : BOk P ⟨P, P, 0⟩ := ⟨Nat.le_refl _, hP, Nat.le_refl _, by show 0 + P ≤ P; omega⟩
end Go.Proofs.YtfmndmhjjbeokaaGreatDoor
